import PyProof.Rows.All
import Wide.All
import OpenK.AllK
import Wide.FinOn
import Lean
import PyProof.EqAt
import PyProof.EqKinds
import PyProof.TupleCall
import PySem.Challenge.RW_wantprices_k06_what_towns_are
section
set_option Elab.async false
set_option linter.all false
set_option maxRecDepth 100000
namespace L2
open PySem PySem.Spec PyProof.Rows
abbrev Key := Sum Int Str
def keyIs : Key → Value → Bool
  | .inl k, v => Value.isInt k v
  | .inr x, v => Value.isStrOf x v
def keyH (w : World) : Key → Int
  | .inl k => hashInt k
  | .inr x => hashStr w x
theorem keyIs_shape : ∀ {k : Key} {v : Value}, keyIs k v = true → (∃ i t, k = Sum.inl i ∧ v = Value.int i t) ∨ (∃ x t, k = Sum.inr x ∧ v = Value.str x t)
  | .inl i, v, h => by
    obtain ⟨t, e⟩ := Value.isInt_shape (k := i) (v := v) h
    exact .inl ⟨i, t, rfl, e⟩
  | .inr x, v, h => by
    obtain ⟨t, e⟩ := Value.isStrOf_shape (x := x) (v := v) h
    exact .inr ⟨x, t, rfl, e⟩
theorem key_ll (a b : Int) : decide ((Sum.inl a : Key) = Sum.inl b) = (a == b) := by
  by_cases e : a = b
  · subst e; simp
  · have h : ¬ (Sum.inl a : Key) = Sum.inl b := fun q => e (Sum.inl.inj q)
    rw [decide_eq_false h]
    exact (beq_eq_false_iff_ne.mpr e).symm
theorem key_rr (a b : Str) : decide ((Sum.inr a : Key) = Sum.inr b) = decide (a = b) := by
  by_cases e : a = b
  · subst e; simp
  · have h : ¬ (Sum.inr a : Key) = Sum.inr b := fun q => e (Sum.inr.inj q)
    rw [decide_eq_false h, decide_eq_false e]
theorem key_lr (a : Int) (b : Str) : decide ((Sum.inl a : Key) = Sum.inr b) = false := decide_eq_false (fun q => nomatch q)
theorem key_rl (a : Str) (b : Int) : decide ((Sum.inr a : Key) = Sum.inl b) = false := decide_eq_false (fun q => nomatch q)
def mixKind (prog : Program) (w : World) : PySem.KeyKind prog w Key where
  is := keyIs
  hash := keyH w
  inj := fun v a b ha hb => by
    rcases keyIs_shape ha with ⟨i, t, rfl, rfl⟩ | ⟨x, t, rfl, rfl⟩
    · rcases keyIs_shape hb with ⟨j, u, rfl, e⟩ | ⟨y, u, rfl, e⟩
      · injection e with e1 _; rw [e1]
      · exact nomatch e
    · rcases keyIs_shape hb with ⟨j, u, rfl, e⟩ | ⟨y, u, rfl, e⟩
      · exact nomatch e
      · injection e with e1 _; rw [e1]
  byValue := fun k v h => by
    rcases keyIs_shape h with ⟨i, t, rfl, rfl⟩ | ⟨x, t, rfl, rfl⟩ <;> rfl
  pyHash := fun hv h => by
    rcases keyIs_shape hv with ⟨i, t, rfl, rfl⟩ | ⟨x, t, rfl, rfl⟩
    · exact wpAny_pyHash_int h
    · exact wpAny_pyHash_str h
  eqBool := fun hu hv h => by
    rcases keyIs_shape hu with ⟨i, t, rfl, rfl⟩ | ⟨x, t, rfl, rfl⟩
    · rcases keyIs_shape hv with ⟨j, u, rfl, rfl⟩ | ⟨y, u, rfl, rfl⟩
      · rw [key_ll] at h; exact wpAny_eqBool_int h
      · rw [key_lr] at h; exact SeqAt.EqAt.int_str i t y u _ _ _ _ h
    · rcases keyIs_shape hv with ⟨j, u, rfl, rfl⟩ | ⟨y, u, rfl, rfl⟩
      · rw [key_rl] at h; exact SeqAt.EqAt.str_int x t j u _ _ _ _ h
      · rw [key_rr] at h; exact wpAny_eqBool_str h
  «strs» := fun k x t v h => by
    rcases keyIs_shape h with ⟨i, u, rfl, e⟩ | ⟨y, u, rfl, e⟩
    · exact nomatch e
    · injection e with e1 _
      subst e1
      cases v <;> rfl
end L2
namespace L2
open PySem PySem.Spec PyProof.Rows
inductive V where
  | non | bl (b : Bool) | int (i : Int) | str (x : Str) | byt (b : Array UInt8) | flt (b : UInt64) | ref (a : Addr) | ty (n : String)
  deriving DecidableEq
def RelV : V → Value → Prop
  | .non, u => u = Value.none
  | .bl b, u => u = Value.bool b
  | .int i, u => ∃ t, u = Value.int i t
  | .str x, u => ∃ t, u = Value.str x t
  | .byt b, u => ∃ t, u = Value.bytes b t
  | .flt b, u => ∃ t, u = Value.float b t
  | .ref a, u => u = Value.ref a
  | .ty n, u => u = Value.type n
abbrev Vals : List V → List Value → Prop := Paired RelV
theorem Vals.length {xs : List V} {us : List Value} (r : Vals xs us) : xs.length = us.length := Paired.length r
theorem Vals.get : ∀ {xs : List V} {us : List Value} {i : Nat} {x : V}, Vals xs us → xs[i]? = some x → ∃ u, us[i]? = some u ∧ RelV x u
  | _, _, _, _, .nil, e => by simp at e
  | _, _, 0, _, .cons r _, e => by simp at e; subst e; exact ⟨_, rfl, r⟩
  | _, _, i + 1, x, .cons _ t, e => by
    obtain ⟨u, h1, h2⟩ := Vals.get (i := i) (x := x) t (by simpa using e)
    exact ⟨u, by simpa using h1, h2⟩
theorem Vals.set {x : V} {u : Value} (r : RelV x u) : ∀ {xs : List V} {us : List Value} (i : Nat), Vals xs us → Vals (xs.set i x) (us.set i u)
  | _, _, _, .nil => .nil
  | _, _, 0, .cons _ t => .cons r t
  | _, _, i + 1, .cons q t => .cons q (Vals.set r i t)
theorem Vals.append : ∀ {xs ys : List V} {us ws : List Value}, Vals xs us → Vals ys ws → Vals (xs ++ ys) (us ++ ws)
  | _, _, _, _, .nil, s => s
  | _, _, _, _, .cons r t, s => .cons r (Vals.append t s)
theorem Vals.take : ∀ {xs : List V} {us : List Value} (n : Nat), Vals xs us → Vals (xs.take n) (us.take n)
  | _, _, 0, _ => .nil
  | _, _, _ + 1, .nil => .nil
  | _, _, n + 1, .cons r t => .cons r (Vals.take n t)
theorem Vals.drop : ∀ {xs : List V} {us : List Value} (n : Nat), Vals xs us → Vals (xs.drop n) (us.drop n)
  | _, _, 0, r => r
  | _, _, _ + 1, .nil => .nil
  | _, _, n + 1, .cons _ t => Vals.drop n t
def RelO : Option V → Option Value → Prop
  | some v, some u => RelV v u
  | none, none => True
  | _, _ => False
def KV {κ : Type} : List (κ × V) → List (κ × Value) → Prop := Paired fun (p : κ × V) (q : κ × Value) => p.1 = q.1 ∧ RelV p.2 q.2
def kV : Key → V
  | .inl i => .int i
  | .inr x => .str x
inductive HO where
  | lst (xs : List V)
  | tup (xs : List V)
  | dK (kvs : List (Key × V)) | dT (kvs : List (List Key × V))
  | set (S : Int → Bool) (n : Nat)
  | ins (C dx : Addr) (fs : List (Str × V))
  | own (x : Addr)
  | xd (fs : List (Str × V))
  | met (f x : Addr)
  | rng (lo hi : Int)
  | frz (o : Obj) (u : HO)
  | tbl (ps : Array Value)
  | ext (φ : Heap → Prop)
abbrev Hp := Addr → Option HO
def upd (H : Hp) (a : Addr) (o : HO) : Hp := fun b => if b = a then some o else H b
theorem upd_same {H : Hp} {a : Addr} {o : HO} : upd H a o a = some o := by unfold upd; rw [if_pos rfl]
theorem upd_ne {H : Hp} {a b : Addr} {o : HO} (h : b ≠ a) : upd H a o b = H b := by unfold upd; rw [if_neg h]
theorem upd_upd {H : Hp} {a : Addr} {o u : HO} : upd (upd H a o) a u = upd H a u := by
  funext b; unfold upd; split <;> rfl
theorem ne_of_none {H : Hp} {a b : Addr} {o : HO} (h : H a = some o) (h' : H b = none) : a ≠ b := by
  intro e; subst e; rw [h] at h'; cases h'
section
variable (P : Program) (w : World)
def ObjOk (H : Hp) (h : Heap) (a : Addr) : HO → Prop
  | .lst xs => xs.length ≤ sizeLine ∧ ∃ (its : List Value) (n : Nat), Vals xs its ∧ h.get? a = some { cls := .type "list", data := .seq its.toArray n }
  | .tup xs => xs.length ≤ sizeLine ∧ ∃ its : List Value, Vals xs its ∧ IsTup h a its.toArray
  | .dK kvs => kvs.length ≤ sizeLine ∧ (a == sysModules) = false ∧ ∃ vs, KV kvs vs ∧ h.DictOf (mixKind P w) a vs
  | .dT kvs => kvs.length ≤ sizeLine ∧ (a == sysModules) = false ∧ ∃ xs : List (List Key × Addr × Value),
      Paired (fun (p : List Key × V) (q : List Key × Addr × Value) => p.1 = q.1 ∧ H q.2.1 = some (.tup (p.1.map kV)) ∧ RelV p.2 q.2.2) kvs xs ∧
      ∃ o es ep, h.get? a = some o ∧ o.ExactDict ∧ o.data = .dict es ep ∧ es.toList = xs.map (entryOfKey (tupleKind (mixKind P w))) ∧ (xs.map (·.1)).Nodup
  | .set S n => h.SetOf (intKind P w) a S n
  | .ins C dx fs => H dx = some (.own a) ∧ fs.length ≤ 1000 ∧ dx ≠ a ∧ h.get? a = some (PySem.W.instObj C dx) ∧
      ∃ mA, h.Ns1 dx mA ∧ (∀ f, RelO (fs.lookup f) (mA f)) ∧ PySem.Within mA (fs.map (·.1))
  | .own _ => ∃ o, h.get? a = some o
  | .xd fs => ∃ mA, h.Ns1 a mA ∧ ∀ f, RelO (fs.lookup f) (mA f)
  | .rng lo hi => ∃ t u v, h.get? a = some { cls := .type "range", data := .fields #[.int lo t, .int hi u, .int 1 v] }
  | .frz o u => h.get? a = some o ∧ ObjOk H h a u
  | .tbl ps => h.get? a = some { cls := .none, data := .fields ps }
  | .met f x => h.get? a = some (PySem.W.methodObj (.ref f) (.ref x))
  | .ext φ => φ h ∧ (∃ o, h.get? a = some o) ∧ ∀ h1 h2 : Heap, φ h1 → (∀ o, h1.get? a = some o → h2.get? a = some o) → φ h2
def HOk (H : Hp) (h : Heap) : Prop := ∀ a o, H a = some o → ObjOk P w H h a o
end
section
variable {P : Program} {w : World} {H H' : Hp} {h h' : Heap} {a : Addr} {o : HO}
theorem ObjOk.lt (x : ObjOk P w H h a o) : a < h.objs.size := by
  cases o with
  | lst xs => obtain ⟨_, _, _, _, e⟩ := x; exact Heap.lt_size e
  | tup xs => obtain ⟨_, _, _, p⟩ := x; exact p.lt
  | dK kvs => obtain ⟨_, _, _, _, o, _, _, e, _⟩ := x; exact Heap.lt_size e
  | dT kvs => obtain ⟨_, _, _, _, o, _, _, e, _⟩ := x; exact Heap.lt_size e
  | set S n => obtain ⟨o, _, _, _, e, _⟩ := x; exact Heap.lt_size e
  | ins C dx fs => obtain ⟨_, _, _, e, _⟩ := x; exact Heap.lt_size e
  | own y => obtain ⟨_, e⟩ := x; exact Heap.lt_size e
  | xd fs => obtain ⟨_, ⟨_, _, _, e, _⟩, _⟩ := x; exact Heap.lt_size e
  | rng lo hi => obtain ⟨_, _, _, e⟩ := x; exact Heap.lt_size e
  | frz ob u => obtain ⟨e, _⟩ := x; exact Heap.lt_size e
  | tbl ps => exact Heap.lt_size (show h.get? a = some _ from x)
  | met f y => exact Heap.lt_size (show h.get? a = some _ from x)
  | ext φ => obtain ⟨_, ⟨_, e⟩, _⟩ := x; exact Heap.lt_size e
theorem Paired.mapP {α β : Type} {F G : α → β → Prop} : ∀ {l₁ : List α} {l₂ : List β}, Paired F l₁ l₂ → (∀ a b, F a b → G a b) → Paired G l₁ l₂
  | _, _, .nil, _ => .nil
  | _, _, .cons r t, f => .cons (f _ _ r) (Paired.mapP t f)
theorem ObjOk.stay (x : ObjOk P w H h a o) (k : ∀ b u, (b = a ∨ H b = some (.own a)) → h.get? b = some u → h'.get? b = some u)
    (ho : ∀ b, H b = some (.own a) → H' b = some (.own a)) (ht : ∀ b xs, H b = some (.tup xs) → H' b = some (.tup xs)) : ObjOk P w H' h' a o := by
  induction o with
  | lst xs => obtain ⟨z, its, n, r, e⟩ := x; exact ⟨z, its, n, r, k _ _ (.inl rfl) e⟩
  | tup xs => obtain ⟨z, its, r, ob, e, c⟩ := x; exact ⟨z, its, r, ob, k _ _ (.inl rfl) e, c⟩
  | dK kvs => obtain ⟨z, y, vs, r, ob, es, ep, e, c⟩ := x; exact ⟨z, y, vs, r, ob, es, ep, k _ _ (.inl rfl) e, c⟩
  | dT kvs =>
    obtain ⟨z, y, xs, r, ob, es, ep, e, c⟩ := x
    exact ⟨z, y, xs, Paired.mapP r fun p q z => ⟨z.1, ht _ _ z.2.1, z.2.2⟩, ob, es, ep, k _ _ (.inl rfl) e, c⟩
  | set S n => obtain ⟨ob, es, ep, t, e, c⟩ := x; exact ⟨ob, es, ep, t, k _ _ (.inl rfl) e, c⟩
  | ins C dx fs =>
    obtain ⟨d, z, ne, e, mA, ⟨od, es, ep, e2, c⟩, r⟩ := x
    exact ⟨ho _ d, z, ne, k _ _ (.inl rfl) e, mA, ⟨od, es, ep, k _ _ (.inr d) e2, c⟩, r⟩
  | own y => obtain ⟨ob, e⟩ := x; exact ⟨ob, k _ _ (.inl rfl) e⟩
  | xd fs => obtain ⟨mA, ⟨od, es, ep, e, c⟩, r⟩ := x; exact ⟨mA, ⟨od, es, ep, k _ _ (.inl rfl) e, c⟩, r⟩
  | rng lo hi => obtain ⟨t, u, v, e⟩ := x; exact ⟨t, u, v, k _ _ (.inl rfl) e⟩
  | frz ob u ih => obtain ⟨e, q⟩ := x; exact ⟨k _ _ (.inl rfl) e, ih q⟩
  | tbl ps =>
    have e : h.get? a = some { cls := .none, data := .fields ps } := x
    show h'.get? a = some { cls := .none, data := .fields ps }
    exact k a _ (.inl rfl) e
  | met f y =>
    have e : h.get? a = some (PySem.W.methodObj (.ref f) (.ref y)) := x
    show h'.get? a = some (PySem.W.methodObj (.ref f) (.ref y))
    exact k a _ (.inl rfl) e
  | ext φ => obtain ⟨p, ⟨o, e⟩, st⟩ := x; exact ⟨st _ _ p fun o q => k _ _ (.inl rfl) q, ⟨o, k _ _ (.inl rfl) e⟩, st⟩
theorem HOk.lt (x : HOk P w H h) (e : H a = some o) : a < h.objs.size := (x a o e).lt
theorem HOk.fresh (x : HOk P w H h) (e : h.objs.size ≤ a) : H a = none := by
  cases q : H a with
  | none => rfl
  | some u => exact absurd (Nat.lt_of_lt_of_le (x.lt q) e) (Nat.lt_irrefl _)
theorem HOk.kept (x : HOk P w H h) (k : ∀ b u, h.get? b = some u → h'.get? b = some u) : HOk P w H h' := fun a o e =>
  (x a o e).stay (fun b u _ q => k b u q) (fun _ q => q) fun _ _ q => q
theorem HOk.laid (x : HOk P w H h) (k : ∀ b u, h.get? b = some u → h'.get? b = some u) (hp : h.objs.size ≤ a) (new : ObjOk P w (upd H a o) h' a o) : HOk P w (upd H a o) h' := fun b u e => by
  have hn := x.fresh hp
  by_cases hb : b = a
  · subst hb; rw [upd_same] at e; cases e; exact new
  · rw [upd_ne hb] at e
    exact (x b u e).stay (fun c v _ q => k c v q) (fun c q => by rw [upd_ne (ne_of_none q hn)]; exact q) fun c xs q => by rw [upd_ne (ne_of_none q hn)]; exact q
end
def Rd (H : Hp) (a : Addr) (u : HO) : Prop := H a = some u ∨ ∃ o, H a = some (.frz o u)
theorem Rd.of {H : Hp} {a : Addr} {u : HO} (h : H a = some u) : Rd H a u := .inl h
theorem Rd.ok {P : Program} {w : World} {H : Hp} {h : Heap} {a : Addr} {u : HO} (r : Rd H a u) (x : HOk P w H h) : ObjOk P w H h a u := by
  rcases r with r | ⟨o, r⟩
  · exact x a u r
  · obtain ⟨_, q⟩ := x a _ r
    exact q
def Mut : Option HO → Prop
  | some (.lst _) => True
  | some (.dK _) => True
  | some (.dT _) => True
  | some (.set _ _) => True
  | some (.ins _ _ _) => True
  | some (.ext _) => True
  | _ => False
section
variable {P : Program} {w : World} {H : Hp} {h h' : Heap} {x e : Addr} {o' : HO}
theorem HOk.write (ok : HOk P w H h) (mu : Mut (H x)) (he : e = x ∨ H e = some (.own x)) (k : ∀ b u, b ≠ e → h.get? b = some u → h'.get? b = some u) (heo : ∃ u, h'.get? e = some u)
    (new : ObjOk P w (upd H x o') h' x o') : HOk P w (upd H x o') h' := fun b u q => by
  have nown : ∀ c y, H c = some (.own y) → c ≠ x := fun c y r z => by subst z; rw [r] at mu; exact mu
  have ntup : ∀ c xs, H c = some (.tup xs) → c ≠ x := fun c xs r z => by subst z; rw [r] at mu; exact mu
  by_cases hb : b = x
  · subst hb; rw [upd_same] at q; cases q; exact new
  · rw [upd_ne hb] at q
    by_cases hbe : b = e
    · have q' : H b = some (.own x) := by
        rcases he with z | z
        · exact absurd (hbe.trans z) hb
        · rw [hbe]; exact z
      rw [q] at q'; cases q'
      obtain ⟨v, hv⟩ := heo
      exact ⟨v, by rw [hbe]; exact hv⟩
    · refine (ok b u q).stay (fun c v hc r => k c v ?_ r) (fun c r => by rw [upd_ne (nown c b r)]; exact r) fun c xs r => by rw [upd_ne (ntup c xs r)]; exact r
      rcases hc with rfl | hc
      · exact hbe
      · rintro rfl
        rcases he with z | z
        · exact nown c b hc z
        · rw [hc] at z; cases z; exact hb rfl
end
structure Un (fs ex : List Addr) (H H' : Hp) (h h' : Heap) : Prop where
  keep : ∀ b o, h.get? b = some o → H b = none → b ∉ fs → b ∉ ex → h'.get? b = some o
  slot : ∀ b o, h.get? b = some o → H b = none → b ∈ fs → b ∉ ex → ∃ sl, h'.get? b = some { o with slots := sl }
  free : ∀ b o, h.get? b = some o → H b = none → b ∉ ex → H' b = none
  there : ∀ b o, h.get? b = some o → b ∉ ex → ∃ o', h'.get? b = some o'
  tups : ∀ b xs, H b = some (.tup xs) → H' b = some (.tup xs)
  frzs : ∀ b o u, H b = some (.frz o u) → H' b = some (.frz o u)
  tbls : ∀ b ps, H b = some (.tbl ps) → ∃ more, H' b = some (.tbl (ps ++ more))
section
variable {fs fs' ex ex' : List Addr} {H H1 H2 : Hp} {h h1 h2 h' : Heap} {a x e : Addr} {o : HO}
theorem Un.any (u : Un fs ex H H1 h h1) {b : Addr} {ob : Obj} (q : h.get? b = some ob) (n : H b = none) (hx : b ∉ ex) : ∃ sl, h1.get? b = some { ob with slots := sl } := by
  by_cases hb : b ∈ fs
  · exact u.slot b ob q n hb hx
  · exact ⟨ob.slots, u.keep b ob q n hb hx⟩
theorem Un.trans (a : Un fs ex H H1 h h1) (b : Un fs ex H1 H2 h1 h2) : Un fs ex H H2 h h2 where
  keep := fun c ob q n hc hx => b.keep c ob (a.keep c ob q n hc hx) (a.free c ob q n hx) hc hx
  slot := fun c ob q n hc hx => by
    obtain ⟨sl, e1⟩ := a.slot c ob q n hc hx
    obtain ⟨sl', e2⟩ := b.slot c _ e1 (a.free c ob q n hx) hc hx
    exact ⟨sl', e2⟩
  free := fun c ob q n hx => by
    obtain ⟨o', e1⟩ := a.there c ob q hx
    exact b.free c o' e1 (a.free c ob q n hx) hx
  there := fun c ob q hx => by
    obtain ⟨o', e1⟩ := a.there c ob q hx
    exact b.there c o' e1 hx
  tups := fun c xs q => b.tups c xs (a.tups c xs q)
  frzs := fun c ob xs q => b.frzs c ob xs (a.frzs c ob xs q)
  tbls := fun c ps q => by
    obtain ⟨m1, e1⟩ := a.tbls c ps q
    obtain ⟨m2, e2⟩ := b.tbls c _ e1
    exact ⟨m1 ++ m2, by rw [e2, Array.append_assoc]⟩
theorem Un.kept (k : ∀ b u, h.get? b = some u → h'.get? b = some u) : Un fs ex H H h h' :=
  ⟨fun b ob q _ _ _ => k b ob q, fun b ob q _ _ _ => ⟨ob.slots, k b ob q⟩, fun _ _ _ n _ => n, fun b ob q _ => ⟨ob, k b ob q⟩, fun _ _ q => q, fun _ _ _ q => q, fun _ ps q => ⟨#[], by rw [q]; simp⟩⟩
theorem Un.refl : Un fs ex H H h h := Un.kept fun _ _ q => q
theorem Un.laid (k : ∀ b u, h.get? b = some u → h'.get? b = some u) (hp : h.objs.size ≤ a) (hn : H a = none) : Un fs ex H (upd H a o) h h' where
  keep := fun b u q _ _ _ => k b u q
  slot := fun b u q _ _ _ => ⟨u.slots, k b u q⟩
  free := fun b u q n _ => by rw [upd_ne (Nat.ne_of_lt (Nat.lt_of_lt_of_le (Heap.lt_size q) hp))]; exact n
  there := fun b u q _ => ⟨u, k b u q⟩
  tups := fun b xs q => by rw [upd_ne (ne_of_none q hn)]; exact q
  frzs := fun b u xs q => by rw [upd_ne (ne_of_none q hn)]; exact q
  tbls := fun b ps q => ⟨#[], by rw [upd_ne (ne_of_none q hn), q]; simp⟩
theorem Un.write (mu : Mut (H x)) (he : e = x ∨ H e = some (.own x)) (k : ∀ b u, b ≠ e → h.get? b = some u → h'.get? b = some u) (heo : ∃ u, h'.get? e = some u) : Un fs ex H (upd H x o) h h' := by
  have hx : ∀ b, H b = none → b ≠ x := fun b n z => by subst z; rw [n] at mu; exact mu
  have hb : ∀ b, H b = none → b ≠ e := fun b n z => by
    subst z
    rcases he with r | r
    · exact hx b n r
    · rw [n] at r; cases r
  have hm : ∀ b u, H b = some u → ¬ Mut (some u) → b ≠ x := fun b u q nm z => by subst z; rw [q] at mu; exact nm mu
  refine ⟨fun b u q n _ _ => k b u (hb b n) q, fun b u q n _ _ => ⟨u.slots, k b u (hb b n) q⟩, fun b u q n _ => by rw [upd_ne (hx b n)]; exact n, fun b u q _ => ?_,
    fun b xs q => by rw [upd_ne (hm b _ q fun z => z)]; exact q, fun b u xs q => by rw [upd_ne (hm b _ q fun z => z)]; exact q, fun b ps q => ⟨#[], by rw [upd_ne (hm b _ q fun z => z), q]; simp⟩⟩
  by_cases hbe : b = e
  · subst hbe; exact heo
  · exact ⟨u, k b u hbe q⟩
theorem Un.mono (u : Un fs ex H H1 h h1) (hs : ∀ b ∈ fs, b ∈ fs') (hx : ∀ b ∈ ex, b ∈ ex') : Un fs' ex' H H1 h h1 :=
  ⟨fun b ob q n hb he => u.keep b ob q n (fun z => hb (hs b z)) fun z => he (hx b z), fun _ _ q n _ he => u.any q n fun z => he (hx _ z), fun b ob q n he => u.free b ob q n fun z => he (hx b z), fun b ob q he => u.there b ob q fun z => he (hx b z), u.tups, u.frzs, u.tbls⟩
end
def trk (h : Heap) (H : Hp) : List Addr := (List.range h.objs.size).filter fun a => (H a).isSome
def hidT (h : Heap) (H : Hp) : Heap := PySem.W.hideAll h (trk h H)
theorem hidT_size (h : Heap) (H : Hp) : (hidT h H).objs.size = h.objs.size := PySem.W.hideAll_size _ _
theorem hidT_get {h : Heap} {H : Hp} {b : Addr} {o : Obj} (e : h.get? b = some o) (n : H b = none) : (hidT h H).get? b = some o :=
  PySem.W.hideAll_get _ e fun hm => by
    have q : (H b).isSome = true := (List.mem_filter.mp hm).2
    rw [n] at q; simp at q
theorem of_hidT {h : Heap} {H : Hp} {b : Addr} {o : Obj} (e : (hidT h H).get? b = some o) : h.get? b = some o ∧ H b = none := by
  have e' : h.get? b = some o := PySem.W.of_hideAll (trk h H) e
  refine ⟨e', ?_⟩
  cases q : H b with
  | none => rfl
  | some x =>
    have hm : b ∈ trk h H := List.mem_filter.mpr ⟨List.mem_range.mpr (Heap.lt_size e'), by simp [q]⟩
    have z : (hidT h H).get? b = none := PySem.W.hideAll_none (trk h H) hm
    rw [z] at e; cases e
def allNews (g h : Heap) (L : Addr) : List (Addr × Obj) := (List.range h.objs.size).filterMap fun a => if a = L ∨ (g.get? a).isSome = true then none else (h.get? a).map fun o => (a, o)
def rest (g h : Heap) (L d : Addr) : List (Addr × Obj) := (allNews g h L).filter fun p => decide (p.1 ≠ d)
end L2
namespace L2
open PySem PySem.Spec PyProof.Rows
structure Mod (K : PySem.W.Frag) (mg : Str → Option Value) (base : Heap) : Prop where
  kin : K.In base
  glob : base.Ns mainGlobals mg
  blt : ∃ mb, base.Ns builtinsNs mb ∧ ∀ x : Str, x ≠ "__name__" → mb x = bootBuiltins x
  nolimit : base.NoLimit
structure Cx where
  prog : Program
  w : World
  K : PySem.W.Frag
  mg : Str → Option Value
  base : Heap
  A : Around
  N : List Str
  s₀ : Shared
  H₀ : Hp
  env : Env
  outer : List Env
  stack : List Env
  ex : List Addr
  fn : Str → Bool
  calm : Bool
  pn : List (Addr × Obj)
  xe : Value → Shared → Prop
def frs (l : List Env) : List Addr := l.filterMap (·.frame)
abbrev Cx.fs (X : Cx) : List Addr := frs X.outer
def Vis (sc : Scope) (x : Str) : Prop := sc.names.lookup x = some .local ∨ sc.names.lookup x = some .cell ∨ sc.names.lookup x = some .free
def Loc (sc : Scope) (x : Str) : Prop := sc.names.lookup x = some .local ∨ sc.names.lookup x = some .cell
def Look (env : Env) (h : Heap) (m : Str → Option Value) (x : Str) (u : Value) : Prop :=
  (env.kindOf x = some .local ∧ m x = some u) ∨ ((env.kindOf x = some .cell ∨ env.kindOf x = some .free) ∧ ∃ c, env.cells.lookup x = some c ∧ h.IsCell c (some u))
structure Cx.Ok (X : Cx) : Prop where
  mod : Mod X.K X.mg X.base
  kind : X.env.scope.kind = .function
  glob : X.env.globals = mainGlobals
  blt : X.env.builtins = builtinsNs
  above : X.s₀.heap.objs.size ≤ X.env.locals
  inj : ∀ x y c, X.env.cells.lookup x = some c → X.env.cells.lookup y = some c → x = y
  has : ∀ x, (X.env.kindOf x = some .cell ∨ X.env.kindOf x = some .free) → ∃ c, X.env.cells.lookup x = some c
  cab : ∀ x c, X.fn x = true → X.env.cells.lookup x = some c → X.s₀.heap.objs.size ≤ c
  hd : X.calm = true → X.A.handled = none
  frames : X.A.frames = some X.stack
  stk : X.stack = X.outer ∨ (X.stack = X.env :: X.outer ∧ X.env.frame = some X.env.locals)
  exf : ∀ b ∈ X.ex, b ≠ X.env.locals ∧ ∀ x c, X.env.cells.lookup x = some c → c ≠ b
  bs : ∀ b o, X.base.get? b = some o → X.s₀.heap.get? b = some o ∧ X.H₀ b = none
  bsz : X.base.objs.size ≤ X.s₀.heap.objs.size
  noex : ∀ b o, X.base.get? b = some o → b ∉ X.ex
  exfs : ∀ b ∈ X.ex, b ∉ X.fs
  funs : X.s₀.heap.FunFrames X.base X.outer
  frf : ∀ b ∈ X.fs, X.H₀ b = none
structure Inv (X : Cx) (pins : List (Addr × Obj)) (σ : List (Option V)) (H : Hp) (s : Shared) : Prop where
  ok : X.Ok
  os : s.os = X.s₀.os
  bare : AllBare s.gens
  base : Un X.fs X.ex X.H₀ H X.s₀.heap s.heap
  loc : ∃ m, s.heap.Ns X.env.locals m ∧ ∀ (i : Nat) (x : Str) (v : V), X.N[i]? = some x → σ[i]? = some (some v) → Vis X.env.scope x → ∃ u, RelV v u ∧ Look X.env s.heap m x u
  cell : ∀ x c, X.env.cells.lookup x = some c → ∃ v, s.heap.IsCell c v
  free : H X.env.locals = none
  freeC : ∀ x c, X.env.cells.lookup x = some c → H c = none
  pin : ∀ p ∈ X.pn ++ pins, s.heap.get? p.1 = some p.2 ∧ H p.1 = none ∧ p.1 ≠ X.env.locals ∧ p.1 ∉ X.fs ∧ ∀ v, p.2.data ≠ .cell v
  hok : HOk X.prog X.w H s.heap
  len : σ.length = X.N.length
section
variable {X : Cx} {pins : List (Addr × Obj)} {σ : List (Option V)} {H H' : Hp} {s : Shared} {h' : Heap}
theorem Cx.Ok.nofr (ok : X.Ok) {b : Addr} {o : Obj} (e : X.base.get? b = some o) : b ∉ X.fs := fun hb => by
  have := (ok.funs.mem hb).1
  rw [e] at this; cases this
theorem Inv.bs (I : Inv X pins σ H s) : ∀ b o, X.base.get? b = some o → s.heap.get? b = some o ∧ H b = none := fun b o e =>
  ⟨I.base.keep b o (I.ok.bs b o e).1 (I.ok.bs b o e).2 (I.ok.nofr e) (I.ok.noex b o e), I.base.free b o (I.ok.bs b o e).1 (I.ok.bs b o e).2 (I.ok.noex b o e)⟩
theorem Inv.bk (I : Inv X pins σ H s) : ∀ b o, X.base.get? b = some o → s.heap.get? b = some o := fun b o e => (I.bs b o e).1
theorem Inv.mod (I : Inv X pins σ H s) : Mod X.K X.mg X.base := I.ok.mod
theorem Inv.kIn (I : Inv X pins σ H s) : X.K.In s.heap := I.ok.mod.kin.keeps I.bk
theorem Inv.nolimit (I : Inv X pins σ H s) : s.heap.NoLimit := I.ok.mod.nolimit.keeps I.bk
theorem Inv.fr (I : Inv X pins σ H s) : ∃ m, Fr X.base X.env.locals s.heap m :=
  let ⟨m, hn, _⟩ := I.loc
  ⟨m, hn, I.bk, Nat.le_trans I.ok.bsz I.ok.above⟩
theorem Inv.lt (I : Inv X pins σ H s) : X.env.locals < s.heap.objs.size := let ⟨_, hn, _⟩ := I.loc; hn.lt
theorem Inv.sz (I : Inv X pins σ H s) : X.s₀.heap.objs.size ≤ s.heap.objs.size := Nat.le_trans I.ok.above (Nat.le_of_lt I.lt)
theorem Inv.nofs (I : Inv X pins σ H s) {a : Addr} (h : s.heap.objs.size ≤ a) : a ∉ X.fs := fun hb => by
  obtain ⟨_, o, ho, _⟩ := I.ok.funs.mem hb
  exact absurd (Nat.lt_of_lt_of_le (Heap.lt_size ho) (Nat.le_trans I.sz h)) (Nat.lt_irrefl _)
theorem Inv.cne (I : Inv X pins σ H s) : ∀ x c, X.env.cells.lookup x = some c → c ≠ X.env.locals := fun x c e z => by
  obtain ⟨v, o, ho, hd⟩ := I.cell x c e
  obtain ⟨m, ⟨o', es, ep, ho', hd', _⟩, _⟩ := I.loc
  rw [z, ho'] at ho; cases ho; rw [hd'] at hd; cases hd
theorem Inv.funs (I : Inv X pins σ H s) : s.heap.FunFrames X.base X.outer := by
  have all : ∀ (l : List Env), (∀ b ∈ frs l, b ∈ X.fs) → X.s₀.heap.FunFrames X.base l → s.heap.FunFrames X.base l := by
    intro l
    induction l with
    | nil => intro _ _; trivial
    | cons env r ih =>
      intro hs hl
      obtain ⟨hk, ⟨L, o, hf, hn, ho, hd⟩, hr⟩ := hl
      have hL : L ∈ X.fs := hs L (by unfold frs; rw [List.filterMap_cons, hf]; exact List.mem_cons_self)
      obtain ⟨sl, e⟩ := I.base.slot L o ho (I.ok.frf L hL) hL fun z => I.ok.exfs L z hL
      exact ⟨hk, ⟨L, _, hf, hn, e, hd⟩, ih (fun b hb => hs b (by unfold frs; rw [List.filterMap_cons, hf]; exact List.mem_cons_of_mem _ hb)) hr⟩
  exact all X.outer (fun _ hb => hb) I.ok.funs
theorem Inv.stack (I : Inv X pins σ H s) : s.heap.FunFrames X.base X.stack := by
  rcases I.ok.stk with e | ⟨e, hf⟩
  · rw [e]; exact I.funs
  · rw [e]
    obtain ⟨m, hn, _⟩ := I.loc
    refine .cons (by rw [I.ok.kind]; decide) hf hn ?_ I.funs
    exact Heap.get?_none_of_le (Nat.le_trans I.ok.bsz I.ok.above)
theorem Inv.stkSub (I : Inv X pins σ H s) : ∀ b ∈ frs X.stack, b ∈ X.env.locals :: X.fs := fun b hb => by
  rcases I.ok.stk with e | ⟨e, hf⟩
  · rw [e] at hb; exact List.mem_cons_of_mem _ hb
  · rw [e] at hb
    unfold frs at hb
    rw [List.filterMap_cons, hf] at hb
    exact hb
theorem Inv.stkFree (I : Inv X pins σ H s) : ∀ b ∈ frs X.stack, H b = none := fun b hb => by
  rcases List.mem_cons.mp (I.stkSub b hb) with e | hb
  · rw [e]; exact I.free
  · obtain ⟨_, o, ho, _⟩ := I.ok.funs.mem hb
    exact I.base.free b o ho (I.ok.frf b hb) fun z => I.ok.exfs b z hb
theorem Inv.step {g' : Array GenState} {t' : Nat} {d' : Drawn} {ch : List Addr} (I : Inv X pins σ H s)
    (hch : ∀ b ∈ ch, (b ∈ X.ex ∨ X.s₀.heap.objs.size ≤ b) ∧ b ≠ X.env.locals ∧ (∀ x c, X.env.cells.lookup x = some c → c ≠ b) ∧ ∀ p ∈ X.pn ++ pins, p.1 ≠ b)
    (keep : ∀ b o, b ≠ X.env.locals → b ∉ X.fs → b ∉ ch → s.heap.get? b = some o → H b = none → h'.get? b = some o)
    (slot : ∀ b o, b ≠ X.env.locals → b ∈ X.fs → b ∉ ch → s.heap.get? b = some o → H b = none → ∃ sl, h'.get? b = some { o with slots := sl }) (free : ∀ b o, b ∉ ch → s.heap.get? b = some o → H b = none → H' b = none)
    (there : ∀ b o, b ∉ ch → s.heap.get? b = some o → ∃ o', h'.get? b = some o')
    (tups : ∀ b xs, H b = some (.tup xs) → H' b = some (.tup xs)) (frzs : ∀ b o u, H b = some (.frz o u) → H' b = some (.frz o u)) (tbls : ∀ b ps, H b = some (.tbl ps) → ∃ more, H' b = some (.tbl (ps ++ more)))
    (ns : ∀ m, s.heap.Ns X.env.locals m → h'.Ns X.env.locals m) (hok : HOk X.prog X.w H' h') (hg : AllBare g') :
    Inv X pins σ H' { s with heap := h', gens := g', drawn := d', toks := t' } := by
  have neL : ∀ b o, X.s₀.heap.get? b = some o → b ≠ X.env.locals := fun b o e => Nat.ne_of_lt (Nat.lt_of_lt_of_le (Heap.lt_size e) I.ok.above)
  have neC : ∀ b o, X.s₀.heap.get? b = some o → b ∉ X.ex → b ∉ ch := fun b o e hx hb => by
    rcases (hch b hb).1 with z | z
    · exact hx z
    · exact absurd (Nat.lt_of_lt_of_le (Heap.lt_size e) z) (Nat.lt_irrefl _)
  have cellK : ∀ x c, X.env.cells.lookup x = some c → ∀ v, s.heap.IsCell c v → h'.IsCell c v := fun x c e v ⟨o, ho, hd⟩ => by
    have nch : c ∉ ch := fun z => (hch c z).2.2.1 x c e rfl
    by_cases hc : c ∈ X.fs
    · obtain ⟨sl, q⟩ := slot c o (I.cne x c e) hc nch ho (I.freeC x c e)
      exact ⟨_, q, hd⟩
    · exact ⟨o, keep c o (I.cne x c e) hc nch ho (I.freeC x c e), hd⟩
  refine ⟨I.ok, I.os, hg, ⟨fun b o e n hb hx => ?_, fun b o e n hb hx => ?_, fun b o e n hx => ?_, fun b o e hx => ?_, fun b xs e => tups b xs (I.base.tups b xs e), fun b o xs e => frzs b o xs (I.base.frzs b o xs e), fun b ps e => ?_⟩, ?_, fun x c e => ?_, ?_, fun x c e => ?_, fun p hp => ?_, hok, I.len⟩
  · exact keep b o (neL b o e) hb (neC b o e hx) (I.base.keep b o e n hb hx) (I.base.free b o e n hx)
  · obtain ⟨sl, e1⟩ := I.base.slot b o e n hb hx
    obtain ⟨sl', e2⟩ := slot b _ (neL b o e) hb (neC b o e hx) e1 (I.base.free b o e n hx)
    exact ⟨sl', e2⟩
  · obtain ⟨o', e1⟩ := I.base.there b o e hx
    exact free b o' (neC b o e hx) e1 (I.base.free b o e n hx)
  · obtain ⟨o', e1⟩ := I.base.there b o e hx
    exact there b o' (neC b o e hx) e1
  · obtain ⟨m1, e1⟩ := I.base.tbls b ps e
    obtain ⟨m2, e2⟩ := tbls b _ e1
    exact ⟨m1 ++ m2, by rw [e2, Array.append_assoc]⟩
  · obtain ⟨m, hn, hl⟩ := I.loc
    refine ⟨m, ns m hn, fun i x v e1 e2 e3 => ?_⟩
    obtain ⟨u, r, l⟩ := hl i x v e1 e2 e3
    refine ⟨u, r, ?_⟩
    rcases l with l | ⟨k, c, e, z⟩
    · exact .inl l
    · exact .inr ⟨k, c, e, cellK x c e _ z⟩
  · obtain ⟨v, z⟩ := I.cell x c e
    exact ⟨v, cellK x c e v z⟩
  · obtain ⟨m, ⟨o, _, _, ho, _⟩, _⟩ := I.loc
    exact free _ o (fun z => (hch _ z).2.1 rfl) ho I.free
  · obtain ⟨v, o, ho, hd⟩ := I.cell x c e
    exact free c o (fun z => (hch c z).2.2.1 x c e rfl) ho (I.freeC x c e)
  · obtain ⟨e, n, ne, nf, d⟩ := I.pin p hp
    have nch : p.1 ∉ ch := fun z => (hch p.1 z).2.2.2 p hp rfl
    exact ⟨keep p.1 p.2 ne nf nch e n, free p.1 p.2 nch e n, ne, nf, d⟩
theorem Inv.un {t' : Nat} (I : Inv X pins σ H s) (u : Un X.fs [] H H' s.heap h') (hok : HOk X.prog X.w H' h') : Inv X pins σ H' { s with heap := h', toks := t' } := by
  obtain ⟨m, ⟨o, es, ep, ho, r⟩, _⟩ := id I.loc
  obtain ⟨sl, hL⟩ := u.any ho I.free (by simp)
  exact I.step (g' := s.gens) (d' := s.drawn) (ch := []) (fun _ z => nomatch z) (fun b o _ hb _ e n => u.keep b o e n hb (by simp)) (fun b o _ hb _ e n => u.slot b o e n hb (by simp)) (fun b o _ e n => u.free b o e n (by simp)) (fun b o _ e => u.there b o e (by simp)) u.tups u.frzs u.tbls (fun m' hm => by
    obtain ⟨o', es', ep', ho', r'⟩ := hm
    rw [ho] at ho'; cases ho'
    exact ⟨_, es', ep', hL, r'⟩) hok I.bare
theorem Inv.call {g' : Array GenState} {t' : Nat} {d' : Drawn} {ch : List Addr} (I : Inv X pins σ H s) (u : Un (frs X.stack) ch H H' s.heap h') (hok : HOk X.prog X.w H' h') (hg : AllBare g')
    (hch : ∀ b ∈ ch, (b ∈ X.ex ∨ X.s₀.heap.objs.size ≤ b) ∧ b ≠ X.env.locals ∧ (∀ x c, X.env.cells.lookup x = some c → c ≠ b) ∧ ∀ p ∈ X.pn ++ pins, p.1 ≠ b) :
    Inv X pins σ H' { s with heap := h', gens := g', drawn := d', toks := t' } := by
  obtain ⟨m, ⟨o, es, ep, ho, r⟩, _⟩ := id I.loc
  obtain ⟨sl, hL⟩ := u.any ho I.free fun z => (hch _ z).2.1 rfl
  exact I.step (ch := ch) hch (fun b o hL hb hc e n => u.keep b o e n (fun z => (List.mem_cons.mp (I.stkSub b z)).elim hL hb) hc) (fun b o _ _ hc e n => u.any e n hc) (fun b o hc e n => u.free b o e n hc) (fun b o hc e => u.there b o e hc) u.tups u.frzs u.tbls (fun m' hm => by
    obtain ⟨o', es', ep', ho', r'⟩ := hm
    rw [ho] at ho'; cases ho'
    exact ⟨_, es', ep', hL, r'⟩) hok hg
theorem Inv.turned {t' : Nat} {it : Addr} (I : Inv X pins σ H s) (k : ∀ b o, b ≠ it → s.heap.get? b = some o → h'.get? b = some o) (hn : H it = none) (hL : it ≠ X.env.locals)
    (h1 : it ∈ X.ex ∨ X.s₀.heap.objs.size ≤ it) (h2 : ∀ x c, X.env.cells.lookup x = some c → c ≠ it) (h3 : ∀ p ∈ X.pn ++ pins, p.1 ≠ it) : Inv X pins σ H { s with heap := h', toks := t' } := by
  have nit : ∀ b u, H b = some u → b ≠ it := fun b u e z => by rw [z, hn] at e; cases e
  refine I.step (g' := s.gens) (d' := s.drawn) (ch := [it]) (fun b hb => ?_) (fun b o _ _ hc e _ => k b o (fun z => hc (by simp [z])) e) (fun b o _ _ hc e _ => ⟨o.slots, k b o (fun z => hc (by simp [z])) e⟩) (fun _ _ _ _ n => n)
    (fun b o hc e => ⟨o, k b o (fun z => hc (by simp [z])) e⟩) (fun _ _ e => e) (fun _ _ _ e => e) (fun b ps e => ⟨#[], by rw [e]; simp⟩) (fun m hm => ?_) (fun b u e => ?_) I.bare
  · have e : b = it := by simpa using hb
    subst e
    exact ⟨h1, hL, h2, h3⟩
  · obtain ⟨o, es, ep, ho, r⟩ := hm
    exact ⟨o, es, ep, k _ o (Ne.symm hL) ho, r⟩
  · refine (I.hok b u e).stay (fun c v hc q => k c v ?_ q) (fun _ q => q) fun _ _ q => q
    rcases hc with z | z
    · rw [z]; exact nit b u e
    · exact nit c _ z
theorem Inv.tok (I : Inv X pins σ H s) (t : Nat) : Inv X pins σ H { s with toks := t } := I.un (h' := s.heap) (t' := t) Un.refl I.hok
theorem Inv.kept {t' : Nat} (I : Inv X pins σ H s) (k : ∀ b u, s.heap.get? b = some u → h'.get? b = some u) : Inv X pins σ H { s with heap := h', toks := t' } := I.un (Un.kept k) (I.hok.kept k)
theorem Inv.laid {a : Addr} {o : HO} {t' : Nat} (I : Inv X pins σ H s) (k : ∀ b u, s.heap.get? b = some u → h'.get? b = some u) (hp : s.heap.objs.size ≤ a) (new : ObjOk X.prog X.w (upd H a o) h' a o) :
    Inv X pins σ (upd H a o) { s with heap := h', toks := t' } := I.un (Un.laid k hp (I.hok.fresh hp)) (I.hok.laid k hp new)
theorem Inv.write {x e : Addr} {o : HO} {t' : Nat} (I : Inv X pins σ H s) (mu : Mut (H x)) (he : e = x ∨ H e = some (.own x)) (k : ∀ b u, b ≠ e → s.heap.get? b = some u → h'.get? b = some u) (heo : ∃ u, h'.get? e = some u)
    (new : ObjOk X.prog X.w (upd H x o) h' x o) : Inv X pins σ (upd H x o) { s with heap := h', toks := t' } := I.un (Un.write mu he k heo) (I.hok.write mu he k heo new)
theorem Inv.weak {σ' : List (Option V)} (I : Inv X pins σ H s) (hl : σ'.length = σ.length) (w : ∀ (i : Nat) v, σ'[i]? = some (some v) → σ[i]? = some (some v)) : Inv X pins σ' H s :=
  ⟨I.ok, I.os, I.bare, I.base, let ⟨m, hn, hl'⟩ := I.loc; ⟨m, hn, fun i x v e1 e2 e3 => hl' i x v e1 (w i v e2) e3⟩, I.cell, I.free, I.freeC, I.pin, I.hok, hl.trans I.len⟩
theorem Inv.pins_of {pins' : List (Addr × Obj)} (I : Inv X pins σ H s) (h : ∀ p ∈ pins', s.heap.get? p.1 = some p.2 ∧ H p.1 = none ∧ p.1 ≠ X.env.locals ∧ p.1 ∉ X.fs ∧ ∀ v, p.2.data ≠ .cell v) : Inv X pins' σ H s :=
  ⟨I.ok, I.os, I.bare, I.base, I.loc, I.cell, I.free, I.freeC, fun p hp => (List.mem_append.mp hp).elim (fun z => I.pin p (List.mem_append_left _ z)) (h p), I.hok, I.len⟩
theorem nodup_ix {N : List Str} (hN : N.Nodup) {i j : Nat} {x : Str} (a : N[i]? = some x) (b : N[j]? = some x) : i = j := by
  obtain ⟨h1, e1⟩ := List.getElem?_eq_some_iff.mp a
  obtain ⟨h2, e2⟩ := List.getElem?_eq_some_iff.mp b
  exact (List.getElem_inj hN).mp (e1.trans e2.symm)
theorem store_ok2 {M : Model} {A : Around} {E : Value → Shared → Prop} {i : Nat} {x : Str} {v : V} {u : Value} {Q : Unit → Shared → Prop} (I : Inv X pins σ H s) (hN : X.N.Nodup) (hi : X.N[i]? = some x) (hx : Loc X.env.scope x) (r : RelV v u)
    (h : ∀ s', Inv X pins (σ.set i (some v)) H s' → (∃ a, Heap.SameBut a s.heap s'.heap ∧ (a = X.env.locals ∨ X.env.cells.lookup x = some a)) → Q () s') (hf : X.fn x = true ∨ X.env.scope.names.lookup x = some .local := by first | exact .inl rfl | exact .inr rfl | assumption) : wpAny M A (storeName X.env x u) Q E s := by
  obtain ⟨m, hn, hl⟩ := id I.loc
  have hcls : (X.env.scope.kind == .class || (X.env.scope.kind == .module && X.env.locals != X.env.globals)) = false := by rw [I.ok.kind]; rfl
  have hiσ : i < σ.length := by rw [I.len]; exact (List.getElem?_eq_some_iff.mp hi).1
  have cne := I.cne
  have tracked : ∀ {a : Addr} {h' : Heap}, (∃ o, s.heap.get? a = some o ∧ H a = none) → Heap.SameBut a s.heap h' → HOk X.prog X.w H h' := fun {a h'} ha hs b ob e => by
    obtain ⟨_, _, hfree⟩ := ha
    refine (I.hok b ob e).stay (fun c w' hc q => (hs.2 c ?_).trans q) (fun _ q => q) fun _ _ q => q
    rintro rfl
    rcases hc with rfl | hc
    · rw [hfree] at e; cases e
    · rw [hfree] at hc; cases hc
  rcases hx with hk | hk
  · refine wpAny_storeName_local hk hn (fun h' hn' hs => ?_) hcls
    obtain ⟨oL, _, _, hoL, _⟩ := id hn
    refine h _ ⟨I.ok, I.os, I.bare, ⟨fun b o e n hb hx => ?_, fun b o e n hb hx => ?_, I.base.free, fun b o e hx => ?_, I.base.tups, I.base.frzs, I.base.tbls⟩, ⟨_, hn', fun j y v' e1 e2 e3 => ?_⟩, fun y c e => ?_, I.free, I.freeC, fun p hp => ?_, tracked ⟨oL, hoL, I.free⟩ hs, by simpa using I.len⟩ ⟨_, hs, .inl rfl⟩
    · exact (hs.2 b (Nat.ne_of_lt (Nat.lt_of_lt_of_le (Heap.lt_size e) I.ok.above))).trans (I.base.keep b o e n hb hx)
    · obtain ⟨sl, e1⟩ := I.base.slot b o e n hb hx
      exact ⟨sl, (hs.2 b (Nat.ne_of_lt (Nat.lt_of_lt_of_le (Heap.lt_size e) I.ok.above))).trans e1⟩
    · obtain ⟨o', e1⟩ := I.base.there b o e hx
      exact ⟨o', (hs.2 b (Nat.ne_of_lt (Nat.lt_of_lt_of_le (Heap.lt_size e) I.ok.above))).trans e1⟩
    · by_cases hj : j = i
      · subst hj
        rw [hi] at e1; cases e1
        rw [List.getElem?_set_self hiσ] at e2
        cases e2
        exact ⟨u, r, .inl ⟨hk, by simp⟩⟩
      · rw [List.getElem?_set_ne (Ne.symm hj)] at e2
        obtain ⟨u', r', q⟩ := hl j y v' e1 e2 e3
        refine ⟨u', r', ?_⟩
        rcases q with ⟨k, e⟩ | ⟨k, c, e, z⟩
        · refine .inl ⟨k, ?_⟩
          have : y ≠ x := fun e => hj (nodup_ix hN e1 (e ▸ hi))
          simp [this, e]
        · exact .inr ⟨k, c, e, z.sameBut hs (cne y c e)⟩
    · obtain ⟨w', z⟩ := I.cell y c e
      exact ⟨w', z.sameBut hs (cne y c e)⟩
    · obtain ⟨e, n, ne, nf, d⟩ := I.pin p hp
      exact ⟨(hs.2 p.1 ne).trans e, n, ne, nf, d⟩
  · have hfn : X.fn x = true := by
      rcases hf with z | z
      · exact z
      · rw [z] at hk; cases hk
    obtain ⟨c, hc⟩ := I.ok.has x (.inl hk)
    obtain ⟨w', z⟩ := I.cell x c hc
    refine wpAny_storeName_cell I.ok.kind hk hc z (fun h' hc' hs => ?_)
    obtain ⟨oc, hoc, hocd⟩ := id z
    refine h { s with heap := h' } ⟨I.ok, I.os, I.bare, ⟨fun b o e n hb hx => ?_, fun b o e n hb hx => ?_, I.base.free, fun b o e hx => ?_, I.base.tups, I.base.frzs, I.base.tbls⟩, ⟨m, hn.sameBut hs (Ne.symm (cne x c hc)), fun j y v' e1 e2 e3 => ?_⟩, fun y c' e => ?_, I.free, I.freeC, fun p hp => ?_, tracked ⟨oc, hoc, I.freeC x c hc⟩ hs, by simpa using I.len⟩ ⟨c, hs, .inr hc⟩
    · exact (hs.2 b (Nat.ne_of_lt (Nat.lt_of_lt_of_le (Heap.lt_size e) (I.ok.cab x c hfn hc)))).trans (I.base.keep b o e n hb hx)
    · obtain ⟨sl, e1⟩ := I.base.slot b o e n hb hx
      exact ⟨sl, (hs.2 b (Nat.ne_of_lt (Nat.lt_of_lt_of_le (Heap.lt_size e) (I.ok.cab x c hfn hc)))).trans e1⟩
    · obtain ⟨o', e1⟩ := I.base.there b o e hx
      exact ⟨o', (hs.2 b (Nat.ne_of_lt (Nat.lt_of_lt_of_le (Heap.lt_size e) (I.ok.cab x c hfn hc)))).trans e1⟩
    · by_cases hj : j = i
      · subst hj
        rw [hi] at e1; cases e1
        rw [List.getElem?_set_self hiσ] at e2
        cases e2
        exact ⟨u, r, .inr ⟨.inl hk, c, hc, hc'⟩⟩
      · rw [List.getElem?_set_ne (Ne.symm hj)] at e2
        obtain ⟨u', r', q⟩ := hl j y v' e1 e2 e3
        refine ⟨u', r', ?_⟩
        rcases q with q | ⟨k, c', e, z'⟩
        · exact .inl q
        · refine .inr ⟨k, c', e, z'.sameBut hs ?_⟩
          rintro rfl
          exact hj (nodup_ix hN e1 (I.ok.inj _ _ _ e hc ▸ hi))
    · by_cases hcc : c' = c
      · subst hcc; exact ⟨_, hc'⟩
      · obtain ⟨w2, z2⟩ := I.cell y c' e
        exact ⟨w2, z2.sameBut hs hcc⟩
    · obtain ⟨e, n, ne, nf, d⟩ := I.pin p hp
      refine ⟨(hs.2 p.1 ?_).trans e, n, ne, nf, d⟩
      intro q
      rw [q, hoc] at e
      have q' : oc = p.2 := Option.some.inj e
      exact d w' (by rw [← q']; exact hocd)
theorem store_ok {M : Model} {A : Around} {E : Value → Shared → Prop} {i : Nat} {x : Str} {v : V} {u : Value} {Q : Unit → Shared → Prop} (I : Inv X pins σ H s) (hN : X.N.Nodup) (hi : X.N[i]? = some x) (hx : Loc X.env.scope x) (r : RelV v u)
    (h : ∀ s', Inv X pins (σ.set i (some v)) H s' → Q () s') (hf : X.fn x = true ∨ X.env.scope.names.lookup x = some .local := by first | exact .inl rfl | exact .inr rfl | assumption) : wpAny M A (storeName X.env x u) Q E s :=
  store_ok2 I hN hi hx r (fun s' I' _ => h s' I') hf
theorem Inv.call' {s' : Shared} {ch : List Addr} (I : Inv X pins σ H s) (ho : s'.os = s.os) (u : Un (frs X.stack) ch H H' s.heap s'.heap) (hok : HOk X.prog X.w H' s'.heap) (hg : AllBare s'.gens)
    (hch : ∀ b ∈ ch, (b ∈ X.ex ∨ X.s₀.heap.objs.size ≤ b) ∧ b ≠ X.env.locals ∧ (∀ x c, X.env.cells.lookup x = some c → c ≠ b) ∧ ∀ p ∈ X.pn ++ pins, p.1 ≠ b) : Inv X pins σ H' s' := by
  obtain ⟨h', g', d', t', o'⟩ := s'
  have e : o' = s.os := ho
  subst e
  exact I.call (g' := g') (t' := t') (d' := d') u hok hg hch
end
abbrev XK := Value → Option Addr → Hp → Prop
abbrev St := List (Option V)
abbrev VK := V → Hp → Prop
abbrev TE := St → Hp → VK → Prop
abbrev TT := St → Hp → (Bool → Hp → Prop) → Prop
abbrev TA := St → Hp → (List V → Hp → Prop) → Prop
structure Ends where
  nx : St → Hp → Prop
  rt : VK
  bk : St → Hp → Prop := fun _ _ => False
  ct : St → Hp → Prop := fun _ _ => False
abbrev TS := Ends → St → Hp → Prop
def EP (X : Cx) (pins : List (Addr × Obj)) (σ : St) (Q : VK) (u : Value) (s' : Shared) : Prop := ∃ v H', Inv X pins σ H' s' ∧ RelV v u ∧ Q v H'
def TP (X : Cx) (pins : List (Addr × Obj)) (σ : St) (Q : Bool → Hp → Prop) (b : Bool) (s' : Shared) : Prop := ∃ H', Inv X pins σ H' s' ∧ Q b H'
def AP (X : Cx) (pins : List (Addr × Obj)) (σ : St) (Q : List V → Hp → Prop) (us : List Value) (s' : Shared) : Prop := ∃ vs H', Inv X pins σ H' s' ∧ Vals vs us ∧ Q vs H'
def SP (X : Cx) (pins : List (Addr × Obj)) (D : Ends) (f : Flow) (s' : Shared) : Prop :=
  match f with
  | .next => ∃ σ' H', Inv X pins σ' H' s' ∧ D.nx σ' H'
  | .brk => ∃ σ' H', Inv X pins σ' H' s' ∧ D.bk σ' H'
  | .cont => ∃ σ' H', Inv X pins σ' H' s' ∧ D.ct σ' H'
  | .ret u => ∃ v σ' H', Inv X pins σ' H' s' ∧ RelV v u ∧ D.rt v H'
def PE (X : Cx) (e : Expr) (t : TE) : Prop :=
  ∀ (pins : List (Addr × Obj)) (s : Shared) (σ : St) (H : Hp) (Q : VK), Inv X pins σ H s → t σ H Q → wpAny (model X.prog X.w) X.A (eval e X.env) (EP X pins σ Q) X.xe s
def PT (X : Cx) (e : Expr) (t : TT) : Prop :=
  ∀ (pins : List (Addr × Obj)) (s : Shared) (σ : St) (H : Hp) (Q : Bool → Hp → Prop), Inv X pins σ H s → t σ H Q → wpAny (model X.prog X.w) X.A (isTrue e X.env (eval e X.env)) (TP X pins σ Q) X.xe s
def PW (X : Cx) (e : Expr) (t : TT) : Prop :=
  ∀ (whole : Sem Value) (pins : List (Addr × Obj)) (s : Shared) (σ : St) (H : Hp) (Q : Bool → Hp → Prop), Inv X pins σ H s → t σ H Q → wpAny (model X.prog X.w) X.A (isTrue e X.env whole) (TP X pins σ Q) X.xe s
theorem PW.pt {X : Cx} {e : Expr} {t : TT} (h : PW X e t) : PT X e t := h _
def PA (X : Cx) (es : List Expr) (t : TA) : Prop :=
  ∀ (pos : Pos) (pins : List (Addr × Obj)) (s : Shared) (σ : St) (H : Hp) (Q : List V → Hp → Prop), Inv X pins σ H s → t σ H Q → wpAny (model X.prog X.w) X.A (spliced (backTo pos (starEach es X.env))) (AP X pins σ Q) X.xe s
def PS (X : Cx) (st : Stmt) (t : TS) : Prop :=
  ∀ (pins : List (Addr × Obj)) (s : Shared) (σ : St) (H : Hp) (D : Ends), Inv X pins σ H s → t D σ H → wpAny (model X.prog X.w) X.A (exec st X.env) (SP X pins D) X.xe s
def PSs (X : Cx) (st : List Stmt) (t : TS) : Prop :=
  ∀ (pins : List (Addr × Obj)) (s : Shared) (σ : St) (H : Hp) (D : Ends), Inv X pins σ H s → t D σ H → wpAny (model X.prog X.w) X.A (execs st X.env) (SP X pins D) X.xe s
theorem thn {α : Type} {t : Sem α} {Q Q' : α → Shared → Prop} {M : Model} {A : Around} {E : Value → Shared → Prop} {s : Shared} (h : wpAny M A t Q E s) (hQ : ∀ a s, Q a s → Q' a s) : wpAny M A t Q' E s := wpAny_mono h hQ fun _ _ x => x
end L2
namespace L2
open PySem PySem.Spec PyProof.Rows
section
variable {X : Cx}
def tVar (i : Nat) : TE := fun σ H Q => ∃ v, σ[i]? = some (some v) ∧ Q v H
def tC (v : V) : TE := fun _ H Q => Q v H
theorem pe_var {i : Nat} {x : Str} {pos : Pos} (hN : X.N[i]? = some x) (hv : Vis X.env.scope x) (hd : (x == ("__debug__" : Str)) = false := by decide) (hcd : (x == ("__classdict__" : Str)) = false := by decide) : PE X (.Name x pos) (tVar i) := by
  intro pins s σ H Q I h
  obtain ⟨v, e, h⟩ := h
  obtain ⟨m, hn, hl⟩ := I.loc
  obtain ⟨u, r, l⟩ := hl i x v hN e hv
  have fin : EP X pins σ Q u s := ⟨v, H, I, r, h⟩
  rcases l with ⟨hk, hm⟩ | ⟨hk, c, hc, hcell⟩
  · exact wpAny_Name (wpAny_loadName_local I.ok.kind hk hn hm fin) hd
  · rcases hk with hk | hk
    · exact wpAny_Name (wpAny_loadName_cell I.ok.kind hk hc hcell fin) hd
    · exact wpAny_Name (wpAny_loadName_free I.ok.kind hk hc hcell fin hcd) hd
theorem pe_int {i j pos} : PE X (.Constant (.int i) j pos) (tC (.int i)) := fun _ _ _ H _ I h => wpAny_Constant_int ⟨.int i, H, I.tok _, ⟨_, rfl⟩, h⟩
theorem pe_bl {b j pos} : PE X (.Constant (.bool b) j pos) (tC (.bl b)) := fun _ _ _ H _ I h => Constant_bool ⟨.bl b, H, I, rfl, h⟩
theorem pe_non {j pos} : PE X (.Constant .none j pos) (tC .non) := fun _ _ _ H _ I h => Constant_none ⟨.non, H, I, rfl, h⟩
theorem pe_str {x j pos} : PE X (.Constant (.str x) j pos) (tC (.str x)) := fun _ _ _ H _ I h => Calls.Constant_str ⟨.str x, H, I.tok _, ⟨_, rfl⟩, h⟩
def Gl (X : Cx) (x : Str) : Prop := X.env.kindOf x = some .globalImplicit
theorem ld_glob {E : Value → Shared → Prop} {pins : List (Addr × Obj)} {s : Shared} {σ : St} {H : Hp} {x : Str} {u : Value} {pos : Pos} {Q : Value → Shared → Prop} (I : Inv X pins σ H s) (hg : Gl X x) (hm : X.mg x = some u) (h : Q u s)
    (hd : (x == ("__debug__" : Str)) = false := by decide) : wpAny (model X.prog X.w) X.A (eval (.Name x pos) X.env) Q E s :=
  Calls.Name_function_global I.ok.kind hg (Calls.loadGlobal_global (by rw [I.ok.glob]; exact I.mod.glob.keeps I.bk) hm h) hd
theorem ld_blt {E : Value → Shared → Prop} {pins : List (Addr × Obj)} {s : Shared} {σ : St} {H : Hp} {x : Str} {u : Value} {pos : Pos} {Q : Value → Shared → Prop} (I : Inv X pins σ H s) (hg : Gl X x) (hm : X.mg x = none) (hv : bootBuiltins x = some u) (h : Q u s)
    (hn : x ≠ "__name__" := by decide) (hd : (x == ("__debug__" : Str)) = false := by decide) : wpAny (model X.prog X.w) X.A (eval (.Name x pos) X.env) Q E s := by
  obtain ⟨mb, h1, h2⟩ := I.mod.blt
  exact Calls.Name_function_global I.ok.kind hg (Calls.loadGlobal_builtin (by rw [I.ok.glob]; exact I.mod.glob.keeps I.bk) hm (by rw [I.ok.blt]; exact h1.keeps I.bk) ((h2 x hn).trans hv) h) hd
theorem pe_glob {x : Str} {v : V} {u : Value} {pos : Pos} (hg : Gl X x) (hm : X.mg x = some u) (r : RelV v u) (hd : (x == ("__debug__" : Str)) = false := by decide) : PE X (.Name x pos) (tC v) :=
  fun _ _ _ H _ I h => ld_glob I hg hm ⟨v, H, I, r, h⟩ hd
theorem pe_bltn {x : Str} {v : V} {u : Value} {pos : Pos} (hg : Gl X x) (hm : X.mg x = none) (hv : bootBuiltins x = some u) (r : RelV v u) (hn : x ≠ "__name__" := by decide) (hd : (x == ("__debug__" : Str)) = false := by decide) : PE X (.Name x pos) (tC v) :=
  fun _ _ _ H _ I h => ld_blt I hg hm hv ⟨v, H, I, r, h⟩ hn hd
variable {a b : Expr} {ta tb : TE} {pos : Pos}
def tB (t : TE) : TT := fun σ H Q => t σ H fun x H1 => ∃ c, x = .bl c ∧ Q c H1
theorem pt_val {e : Expr} {t : TE} (h : PE X e t) (he : ∀ whole, isTrue e X.env whole = (do let v ← whole; standAt e.pos; holding [v] (truthy v)) := by intro _; rfl) : PT X e (tB t) := by
  intro pins s σ H Q I hw
  refine isTrue_plain (thn (h pins s σ H _ I hw) fun v s1 ⟨x, H1, I1, r1, q1⟩ => ?_) (he _)
  obtain ⟨d, rfl, q⟩ := q1
  cases r1
  exact wpAny_truthy_bool ⟨H1, I1, q⟩
variable {tA tB' : TT} {rest : List Expr}
def tAnd (t u : TT) : TT := fun σ H Q => t σ H fun c H1 => if c = true then u σ H1 Q else Q false H1
def tOr (t u : TT) : TT := fun σ H Q => t σ H fun c H1 => if c = true then Q true H1 else u σ H1 Q
def tNot (t : TT) : TT := fun σ H Q => t σ H fun c H1 => Q (!c) H1
theorem pw_and1 (ha : PT X a tA) : PW X (.BoolOp .And [a] pos) tA := by
  intro wh pins s σ H Q I h
  refine isTrue_and (thn (ha pins s σ H Q I h) fun c s1 e => ?_)
  cases c with
  | true => exact isTrue_and_nil e
  | false => exact e
theorem pw_or1 (ha : PT X a tA) : PW X (.BoolOp .Or [a] pos) tA := by
  intro wh pins s σ H Q I h
  refine isTrue_or (thn (ha pins s σ H Q I h) fun c s1 e => ?_)
  cases c with
  | false => exact isTrue_or_nil e
  | true => exact e
theorem pw_and (ha : PT X a tA) (hb : PW X (.BoolOp .And (b :: rest) pos) tB') : PW X (.BoolOp .And (a :: b :: rest) pos) (tAnd tA tB') := by
  intro wh pins s σ H Q I h
  refine isTrue_and (thn (ha pins s σ H _ I h) fun c s1 ⟨H1, I1, q1⟩ => ?_)
  cases c with
  | true => exact hb wh pins s1 σ H1 Q I1 q1
  | false => exact ⟨H1, I1, q1⟩
theorem pw_or (ha : PT X a tA) (hb : PW X (.BoolOp .Or (b :: rest) pos) tB') : PW X (.BoolOp .Or (a :: b :: rest) pos) (tOr tA tB') := by
  intro wh pins s σ H Q I h
  refine isTrue_or (thn (ha pins s σ H _ I h) fun c s1 ⟨H1, I1, q1⟩ => ?_)
  cases c with
  | true => exact ⟨H1, I1, q1⟩
  | false => exact hb wh pins s1 σ H1 Q I1 q1
theorem pt_not (ha : PT X a tA) : PT X (.UnaryOp .Not a pos) (tNot tA) := by
  intro pins s σ H Q I h
  exact isTrue_not (ha pins s σ H (fun c H1 => Q (!c) H1) I h)
def tAndV (ta tb : TE) : TE := fun σ H Q => ta σ H fun x H1 => ∃ c, x = .bl c ∧ if c = true then tb σ H1 Q else Q (.bl false) H1
def tOrV (ta tb : TE) : TE := fun σ H Q => ta σ H fun x H1 => ∃ c, x = .bl c ∧ if c = true then Q (.bl true) H1 else tb σ H1 Q
def tNotV (ta : TE) : TE := fun σ H Q => ta σ H fun x H1 => ∃ c, x = .bl c ∧ Q (.bl (!c)) H1
theorem pe_one {op} {t : TE} (h : PE X a t) : PE X (.BoolOp op [a] pos) t := fun pins s σ H Q I hw => BoolOp_one (h pins s σ H Q I hw)
theorem pe_and (ha : PE X a ta) (hb : PE X (.BoolOp .And (b :: rest) pos) tb) : PE X (.BoolOp .And (a :: b :: rest) pos) (tAndV ta tb) := by
  intro pins s σ H Q I h
  refine BoolOp_and (thn (ha pins s σ H _ I h) fun v s1 ⟨x, H1, I1, r1, q1⟩ => ?_)
  obtain ⟨c, rfl, q1⟩ := q1
  cases r1
  refine wpAny_truthy_bool ?_
  cases c with
  | true => exact hb pins s1 σ H1 Q I1 q1
  | false => exact ⟨.bl false, H1, I1, rfl, q1⟩
theorem pe_or (ha : PE X a ta) (hb : PE X (.BoolOp .Or (b :: rest) pos) tb) : PE X (.BoolOp .Or (a :: b :: rest) pos) (tOrV ta tb) := by
  intro pins s σ H Q I h
  refine BoolOp_or (thn (ha pins s σ H _ I h) fun v s1 ⟨x, H1, I1, r1, q1⟩ => ?_)
  obtain ⟨c, rfl, q1⟩ := q1
  cases r1
  refine wpAny_truthy_bool ?_
  cases c with
  | false => exact hb pins s1 σ H1 Q I1 q1
  | true => exact ⟨.bl true, H1, I1, rfl, q1⟩
theorem pe_not (ha : PE X a ta) : PE X (.UnaryOp .Not a pos) (tNotV ta) := by
  intro pins s σ H Q I h
  refine UnaryOp_ (thn (ha pins s σ H _ I h) fun v s1 ⟨x, H1, I1, r1, q1⟩ => ?_)
  obtain ⟨c, rfl, q1⟩ := q1
  cases r1
  exact not_of (wpAny_truthy_bool ⟨.bl (!c), H1, I1, rfl, q1⟩)
def tIf (t : TT) (ta tb : TE) : TE := fun σ H Q => t σ H fun c H1 => if c = true then ta σ H1 Q else tb σ H1 Q
theorem pe_ifExp {c : Expr} (hc : PT X c tA) (ha : PE X a ta) (hb : PE X b tb) : PE X (.IfExp c a b pos) (tIf tA ta tb) := by
  intro pins s σ H Q I h
  refine wpAny_IfExp (thn (hc pins s σ H _ I h) fun d s1 ⟨H1, I1, q1⟩ => ?_)
  cases d with
  | true => exact ha pins s1 σ H1 Q I1 q1
  | false => exact hb pins s1 σ H1 Q I1 q1
end
end L2
namespace L2
open PySem PySem.Spec PyProof.Rows
def SqL (K : PySem.W.Frag) (H : Hp) (a : Addr) (xs : List V) : Prop :=
  Rd H a (.lst xs) ∨
    ∃ (o : Obj) (its : Array Value) (n : Nat), K.lookup a = some o ∧ o.cls = .type "list" ∧ o.dict = none ∧ o.data = .seq its n ∧ its.size ≤ sizeLine ∧ Vals xs its.toList
def SqT (K : PySem.W.Frag) (H : Hp) (a : Addr) (xs : List V) : Prop :=
  Rd H a (.tup xs) ∨
    ∃ (o : Obj) (its : Array Value) (n : Nat), K.lookup a = some o ∧ o.cls = .type "tuple" ∧ o.data = .seq its n ∧ its.size ≤ sizeLine ∧ Vals xs its.toList
def absV : Value → Option V
  | .none => some .non
  | .bool b => some (.bl b)
  | .int i _ => some (.int i)
  | .str x _ => some (.str x)
  | .bytes b _ => some (.byt b)
  | .float b _ => some (.flt b)
  | .ref a => some (.ref a)
  | .type n => some (.ty n)
  | _ => none
theorem RelV.abs {x : V} {u : Value} (r : RelV x u) : absV u = some x := by
  cases x with
  | non => cases r; rfl
  | bl _ => cases r; rfl
  | int _ => obtain ⟨t, rfl⟩ := r; rfl
  | str _ => obtain ⟨t, rfl⟩ := r; rfl
  | byt _ => obtain ⟨t, rfl⟩ := r; rfl
  | flt _ => obtain ⟨t, rfl⟩ := r; rfl
  | ref _ => cases r; rfl
  | ty _ => cases r; rfl
theorem RelV.inj {x y : V} {u : Value} (r : RelV x u) (q : RelV y u) : x = y := Option.some.inj (r.abs.symm.trans q.abs)
theorem Vals.inj : ∀ {xs ys : List V} {us : List Value}, Vals xs us → Vals ys us → xs = ys
  | _, _, _, .nil, .nil => rfl
  | _, _, _, .cons r t, .cons r' t' => by rw [r.inj r', Vals.inj t t']
section
variable {X : Cx} {pins : List (Addr × Obj)} {σ : St} {H : Hp} {s : Shared} {a : Addr} {xs ys : List V}
theorem SqL.of {K : PySem.W.Frag} (h : H a = some (.lst xs)) : SqL K H a xs := .inl (.inl h)
theorem SqT.of {K : PySem.W.Frag} (h : H a = some (.tup xs)) : SqT K H a xs := .inl (.inl h)
theorem Inv.list (I : Inv X pins σ H s) (h : SqL X.K H a xs) : ∃ its : List Value, Vals xs its ∧ PlainL s.heap a its.toArray ∧ xs.length ≤ sizeLine := by
  rcases h with h | ⟨o, its, n, hk, hc, hd, hs, hz, r⟩
  · obtain ⟨z, its, n, r, e⟩ := h.ok I.hok
    exact ⟨its, r, ⟨_, n, e, rfl, rfl, rfl⟩, z⟩
  · refine ⟨its.toList, r, ⟨o, n, I.kIn a o hk, hc, hd, by simpa using hs⟩, ?_⟩
    have e := r.length
    simp only [Array.length_toList] at e
    omega
theorem Inv.tuple (I : Inv X pins σ H s) (h : SqT X.K H a xs) : ∃ its : List Value, Vals xs its ∧ IsTup s.heap a its.toArray ∧ xs.length ≤ sizeLine := by
  rcases h with h | ⟨o, its, n, hk, hc, hs, hz, r⟩
  · obtain ⟨z, its, r, p⟩ := h.ok I.hok
    exact ⟨its, r, p, z⟩
  · refine ⟨its.toList, r, ⟨o, I.kIn a o hk, hc, n, by simpa using hs⟩, ?_⟩
    have e := r.length
    simp only [Array.length_toList] at e
    omega
theorem Inv.tuple_inj (I : Inv X pins σ H s) (h : SqT X.K H a xs) (h' : SqT X.K H a ys) : xs = ys := by
  obtain ⟨its, r, ⟨o, e, _, n, d⟩, _⟩ := I.tuple h
  obtain ⟨its', r', ⟨o', e', _, n', d'⟩, _⟩ := I.tuple h'
  rw [e] at e'; cases e'
  rw [d] at d'
  injection d' with d1 _
  have : its = its' := by simpa using congrArg Array.toList d1
  subst this
  exact r.inj r'
end
abbrev Cx.wish (X : Cx) (E : Value → Shared → Prop) : Cx := { X with xe := E }
abbrev Cx.nox (X : Cx) : Cx := X.wish fun _ _ => False
theorem Cx.Ok.wish {X : Cx} (ok : X.Ok) (E : Value → Shared → Prop) : (X.wish E).Ok :=
  ⟨ok.mod, ok.kind, ok.glob, ok.blt, ok.above, ok.inj, ok.has, ok.cab, ok.hd, ok.frames, ok.stk, ok.exf, ok.bs, ok.bsz, ok.noex, ok.exfs, ok.funs, ok.frf⟩
theorem Cx.Ok.unwish {X : Cx} {E : Value → Shared → Prop} (ok : (X.wish E).Ok) : X.Ok :=
  ⟨ok.mod, ok.kind, ok.glob, ok.blt, ok.above, ok.inj, ok.has, ok.cab, ok.hd, ok.frames, ok.stk, ok.exf, ok.bs, ok.bsz, ok.noex, ok.exfs, ok.funs, ok.frf⟩
section
variable {X : Cx} {pins : List (Addr × Obj)} {σ : St} {H : Hp} {s : Shared} {E : Value → Shared → Prop}
theorem Inv.wish (I : Inv X pins σ H s) (E : Value → Shared → Prop) : Inv (X.wish E) pins σ H s := ⟨I.ok.wish E, I.os, I.bare, I.base, I.loc, I.cell, I.free, I.freeC, I.pin, I.hok, I.len⟩
theorem Inv.unwish (I : Inv (X.wish E) pins σ H s) : Inv X pins σ H s := ⟨I.ok.unwish, I.os, I.bare, I.base, I.loc, I.cell, I.free, I.freeC, I.pin, I.hok, I.len⟩
theorem SP.unwish {D : Ends} {f : Flow} {s' : Shared} (h : SP (X.wish E) pins D f s') : SP X pins D f s' := by
  cases f with
  | next => obtain ⟨σ', H', I, q⟩ := h; exact ⟨σ', H', I.unwish, q⟩
  | brk => obtain ⟨σ', H', I, q⟩ := h; exact ⟨σ', H', I.unwish, q⟩
  | cont => obtain ⟨σ', H', I, q⟩ := h; exact ⟨σ', H', I.unwish, q⟩
  | ret u => obtain ⟨v, σ', H', I, r, q⟩ := h; exact ⟨v, σ', H', I.unwish, r, q⟩
theorem PE.nox {e : Expr} {t : TE} (h : PE X.nox e t) : PE X e t := fun pins s σ H Q I hw =>
  wpAny_mono (h pins s σ H Q (I.wish _) hw) (fun _ _ ⟨v, H', I', r, q⟩ => ⟨v, H', I'.unwish, r, q⟩) fun _ _ z => False.elim z
theorem PT.nox {e : Expr} {t : TT} (h : PT X.nox e t) : PT X e t := fun pins s σ H Q I hw =>
  wpAny_mono (h pins s σ H Q (I.wish _) hw) (fun _ _ ⟨H', I', q⟩ => ⟨H', I'.unwish, q⟩) fun _ _ z => False.elim z
theorem PSs.nox {st : List Stmt} {t : TS} (h : PSs X.nox st t) : PSs X st t := fun pins s σ H D I hw =>
  wpAny_mono (h pins s σ H D (I.wish _) hw) (fun _ _ q => q.unwish) fun _ _ z => False.elim z
end
section
variable {X : Cx} {st : Stmt} {rest : List Stmt} {t u : TS} {e : Expr} {te : TE} {pos : Pos}
def tNext : TS := fun D σ H => D.nx σ H
def tSeq (t u : TS) : TS := fun D σ H => t { D with nx := u D } σ H
theorem pss_nil : PSs X [] tNext := fun _ _ σ H _ I h => wpAny_execs_nil ⟨σ, H, I, h⟩
theorem pss_cons (h1 : PS X st t) (h2 : PSs X rest u) : PSs X (st :: rest) (tSeq t u) := by
  intro pins s σ H D I h
  refine wpAny_execs_cons (thn (h1 pins s σ H { D with nx := u D } I h) fun f s1 q => ?_)
  cases f with
  | next =>
    obtain ⟨σ', H', I', q⟩ := q
    exact h2 pins s1 σ' H' D I' q
  | ret v => exact q
  | brk => exact q
  | cont => exact q
theorem pss_one (h1 : PS X st t) : PSs X [st] t := by
  intro pins s σ H D I h
  refine wpAny_execs_cons (thn (h1 pins s σ H D I h) fun f s1 q => ?_)
  cases f with
  | next => exact wpAny_execs_nil q
  | ret v => exact q
  | brk => exact q
  | cont => exact q
theorem Inv.quiet {pins : List (Addr × Obj)} {σ : St} {H : Hp} {s : Shared} (I : Inv X pins σ H s) : interactive X.env = false := by simp [interactive, I.ok.kind]
def tDrop (te : TE) : TS := fun D σ H => te σ H fun _ H1 => D.nx σ H1
theorem ps_expr (he : PE X e te) (hs : swapsWith e none pos.line X.env = pure false := by rfl) : PS X (.Expr e pos) (tDrop te) := by
  intro pins s σ H D I h
  exact wpAny_Expr_any (thn (he pins s σ H _ I h) fun v s1 ⟨x, H1, I1, r1, q1⟩ => ⟨σ, H1, I1, q1⟩) I.quiet hs
def tRet (te : TE) : TS := fun D σ H => te σ H D.rt
theorem ps_ret (he : PE X e te) : PS X (.Return (some e) pos) (tRet te) := by
  intro pins s σ H D I h
  exact wpAny_Return_some (thn (he pins s σ H _ I h) fun v s1 ⟨x, H1, I1, r1, q1⟩ => ⟨x, σ, H1, I1, r1, q1⟩)
def tRetN : TS := fun D _ H => D.rt .non H
def tIfS (c : TT) (t u : TS) : TS := fun D σ H => c σ H fun b H1 => if b = true then t D σ H1 else u D σ H1
theorem ps_if {c : Expr} {a b : List Stmt} {tc : TT} (hc : PT X c tc) (ha : PSs X a t) (hb : PSs X b u) : PS X (.If c a b pos) (tIfS tc t u) := by
  intro pins s σ H D I h
  refine wpAny_If (thn (hc pins s σ H _ I h) fun d s1 ⟨H1, I1, q1⟩ => ?_)
  cases d with
  | true => exact ha pins s1 σ H1 D I1 q1
  | false => exact hb pins s1 σ H1 D I1 q1
end
abbrev TG := V → St → Hp → (St → Hp → Prop) → Prop
abbrev TGs := List V → St → Hp → (St → Hp → Prop) → Prop
def PG (X : Cx) (target : Expr) (t : TG) : Prop :=
  ∀ (pins : List (Addr × Obj)) (s : Shared) (σ : St) (H : Hp) (v : V) (u : Value) (Q : St → Hp → Prop), Inv X pins σ H s → RelV v u → t v σ H Q →
    wpAny (model X.prog X.w) X.A (assign target X.env u) (fun _ s' => ∃ σ' H', Inv X pins σ' H' s' ∧ Q σ' H') X.xe s
def PGs (X : Cx) (ts : List Expr) (t : TGs) : Prop :=
  ∀ (pins : List (Addr × Obj)) (s : Shared) (σ : St) (H : Hp) (vs : List V) (us : List Value) (Q : St → Hp → Prop), Inv X pins σ H s → Vals vs us → t vs σ H Q →
    wpAny (model X.prog X.w) X.A (assignInOrder ((assignEach ts X.env).map (·.2)) us) (fun _ s' => ∃ σ' H', Inv X pins σ' H' s' ∧ Q σ' H') X.xe s
abbrev TSet := V → V → V → Hp → (Hp → Prop) → Prop
def PSet (X : Cx) (t : TSet) : Prop :=
  ∀ (pins : List (Addr × Obj)) (s : Shared) (σ : St) (H : Hp) (o i v : V) (ov iv u : Value) (Q : Hp → Prop), Inv X pins σ H s → RelV o ov → RelV i iv → RelV v u → t o i v H Q →
    wpAny (model X.prog X.w) X.A (setItem ov iv u) (fun _ s' => ∃ H', Inv X pins σ H' s' ∧ Q H') X.xe s
section
variable {X : Cx} {pos : Pos}
def gName (i : Nat) : TG := fun v σ H Q => Q (σ.set i (some v)) H
theorem pg_name {i : Nat} {x : Str} (hN : X.N.Nodup) (hi : X.N[i]? = some x) (hx : Loc X.env.scope x) (hf : X.fn x = true ∨ X.env.scope.names.lookup x = some .local := by first | exact .inl rfl | exact .inr rfl | assumption) : PG X (.Name x pos) (gName i) := by
  intro pins s σ H v u Q I r h
  exact wpAny_assign_Name (store_ok I hN hi hx r (fun s' I' => ⟨_, H, I', h⟩) hf)
def gNil : TGs := fun vs σ H Q => vs = [] ∧ Q σ H
def gCons (t : TG) (u : TGs) : TGs := fun vs σ H Q => ∃ v r, vs = v :: r ∧ t v σ H fun σ' H' => u r σ' H' Q
theorem pgs_nil : PGs X [] gNil := by
  intro pins s σ H vs us Q I r h
  obtain ⟨e, h⟩ := h
  subst e
  cases r
  exact assignInOrder_nil ⟨σ, H, I, h⟩
theorem pgs_cons {e : Expr} {es : List Expr} {t : TG} {u : TGs} (h1 : PG X e t) (h2 : PGs X es u)
    (hs : (assignEach (e :: es) X.env).map (·.2) = assign e X.env :: (assignEach es X.env).map (·.2) := by rfl) : PGs X (e :: es) (gCons t u) := by
  intro pins s σ H vs us Q I r h
  obtain ⟨v, vr, e1, h⟩ := h
  subst e1
  cases r with
  | cons r rr =>
    rw [hs]
    refine assignInOrder_cons (thn (h1 pins s σ H _ _ _ I r h) fun _ s1 ⟨σ1, H1, I1, q1⟩ => ?_)
    exact h2 pins s1 σ1 H1 _ _ Q I1 rr q1
def gTup (K : PySem.W.Frag) (n : Nat) (t : TGs) : TG := fun v σ H Q => ∃ a xs, v = .ref a ∧ SqT K H a xs ∧ xs.length = n ∧ t xs σ H Q
theorem pg_tup {es : List Expr} {k : Nat} {t : TGs} {n : Nat} (hc : X.calm = true) (h : PGs X es t)
    (hn : (assignEach es X.env).length = n := by rfl) (hst : (assignEach es X.env).findIdx? (·.1) = none := by rfl) : PG X (.Tuple es k pos) (gTup X.K n t) := by
  intro pins s σ H v u Q I r hw
  obtain ⟨a, xs, e1, hq, hl, hw⟩ := hw
  subst e1
  cases r
  obtain ⟨its, rv, ht, hz⟩ := I.tuple hq
  refine assign_Tuple_tuple (I.ok.hd hc) ht (by simp [hn, ← hl, rv.length]) hst fun h' hx => ?_
  have I1 : Inv X pins σ H { s with heap := h' } := I.kept (t' := s.toks) fun b o e => hx b o (Nat.ne_of_lt (Heap.lt_size e)) e
  exact h pins _ σ H xs _ Q I1 (by simpa using rv) hw
def gSub (to ti : TE) (t : TSet) : TG := fun v σ H Q => to σ H fun o H1 => ti σ H1 fun i H2 => t o i v H2 fun H3 => Q σ H3
theorem pg_sub {o i : Expr} {to ti : TE} {t : TSet} (ho : PE X o to) (hi : PE X i ti) (hs : PSet X t)
    (ha : ∀ v, assign (.Subscript o i pos) X.env v = (do
      let ov ← holding [v] (eval o X.env)
      let iv ← holding [v, ov] (eval i X.env)
      standAt pos
      holding [v, ov, iv] (setItem ov iv v)
      release [v, ov, iv] []) := by intro _; rfl) : PG X (.Subscript o i pos) (gSub to ti t) := by
  intro pins s σ H v u Q I r h
  rw [ha]
  refine wpAny_bind (wpAny_holding (thn (ho pins s σ H _ I h) fun ov s1 ⟨x, H1, I1, r1, q1⟩ => ?_))
  refine wpAny_bind (wpAny_holding (thn (hi pins s1 σ H1 _ I1 q1) fun iv s2 ⟨y, H2, I2, r2, q2⟩ => ?_))
  refine wpAny_bind (wpAny_standAt (wpAny_bind (wpAny_holding (thn (hs pins s2 σ H2 x y v ov iv u _ I2 r1 r2 r q2) fun _ s3 ⟨H3, I3, q3⟩ => ?_))))
  exact wpAny_release ⟨σ, H3, I3, q3⟩
def tAsg (te : TE) (g : TG) : TS := fun D σ H => te σ H fun x H1 => g x σ H1 D.nx
theorem ps_asg {tg e : Expr} {te : TE} {g : TG} (he : PE X e te) (hg : PG X tg g) (hs : swapsWithSole [tg] e pos.line X.env = pure false := by rfl) (hw : swappedStores [tg] e X.env = pure none := by rfl)
    (h1 : (assignEach [tg] X.env).map (·.2) = [assign tg X.env] := by rfl) : PS X (.Assign [tg] e pos) (tAsg te g) := by
  intro pins s σ H D I h
  refine wpAny_Assign_stores (thn (he pins s σ H _ I h) fun v s1 ⟨x, H1, I1, r1, q1⟩ => ?_) hs hw
  rw [h1]
  exact thn (hg pins s1 σ H1 x v _ I1 r1 q1) fun _ s2 q => q
theorem ps_set {i : Nat} {x : Str} {e : Expr} {te : TE} {pos' : Pos} (hN : X.N.Nodup) (hi : X.N[i]? = some x) (hx : Loc X.env.scope x) (he : PE X e te) (hs : swapsWith e (some (.Name x pos')) pos.line X.env = pure false := by rfl) (hf : X.fn x = true ∨ X.env.scope.names.lookup x = some .local := by first | exact .inl rfl | exact .inr rfl | assumption) :
    PS X (.Assign [.Name x pos'] e pos) (tAsg te (gName i)) := by
  intro pins s σ H D I h
  refine wpAny_Assign_Name (thn (he pins s σ H _ I h) fun v s1 ⟨y, H1, I1, r1, q1⟩ => ?_) hs
  exact store_ok I1 hN hi hx r1 (fun s2 I2 => ⟨_, H1, I2, q1⟩) hf
def tPar (i j : Nat) (ta : TA) : TS := fun D σ H => ta σ H fun vs H1 => ∃ v w, vs = [v, w] ∧ D.nx ((σ.set i (some v)).set j (some w)) H1
theorem ps_par {i j : Nat} {x y : Str} {a b : Expr} {ta : TA} {px py pt : Pos} {kt k2 pt2} (hc : X.calm = true) (hN : X.N.Nodup) (hi : X.N[i]? = some x) (hj : X.N[j]? = some y) (hij : i ≠ j)
    (hx : X.env.scope.names.lookup x = some .local) (hy : X.env.scope.names.lookup y = some .local) (ha : PA X [a, b] ta)
    (hw : swappedStores [.Tuple [.Name x px, .Name y py] kt pt] (.Tuple [a, b] k2 pt2) X.env = pure (some [x, y]))
    (hs : swapsWithSole [.Tuple [.Name x px, .Name y py] kt pt] (.Tuple [a, b] k2 pt2) pos.line X.env = pure false := by rfl) :
    PS X (.Assign [.Tuple [.Name x px, .Name y py] kt pt] (.Tuple [a, b] k2 pt2) pos) (tPar i j ta) := by
  intro pins s σ H D I h
  rw [exec_Assign_arm]
  refine wpAny_bind (wpAny_standAt ?_)
  rw [hs]
  refine wpAny_bind (wpAny_pure ?_)
  rw [if_neg (by decide)]
  refine wpAny_bind (Tuple_ (thn (ha _ pins s σ H _ I h) fun us s1 ⟨vs, H1, I1, r1, q1⟩ => ?_))
  obtain ⟨v, w, e1, q1⟩ := q1
  subst e1
  obtain ⟨u1, u2, rfl, rv, rw'⟩ : ∃ u1 u2, us = [u1, u2] ∧ RelV v u1 ∧ RelV w u2 := by
    cases r1 with
    | cons p q =>
      cases q with
      | cons p' q' =>
        cases q'
        exact ⟨_, _, rfl, p, p'⟩
  refine wpAny_newObj_type ?_ (by show 2 ≤ sizeLine; decide)
  have I2 : Inv X pins σ H1 { s1 with heap := s1.heap.push { cls := .type "tuple", data := .seq [u1, u2].toArray } } := I1.kept (t' := s1.toks) fun b o e => Heap.get?_push_of_some _ e
  rw [hw]
  refine wpAny_bind (wpAny_pure ?_)
  show wpAny (model X.prog X.w) X.A (do rule "assign.swapped-stores"; let items ← unpackItems (.ref s1.heap.objs.size) 2 none; assignInOrder [fun v => bindName X.env y v, fun v => bindName X.env x v] items.reverse; pure Flow.next) _ _ _
  refine wpAny_bind (wpAny_rule (wpAny_bind (unpackItems_tuple (items := #[u1, u2]) (I.ok.hd hc) (IsTup.new s1.heap _) fun h' hx' => ?_)))
  have I3 := I2.kept (h' := h') (t' := s1.toks) fun b o e => hx' b o (Nat.ne_of_lt (Heap.lt_size e)) e
  show wpAny _ _ (assignInOrder [fun v => bindName X.env y v, fun v => bindName X.env x v] [u2, u1] >>= fun _ => pure Flow.next) _ _ _
  refine wpAny_bind (assignInOrder_cons (wpAny_bindName (store_ok I3 hN hj (.inl hy) rw' (fun s2 I4 => ?_) (.inr hy))))
  refine assignInOrder_cons (wpAny_bindName (store_ok I4 hN hi (.inl hx) rv (fun s3 I5 => assignInOrder_nil (wpAny_pure ?_)) (.inr hx)))
  rw [List.set_comm _ _ (Ne.symm hij)] at I5
  exact ⟨_, H1, I5, q1⟩
end
section
variable {X : Cx} {pos : Pos}
end
structure It where
  go : Nat → Hp → Prop
  yld : Nat → Hp → V → Hp → Prop
  stop : Nat → Hp → Prop
def FpOk (X : Cx) (pins : List (Addr × Obj)) (H : Hp) (b : Addr) : Prop :=
  H b = none ∧ b ≠ X.env.locals ∧ b ∉ X.fs ∧ (b ∈ X.ex ∨ X.s₀.heap.objs.size ≤ b) ∧ (∀ x c, X.env.cells.lookup x = some c → c ≠ b) ∧ ∀ p ∈ X.pn ++ pins, p.1 ≠ b
theorem Inv.fpOk {X : Cx} {pins : List (Addr × Obj)} {σ : St} {H H' : Hp} {s : Shared} {b : Addr} (I : Inv X pins σ H s) (hb : s.heap.objs.size ≤ b) (hn : H' b = none) : FpOk X pins H' b := by
  refine ⟨hn, Nat.ne_of_gt (Nat.lt_of_lt_of_le I.lt hb), I.nofs hb, .inr (Nat.le_trans I.sz hb), fun x c e z => ?_, fun p hp z => ?_⟩
  · obtain ⟨v, q⟩ := I.cell x c e
    exact absurd (Nat.lt_of_lt_of_le q.lt (by rw [z]; exact hb)) (Nat.lt_irrefl _)
  · exact absurd (Nat.lt_of_lt_of_le (Heap.lt_size (I.pin p hp).1) (by rw [z]; exact hb)) (Nat.lt_irrefl _)
structure Turn (P : Program) (w : World) (K : PySem.W.Frag) (tg : Expr) (J : It) (fp : List Addr) (it : Addr) (tn : Nat → Heap → Prop) : Prop where
  mem : it ∈ fp
  obj : ∀ i h, tn i h → ∀ b ∈ fp, ∃ o, h.get? b = some o ∧ ∀ v, o.data ≠ .cell v
  keep : ∀ i h h', tn i h → (∀ b ∈ fp, ∀ o, h.get? b = some o → h'.get? b = some o) → tn i h'
  item : ∀ (X : Cx), X.prog = P → X.w = w → X.K = K → X.calm = true → ∀ (i : Nat) (pins : List (Addr × Obj)) (s : Shared) (σ : St) (H : Hp) (E : Value → Shared → Prop), Inv X pins σ H s → (∀ b ∈ fp, FpOk X pins H b) → tn i s.heap → J.go i H →
    wpAny (model P w) X.A (pyNext (.ref it)) (fun r s1 => ∃ u, r = some u ∧
      wpAny (model P w) X.A (letOwnedTupleGo tg (.ref it) u) (fun _ s2 => ∃ x H', Inv X pins σ H' s2 ∧ RelV x u ∧ J.yld i H x H' ∧ tn (i + 1) s2.heap ∧ ∀ b ∈ fp, H' b = none) E s1) E s
  done : ∀ (X : Cx), X.prog = P → X.w = w → X.K = K → X.calm = true → ∀ (i : Nat) (pins : List (Addr × Obj)) (s : Shared) (σ : St) (H : Hp) (E : Value → Shared → Prop), Inv X pins σ H s → (∀ b ∈ fp, FpOk X pins H b) → tn i s.heap → J.stop i H →
    wpAny (model P w) X.A (pyNext (.ref it)) (fun r s1 => r = none ∧ Inv X pins σ H s1) E s
  self : ∀ (A : Around) (i : Nat) (s : Shared) (Q : Value → Shared → Prop) (E : Value → Shared → Prop), tn i s.heap → Q (.ref it) s → wpAny (model P w) A (pyIter (.ref it)) Q E s
abbrev TI := St → Hp → (It → Hp → Prop) → Prop
def PIE (X : Cx) (pins : List (Addr × Obj)) (σ : St) (tg : Expr) (R : It → Hp → Prop) (itv : Value) (s2 : Shared) : Prop :=
  ∃ (it : Addr) (fp : List Addr) (tn : Nat → Heap → Prop) (J : It) (H' : Hp), itv = .ref it ∧ Inv X pins σ H' s2 ∧ Turn X.prog X.w X.K tg J fp it tn ∧ tn 0 s2.heap ∧ (∀ b ∈ fp, FpOk X pins H' b) ∧ R J H'
def PI (X : Cx) (tg iter : Expr) (wi : TI) : Prop :=
  ∀ (pins : List (Addr × Obj)) (s : Shared) (σ : St) (H : Hp) (R : It → Hp → Prop), Inv X pins σ H s → wi σ H R →
    wpAny (model X.prog X.w) X.A (eval iter X.env) (fun v s1 => wpAny (model X.prog X.w) X.A (pyIter v) (PIE X pins σ tg R) X.xe s1) X.xe s
theorem go_of {M : Model} {A : Around} {E : Value → Shared → Prop} {s : Shared} {tg : Expr} {it : Addr} {u : Value} {o : Obj} {n : String} {vs : Array Value} {Q : Unit → Shared → Prop} (ho : s.heap.get? it = some o) (hc : o.cls = .type n) (hd : o.data = .fields vs)
    (hn : ["enumerate", "zip", "dict_itemiterator", "dict_reverseitemiterator", "odict_iterator", "itertools.zip_longest", "itertools.pairwise"].contains n = false) (hQ : Q () s) : wpAny M A (letOwnedTupleGo tg (.ref it) u) Q E s := by
  unfold letOwnedTupleGo
  cases tg <;> first
    | exact wpAny_pure hQ
    | (cases u <;> first
        | exact wpAny_pure hQ
        | (refine wpAny_bind (wpAny_load ho ?_)
           rw [hc, hd]
           show wpAny M A (if (["enumerate", "zip", "dict_itemiterator", "dict_reverseitemiterator", "odict_iterator", "itertools.zip_longest", "itertools.pairwise"].contains n && vs[0]? == some (rawInt _)) = true then _ else _) Q E s
           rw [if_neg (by intro h; rw [hn, Bool.false_and] at h; cases h)]
           exact wpAny_pure hQ))
def Itt (K : PySem.W.Frag) (a : Addr) : It :=
  ⟨fun i H => ∃ xs x, SqT K H a xs ∧ xs[i]? = some x, fun i H x H' => H' = H ∧ ∀ xs, SqT K H a xs → xs[i]? = some x, fun i H => ∃ xs, SqT K H a xs ∧ xs.length ≤ i⟩
def Itr (lo : Int) (n : Nat) : It := ⟨fun i _ => i < n, fun i H x H' => H' = H ∧ x = .int (lo + i), fun i _ => n ≤ i⟩
theorem turn_tuple {P : Program} {w : World} {K : PySem.W.Frag} {tg : Expr} (a it : Addr) : Turn P w K tg (Itt K a) [it] it (fun i h => h.IsTupleIter it a i) where
  mem := by simp
  obj := fun i h st b hb => by
    have e : b = it := by simpa using hb
    subst e
    obtain ⟨o, e, c, d⟩ := st
    exact ⟨o, e, fun v z => by rw [d] at z; cases z⟩
  keep := fun i h h' st k => st.at fun o e => k it (by simp) o e
  item := by
    intro X hP hw hK hc i pins s σ H E I hf st hg
    subst hP hw hK
    obtain ⟨xs, x, hq, hx⟩ := hg
    obtain ⟨its, rv, p, hz⟩ := I.tuple hq
    obtain ⟨u, hu, ru⟩ := rv.get hx
    obtain ⟨f0, f1, f2, f3, f4, f5⟩ := hf it (by simp)
    refine wpAny_pyNext_tuple_item st (show s.heap.IsTuple a its.toArray from p) (x := u) (by simpa using hu) fun h' st' sb => ?_
    have I1 : Inv X pins σ H { s with heap := h' } := I.turned (t' := s.toks) (fun b o hb e => (sb.2 b hb).trans e) f0 f1 f3 f4 f5
    obtain ⟨o, e, c, d⟩ := id st'
    exact ⟨u, rfl, go_of (s := { s with heap := h' }) e c d (by decide) ⟨x, H, I1, ru, ⟨rfl, fun ys hy => by rw [I.tuple_inj hy hq]; exact hx⟩, st', fun b hb => (hf b hb).1⟩⟩
  done := by
    intro X hP hw hK hc i pins s σ H E I hf st hg
    subst hP hw hK
    obtain ⟨xs, hq, hx⟩ := hg
    obtain ⟨its, rv, p, hz⟩ := I.tuple hq
    obtain ⟨f0, f1, f2, f3, f4, f5⟩ := hf it (by simp)
    have hl := rv.length
    exact wpAny_pyNext_tuple_end (I.ok.hd hc) st (show s.heap.IsTuple a its.toArray from p) (by simp; omega) fun h' eb => ⟨rfl, I.turned (t' := s.toks) (fun b o hb e => eb b o hb e) f0 f1 f3 f4 f5⟩
  self := fun _ _ _ _ _ st h => wpAny_pyIter_tupleiter st h
theorem turn_range {P : Program} {w : World} {K : PySem.W.Frag} {tg : Expr} (it : Addr) (lo : Int) (n : Nat) : Turn P w K tg (Itr lo n) [it] it (fun i h => IsRangeIter h it (lo + (i : Nat) * 1) ((n : Int) - (i : Nat)) 1) where
  mem := by simp
  obj := fun i h st b hb => by
    have e : b = it := by simpa using hb
    subst e
    exact ⟨_, st, fun v z => by
      have z' : Data.fields _ = Data.cell v := z
      cases z'⟩
  keep := fun i h h' st k => k it (by simp) _ st
  item := by
    intro X hP hw hK hc i pins s σ H E I hf st hg
    subst hP hw hK
    obtain ⟨f0, f1, f2, f3, f4, f5⟩ := hf it (by simp)
    have W := Walks.range (prog := X.prog) (w := X.w) (I.ok.hd hc) it lo 1 n
    refine W.item i s _ _ hg st fun v h' tk hv st' kk => ?_
    obtain ⟨t, rfl⟩ := hv
    have I1 : Inv X pins σ H { s with heap := h', toks := tk } := I.turned (fun b o hb e => kk b o (by simpa using hb) e) f0 f1 f3 f4 f5
    refine ⟨_, rfl, go_of (s := { s with heap := h', toks := tk }) (n := "range_iterator") st' rfl rfl (by decide) ⟨.int (lo + i), H, I1, ⟨t, ?_⟩, ⟨rfl, rfl⟩, st', fun b hb => (hf b hb).1⟩⟩
    rw [Int.mul_one]
  done := by
    intro X hP hw hK hc i pins s σ H E I hf st hg
    subst hP hw hK
    obtain ⟨f0, f1, f2, f3, f4, f5⟩ := hf it (by simp)
    exact wpAny_pyNext_range_end (I.ok.hd hc) st (by have : n ≤ i := hg; omega) fun h' eb => ⟨rfl, I.turned (t' := s.toks) (fun b o hb e => eb b o hb e) f0 f1 f3 f4 f5⟩
  self := fun _ _ _ _ _ st h => wpAny_pyIter_rangeiter st h
end L2
namespace L2
open PySem PySem.Spec PyProof.Rows
section
variable {X : Cx} {tg : Expr}
theorem range_it {pins : List (Addr × Obj)} {σ : St} {H : Hp} {s : Shared} {R : It → Hp → Prop} {E : Value → Shared → Prop} {lo hi : Int} {t u v : Tok} {tk : Nat} (I : Inv X pins σ H s) (h1 : -(2 ^ 62) ≤ lo) (h2 : lo < 2 ^ 62) (h3 : -(2 ^ 62) ≤ hi) (h4 : hi < 2 ^ 62)
    (q : R (Itr lo (hi - lo).toNat) H) : wpAny (model X.prog X.w) X.A (pyIter (.ref s.heap.objs.size)) (PIE X pins σ tg R) E { s with heap := s.heap.push { cls := .type "range", data := .fields #[.int lo t, .int hi u, .int 1 v] }, toks := tk } := by
  refine wpAny_pyIter_range (IsRange.new ..) (small_one h1 h2 h3 h4) ?_
  have I1 : Inv X pins σ H { s with heap := s.heap.push { cls := .type "range", data := .fields #[.int lo t, .int hi u, .int 1 v] }, toks := tk } := I.kept fun b o e => Heap.get?_push_of_some _ e
  refine ⟨(s.heap.push { cls := .type "range", data := .fields #[.int lo t, .int hi u, .int 1 v] }).objs.size, [(s.heap.push { cls := .type "range", data := .fields #[.int lo t, .int hi u, .int 1 v] }).objs.size], _, _, H, rfl,
    I1.kept (t' := tk) fun b o e => Heap.get?_push_of_some _ e, turn_range _ lo (hi - lo).toNat, ?_, fun b hb => ?_, q⟩
  · have e1 : lo + ((0 : Nat) : Int) * 1 = lo := by simp
    have e2 : (((hi - lo).toNat : Nat) : Int) - ((0 : Nat) : Int) = Builtin.Range.rangeSize lo hi 1 := by rw [rangeSize_one]; split <;> omega
    show IsRangeIter _ _ (lo + ((0 : Nat) : Int) * 1) ((((hi - lo).toNat : Nat) : Int) - ((0 : Nat) : Int)) 1
    rw [e1, e2]
    exact Heap.get?_push_size _ rfl
  · have e : b = (s.heap.push { cls := .type "range", data := .fields #[.int lo t, .int hi u, .int 1 v] }).objs.size := by simpa using hb
    subst e
    exact I1.fpOk (Nat.le_refl _) (I1.hok.fresh (Nat.le_refl _))
def iRng1 (ta : TA) : TI := fun σ H R => ta σ H fun vs H1 => ∃ j : Int, vs = [.int j] ∧ -(2 ^ 62) ≤ j ∧ j < 2 ^ 62 ∧ R (Itr 0 j.toNat) H1
def iRng2 (ta : TA) : TI := fun σ H R => ta σ H fun vs H1 => ∃ i j : Int, vs = [.int i, .int j] ∧ (-(2 ^ 62) ≤ i ∧ i < 2 ^ 62 ∧ -(2 ^ 62) ≤ j ∧ j < 2 ^ 62) ∧ R (Itr i (j - i).toNat) H1
theorem pi_range1 {a : Expr} {ta : TA} {p pos : Pos} (hg : Gl X "range") (hm : X.mg "range" = none) (ha : PA X [a] ta) (hs : starEach [a] X.env = [(false, eval a X.env)] := by rfl) : PI X tg (.Call (.Name "range" p) [a] [] pos) (iRng1 ta) := by
  intro pins s σ H R I h
  refine Call_ (ld_blt I hg hm boot_range (PyProof.Rows.callWith_type1 (thn (ha pos pins s σ H _ I h) fun us s1 ⟨vs, H1, I1, r1, q1⟩ => ?_) hs rfl))
  obtain ⟨j, e, q1, q2, q⟩ := q1
  subst e
  cases r1 with
  | cons r rr =>
    cases rr
    obtain ⟨t, rfl⟩ := r
    exact call_range_1 (range_it I1 (by omega) (by omega) q1 q2 (by simpa using q))
theorem pi_range2 {a b : Expr} {ta : TA} {p pos : Pos} (hg : Gl X "range") (hm : X.mg "range" = none) (ha : PA X [a, b] ta) (hs : starEach [a, b] X.env = [(false, eval a X.env), (false, eval b X.env)] := by rfl) (hs2 : starEach [b] X.env = [(false, eval b X.env)] := by rfl) :
    PI X tg (.Call (.Name "range" p) [a, b] [] pos) (iRng2 ta) := by
  intro pins s σ H R I h
  refine Call_ (ld_blt I hg hm boot_range (PyProof.Rows.callWith_type1 (thn (ha pos pins s σ H _ I h) fun us s1 ⟨vs, H1, I1, r1, q1⟩ => ?_) (by rw [hs, hs2]) (by rw [hs2]; rfl)))
  obtain ⟨i, j, e, ⟨q1, q2, q3, q4⟩, q⟩ := q1
  subst e
  cases r1 with
  | cons r rr =>
    cases rr with
    | cons r' rr =>
      cases rr
      obtain ⟨t, rfl⟩ := r
      obtain ⟨t', rfl⟩ := r'
      exact call_range_2 (range_it I1 q1 q2 q3 q4 q)
def tFor (wi : TI) (g : TG) (tb : TS) : TS := fun D σ H => wi σ H fun J H1 => ∃ W : Nat → Nat → St → Hp → Prop, (∃ m, W 0 m σ H1) ∧ ∀ i m σ H, W i m σ H →
  (J.stop i H ∧ D.nx σ H) ∨ (J.go i H ∧ ∃ N : St → Hp → Prop, (∀ σ' H', N σ' H' → ∃ m', m' < m ∧ W (i + 1) m' σ' H') ∧ ∀ x H', J.yld i H x H' → g x σ H' fun σ2 H2 => tb { D with nx := N, ct := N, bk := D.nx } σ2 H2)
def pinsAt (fp : List Addr) (h : Heap) : List (Addr × Obj) := fp.filterMap fun b => (h.get? b).map fun o => (b, o)
theorem mem_pinsAt {fp : List Addr} {h : Heap} {b : Addr} {o : Obj} (hb : b ∈ fp) (e : h.get? b = some o) : (b, o) ∈ pinsAt fp h := List.mem_filterMap.mpr ⟨b, hb, by rw [e]; rfl⟩
theorem of_pinsAt {fp : List Addr} {h : Heap} {p : Addr × Obj} (hp : p ∈ pinsAt fp h) : p.1 ∈ fp ∧ h.get? p.1 = some p.2 := by
  obtain ⟨b, hb, e⟩ := List.mem_filterMap.mp hp
  cases q : h.get? b with
  | none => rw [q] at e; cases e
  | some o =>
    rw [q] at e
    have e' : (b, o) = p := Option.some.inj e
    subst e'
    exact ⟨hb, q⟩
theorem Inv.pinned {pins : List (Addr × Obj)} {σ : St} {H : Hp} {s : Shared} {fp : List Addr} (I : Inv X pins σ H s) (hf : ∀ b ∈ fp, FpOk X pins H b) (ho : ∀ b ∈ fp, ∃ o, s.heap.get? b = some o ∧ ∀ v, o.data ≠ .cell v) : Inv X (pins ++ pinsAt fp s.heap) σ H s :=
  I.pins_of fun p hp => (List.mem_append.mp hp).elim (fun z => I.pin p (List.mem_append_right _ z)) fun z => by
    obtain ⟨hb, e⟩ := of_pinsAt z
    obtain ⟨f0, f1, f2, _⟩ := hf p.1 hb
    obtain ⟨o, e', d⟩ := ho p.1 hb
    rw [e] at e'; cases e'
    exact ⟨e, f0, f1, f2, d⟩
theorem Inv.unpinned {pins pl : List (Addr × Obj)} {σ : St} {H : Hp} {s : Shared} (I : Inv X (pins ++ pl) σ H s) : Inv X pins σ H s := I.pins_of fun p hp => I.pin p (List.mem_append_right _ (List.mem_append_left _ hp))
theorem ps_for {iter : Expr} {body : List Stmt} {wi : TI} {g : TG} {tb : TS} {pos : Pos} (hp : PassesOwn (model X.prog X.w) X.A X.env X.xe) (hc : X.calm = true) (hi : PI X tg iter wi) (hg : PG X tg g) (hb : PSs X body tb)
    (hs : ∀ x, foldedSetIterable iter X.env x = pure x := by intro _; rfl) : PS X (.For tg iter body [] pos) (tFor wi g tb) := by
  intro pins s σ H D I h
  refine wpAny_For (thn (hi pins s σ H _ I h) fun v s1 h1 => thn h1 fun itv s2 h2 => ?_) hs
  obtain ⟨it, fp, tn, J, H2, e, I2, T, st2, f2, W, ⟨m0, w0⟩, turn⟩ := h2
  subst e
  have stat : ∀ {H' : Hp}, (∀ b ∈ fp, H' b = none) → ∀ b ∈ fp, FpOk X pins H' b := fun hn b hb => ⟨hn b hb, (f2 b hb).2⟩
  refine codeAny_forLoop_any (fun n s' => ∃ i σ' H', Inv X pins σ' H' s' ∧ tn i s'.heap ∧ (∀ b ∈ fp, H' b = none) ∧ W i n σ' H') ?_ m0 ⟨0, σ, H2, I2, st2, fun b hb => (f2 b hb).1, w0⟩
  rintro n s3 ⟨i, σ3, H3, I3, st3, fr3, w3⟩
  rcases turn i n σ3 H3 w3 with ⟨stop, qn⟩ | ⟨go, N, hN, step⟩
  · refine wpAny_passesOwn hp (thn (T.done X rfl rfl rfl hc i pins s3 σ3 H3 X.xe I3 (stat fr3) st3 stop) fun r s4 ⟨hr, I4⟩ => ?_)
    subst hr
    exact wpAny_execs_nil ⟨σ3, H3, I4, qn⟩
  · refine wpAny_passesOwn hp (thn (T.item X rfl rfl rfl hc i pins s3 σ3 H3 X.xe I3 (stat fr3) st3 go) fun r s4 ⟨u, hr, h4⟩ => ?_)
    subst hr
    refine wpAny_passesOwn hp (thn h4 fun _ s5 ⟨x, H5, I5, r5, y5, st5, fr5⟩ => ?_)
    have I5' := I5.pinned (stat fr5) (T.obj _ _ st5)
    refine wpAny_passesOwn hp (thn (hg _ s5 σ3 H5 x u _ I5' r5 (step x H5 y5)) fun _ s6 ⟨σ6, H6, I6, q6⟩ => ?_)
    refine wpAny_passesOwn hp (thn (hb _ s6 σ6 H6 _ I6 q6) fun f s7 q7 => ?_)
    have again : ∀ {σ7 : St} {H7 : Hp}, Inv X (pins ++ pinsAt fp s5.heap) σ7 H7 s7 → N σ7 H7 → ∃ m, m < n ∧ ∃ i σ' H', Inv X pins σ' H' s7 ∧ tn i s7.heap ∧ (∀ b ∈ fp, H' b = none) ∧ W i m σ' H' := fun {σ7 H7} I7 n7 => by
      obtain ⟨m', hm, w7⟩ := hN σ7 H7 n7
      refine ⟨m', hm, i + 1, σ7, H7, I7.unpinned, T.keep _ _ _ st5 fun b hb o e => (I7.pin (b, o) (List.mem_append_right _ (List.mem_append_right _ (mem_pinsAt hb e)))).1, fun b hb => ?_, w7⟩
      obtain ⟨o, e, d⟩ := T.obj _ _ st5 b hb
      exact (I7.pin (b, o) (List.mem_append_right _ (List.mem_append_right _ (mem_pinsAt hb e)))).2.1
    cases f with
    | next => obtain ⟨σ7, H7, I7, n7⟩ := q7; exact again I7 n7
    | cont => obtain ⟨σ7, H7, I7, n7⟩ := q7; exact again I7 n7
    | brk => obtain ⟨σ7, H7, I7, q7⟩ := q7; exact ⟨σ7, H7, I7.unpinned, q7⟩
    | ret v => obtain ⟨x7, σ7, H7, I7, r7, q7⟩ := q7; exact ⟨x7, σ7, H7, I7.unpinned, r7, q7⟩
end
theorem for_range {lo : Int} {n : Nat} {g : TG} {tb : TS} {D : Ends} {σ : St} {H : Hp} (Pv : Nat → St → Hp → Prop) (h0 : Pv 0 σ H)
    (hs : ∀ i σ H, i < n → Pv i σ H → g (.int (lo + i)) σ H fun σ2 H2 => tb { D with nx := Pv (i + 1), ct := Pv (i + 1), bk := D.nx } σ2 H2) (hd : ∀ σ H, Pv n σ H → D.nx σ H) :
    ∃ W : Nat → Nat → St → Hp → Prop, (∃ m, W 0 m σ H) ∧ ∀ i m σ H, W i m σ H →
      ((Itr lo n).stop i H ∧ D.nx σ H) ∨ ((Itr lo n).go i H ∧ ∃ N : St → Hp → Prop, (∀ σ' H', N σ' H' → ∃ m', m' < m ∧ W (i + 1) m' σ' H') ∧ ∀ x H', (Itr lo n).yld i H x H' → g x σ H' fun σ2 H2 => tb { D with nx := N, ct := N, bk := D.nx } σ2 H2) := by
  refine ⟨fun i m σ H => m = n - i ∧ i ≤ n ∧ Pv i σ H, ⟨n, by simp, Nat.zero_le _, h0⟩, ?_⟩
  rintro i m σ H ⟨rfl, hi, p⟩
  by_cases hlt : i < n
  · refine .inr ⟨hlt, Pv (i + 1), fun σ' H' p' => ⟨n - (i + 1), by omega, rfl, hlt, p'⟩, fun x H' y => ?_⟩
    obtain ⟨e, y⟩ := y
    subst e y
    exact hs i σ _ hlt p
  · have e : i = n := by omega
    subst e
    exact .inl ⟨Nat.le_refl _, hd σ H p⟩
end L2
namespace L2
open PySem PySem.Spec PyProof.Rows
abbrev R2 := V → V → Hp → VK → Prop
def OpR (X : Cx) (f : Value → Value → Sem Value) (r : R2) : Prop :=
  ∀ (pins : List (Addr × Obj)) (s : Shared) (σ : St) (H : Hp) (x y : V) (v u : Value) (Q : VK), Inv X pins σ H s → RelV x v → RelV y u → r x y H Q →
    wpAny (model X.prog X.w) X.A (f v u) (EP X pins σ Q) X.xe s
def UnR (X : Cx) (f : Value → Sem Value) (r : V → Hp → VK → Prop) : Prop :=
  ∀ (pins : List (Addr × Obj)) (s : Shared) (σ : St) (H : Hp) (x : V) (v : Value) (Q : VK), Inv X pins σ H s → RelV x v → r x H Q →
    wpAny (model X.prog X.w) X.A (f v) (EP X pins σ Q) X.xe s
def CallR (X : Cx) (f : Value) (r : List V → Hp → VK → Prop) : Prop :=
  ∀ (pins : List (Addr × Obj)) (s : Shared) (σ : St) (H : Hp) (xs : List V) (us : List Value) (Q : VK), Inv X pins σ H s → Vals xs us → r xs H Q →
    wpAny (model X.prog X.w) X.A (call f us) (EP X pins σ Q) X.xe s
def tOp (r : R2) (ta tb : TE) : TE := fun σ H Q => ta σ H fun x H1 => tb σ H1 fun y H2 => r x y H2 Q
def tUn (r : V → Hp → VK → Prop) (ta : TE) : TE := fun σ H Q => ta σ H fun x H1 => r x H1 Q
def rI (C : Int → Int → Prop) (g : Int → Int → V) : R2 := fun x y H Q => ∃ i j, x = .int i ∧ y = .int j ∧ C i j ∧ Q (g i j) H
def rI0 (g : Int → Int → V) : R2 := fun x y H Q => ∃ i j, x = .int i ∧ y = .int j ∧ Q (g i j) H
def rU (g : Int → V) : V → Hp → VK → Prop := fun x H Q => ∃ i, x = .int i ∧ Q (g i) H
section
variable {X : Cx} {a b c : Expr} {ta tb tc : TE} {pos : Pos}
theorem binT (ha : PE X a ta) (hb : PE X b tb) {pins : List (Addr × Obj)} {s : Shared} {σ : St} {H : Hp} {R : V → V → Hp → Prop} (I : Inv X pins σ H s)
    (h : ta σ H fun x H1 => tb σ H1 fun y H2 => R x y H2) {Q : Value → Shared → Prop} {f : Value → Value → Sem Value}
    (hf : ∀ v u s2 x y H2, Inv X pins σ H2 s2 → RelV x v → RelV y u → R x y H2 → wpAny (model X.prog X.w) X.A (f v u) Q X.xe s2) :
    wpAny (model X.prog X.w) X.A (eval a X.env) (fun v s₁ => wpAny (model X.prog X.w) X.A (eval b X.env) (fun u s₂ => wpAny (model X.prog X.w) X.A (f v u) Q X.xe s₂) X.xe s₁) X.xe s := by
  refine thn (ha pins s σ H _ I h) fun v s1 ⟨x, H1, I1, r1, q1⟩ => ?_
  refine thn (hb pins s1 σ H1 _ I1 q1) fun u s2 ⟨y, H2, I2, r2, q2⟩ => ?_
  exact hf v u s2 x y H2 I2 r1 r2 q2
theorem pe_op {op : Operator} {r : R2} (ho : OpR X (binaryOp op) r) (ha : PE X a ta) (hb : PE X b tb) : PE X (.BinOp a op b pos) (tOp r ta tb) := by
  intro pins s σ H Q I h
  exact wpAny_BinOp (binT ha hb I h fun v u s2 x y H2 I2 rx ry q => ho pins s2 σ H2 x y v u Q I2 rx ry q)
theorem pe_un {op : UnaryOp} {r : V → Hp → VK → Prop} (ho : UnR X (unaryOp op) r) (ha : PE X a ta) : PE X (.UnaryOp op a pos) (tUn r ta) := by
  intro pins s σ H Q I h
  exact UnaryOp_ (thn (ha pins s σ H _ I h) fun v s1 ⟨x, H1, I1, r1, q1⟩ => ho pins s1 σ H1 x v Q I1 r1 q1)
theorem opI {f : Value → Value → Sem Value} {C : Int → Int → Prop} {g : Int → Int → Int}
    (rule : ∀ (i j : Int) (t u : Tok) (s : Shared) (Q : Value → Shared → Prop) (E : Value → Shared → Prop), C i j → Q (.int (g i j) s.toks) { s with toks := s.toks + 1 } → wpAny (model X.prog X.w) X.A (f (.int i t) (.int j u)) Q E s) :
    OpR X f (rI C fun i j => .int (g i j)) := by
  intro pins s σ H x y v u Q I rx ry h
  obtain ⟨i, j, rfl, rfl, hc, q⟩ := h
  obtain ⟨t, rfl⟩ := rx
  obtain ⟨t', rfl⟩ := ry
  exact rule i j t t' s _ _ hc ⟨.int (g i j), H, I.tok _, ⟨_, rfl⟩, q⟩
theorem opI0 {f : Value → Value → Sem Value} {g : Int → Int → Int}
    (rule : ∀ (i j : Int) (t u : Tok) (s : Shared) (Q : Value → Shared → Prop) (E : Value → Shared → Prop), Q (.int (g i j) s.toks) { s with toks := s.toks + 1 } → wpAny (model X.prog X.w) X.A (f (.int i t) (.int j u)) Q E s) :
    OpR X f (rI0 fun i j => .int (g i j)) := by
  intro pins s σ H x y v u Q I rx ry h
  obtain ⟨i, j, rfl, rfl, q⟩ := h
  obtain ⟨t, rfl⟩ := rx
  obtain ⟨t', rfl⟩ := ry
  exact rule i j t t' s _ _ ⟨.int (g i j), H, I.tok _, ⟨_, rfl⟩, q⟩
theorem opB0 {f : Value → Value → Sem Value} {g : Int → Int → Bool}
    (rule : ∀ (i j : Int) (t u : Tok) (s : Shared) (Q : Value → Shared → Prop) (E : Value → Shared → Prop), Q (.bool (g i j)) s → wpAny (model X.prog X.w) X.A (f (.int i t) (.int j u)) Q E s) :
    OpR X f (rI0 fun i j => .bl (g i j)) := by
  intro pins s σ H x y v u Q I rx ry h
  obtain ⟨i, j, rfl, rfl, q⟩ := h
  obtain ⟨t, rfl⟩ := rx
  obtain ⟨t', rfl⟩ := ry
  exact rule i j t t' s _ _ ⟨.bl (g i j), H, I, rfl, q⟩
def CDiv (i j : Int) : Prop := 0 < j ∧ j < 1073741824
def CPow (i j : Int) : Prop := 0 ≤ j ∧ j ≤ 1000000 ∧ i.natAbs < 2 ^ 64
def CMul (i j : Int) : Prop := (-(2 ^ 64) < i ∧ i < 2 ^ 64) ∨ (-(2 ^ 64) < j ∧ j < 2 ^ 64)
theorem CMul.ok {i j : Int} (h : CMul i j) : IntMulOk i j := by
  rcases h with ⟨h1, h2⟩ | ⟨h1, h2⟩
  · exact .of_left (intBits_le_64 h1 h2)
  · exact .of_right (intBits_le_64 h1 h2)
theorem two_pow_nn (k : Nat) : (0 : Int) ≤ 2 ^ k := by
  rw [two_pow_cast]
  exact Int.natCast_nonneg _
theorem op_add : OpR X (binaryOp .Add) (rI0 fun i j => .int (i + j)) := opI0 fun _ _ _ _ _ _ _ q => add_int q
theorem op_sub : OpR X (binaryOp .Sub) (rI0 fun i j => .int (i - j)) := opI0 fun _ _ _ _ _ _ _ q => sub_int q
theorem op_mul : OpR X (binaryOp .Mult) (rI CMul fun i j => .int (i * j)) := opI fun _ _ _ _ _ _ _ hc q => mul_int q hc.ok
theorem op_fdiv : OpR X (binaryOp .FloorDiv) (rI CDiv fun i j => .int (i / j)) := opI fun i j _ _ _ _ _ hc q => by
  have h1 : (0 : Int) < j := hc.1
  have h2 : j < 1073741824 := hc.2
  exact floordiv_int (by omega) (by rw [Int.fdiv_eq_ediv_of_nonneg i (by omega)]; exact q) (.inl (PyProof.noPylong_small (by omega)))
theorem op_mod : OpR X (binaryOp .Mod) (rI (fun _ j => 0 < j) fun i j => .int (i % j)) := opI fun i j _ _ _ _ _ hc q => by
  have h1 : (0 : Int) < j := hc
  exact mod_int' (by omega) (by rw [Int.fmod_eq_emod_of_nonneg i (by omega)]; exact q)
theorem op_pow : OpR X (binaryOp .Pow) (rI CPow fun i j => .int (i ^ j.toNat)) := opI fun _ _ _ _ _ _ _ hc q => pow_int_small hc.1 hc.2.1 hc.2.2 q
theorem op_shl : OpR X (binaryOp .LShift) (rI CPow fun i j => .int (i * 2 ^ j.toNat)) := opI fun _ _ _ _ _ _ _ hc q => lshift_int_small hc.1 hc.2.1 hc.2.2 q
theorem op_shr : OpR X (binaryOp .RShift) (rI (fun _ j => 0 ≤ j) fun i j => .int (i / 2 ^ j.toNat)) := opI fun i j _ _ _ _ _ hc q =>
  rshift_int hc (by rw [Int.fdiv_eq_ediv_of_nonneg i (two_pow_nn _)]; exact q)
theorem op_and : OpR X (binaryOp .BitAnd) (rI0 fun i j => .int (Builtin.bitAnd i j)) := opI0 fun _ _ _ _ _ _ _ q => and_int q
theorem unI {f : Value → Sem Value} {g : Int → Int}
    (rule : ∀ (i : Int) (t : Tok) (s : Shared) (Q : Value → Shared → Prop) (E : Value → Shared → Prop), Q (.int (g i) s.toks) { s with toks := s.toks + 1 } → wpAny (model X.prog X.w) X.A (f (.int i t)) Q E s) :
    UnR X f (rU fun i => .int (g i)) := by
  intro pins s σ H x v Q I rx h
  obtain ⟨i, rfl, q⟩ := h
  obtain ⟨t, rfl⟩ := rx
  exact rule i t s _ _ ⟨.int (g i), H, I.tok _, ⟨_, rfl⟩, q⟩
theorem un_neg : UnR X (unaryOp .USub) (rU fun i => .int (-i)) := unI fun _ _ _ _ _ q => neg_int q
end
def scal : V → V → Bool
  | .non, .non => true | .non, .int _ => true | .int _, .non => true | .non, .bl _ => true | .bl _, .non => true | .non, .str _ => true | .str _, .non => true
  | .int _, .int _ => true | .bl _, .bl _ => true | .str _, .str _ => true | .byt _, .byt _ => true
  | .int _, .str _ => true | .str _, .int _ => true | .bl _, .str _ => true | .str _, .bl _ => true
  | _, _ => false
def rEq : R2 := fun x y H Q => scal x y = true ∧ Q (.bl (decide (x = y))) H
def rNe : R2 := fun x y H Q => scal x y = true ∧ Q (.bl (!decide (x = y))) H
theorem dec_int {i j : Int} : decide (V.int i = V.int j) = (i == j) := by
  rw [Bool.eq_iff_iff]
  simp
theorem dec_bl {i j : Bool} : decide (V.bl i = V.bl j) = (i == j) := by
  rw [Bool.eq_iff_iff]
  simp
theorem dec_str {i j : Str} : decide (V.str i = V.str j) = (i == j) := by
  rw [Bool.eq_iff_iff]
  simp
theorem dec_byt {i j : Array UInt8} : decide (V.byt i = V.byt j) = (i.toList == j.toList) := by
  rw [Bool.eq_iff_iff]
  cases i
  cases j
  simp
section
variable {X : Cx} {a b c : Expr} {ta tb tc : TE} {pos : Pos}
theorem fin_bl {pins : List (Addr × Obj)} {σ : St} {H : Hp} {s : Shared} {Q : VK} {k k' : Bool} (I : Inv X pins σ H s) (q : Q (.bl k) H) (e : k = k') : EP X pins σ Q (.bool k') s := by
  subst e
  exact ⟨.bl k, H, I, rfl, q⟩
theorem op_eq : OpR X (compareOp .Eq) rEq := by
  intro pins s σ H x y v u Q I rx ry h
  obtain ⟨hs, q⟩ := h
  cases x with
  | non =>
    cases rx
    cases y with
    | non => cases ry; exact PySem.EqNone.eq_none_none (fin_bl I q (by simp))
    | bl j => cases ry; exact PySem.EqNone.eq_none_bool (fin_bl I q (by simp))
    | int j => obtain ⟨t', rfl⟩ := ry; exact PySem.EqNone.eq_none_int (fin_bl I q (by simp))
    | str j => obtain ⟨t', rfl⟩ := ry; exact PySem.EqNone.eq_none_str (fin_bl I q (by simp))
    | _ => exact absurd (show false = true from hs) Bool.false_ne_true
  | bl i =>
    cases rx
    cases y with
    | non => cases ry; exact PySem.EqNone.eq_bool_none (fin_bl I q (by simp))
    | bl j => cases ry; exact eq_bool (fin_bl I q dec_bl)
    | str j => obtain ⟨t', rfl⟩ := ry; exact PySem.EqMixed.eq_bool_str (fin_bl I q (by simp))
    | _ => exact absurd (show false = true from hs) Bool.false_ne_true
  | int i =>
    obtain ⟨t, rfl⟩ := rx
    cases y with
    | non => cases ry; exact PySem.EqNone.eq_int_none (fin_bl I q (by simp))
    | int j => obtain ⟨t', rfl⟩ := ry; exact eq_int (fin_bl I q dec_int)
    | str j => obtain ⟨t', rfl⟩ := ry; exact PySem.EqMixed.eq_int_str (fin_bl I q (by simp))
    | _ => exact absurd (show false = true from hs) Bool.false_ne_true
  | str i =>
    obtain ⟨t, rfl⟩ := rx
    cases y with
    | non => cases ry; exact PySem.EqNone.eq_str_none (fin_bl I q (by simp))
    | bl j => cases ry; exact PySem.EqMixed.eq_str_bool (fin_bl I q (by simp))
    | int j => obtain ⟨t', rfl⟩ := ry; exact PySem.EqMixed.eq_str_int (fin_bl I q (by simp))
    | str j => obtain ⟨t', rfl⟩ := ry; exact eq_str (fin_bl I q dec_str)
    | _ => exact absurd (show false = true from hs) Bool.false_ne_true
  | byt i =>
    obtain ⟨t, rfl⟩ := rx
    cases y with
    | byt j => obtain ⟨t', rfl⟩ := ry; exact PySem.W.eq_bytes (fin_bl I q dec_byt)
    | _ => exact absurd (show false = true from hs) Bool.false_ne_true
  | _ => cases y <;> exact absurd (show false = true from hs) Bool.false_ne_true
theorem op_ne : OpR X (compareOp .NotEq) rNe := by
  intro pins s σ H x y v u Q I rx ry h
  obtain ⟨hs, q⟩ := h
  cases x with
  | non =>
    cases rx
    cases y with
    | non => cases ry; exact PySem.EqNone.ne_none_none (fin_bl I q (by simp))
    | bl j => cases ry; exact PySem.EqNone.ne_none_bool (fin_bl I q (by simp))
    | int j => obtain ⟨t', rfl⟩ := ry; exact PySem.EqNone.ne_none_int (fin_bl I q (by simp))
    | str j => obtain ⟨t', rfl⟩ := ry; exact PySem.EqNone.ne_none_str (fin_bl I q (by simp))
    | _ => exact absurd (show false = true from hs) Bool.false_ne_true
  | bl i =>
    cases rx
    cases y with
    | non => cases ry; exact PySem.EqNone.ne_bool_none (fin_bl I q (by simp))
    | bl j => cases ry; exact ne_bool (fin_bl I q (congrArg not dec_bl))
    | str j => obtain ⟨t', rfl⟩ := ry; exact PySem.EqMixed.ne_bool_str (fin_bl I q (by simp))
    | _ => exact absurd (show false = true from hs) Bool.false_ne_true
  | int i =>
    obtain ⟨t, rfl⟩ := rx
    cases y with
    | non => cases ry; exact PySem.EqNone.ne_int_none (fin_bl I q (by simp))
    | int j => obtain ⟨t', rfl⟩ := ry; exact ne_int (fin_bl I q (congrArg not dec_int))
    | str j => obtain ⟨t', rfl⟩ := ry; exact PySem.EqMixed.ne_int_str (fin_bl I q (by simp))
    | _ => exact absurd (show false = true from hs) Bool.false_ne_true
  | str i =>
    obtain ⟨t, rfl⟩ := rx
    cases y with
    | non => cases ry; exact PySem.EqNone.ne_str_none (fin_bl I q (by simp))
    | bl j => cases ry; exact PySem.EqMixed.ne_str_bool (fin_bl I q (by simp))
    | int j => obtain ⟨t', rfl⟩ := ry; exact PySem.EqMixed.ne_str_int (fin_bl I q (by simp))
    | str j => obtain ⟨t', rfl⟩ := ry; exact ne_str (fin_bl I q (congrArg not dec_str))
    | _ => exact absurd (show false = true from hs) Bool.false_ne_true
  | byt i =>
    obtain ⟨t, rfl⟩ := rx
    cases y with
    | byt j => obtain ⟨t', rfl⟩ := ry; exact PySem.W.ne_bytes (fin_bl I q (congrArg not dec_byt))
    | _ => exact absurd (show false = true from hs) Bool.false_ne_true
  | _ => cases y <;> exact absurd (show false = true from hs) Bool.false_ne_true
theorem op_lt : OpR X (compareOp .Lt) (rI0 fun i j => .bl (decide (i < j))) := opB0 fun _ _ _ _ _ _ _ q => lt_int q
theorem op_le : OpR X (compareOp .LtE) (rI0 fun i j => .bl (decide (i ≤ j))) := opB0 fun _ _ _ _ _ _ _ q => le_int q
theorem op_gt : OpR X (compareOp .Gt) (rI0 fun i j => .bl (decide (j < i))) := opB0 fun _ _ _ _ _ _ _ q => gt_int q
theorem op_ge : OpR X (compareOp .GtE) (rI0 fun i j => .bl (decide (j ≤ i))) := opB0 fun _ _ _ _ _ _ _ q => ge_int q
theorem nomark (b : Expr) {op : CmpOp} (h : op ≠ .In := by decide) (h2 : op ≠ .NotIn := by decide) : behindInMarks op b = false := by
  have e1 : (op == CmpOp.In) = false := by cases op <;> first | rfl | exact absurd rfl h
  have e2 : (op == CmpOp.NotIn) = false := by cases op <;> first | rfl | exact absurd rfl h2
  cases b <;> simp [behindInMarks, e1, e2]
theorem pe_cmpR {op : CmpOp} {r : R2} (ho : OpR X (compareOp op) r) (ha : PE X a ta) (hb : PE X b tb) (hm : behindInMarks op b = false) : PE X (.Compare a [op] [b] pos) (tOp r ta tb) := by
  intro pins s σ H Q I h
  exact wpAny_Compare1 (binT ha hb I h fun v u s2 x y H2 I2 rx ry q => ho pins s2 σ H2 x y v u Q I2 rx ry q) hm
def tTest (t : TE) : TT := fun σ H Q => t σ H fun x H' => ∃ k, x = .bl k ∧ Q k H'
theorem pt_cmpR {op : CmpOp} {r : R2} (ho : OpR X (compareOp op) r) (ha : PE X a ta) (hb : PE X b tb) (hm : behindInMarks op b = false) : PT X (.Compare a [op] [b] pos) (tTest (tOp r ta tb)) := by
  intro pins s σ H Q I h
  refine wpAny_isTrue_Compare1 (thn (ha pins s σ H _ I h) fun v s1 ⟨x, H1, I1, r1, q1⟩ => thn (hb pins s1 σ H1 _ I1 q1) fun u s2 ⟨y, H2, I2, r2, q2⟩ =>
    thn (ho pins s2 σ H2 x y v u _ I2 r1 r2 q2) fun c s3 ⟨z, H3, I3, r3, k, e, q3⟩ => ?_) hm
  subst e
  cases r3
  exact wpAny_truthy_bool ⟨H3, I3, q3⟩
def tChain (r r' : R2) (ta tb tc : TE) : TE := fun σ H Q => ta σ H fun x H1 => tb σ H1 fun y H2 => r x y H2 fun z H3 => ∃ k, z = .bl k ∧
  (if k = true then tc σ H3 fun w' H4 => r' y w' H4 Q else Q (.bl false) H3)
theorem pe_chain {op op' : CmpOp} {r r' : R2} (ho : OpR X (compareOp op) r) (ho' : OpR X (compareOp op') r') (ha : PE X a ta) (hb : PE X b tb) (hc : PE X c tc)
    (hm : lastMarks [op, op'] [b, c] = false := by with_unfolding_all rfl) : PE X (.Compare a [op, op'] [b, c] pos) (tChain r r' ta tb tc) := by
  intro pins s σ H Q I h
  refine Compare_chain (thn (ha pins s σ H _ I h) fun v s1 ⟨x, H1, I1, r1, q1⟩ => chain_link (thn (hb pins s1 σ H1 _ I1 q1) fun u s2 ⟨y, H2, I2, r2, q2⟩ =>
    thn (ho pins s2 σ H2 x y v u _ I2 r1 r2 q2) fun d s3 ⟨z, H3, I3, r3, k, e, q3⟩ => ?_)) hm
  subst e
  cases r3
  refine wpAny_truthy_bool ?_
  cases k with
  | false => exact ite_ff ⟨.bl false, H3, I3, rfl, q3⟩
  | true => exact ite_tt (chain_last (thn (hc pins s3 σ H3 _ I3 q3) fun w' s4 ⟨z', H4, I4, r4, q4⟩ => ho' pins s4 σ H4 y z' u w' Q I4 r2 r4 q4))
theorem pt_chain {op op' : CmpOp} {r r' : R2} (ho : OpR X (compareOp op) r) (ho' : OpR X (compareOp op') r') (ha : PE X a ta) (hb : PE X b tb) (hc : PE X c tc)
    (hm : lastMarks [op, op'] [b, c] = false := by with_unfolding_all rfl) : PT X (.Compare a [op, op'] [b, c] pos) (tTest (tChain r r' ta tb tc)) := by
  intro pins s σ H Q I h
  refine isTrue_chain (thn (ha pins s σ H _ I h) fun v s1 ⟨x, H1, I1, r1, q1⟩ => test_link (thn (hb pins s1 σ H1 _ I1 q1) fun u s2 ⟨y, H2, I2, r2, q2⟩ =>
    thn (ho pins s2 σ H2 x y v u _ I2 r1 r2 q2) fun d s3 ⟨z, H3, I3, r3, k, e, q3⟩ => ?_)) hm
  subst e
  cases r3
  refine wpAny_truthy_bool ?_
  cases k with
  | false =>
    obtain ⟨k', e', q'⟩ := q3
    cases e'
    exact ite_ff ⟨H3, I3, q'⟩
  | true =>
    refine ite_tt (test_last (thn (hc pins s3 σ H3 _ I3 q3) fun w' s4 ⟨z', H4, I4, r4, q4⟩ => thn (ho' pins s4 σ H4 y z' u w' _ I4 r2 r4 q4) fun d' s5 ⟨z2, H5, I5, r5, k2, e2, q5⟩ => ?_))
    subst e2
    cases r5
    exact wpAny_truthy_bool ⟨H5, I5, q5⟩
theorem line63 : (sizeLine : Nat) < 2 ^ 63 := by rw [sizeLine_eq]; decide
theorem vals1 {x : V} {us : List Value} (r : Vals [x] us) : ∃ u, us = [u] ∧ RelV x u := by
  cases r with
  | cons r1 r2 => cases r2; exact ⟨_, rfl, r1⟩
theorem vals2 {x y : V} {us : List Value} (r : Vals [x, y] us) : ∃ u w', us = [u, w'] ∧ RelV x u ∧ RelV y w' := by
  cases r with
  | cons r1 r2 =>
    cases r2 with
    | cons r3 r4 => cases r4; exact ⟨_, _, rfl, r1, r3⟩
theorem call_abs : CallR X (.builtin "abs") (fun xs H Q => ∃ i, xs = [.int i] ∧ Q (.int (if i < 0 then -i else i)) H) := by
  intro pins s σ H xs us Q I r h
  obtain ⟨i, rfl, q⟩ := h
  obtain ⟨u, rfl, t, rfl⟩ := vals1 r
  exact call_abs_int fun u tk => ⟨.int (if i < 0 then -i else i), H, I.tok _, ⟨_, rfl⟩, q⟩
theorem call_min2 (hc : X.calm = true) : CallR X (.builtin "min") (fun xs H Q => ∃ i j, xs = [.int i, .int j] ∧ Q (.int (if j < i then j else i)) H) := by
  intro pins s σ H xs us Q I r h
  obtain ⟨i, j, rfl, q⟩ := h
  obtain ⟨u, w', rfl, ⟨t, rfl⟩, ⟨t', rfl⟩⟩ := vals2 r
  refine min_two_ints (I.ok.hd hc) fun h' tk k => ⟨_, H, I.kept k, ?_, q⟩
  by_cases hj : j < i
  · rw [if_pos hj, if_pos hj]; exact ⟨_, rfl⟩
  · rw [if_neg hj, if_neg hj]; exact ⟨_, rfl⟩
theorem call_int1 : CallR X (.type "int") (fun xs H Q => (∃ i, xs = [.int i] ∧ Q (.int i) H) ∨ ∃ k, xs = [.bl k] ∧ Q (.int (if k then 1 else 0)) H) := by
  intro pins s σ H xs us Q I r h
  rcases h with ⟨i, rfl, q⟩ | ⟨k, rfl, q⟩
  · obtain ⟨u, rfl, t, rfl⟩ := vals1 r
    exact call_int_int ⟨.int i, H, I, ⟨_, rfl⟩, q⟩
  · obtain ⟨u, rfl, r1⟩ := vals1 r
    cases r1
    exact call_int_bool ⟨.int (if k then 1 else 0), H, I.tok _, ⟨_, rfl⟩, q⟩
end
end L2
namespace L2
open PySem PySem.Spec PyProof.Rows
structure ObjM (h : Heap) (x dx C : Addr) (mA : Str → Option Value) : Prop where
  obj : h.get? x = some (PySem.W.instObj C dx)
  ns : h.Ns1 dx mA
  ne : dx ≠ x
theorem lookIn_ns {h : Heap} {dx : Addr} {mA : Str → Option Value} (n : h.Ns1 dx mA) : ∃ od, h.get? dx = some od ∧ ∀ name, PySem.W.lookIn name od = some (mA name) := by
  obtain ⟨o, es, ep, ho, hd, hk, _, hm⟩ := n
  refine ⟨o, ho, fun name => ?_⟩
  have e := hm name
  unfold nsFind findBy at e
  rw [← Array.find?_toList] at e
  unfold PySem.W.lookIn
  rw [hd]
  dsimp only
  split
  · rename_i y q
    rw [q] at e
    exact congrArg some e
  · rename_i q
    rw [q] at e
    have a : es.toList.any (·.refKey) = false := by
      rw [List.any_eq_false]
      intro y hy
      obtain ⟨z, t, hkey⟩ := hk y (Array.mem_toList_iff.mp hy)
      simp [DictEntry.refKey, hkey]
    have a' : ¬ es.toList.any (·.refKey) = true := by rw [a]; exact Bool.false_ne_true
    rw [if_neg a']
    exact congrArg some e
theorem ObjM.look {h : Heap} {x dx C : Addr} {mA : Str → Option Value} (I : ObjM h x dx C mA) : ∃ od, PySem.W.InstAt h x (PySem.W.instObj C dx) C (some od) ∧ ∀ name, PySem.W.lookIn name od = some (mA name) :=
  let ⟨od, ho, hl⟩ := lookIn_ns I.ns
  ⟨od, ⟨I.obj, rfl, rfl, ho⟩, hl⟩
section
variable {prog : Program} {w : World} {A : Around} {E : Value → Shared → Prop} {s : Shared} {K : PySem.W.Frag} {x dx C f : Addr} {mA : Str → Option Value} {name : Str} {v : Value}
end
section
variable {P : Program} {w : World} {H H' : Hp} {h h' : Heap} {a C dx : Addr} {fs fs' : List (Str × V)}
theorem ins_get (hok : HOk P w H h) (e : H a = some (.ins C dx fs)) : ∃ mA, ObjM h a dx C mA ∧ (∀ f, RelO (fs.lookup f) (mA f)) ∧ PySem.Within mA (fs.map (·.1)) ∧ fs.length ≤ 1000 ∧ H dx = some (.own a) := by
  obtain ⟨d, z, ne, ob, mA, n, r, q⟩ := (show ObjOk P w H h a (.ins C dx fs) from hok a _ e)
  exact ⟨mA, ⟨ob, n, ne⟩, r, q, z, d⟩
end
structure Cls (K : PySem.W.Frag) (C : Addr) : Prop where
  pg : PySem.W.plainGet K C Str.empty = true
  hd : PySem.W.hasDictIn K C = true
  po : PySem.W.plainOver K C = true
  sa : PySem.W.findIn K (.ref C) "__setattr__" = some (some (.builtin "object.__setattr__"))
theorem Cls.get {K : PySem.W.Frag} {C : Addr} (c : Cls K C) (f : Str) : PySem.W.plainGet K C f = true := c.pg
structure Con (K : PySem.W.Frag) (C : Addr) (f : Str) (v : V) (u : Value) : Prop where
  at_ : PySem.W.findIn K (.ref C) f = some (some u)
  rel : RelV v u
  get : PySem.W.specialIn K u "__get__" = some none
  cp : PySem.W.copiedNames.contains f = false
structure Meth (K : PySem.W.Frag) (C : Addr) (m : Str) (f : Addr) : Prop where
  at_ : PySem.W.findIn K (.ref C) m = some (some (.ref f))
  fn : PySem.W.isFn K (.ref f) = true
  kp : PySem.W.keepIn K (.ref f) = true
section
variable {X : Cx} {pins : List (Addr × Obj)} {σ : St} {H : Hp} {s : Shared} {a C dx : Addr} {fs : List (Str × V)} {f : Str} {v : V} {A : Around} {E : Value → Shared → Prop}
end
section
variable {X : Cx} {o e value : Expr} {f : Str} {pos pos' tpos : Pos} {ta tv : TE}
end
section
variable {X : Cx} {pins : List (Addr × Obj)} {σ : St} {H : Hp} {s : Shared} {A : Around} {E : Value → Shared → Prop} {Q : Value → Shared → Prop} {c : Value} {b : Bool}
inductive TyOf (K : PySem.W.Frag) (H : Hp) : V → Value → Prop where
  | non : TyOf K H .non (.type "NoneType")
  | bl (x : Bool) : TyOf K H (.bl x) (.type "bool")
  | int (i : Int) : TyOf K H (.int i) (.type "int")
  | str (x : Str) : TyOf K H (.str x) (.type "str")
  | flt (x : UInt64) : TyOf K H (.flt x) (.type "float")
  | lst {a : Addr} {xs : List V} (e : H a = some (.lst xs)) : TyOf K H (.ref a) (.type "list")
  | frz {a : Addr} {o : Obj} {xs : List V} (e : H a = some (.frz o (.lst xs))) : TyOf K H (.ref a) (.type "list")
  | tup {a : Addr} {xs : List V} (e : H a = some (.tup xs)) : TyOf K H (.ref a) (.type "tuple")
  | dK {a : Addr} {kvs : List (Key × V)} (e : H a = some (.dK kvs)) : TyOf K H (.ref a) (.type "dict")
  | dT {a : Addr} {kvs : List (List Key × V)} (e : H a = some (.dT kvs)) : TyOf K H (.ref a) (.type "dict")
  | ins {a C dx : Addr} {fs : List (Str × V)} (e : H a = some (.ins C dx fs)) (cl : Cls K C) (ha : PySem.W.findIn K (.ref C) "__class__" = some (some (.builtin "object.__class__")))
      (hn : PySem.W.specialIn K (.builtin "object.__class__") "__get__" = some (some (.builtin "getset_descriptor.__get__"))) (htk : PySem.W.takesIn K (.builtin "object.__class__") = some true)
      (hm : PySem.W.mroIn K C (.type "object") = some true) : TyOf K H (.ref a) (.ref C)
theorem isinst_ok {x : V} {u t : Value} (I : Inv X pins σ H s) (rx : RelV x u) (ty : TyOf X.K H x t) (e : PySem.W.kitOne X.K t c = some b) (h : ∀ tk, Q (.bool b) { s with toks := tk }) :
    wpAny (model X.prog X.w) A (call (.builtin "isinstance") [u, c]) Q E s := by
  cases ty with
  | non => cases (show u = Value.none from rx); exact PySem.W.kia_one PySem.W.kitx_none I.kIn True.intro e (fun z => nomatch z) h
  | bl y => cases (show u = Value.bool y from rx); exact PySem.W.kia_one PySem.W.kitx_bool I.kIn True.intro e (fun z => nomatch z) h
  | int i => obtain ⟨t, q⟩ := (show ∃ t, u = Value.int i t from rx); cases q; exact PySem.W.kia_one PySem.W.kitx_int I.kIn True.intro e (fun z => nomatch z) h
  | str y => obtain ⟨t, q⟩ := (show ∃ t, u = Value.str y t from rx); cases q; exact PySem.W.kia_one PySem.W.kitx_str I.kIn True.intro e (fun z => nomatch z) h
  | flt y => obtain ⟨t, q⟩ := (show ∃ t, u = Value.float y t from rx); cases q; exact PySem.W.kia_one PySem.W.kitx_float I.kIn True.intro e (fun z => nomatch z) h
  | @lst a xs ea =>
    cases (show u = Value.ref a from rx)
    obtain ⟨_, _, n, _, h1⟩ := (show ObjOk X.prog X.w H s.heap a (.lst xs) from I.hok a _ ea)
    exact PySem.W.kia_one PySem.W.kitx_list I.kIn ⟨_, h1, rfl⟩ e (fun z => nomatch z) h
  | @frz a ob xs ea =>
    cases (show u = Value.ref a from rx)
    obtain ⟨_, _, _, n, _, h1⟩ := (show ObjOk X.prog X.w H s.heap a (.frz ob (.lst xs)) from I.hok a _ ea)
    exact PySem.W.kia_one PySem.W.kitx_list I.kIn ⟨_, h1, rfl⟩ e (fun z => nomatch z) h
  | @tup a xs ea =>
    cases (show u = Value.ref a from rx)
    obtain ⟨_, _, _, p⟩ := (show ObjOk X.prog X.w H s.heap a (.tup xs) from I.hok a _ ea)
    obtain ⟨o, h1, h2, _⟩ := p
    exact PySem.W.kia_one PySem.W.kitx_tuple I.kIn ⟨o, h1, h2⟩ e (fun z => nomatch z) h
  | @dK a kvs ea =>
    cases (show u = Value.ref a from rx)
    obtain ⟨_, _, vs, _, p⟩ := (show ObjOk X.prog X.w H s.heap a (.dK kvs) from I.hok a _ ea)
    obtain ⟨o, es, ep, h1, h2, _⟩ := p
    exact PySem.W.kia_one PySem.W.kitx_dict I.kIn ⟨o, h1, h2.1⟩ e (fun z => nomatch z) h
  | @dT a kvs ea =>
    cases (show u = Value.ref a from rx)
    obtain ⟨_, _, xs, _, o, es, ep, h1, h2, _⟩ := (show ObjOk X.prog X.w H s.heap a (.dT kvs) from I.hok a _ ea)
    exact PySem.W.kia_one PySem.W.kitx_dict I.kIn ⟨o, h1, h2.1⟩ e (fun z => nomatch z) h
  | @ins a C dx fs ea cl ha hn htk hm =>
    cases (show u = Value.ref a from rx)
    obtain ⟨mA, O, _⟩ := ins_get I.hok ea
    obtain ⟨od, J, _⟩ := O.look
    exact PySem.W.kia_one (PySem.W.kitx_own (cl.get _) cl.hd ha hn htk hm) I.kIn J e (fun z => nomatch z) h
end
end L2
namespace L2
open PySem PySem.Spec PyProof.Rows
structure Room (k : Nat) (A : Around) : Prop where
  hd : A.handled = none
  dp : A.depth + 3 * k + 5 < recursionLimit
  un : A.units + 16 * k + 200 < cLine
theorem Room.mono {j k : Nat} {A : Around} (r : Room k A) (h : j ≤ k) : Room j A := ⟨r.hd, by have := r.dp; omega, by have := r.un; omega⟩
theorem Room.deeper {k : Nat} {A : Around} (r : Room (k + 1) A) (env : Env) : Room k (A.deeper env) :=
  ⟨r.hd, by have := r.dp; show A.depth + 1 + 3 * k + 5 < _; omega, by have := r.un; show A.units + 3 + 16 * k + 200 < _; omega⟩
theorem Room.in1 {k : Nat} {A : Around} (r : Room (k + 1) A) : Room k A.in1 :=
  ⟨r.hd, by have := r.dp; show A.depth + 3 * k + 5 < _; omega, by have := r.un; show A.units + 1 + 16 * k + 200 < _; omega⟩
theorem Room.depth {k : Nat} {A : Around} (r : Room k A) : A.depth < recursionLimit := by have := r.dp; omega
theorem Room.units {k : Nat} {A : Around} (r : Room k A) : A.units + 64 < cLine := by have := r.un; omega
theorem Room.units0 {k : Nat} {A : Around} (r : Room k A) : A.units < cLine := by have := r.un; omega
def tNil : TA := fun _ H Q => Q [] H
def tCons (ta : TE) (tr : TA) : TA := fun σ H Q => ta σ H fun x H1 => tr σ H1 fun xs H2 => Q (x :: xs) H2
section
variable {X : Cx} {e : Expr} {es : List Expr} {te : TE} {t : TA} {pos : Pos}
theorem pa_nil : PA X [] tNil := fun _ _ _ _ H Q I h => Calls.spliced_nil ⟨[], H, I, .nil, h⟩
theorem pa_cons (ha : PE X e te) (hr : PA X es t) (hs : starEach (e :: es) X.env = (false, eval e X.env) :: starEach es X.env := by rfl) : PA X (e :: es) (tCons te t) := by
  intro pos pins s σ H Q I h
  rw [hs]
  show wpAny _ _ (spliced ((false, eval e X.env) :: backTo pos (starEach es X.env))) _ _ s
  refine Calls.spliced_cons (thn (ha pins s σ H _ I h) fun u s1 ⟨x, H1, I1, r1, q1⟩ => ?_)
  exact thn (hr pos pins s1 σ H1 _ I1 q1) fun us s2 ⟨xs, H2, I2, r2, q2⟩ => ⟨x :: xs, H2, I2, .cons r1 r2, q2⟩
def tLst (t : TA) : TE := fun σ H Q => t σ H fun xs H1 => xs.length ≤ sizeLine ∧ ∀ p, H1 p = none → Q (.ref p) (upd H1 p (.lst xs))
theorem pe_lst (h : PA X es t) : PE X (.List es pos) (tLst t) := by
  intro pins s σ H Q I hq
  refine wpAny_List_spliced (thn (h pos pins s σ H _ I hq) fun us s1 ⟨xs, H1, I1, r, z, q⟩ => ⟨by rw [← r.length]; exact z, ?_⟩)
  have hf : H1 s1.heap.objs.size = none := I1.hok.fresh (Nat.le_refl _)
  refine ⟨.ref s1.heap.objs.size, upd H1 s1.heap.objs.size (.lst xs), I1.laid (t' := s1.toks) (fun b u e => Heap.get?_push_of_some _ e) (Nat.le_refl _) ?_, rfl, q _ hf⟩
  exact ⟨z, us, 0, r, Heap.get?_push_size _ rfl⟩
end
abbrev Sp := List V → Hp → VK → XK → Prop
abbrev CXT := List Env → Hp → Shared → XK → Value → Shared → Prop
structure Env0 (P : Program) (w : World) (K : PySem.W.Frag) (mg : Str → Option Value) (base : Heap) (A : Around) (outer : List Env) (s : Shared) (H : Hp) : Prop where
  frames : A.frames = some outer
  mod : Mod K mg base
  bs : ∀ b o, base.get? b = some o → s.heap.get? b = some o ∧ H b = none
  bsz : base.objs.size ≤ s.heap.objs.size
  funs : s.heap.FunFrames base outer
  frf : ∀ b ∈ frs outer, H b = none
  hok : HOk P w H s.heap
  bare : AllBare s.gens
def CE (outer : List Env) (P : Program) (w : World) (H : Hp) (s : Shared) (Q : VK) (u : Value) (s' : Shared) : Prop :=
  ∃ v H', s'.os = s.os ∧ AllBare s'.gens ∧ Un (frs outer) [] H H' s.heap s'.heap ∧ HOk P w H' s'.heap ∧ RelV v u ∧ Q v H'
def CR (CX : CXT) (outer : List Env) (P : Program) (w : World) (H : Hp) (s : Shared) (Q : VK) (E : XK) (r : Result) (s' : Shared) : Prop :=
  match r with
  | .ok (.ret u) => CE outer P w H s Q u s'
  | .ok _ => False
  | .error e => CX outer H s E e s'
structure FnOk (P : Program) (w : World) (K : PySem.W.Frag) (mg : Str → Option Value) (base : Heap) (CX : CXT) (k : Nat) (f : Addr) (fd : FuncData) (ps : List Str) (sp : Sp) : Prop where
  len : ∀ vs H Q E, sp vs H Q E → vs.length = ps.length
  run : ∀ (A : Around) (outer : List Env) (s : Shared) (H : Hp) (args : Args) (us : List Value) (vs : List V) (Q : VK) (E : XK), Room k A → Env0 P w K mg base A outer s H → BindsTo s fd args (ps.zip us) → Vals vs us → sp vs H Q E →
    codeAny (model P w) A (.call (.ref f) args) (CR CX outer P w H s Q E) s
theorem FnOk.mono {P : Program} {w : World} {K : PySem.W.Frag} {mg : Str → Option Value} {base : Heap} {CX : CXT} {j k : Nat} {f : Addr} {fd : FuncData} {ps : List Str} {sp : Sp} (F : FnOk P w K mg base CX j f fd ps sp) (h : j ≤ k) :
    FnOk P w K mg base CX k f fd ps sp := ⟨F.len, fun A outer s H args us vs Q E hr => F.run A outer s H args us vs Q E (hr.mono h)⟩
theorem Env0.in1 {P : Program} {w : World} {K : PySem.W.Frag} {mg : Str → Option Value} {base : Heap} {A : Around} {outer : List Env} {s : Shared} {H : Hp} (e : Env0 P w K mg base A outer s H) :
    Env0 P w K mg base A.in1 outer s H := ⟨e.frames, e.mod, e.bs, e.bsz, e.funs, e.frf, e.hok, e.bare⟩
section
variable {X : Cx} {pins : List (Addr × Obj)} {σ : St} {H : Hp} {s s' : Shared}
theorem Inv.env0 (I : Inv X pins σ H s) : Env0 X.prog X.w X.K X.mg X.base X.A X.stack s H :=
  ⟨I.ok.frames, I.ok.mod, I.bs, Nat.le_trans I.ok.bsz I.sz, I.stack, I.stkFree, I.hok, I.bare⟩
theorem Inv.after {Q : VK} {u : Value} (I : Inv X pins σ H s) (h : CE X.stack X.prog X.w H s Q u s') : EP X pins σ Q u s' := by
  obtain ⟨v, H', os, bare, un, hok, r, q⟩ := h
  obtain ⟨hh, g, d, t, os'⟩ := s'
  obtain rfl : os' = s.os := os
  exact ⟨v, H', I.call (h' := hh) (g' := g) (d' := d) (t' := t) (ch := []) un hok bare (fun b z => absurd z (by simp)), r, q⟩
end
def tCall (sp : Sp) (dvs : List V) (E : XK) (t : TA) : TE := fun σ H Q => t σ H fun vs H1 => sp (vs ++ dvs) H1 Q E
def Binds (K : PySem.W.Frag) (fd : FuncData) (ps : List Str) (ds : List Value) : Prop :=
  ∀ (s : Shared) (us : List Value), K.In s.heap → (us ++ ds).length = ps.length → BindsTo s fd ⟨us, []⟩ (ps.zip (us ++ ds))
theorem Binds.all {K : PySem.W.Frag} {fd : FuncData} {ps : List Str} (h : ∀ us : List Value, us.length = ps.length → bindArgs fd ⟨us, []⟩ = pure (ps.zip us)) : Binds K fd ps [] := fun s us _ hl => by
  rw [List.append_nil] at hl ⊢
  exact .of_eq (h us hl)
def Passes (CX : CXT) (X : Cx) (E : XK) : Prop := ∀ (pins : List (Addr × Obj)) (σ : St) (H : Hp) (s : Shared) (e : Value) (s' : Shared), Inv X pins σ H s → CX X.stack H s E e s' → X.xe e s'
section
variable {X : Cx} {CX : CXT} {k : Nat} {f C : Addr} {fd : FuncData} {ps : List Str} {sp : Sp} {dvs : List V} {ds : List Value} {E : XK} {x m : Str} {p pos apos : Pos} {e o : Expr} {es : List Expr} {ta : TE} {t : TA}
theorem run_fn {pins : List (Addr × Obj)} {σ : St} {H : Hp} {s : Shared} {Q : VK} {us : List Value} {vs : List V} (F : FnOk X.prog X.w X.K X.mg X.base CX k f fd ps sp) (hr : Room k X.A) (hb : Binds X.K fd ps ds) (hd : Vals dvs ds) (hx : Passes CX X E)
    (I : Inv X pins σ H s) (r : Vals vs us) (h : sp (vs ++ dvs) H Q E) : wpAny (model X.prog X.w) X.A (call (.ref f) us) (EP X pins σ Q) X.xe s := by
  have r2 : Vals (vs ++ dvs) (us ++ ds) := r.append hd
  have hl : (us ++ ds).length = ps.length := by rw [← r2.length]; exact F.len _ _ _ _ h
  refine wpAny_call (codeAny_mono (F.run X.A X.stack s H ⟨us, []⟩ (us ++ ds) (vs ++ dvs) Q E hr I.env0 (hb s us I.kIn hl) r2 h) fun r s' hq => ?_)
  cases r with
  | error e => exact hx pins σ H s e s' I hq
  | ok fl =>
    cases fl with
    | ret u => exact I.after hq
    | next => exact False.elim hq
    | brk => exact False.elim hq
    | cont => exact False.elim hq
theorem pe_call (F : FnOk X.prog X.w X.K X.mg X.base CX k f fd ps sp) (hr : Room k X.A) (hg : Gl X x) (hm : X.mg x = some (.ref f)) (hk : PySem.W.keepIn X.K (.ref f) = true) (hb : Binds X.K fd ps ds) (hd : Vals dvs ds) (hx : Passes CX X E)
    (ha : PA X (e :: es) t) (hdb : (x == ("__debug__" : Str)) = false := by decide) (he : starEach (e :: es) X.env = (false, eval e X.env) :: starEach es X.env := by rfl) (hpl : (backTo pos (starEach es X.env)).any (·.1) = false := by rfl) :
    PE X (.Call (.Name x p) (e :: es) [] pos) (tCall sp dvs E t) := by
  intro pins s σ H Q I h
  refine wpAny_Call_Name_kw (ld_glob I hg hm ?_ hdb)
  refine PySem.W.callWith_K (h₀ := X.base) I.ok.mod.kin hk (thn (ha pos pins s σ H _ I h) fun us s1 ⟨vs, H1, I1, r, q⟩ => ⟨I1.kIn, ?_⟩) he hpl
  exact run_fn F hr hb hd hx I1 r q
theorem pe_call0 (F : FnOk X.prog X.w X.K X.mg X.base CX k f fd ps sp) (hr : Room k X.A) (hg : Gl X x) (hm : X.mg x = some (.ref f)) (hk : PySem.W.keepIn X.K (.ref f) = true) (hb : Binds X.K fd ps ds) (hd : Vals dvs ds) (hx : Passes CX X E)
    (hdb : (x == ("__debug__" : Str)) = false := by decide) : PE X (.Call (.Name x p) [] [] pos) (tCall sp dvs E tNil) := by
  intro pins s σ H Q I h
  refine wpAny_Call_Name_kw (ld_glob I hg hm ?_ hdb)
  exact PySem.W.callWith_K0 I.kIn hk (run_fn (us := []) F hr hb hd hx I .nil h)
structure Mk (K : PySem.W.Frag) (C f : Addr) : Prop where
  makes : PySem.W.makesIn K C = true
  init : PySem.W.findIn K (.ref C) "__init__" = some (some (.ref f))
  fn : PySem.W.isFn K (.ref f) = true
  kp : PySem.W.keepIn K (.ref C) = true
end
def PK (X : Cx) (kws : List Keyword) (t : TA) : Prop :=
  ∀ (pos : Pos) (pins : List (Addr × Obj)) (s : Shared) (σ : St) (H : Hp) (Q : List V → Hp → Prop), Inv X pins σ H s → t σ H Q → wpAny (model X.prog X.w) X.A (evalAll ((backToKw pos (keywordEach kws X.env)).map (·.2))) (AP X pins σ Q) X.xe s
section
variable {X : Cx} {CX : CXT} {k : Nat} {f C : Addr} {fd : FuncData} {ps ks : List Str} {sp : Sp} {E : XK} {x m : Str} {p pos apos kpos : Pos} {e o : Expr} {es : List Expr} {kws : List Keyword} {te ta : TE} {t tk : TA} {nm : Option Str}
theorem pk_nil : PK X [] tNil := fun _ _ _ _ H Q I h => wpAny_evalAll_nil ⟨[], H, I, .nil, h⟩
theorem pk_cons (ha : PE X e te) (hr : PK X kws t) : PK X (⟨nm, e, kpos⟩ :: kws) (tCons te t) := by
  intro pos pins s σ H Q I h
  show wpAny _ _ (evalAll ((do let v ← eval e X.env; standAt pos; pure v) :: (backToKw pos (keywordEach kws X.env)).map (·.2))) _ _ s
  refine wpAny_evalAll_cons (wpAny_bind (thn (ha pins s σ H _ I h) fun u s1 ⟨x, H1, I1, r1, q1⟩ => wpAny_bind (wpAny_standAt (wpAny_pure ?_))))
  exact thn (hr pos pins s1 σ H1 _ I1 q1) fun us s2 ⟨xs, H2, I2, r2, q2⟩ => ⟨x :: xs, H2, I2, .cons r1 r2, q2⟩
structure KBinds (K : PySem.W.Frag) (fd : FuncData) (ps ks : List Str) (g : List Value → List Value → List Value) (gV : List V → List V → List V) : Prop where
  to : ∀ (s : Shared) (us ws : List Value), K.In s.heap → (g us ws).length = ps.length → BindsTo s fd ⟨us, ks.zip ws⟩ (ps.zip (g us ws))
  rel : ∀ {vs : List V} {us : List Value} {zs : List V} {ws : List Value}, Vals vs us → Vals zs ws → Vals (gV vs zs) (g us ws)
variable {g : List Value → List Value → List Value} {gV : List V → List V → List V}
theorem run_fnk {pins : List (Addr × Obj)} {σ : St} {H : Hp} {s : Shared} {Q : VK} {us ws : List Value} {vs zs : List V} (F : FnOk X.prog X.w X.K X.mg X.base CX k f fd ps sp) (hr : Room k X.A) (hb : KBinds X.K fd ps ks g gV) (hx : Passes CX X E)
    (I : Inv X pins σ H s) (r : Vals vs us) (rz : Vals zs ws) (h : sp (gV vs zs) H Q E) : wpAny (model X.prog X.w) X.A (call (.ref f) us (ks.zip ws)) (EP X pins σ Q) X.xe s := by
  have r2 := hb.rel r rz
  have hl : (g us ws).length = ps.length := by rw [← r2.length]; exact F.len _ _ _ _ h
  refine wpAny_call (codeAny_mono (F.run X.A X.stack s H ⟨us, ks.zip ws⟩ (g us ws) (gV vs zs) Q E hr I.env0 (hb.to s us ws I.kIn hl) r2 h) fun r s' hq => ?_)
  cases r with
  | error e => exact hx pins σ H s e s' I hq
  | ok fl =>
    cases fl with
    | ret u => exact I.after hq
    | next => exact False.elim hq
    | brk => exact False.elim hq
    | cont => exact False.elim hq
end
structure FnScope (N P : List Str) (sc : Scope) : Prop where
  kind : sc.kind = .function
  co : sc.isCoroutine = false
  gen : sc.isGenerator = false
  nd : N.Nodup
  pre : N.take P.length = P
  par : ∀ x ∈ P, sc.names.lookup x = some .local ∨ sc.names.lookup x = some .cell
  nofree : ∀ y ∈ sc.names, y.2 ≠ .free
theorem bindL_out {kindOf : Str → Option NameKind} {x : Str} : ∀ {binds : List (Str × Value)} {m : Str → Option Value}, (∀ v, (x, v) ∉ binds) → bindL kindOf binds m x = m x
  | [], _, _ => rfl
  | (n, v) :: r, m, h => by
    unfold bindL
    rw [bindL_out fun w hw => h w (List.mem_cons_of_mem _ hw)]
    split
    · have : x ≠ n := by rintro rfl; exact h v List.mem_cons_self
      simp [this]
    · rfl
theorem bindC_out {kindOf : Str → Option NameKind} {x : Str} : ∀ {binds : List (Str × Value)} {m : Str → Option Value}, (∀ v, (x, v) ∉ binds) → bindC kindOf binds m x = m x
  | [], _, _ => rfl
  | (n, v) :: r, m, h => by
    unfold bindC
    rw [bindC_out fun w hw => h w (List.mem_cons_of_mem _ hw)]
    split
    · rfl
    · have : x ≠ n := by rintro rfl; exact h v List.mem_cons_self
      simp [this]
theorem bindL_get {kindOf : Str → Option NameKind} {x : Str} {v : Value} : ∀ {P : List Str} {vs : List Value} {i : Nat} {m : Str → Option Value}, P.Nodup → P[i]? = some x → vs[i]? = some v → kindOf x = some .local →
    bindL kindOf (P.zip vs) m x = some v
  | [], _, _, _, _, h, _, _ => by simp at h
  | _ :: _, [], _, _, _, _, h, _ => by simp at h
  | p :: P, w :: vs, 0, m, nd, h1, h2, hk => by
    simp at h1 h2; subst h1; subst h2
    show bindL kindOf ((p, w) :: P.zip vs) m p = _
    unfold bindL
    rw [bindL_out fun v hv => (List.nodup_cons.mp nd).1 (List.of_mem_zip hv).1, if_pos hk]
    simp
  | p :: P, w :: vs, i + 1, m, nd, h1, h2, hk => by
    show bindL kindOf ((p, w) :: P.zip vs) m x = _
    unfold bindL
    exact bindL_get (i := i) (List.nodup_cons.mp nd).2 (by simpa using h1) (by simpa using h2) hk
theorem bindC_get {kindOf : Str → Option NameKind} {x : Str} {v : Value} : ∀ {P : List Str} {vs : List Value} {i : Nat} {m : Str → Option Value}, P.Nodup → P[i]? = some x → vs[i]? = some v → kindOf x ≠ some .local →
    bindC kindOf (P.zip vs) m x = some v
  | [], _, _, _, _, h, _, _ => by simp at h
  | _ :: _, [], _, _, _, _, h, _ => by simp at h
  | p :: P, w :: vs, 0, m, nd, h1, h2, hk => by
    simp at h1 h2; subst h1; subst h2
    show bindC kindOf ((p, w) :: P.zip vs) m p = _
    unfold bindC
    rw [bindC_out fun v hv => (List.nodup_cons.mp nd).1 (List.of_mem_zip hv).1, if_neg hk]
    simp
  | p :: P, w :: vs, i + 1, m, nd, h1, h2, hk => by
    show bindC kindOf ((p, w) :: P.zip vs) m x = _
    unfold bindC
    exact bindC_get (i := i) (List.nodup_cons.mp nd).2 (by simpa using h1) (by simpa using h2) hk
def start (N : List Str) (vs : List V) : St := vs.map some ++ List.replicate (N.length - vs.length) none
def cxOf (CX : CXT) (P : Program) (w : World) (K : PySem.W.Frag) (mg : Str → Option Value) (base : Heap) (N : List Str) (qual : Str) (scope : Scope) (f : Addr) (cd : Value) (A : Around) (outer : List Env) (s : Shared) (H : Hp) (E : XK) : Cx where
  prog := P
  w := w
  K := K
  mg := mg
  base := base
  A := A.deeper (envOfC qual scope s.heap.objs.size f cd)
  N := N
  s₀ := s
  H₀ := H
  env := envOfC qual scope s.heap.objs.size f cd
  outer := outer
  stack := envOfC qual scope s.heap.objs.size f cd :: outer
  ex := []
  calm := true
  fn := fun _ => true
  pn := []
  xe := fun e s' => wpAny (model P w) (A.deeper (envOfC qual scope s.heap.objs.size f cd)) (leaving (envOfC qual scope s.heap.objs.size f cd) e) (fun _ s'' => CX outer H s E e s'') (fun e' s'' => CX outer H s E e' s'') s'
theorem cell_has {sc : Scope} {n : Nat} {x : Str} (h : sc.names.lookup x = some .cell) : ∃ c, (cellsFrom n sc.names []).lookup x = some c := by
  have q := PySem.W.cellsFrom_some sc.names n [] (.inl h)
  exact Option.isSome_iff_exists.mp q
theorem inv_start {CX : CXT} {P : Program} {w : World} {K : PySem.W.Frag} {mg : Str → Option Value} {base : Heap} {N ps : List Str} {qual : Str} {scope : Scope} {f : Addr} {cd : Value} {A : Around} {outer : List Env} {s s1 : Shared} {H : Hp} {E : XK} {us : List Value} {vs : List V}
    (S : FnScope N ps scope) (hd : A.handled = none) (e0 : Env0 P w K mg base A outer s H) (hl : vs.length = ps.length) (r : Vals vs us)
    (x : InCallC s s.heap.objs.size (bindL (envOfC qual scope s.heap.objs.size f cd).kindOf (ps.zip us) fun _ => none) (cellsFrom (s.heap.objs.size + 1) scope.names []) (bindC (envOfC qual scope s.heap.objs.size f cd).kindOf (ps.zip us) fun _ => none) s1) :
    Inv (cxOf CX P w K mg base N qual scope f cd A outer s H E) [] (start N vs) H s1 := by
  have hpl : ps.length ≤ N.length := by have := congrArg List.length S.pre; rw [List.length_take] at this; omega
  obtain ⟨h1, tk, rfl, hk⟩ := x.done
  have noA : ∀ b : Addr, b ∉ (cxOf CX P w K mg base N qual scope f cd A outer s H E).ex := fun b z => absurd (show b ∈ ([] : List Addr) from z) (by simp)
  refine ⟨⟨e0.mod, S.kind, rfl, rfl, Nat.le_refl _, fun y z c h1 h2 => ?_, fun y hy => ?_, fun y c _ h => ?_, fun _ => hd, Around.frames_deeper e0.frames, .inr ⟨rfl, rfl⟩, fun b z => absurd z (noA b), e0.bs, e0.bsz, fun b _ _ => noA b, fun b z => absurd z (noA b), e0.funs, e0.frf⟩,
    rfl, e0.bare, Un.kept hk, ⟨_, x.toInCall.ns, fun i y v h1 h2 h3 => ?_⟩, fun y c h => ⟨_, x.cell y c h⟩, e0.hok.fresh (Nat.le_refl _), fun y c h => ?_, fun p hp => absurd (show p ∈ ([] : List (Addr × Obj)) from hp) (by simp), e0.hok.kept hk, ?_⟩
  · exact name_of_addr x.apart (PySem.mem_of_lookup h1) (PySem.mem_of_lookup h2)
  · have hy : scope.names.lookup y = some .cell ∨ scope.names.lookup y = some .free := hy
    rcases hy with hy | hy
    · exact cell_has hy
    · exact absurd rfl (S.nofree _ (PySem.mem_of_lookup hy))
  · exact Nat.le_of_lt (x.above y c (PySem.mem_of_lookup h))
  · have hi : i < vs.length := by
      unfold start at h2
      by_cases hi : i < vs.length
      · exact hi
      · rw [List.getElem?_append_right (by simpa using hi)] at h2
        rw [List.getElem?_replicate] at h2
        split at h2 <;> cases h2
    have ha : vs[i]? = some v := by
      unfold start at h2
      rw [List.getElem?_append_left (by simpa using hi), List.getElem?_map] at h2
      cases e : vs[i]? with
      | none => rw [e] at h2; cases h2
      | some a => rw [e] at h2; cases h2; rfl
    obtain ⟨u, hu, rv⟩ := r.get ha
    have hp : ps[i]? = some y := by
      rw [← S.pre, List.getElem?_take_of_lt (by omega)]; exact h1
    have ndP : ps.Nodup := by rw [← S.pre]; exact S.nd.sublist (List.take_sublist _ _)
    refine ⟨u, rv, ?_⟩
    rcases S.par y (List.mem_of_getElem? hp) with k | k
    · exact .inl ⟨k, bindL_get ndP hp hu k⟩
    · obtain ⟨c, e⟩ := cell_has (n := s.heap.objs.size + 1) k
      refine .inr ⟨.inl k, c, e, ?_⟩
      have q := x.cell y c e
      rw [bindC_get ndP hp hu (by show scope.names.lookup y ≠ _; rw [k]; decide)] at q
      exact q
  · exact e0.hok.fresh (Nat.le_of_lt (x.above y c (PySem.mem_of_lookup h)))
  · unfold start
    show _ = N.length
    rw [List.length_append, List.length_map, List.length_replicate]
    omega
theorem fn_of {CX : CXT} {P : Program} {w : World} {K : PySem.W.Frag} {mg : Str → Option Value} {base : Heap} {k : Nat} {f : Addr} {name qual : Str} {params : Arguments} {body : List Stmt} {scope : Scope} {dV kV doc pm cdv ct oc : Value} {an od : Option Addr}
    {osl : Array (Option Value)} {N ps : List Str} {sp : Sp} (lk : K.lookup f = some ⟨oc, od, .func (PySem.W.fnOf name qual params body scope dV kV doc pm an cdv ct), osl⟩) (hcd : PySem.W.codeIn K cdv qual = true) (S : FnScope N ps scope)
    (len : ∀ vs H Q E, sp vs H Q E → vs.length = ps.length)
    (hbody : ∀ (A : Around) (outer : List Env) (s : Shared) (H : Hp) (vs : List V) (Q : VK) (E : XK), Room k (A.deeper (envOfC qual scope s.heap.objs.size f cdv)) → sp vs H Q E →
      ∃ t, PSs (cxOf CX P w K mg base N qual scope f cdv A outer s H E) body t ∧ t { nx := fun _ H' => Q .non H', rt := Q } (start N vs) H) :
    FnOk P w K mg base CX (k + 1) f (PySem.W.fnOf name qual params body scope dV kV doc pm an cdv ct) ps sp := by
  refine ⟨len, fun A outer s H args us vs Q E hr e0 hb r hsp => ?_⟩
  have hl := len _ _ _ _ hsp
  have KX : K.In s.heap := e0.mod.kin.keeps fun b o e => (e0.bs b o e).1
  have lim : s.heap.NoLimit := e0.mod.nolimit.keeps fun b o e => (e0.bs b o e).1
  have hkind : ∀ y ∈ ps.zip us, scope.names.lookup y.1 = some .local ∨ (scope.names.lookup y.1 = some .cell ∧ ((cellsFrom (s.heap.objs.size + 1) scope.names []).lookup y.1).isSome = true) := fun ⟨n, v⟩ hy => by
    rcases S.par n (List.of_mem_zip hy).1 with q | q
    · exact .inl q
    · exact .inr ⟨q, PySem.W.cellsFrom_some _ _ _ (.inl q)⟩
  refine codeAny_call_function hr.depth (KX _ _ lk) rfl S.co S.gen rfl (PySem.W.codeRec_of KX hcd) (hb _ _ _ _ ?_)
  refine wpAny_newFunctionEnv_cells S.kind hkind fun env he s1 x => ?_
  subst he
  refine ⟨lim.keeps x.toInCall.keep, codeAny_func ?_⟩
  obtain ⟨t, ht, hq⟩ := hbody A outer s H vs Q E (hr.deeper _) hsp
  have I : Inv (cxOf CX P w K mg base N qual scope f cdv A outer s H E) [] (start N vs) H s1 := inv_start S hr.hd e0 hl r x
  refine wpAny_mono (ht [] s1 (start N vs) H _ I hq) (fun fl s' hs => ?_) fun e s' hs => hs
  have fin : ∀ {σ' : St} {H' : Hp} {v : V} {u : Value}, Inv (cxOf CX P w K mg base N qual scope f cdv A outer s H E) [] σ' H' s' → RelV v u → Q v H' → CE outer P w H s Q u s' :=
    fun {σ' H' v u} J rv q => ⟨v, H', J.os, J.bare, J.base, J.hok, rv, q⟩
  cases fl with
  | ret u =>
    obtain ⟨v, σ', H', J, rv, q⟩ := hs
    exact fin J rv q
  | next =>
    obtain ⟨σ', H', J, q⟩ := hs
    exact fin (v := V.non) (u := Value.none) J rfl q
  | brk =>
    obtain ⟨_, _, _, q⟩ := hs
    exact False.elim q
  | cont =>
    obtain ⟨_, _, _, q⟩ := hs
    exact False.elim q
end L2
namespace L2
open PySem PySem.Spec PyProof.Rows
section
variable {X : Cx} {x : Str} {p pos : Pos} {e : Expr} {es : List Expr} {t : TA} {id T : String} {r : List V → Hp → VK → Prop}
def tCB (r : List V → Hp → VK → Prop) (t : TA) : TE := fun σ H Q => t σ H fun vs H1 => r vs H1 Q
theorem pe_callB (hc : CallR X (.builtin id) r) (hg : Gl X x) (hm : X.mg x = none) (hv : bootBuiltins x = some (.builtin id)) (ha : PA X (e :: es) t) (hn : x ≠ "__name__" := by decide) (hdb : (x == ("__debug__" : Str)) = false := by decide)
    (he : starEach (e :: es) X.env = (false, eval e X.env) :: starEach es X.env := by rfl) (hpl : (backTo pos (starEach es X.env)).any (·.1) = false := by rfl) : PE X (.Call (.Name x p) (e :: es) [] pos) (tCB r t) := by
  intro pins s σ H Q I h
  refine wpAny_Call_Name_kw (ld_blt I hg hm hv ?_ hn hdb)
  exact PyProof.Rows.callWith_builtin1 (thn (ha pos pins s σ H _ I h) fun us s1 ⟨vs, H1, I1, r1, q1⟩ => hc pins s1 σ H1 vs us Q I1 r1 q1) he hpl
theorem pe_callTy (hc : CallR X (.type T) r) (hg : Gl X x) (hm : X.mg x = none) (hv : bootBuiltins x = some (.type T)) (ha : PA X (e :: es) t) (hn : x ≠ "__name__" := by decide) (hdb : (x == ("__debug__" : Str)) = false := by decide)
    (he : starEach (e :: es) X.env = (false, eval e X.env) :: starEach es X.env := by rfl) (hpl : (backTo pos (starEach es X.env)).any (·.1) = false := by rfl) : PE X (.Call (.Name x p) (e :: es) [] pos) (tCB r t) := by
  intro pins s σ H Q I h
  refine wpAny_Call_Name_kw (ld_blt I hg hm hv ?_ hn hdb)
  exact PyProof.Rows.callWith_type1 (thn (ha pos pins s σ H _ I h) fun us s1 ⟨vs, H1, I1, r1, q1⟩ => hc pins s1 σ H1 vs us Q I1 r1 q1) he hpl
end
end L2
namespace HT
open PySem PyProof.Rows
section
open PySem.SeqAt
open PySem.AutoSeq1 (wpAny_loadPart')
open PySem.MeetsSeq PySem.MeetsSeq2 PySem.MeetsSeq3
end
section
variable {prog : Program} {w : World} {A : Around} {E : Value → Shared → Prop} {s : Shared}
theorem cat_tup {t b : Addr} {vs ws : List Value} {Q : Value → Shared → Prop} (ht : IsTup s.heap t vs.toArray) (hb : IsTup s.heap b ws.toArray) (hv : vs ≠ [])
    (h1 : ws = [] → Q (.ref t) s) (h2 : ws ≠ [] → Q (.ref s.heap.objs.size) { s with heap := s.heap.push { cls := .type "tuple", data := .seq (vs ++ ws).toArray } })
    (hsz : vs.length + ws.length ≤ sizeLine) : wpAny (model prog w) A (binaryOp .Add (.ref t) (.ref b)) Q E s := by
  obtain ⟨⟨cls, dd, data, sl⟩, ho, hc, n, hd⟩ := id ht
  obtain ⟨⟨cls2, dd2, data2, sl2⟩, ho2, hc2, n2, hd2⟩ := id hb
  simp only at hc hd hc2 hd2
  subst hc hd hc2 hd2
  have e : vs.toArray ++ ws.toArray = (vs ++ ws).toArray := by simp
  by_cases hw : ws = []
  · exact concat_meets ⟨_, ho, rfl⟩ ⟨_, ho2, rfl⟩ noFill_tuple_add seq_tuple_add PySem.F.slot_tuple_add PySem.F.entry_tuple_add (PySem.F.args_tuple_add_2 _ _)
      (tuple_addW1 t b vs.toArray ws.toArray n n2 dd dd2 sl sl2 (by simpa using hv) (by simp [hw])) ⟨ho, ho2, h1 hw⟩
  · refine concat_meets ⟨_, ho, rfl⟩ ⟨_, ho2, rfl⟩ noFill_tuple_add seq_tuple_add PySem.F.slot_tuple_add PySem.F.entry_tuple_add (PySem.F.args_tuple_add_2 _ _)
      (tuple_addW2 t b vs.toArray ws.toArray n n2 dd dd2 sl sl2 (by simpa using hv) (by simpa using hw) (by rw [List.size_toArray, List.size_toArray]; exact hsz)) ⟨ho, ho2, ?_⟩
    rw [e]
    exact h2 hw
def sIx (n d : Nat) : Option Int → Nat
  | none => d
  | some v => if v < 0 then (v + (n : Int)).toNat else min v.toNat n
theorem sIx_le (n d : Nat) (hd : d ≤ n) (o : Option Int) : sIx n d o ≤ n := by
  cases o with
  | none => exact hd
  | some v =>
    show (if v < 0 then (v + (n : Int)).toNat else min v.toNat n) ≤ n
    by_cases hv : v < 0
    · rw [if_pos hv]; omega
    · rw [if_neg hv]; exact Nat.min_le_right _ _
theorem clip_eq (v : Int) (n d : Nat) : (if v < 0 then max (v + (n : Int)) 0 else min v (n : Int)) = ((sIx n d (some v) : Nat) : Int) := by
  show (if v < 0 then max (v + (n : Int)) 0 else min v (n : Int)) = (((if v < 0 then (v + (n : Int)).toNat else min v.toNat n) : Nat) : Int)
  by_cases hv : v < 0
  · simp only [if_pos hv]; omega
  · simp only [if_neg hv]; omega
theorem adjust_gen (lo hi : Option Int) (n : Nat) : Builtin.Slice.sliceAdjust lo hi 1 (n : Int) = (((sIx n 0 lo : Nat) : Int), ((sIx n n hi : Nat) : Int)) := by
  have h1 : ¬ ((1 : Int) < 0) := by omega
  unfold Builtin.Slice.sliceAdjust
  simp only [h1, if_false]
  refine Prod.ext ?_ ?_
  · cases lo with
    | none => rfl
    | some v => exact clip_eq v n 0
  · cases hi with
    | none => rfl
    | some v => exact clip_eq v n n
theorem places_gen (i j : Nat) : Builtin.Slice.slicePlaces (i : Int) (j : Int) 1 = j - i := by
  unfold Builtin.Slice.slicePlaces
  have h1 : (1 : Int) > 0 := by omega
  simp only [h1, if_true, Int.ediv_one]
  split <;> omega
theorem slicePart_ {v : Value} {o : Option Int} {Q : Option Int → Shared → Prop} (p : IsPart v o) (h : Q o s) : wpAny (model prog w) A (Builtin.Slice.slicePartIndex v) Q E s := by
  cases p with
  | none => exact slicePart_none h
  | int i t => exact slicePart_int h
theorem sliceApplied_gen {sl : Addr} {vl vu : Value} {lo hi : Option Int} {n : Nat} {Q : Int × Int × Nat → Shared → Prop} (hs : s.heap.IsSliceOf sl vl vu .none) (pl : IsPart vl lo) (pu : IsPart vu hi)
    (h : Q (((sIx n 0 lo : Nat) : Int), 1, sIx n n hi - sIx n 0 lo) s) : wpAny (model prog w) A (Builtin.Slice.sliceApplied (.ref sl) (pure (n : Int))) Q E s := by
  obtain ⟨os, hos, hcs, hds⟩ := id hs
  unfold Builtin.Slice.sliceApplied Builtin.Slice.sliceFields
  refine wpAny_bind (wpAny_bind (wpAny_field hos hds (x := vl) rfl (wpAny_bind (wpAny_field hos hds (x := vu) rfl (wpAny_bind (wpAny_field hos hds (x := .none) rfl (wpAny_pure ?_)))))))
  refine wpAny_bind (slicePart_none ?_)
  show wpAny _ _ (if ((1 : Int) == 0) = true then _ else _) _ _ s
  rw [if_neg (by decide)]
  refine wpAny_bind (slicePart_ pl (wpAny_bind (slicePart_ pu (wpAny_bind (wpAny_pure ?_)))))
  show wpAny _ _ (match Builtin.Slice.sliceAdjust lo hi 1 (n : Int) with | (lo, hi) => pure (lo, (1 : Int), Builtin.Slice.slicePlaces lo hi 1)) _ _ s
  rw [adjust_gen lo hi n]
  show wpAny _ _ (pure (((sIx n 0 lo : Nat) : Int), (1 : Int), Builtin.Slice.slicePlaces ((sIx n 0 lo : Nat) : Int) ((sIx n n hi : Nat) : Int) 1)) _ _ s
  rw [places_gen]
  exact wpAny_pure h
theorem pick_gen (xs : Array Value) (i k : Nat) : ((List.range k).filterMap fun (m : Nat) => xs[((i : Int) + (m : Int) * 1).toNat]?).toArray = ((xs.toList.drop i).take k).toArray := by
  have e : (fun (m : Nat) => xs[((i : Int) + (m : Int) * 1).toNat]?) = fun m => xs[i + m]? := by
    funext m
    have : ((i : Int) + (m : Int) * 1).toNat = i + m := by omega
    rw [this]
  rw [e]
  have := pick_run xs i k
  rw [List.filterMap_map] at this
  have e2 : ((fun x => xs[x]?) ∘ fun x => i + x) = fun m => xs[i + m]? := rfl
  rw [e2] at this
  rw [this]
theorem getItem_tuple_cut {t sl : Addr} {items : Array Value} {vl vu : Value} {lo hi : Option Int} {Q : Value → Shared → Prop} (ht : IsTup s.heap t items) (hs : s.heap.IsSliceOf sl vl vu .none) (pl : IsPart vl lo) (pu : IsPart vu hi)
    (hw : ¬ (sIx items.size 0 lo = 0 ∧ sIx items.size items.size hi = items.size))
    (h : Q (.ref s.heap.objs.size) { s with heap := s.heap.push { cls := .type "tuple", data := .seq ((items.toList.drop (sIx items.size 0 lo)).take (sIx items.size items.size hi - sIx items.size 0 lo)).toArray } })
    (hsz : items.size ≤ sizeLine) : wpAny (model prog w) A (getItem (.ref t) (.ref sl)) Q E s := by
  have htake : sizeOk (.seq ((items.toList.drop (sIx items.size 0 lo)).take (sIx items.size items.size hi - sIx items.size 0 lo)).toArray) := by
    show ((items.toList.drop (sIx items.size 0 lo)).take (sIx items.size items.size hi - sIx items.size 0 lo)).toArray.size ≤ sizeLine
    rw [List.size_toArray, List.length_take, List.length_drop, Array.length_toList]
    omega
  have hj : sIx items.size items.size hi ≤ items.size := sIx_le _ _ (Nat.le_refl _) hi
  obtain ⟨os, hos, hcs, hds⟩ := id hs
  have hTs : s.TypeIs (.ref sl) "slice" := ⟨os, hos, hcs⟩
  unfold getItem
  try with_reducible refine wpAny_holding ?_
  first | refine wpAny_bind (wpAny_pure ?_) | skip
  refine wpAny_bind (wpAny_sequenceKey ht.typeIs (by decide) ?_)
  refine wpAny_bind (wpAny_callSpecial?_slot (name := Str.ofString "__getitem__") ht.typeIs PyProof.Rows.slot_tuple_getitem
    (wpAny_call_entry PyProof.Rows.slot_tuple_getitem ht.typeIs entry_tuple_getitem ?_ (args_tuple_getitem _ _)))
  show wpAny _ _ (Builtin.Tuple.tupleItemsOf (.ref t) >>= _) _ _ s
  refine wpAny_bind (tupleItemsOf_ ht ?_)
  refine wpAny_bind (wpAny_typeOf hTs ?_)
  rw [if_pos (by decide)]
  refine wpAny_bind (sliceApplied_gen hs pl pu ?_)
  have hno : ¬ ((((sIx items.size 0 lo : Nat) : Int) == 0 && (1 : Int) == 1 && (sIx items.size items.size hi - sIx items.size 0 lo) == items.size) = true) := by
    intro q
    rw [Bool.and_eq_true, Bool.and_eq_true] at q
    have q1 : ((sIx items.size 0 lo : Nat) : Int) = 0 := eq_of_beq q.1.1
    have q2 : sIx items.size items.size hi - sIx items.size 0 lo = items.size := eq_of_beq q.2
    exact hw ⟨by omega, by omega⟩
  show wpAny _ _ (if (((sIx items.size 0 lo : Nat) : Int) == 0 && (1 : Int) == 1 && (sIx items.size items.size hi - sIx items.size 0 lo) == items.size) = true then _ else _) _ _ s
  rw [if_neg hno, pick_gen]
  first
    | exact wpAny_bind (m := Builtin.Tuple.tupleExact _) (wpAny_newObj_type (wpAny_pure ⟨_, rfl, wpAny_pure h⟩) htake)
    | exact wpAny_bind (m := Builtin.Tuple.tupleExact _) (wpAny_newObj_type (wpAny_bind (wpAny_pure (wpAny_pure ⟨_, rfl, wpAny_pure h⟩))) htake)
    | exact wpAny_bind (wpAny_bind (m := Builtin.Tuple.tupleExact _) (wpAny_newObj_type (wpAny_pure (wpAny_pure ⟨_, rfl, wpAny_pure h⟩)) htake))
    | exact wpAny_bind (wpAny_bind (m := Builtin.Tuple.tupleExact _) (wpAny_newObj_type (wpAny_pure ⟨_, rfl, wpAny_pure h⟩) htake))
end
end HT
namespace L2
open PySem PySem.Spec PyProof.Rows
abbrev TO := St → Hp → (Option Int → Hp → Prop) → Prop
def PO (X : Cx) (e : Option Expr) (t : TO) : Prop :=
  ∀ (pins : List (Addr × Obj)) (s : Shared) (σ : St) (H : Hp) (Q : Option Int → Hp → Prop), Inv X pins σ H s → t σ H Q →
    wpAny (model X.prog X.w) X.A (evalPart e X.env) (fun u s' => ∃ o H', Inv X pins σ H' s' ∧ IsPart u o ∧ Q o H') X.xe s
def tNoPart : TO := fun _ H Q => Q none H
def tPart (t : TE) : TO := fun σ H Q => t σ H fun x H1 => ∃ i, x = .int i ∧ Q (some i) H1
section
variable {X : Cx} {e : Expr} {te : TE} {lo hi : Option Expr} {tl th : TO} {pos p2 : Pos}
theorem po_none : PO X none tNoPart := by
  intro pins s σ H Q I h
  rw [evalPart_none]
  exact wpAny_pure ⟨none, H, I, .none, h⟩
theorem po_some (h : PE X e te) : PO X (some e) (tPart te) := by
  intro pins s σ H Q I hw
  rw [evalPart_some]
  refine thn (h pins s σ H _ I hw) fun u s1 ⟨x, H1, I1, r1, q1⟩ => ?_
  obtain ⟨i, rfl, q⟩ := q1
  obtain ⟨t, rfl⟩ := r1
  exact ⟨some i, H1, I1, .int i t, q⟩
def SlR (X : Cx) (r : V → Option Int → Option Int → Hp → VK → Prop) : Prop :=
  ∀ (pins : List (Addr × Obj)) (s : Shared) (σ : St) (H : Hp) (x : V) (v vl vu : Value) (lo hi : Option Int) (sl : Addr) (Q : VK), Inv X pins σ H s → RelV x v → s.heap.IsSliceOf sl vl vu .none → IsPart vl lo → IsPart vu hi → r x lo hi H Q →
    ∃ T id, typeLookup (.type T) "__getitem__" = pure (some (.builtin id)) ∧ s.TypeIs v T ∧ wpAny (model X.prog X.w) X.A (getItem v (.ref sl)) (EP X pins σ Q) X.xe s
def tSl (r : V → Option Int → Option Int → Hp → VK → Prop) (te : TE) (tl th : TO) : TE := fun σ H Q => te σ H fun x H1 => tl σ H1 fun l H2 => th σ H2 fun u H3 => r x l u H3 Q
theorem pe_slice {r : V → Option Int → Option Int → Hp → VK → Prop} (hr : SlR X r) (he : PE X e te) (hl : PO X lo tl) (hu : PO X hi th) : PE X (.Subscript e (.Slice lo hi none p2) pos) (tSl r te tl th) := by
  intro pins s σ H Q I h
  refine Subscript_ (thn (he pins s σ H _ I h) fun v s1 ⟨x, H1, I1, r1, q1⟩ => ?_)
  refine wpAny_Slice (thn (hl pins s1 σ H1 _ I1 q1) fun vl s2 ⟨l, H2, I2, pl, q2⟩ => thn (hu pins s2 σ H2 _ I2 q2) fun vu s3 ⟨u, H3, I3, pu, q3⟩ => ?_)
  rw [evalPart_none]
  refine wpAny_pure ?_
  have I4 : Inv X pins σ H3 { s3 with heap := s3.heap.push { cls := .type "slice", data := .fields #[vl, vu, .none] } } := I3.kept (t' := s3.toks) fun b ob q => Heap.get?_push_of_some _ q
  obtain ⟨T, id, hT, ht, hg⟩ := hr pins { s3 with heap := s3.heap.push { cls := .type "slice", data := .fields #[vl, vu, .none] } } σ H3 x v vl vu l u s3.heap.objs.size Q I4 r1 (Heap.IsSliceOf.new ..) pl pu q3
  show wpAny (model X.prog X.w) X.A (subscriptTail e (.Slice lo hi none p2) v (.ref s3.heap.objs.size)) (EP X pins σ Q) X.xe { s3 with heap := s3.heap.push { cls := .type "slice", data := .fields #[vl, vu, .none] } }
  exact tail_any (ops := [.ref s3.heap.objs.size, v]) ht hT hg (by with_unfolding_all rfl)
def cutV (xs : List V) (lo hi : Option Int) : List V := (xs.drop (HT.sIx xs.length 0 lo)).take (HT.sIx xs.length xs.length hi - HT.sIx xs.length 0 lo)
theorem cutV_length (xs : List V) (lo hi : Option Int) : (cutV xs lo hi).length ≤ xs.length := by
  unfold cutV
  rw [List.length_take, List.length_drop]
  omega
def rSlT (K : PySem.W.Frag) : V → Option Int → Option Int → Hp → VK → Prop := fun x lo hi H Q => ∃ a xs, x = .ref a ∧ SqT K H a xs ∧
  ¬ (HT.sIx xs.length 0 lo = 0 ∧ HT.sIx xs.length xs.length hi = xs.length) ∧ ∀ p, H p = none → Q (.ref p) (upd H p (.tup (cutV xs lo hi)))
theorem sl_tup : SlR X (rSlT X.K) := by
  intro pins s σ H x v vl vu lo hi sl Q I rx hs pl pu h
  obtain ⟨a, xs, rfl, hx, hw, q⟩ := h
  cases rx
  obtain ⟨its, r, ht, hz⟩ := I.tuple hx
  have hlen : its.toArray.size = xs.length := by rw [List.size_toArray]; exact r.length.symm
  refine ⟨"tuple", _, PyProof.Rows.slot_tuple_getitem.lookup, ht.typeIs, ?_⟩
  refine HT.getItem_tuple_cut ht hs pl pu (by rw [hlen]; exact hw) ?_ (by rw [hlen]; exact hz)
  rw [hlen]
  refine ⟨.ref s.heap.objs.size, _, I.laid (t' := s.toks) (o := .tup (cutV xs lo hi)) (fun b ob q => Heap.get?_push_of_some _ q) (Nat.le_refl _) ?_, rfl, q _ (I.hok.fresh (Nat.le_refl _))⟩
  exact ⟨Nat.le_trans (cutV_length xs lo hi) hz, _, (r.drop (HT.sIx xs.length 0 lo)).take (HT.sIx xs.length xs.length hi - HT.sIx xs.length 0 lo), IsTup.new _ _⟩
def rCatT (K : PySem.W.Frag) : R2 := fun x y H Q => ∃ a b xs ys, x = .ref a ∧ y = .ref b ∧ SqT K H a xs ∧ SqT K H b ys ∧ xs ≠ [] ∧ xs.length + ys.length ≤ sizeLine ∧
  (ys = [] → Q (.ref a) H) ∧ (ys ≠ [] → ∀ p, H p = none → Q (.ref p) (upd H p (.tup (xs ++ ys))))
theorem Vals.nil_iff {xs : List V} {us : List Value} (r : Vals xs us) : us = [] ↔ xs = [] := by
  cases r with
  | nil => simp
  | cons _ _ => simp
theorem op_catT : OpR X (binaryOp .Add) (rCatT X.K) := by
  intro pins s σ H x y v u Q I rx ry h
  obtain ⟨a, b, xs, ys, rfl, rfl, ha, hb, hx, hz, q1, q2⟩ := h
  cases rx
  cases ry
  obtain ⟨its, r1, p1, _⟩ := I.tuple ha
  obtain ⟨its2, r2, p2, _⟩ := I.tuple hb
  refine HT.cat_tup p1 p2 (fun z => hx (r1.nil_iff.mp z)) (fun z => ⟨.ref a, H, I, rfl, q1 (r2.nil_iff.mp z)⟩) (fun z => ?_) (by rw [← r1.length, ← r2.length]; exact hz)
  refine ⟨.ref s.heap.objs.size, _, I.laid (t' := s.toks) (o := .tup (xs ++ ys)) (fun b ob q => Heap.get?_push_of_some _ q) (Nat.le_refl _) ?_, rfl, q2 (fun w => z (r2.nil_iff.mpr w)) _ (I.hok.fresh (Nat.le_refl _))⟩
  exact ⟨by rw [List.length_append]; exact hz, _, r1.append r2, IsTup.new _ _⟩
end
end L2
namespace L2
open PySem PySem.Spec PyProof.Rows
def ixN (n : Nat) (i : Int) : Option Nat := if 0 ≤ i then (if i < n then some i.toNat else none) else if -(n : Int) ≤ i then some (i + n).toNat else none
def atI {α : Type} (xs : List α) (i : Int) : Option α := (ixN xs.length i).bind fun j => xs[j]?
theorem ixN_seq {n : Nat} {i : Int} {j : Nat} (h : ixN n i = some j) : seqIndex? i n = some j ∧ j < n ∧ -(n : Int) ≤ i ∧ i < n := by
  unfold ixN at h
  by_cases h0 : 0 ≤ i
  · rw [if_pos h0] at h
    by_cases h1 : i < n
    · rw [if_pos h1] at h
      have e : i.toNat = j := Option.some.inj h
      exact ⟨by rw [seqIndex_of h0 h1, e], by omega, by omega, h1⟩
    · rw [if_neg h1] at h; cases h
  · rw [if_neg h0] at h
    by_cases h1 : -(n : Int) ≤ i
    · rw [if_pos h1] at h
      have e : (i + n).toNat = j := Option.some.inj h
      exact ⟨by rw [seqIndex_neg (by omega) h1, e], by omega, h1, by omega⟩
    · rw [if_neg h1] at h; cases h
theorem atI_get {α : Type} {xs : List α} {i : Int} {v : α} (h : atI xs i = some v) : ∃ j, seqIndex? i xs.length = some j ∧ xs[j]? = some v ∧ j < xs.length ∧ -(xs.length : Int) ≤ i ∧ i < xs.length := by
  unfold atI at h
  cases e : ixN xs.length i with
  | none => rw [e] at h; cases h
  | some j =>
    rw [e] at h
    obtain ⟨h1, h2, h3, h4⟩ := ixN_seq e
    exact ⟨j, h1, h, h2, h3, h4⟩
theorem atI_nat {α : Type} {xs : List α} {j : Nat} {v : α} (h : xs[j]? = some v) : atI xs (j : Int) = some v := by
  have hj : j < xs.length := (List.getElem?_eq_some_iff.mp h).1
  have e : ixN xs.length (j : Int) = some j := by
    unfold ixN
    rw [if_pos (by omega), if_pos (by omega)]; simp
  unfold atI; rw [e]; exact h
def PlainIx (b : Expr) : Prop := ∀ o i, subscripted b false o i = operate [o, i] (getItem o i)
def IxR (X : Cx) (r : R2) : Prop :=
  ∀ (value slice : Expr) (pins : List (Addr × Obj)) (s : Shared) (σ : St) (H : Hp) (x y : V) (v u : Value) (Q : VK), Inv X pins σ H s → RelV x v → RelV y u → r x y H Q →
    subscripted slice false v u = operate [v, u] (getItem v u) → wpAny (model X.prog X.w) X.A (subscriptTail value slice v u) (EP X pins σ Q) X.xe s
def MtR (X : Cx) (id : String) (r : V → List V → Hp → VK → Prop) : Prop :=
  ∀ (pins : List (Addr × Obj)) (s : Shared) (σ : St) (H : Hp) (x : V) (xs : List V) (v : Value) (us : List Value) (Q : VK), Inv X pins σ H s → RelV x v → Vals xs us → r x xs H Q →
    wpAny (model X.prog X.w) X.A (call (.builtin id) (v :: us)) (EP X pins σ Q) X.xe s
section
variable {X : Cx} {a b : Expr} {ta tb : TE} {pos : Pos}
theorem pe_ix {r : R2} (hr : IxR X r) (ha : PE X a ta) (hb : PE X b tb) (hs : PlainIx b) : PE X (.Subscript a b pos) (tOp r ta tb) := by
  intro pins s σ H Q I h
  exact Subscript_ (binT ha hb I h fun v u s2 x y H2 I2 rx ry q => hr a b pins s2 σ H2 x y v u Q I2 rx ry q (hs _ _))
def rIxL (K : PySem.W.Frag) : R2 := fun x y H Q => ∃ p xs i v, x = .ref p ∧ y = .int i ∧ SqL K H p xs ∧ atI xs i = some v ∧ Q v H
def rIxT (K : PySem.W.Frag) : R2 := fun x y H Q => ∃ p xs i v, x = .ref p ∧ y = .int i ∧ SqT K H p xs ∧ atI xs i = some v ∧ Q v H
theorem ix_list : IxR X (rIxL X.K) := by
  intro value slice pins s σ H x y v u Q I rx ry h hs
  obtain ⟨p, xs, i, z, rfl, rfl, hq, he, q⟩ := h
  cases rx
  obtain ⟨t, rfl⟩ := ry
  obtain ⟨its, r, pl, hz⟩ := I.list hq
  obtain ⟨j, h1, h2, h3, h4, h5⟩ := atI_get he
  obtain ⟨w, ew, rw'⟩ := r.get h2
  have hl := r.length
  have hn := line63
  have fin : EP X pins σ Q w s := ⟨z, H, I, rw', q⟩
  by_cases h0 : 0 ≤ i
  · have hj : i.toNat = j := by
      rw [seqIndex_of h0 h5] at h1
      exact Option.some.inj h1
    exact item_listR pl.isList h0 (by omega) (by rw [hj]; simpa using ew) fin hs
  · have hj : (i + (its.toArray.size : Int)).toNat = j := by
      rw [seqIndex_neg (by omega) h4] at h1
      rw [List.size_toArray, ← hl]
      exact Option.some.inj h1
    exact subscriptTail_builtinR (x := w) pl.isList.typeIs slot_list_getitem.lookup
      (wpAny_getItem_list_neg (Q := fun r s' => r = w ∧ EP X pins σ Q r s') pl.isList (by omega) (by rw [List.size_toArray] <;> omega) (by omega) (by rw [hj]; simpa using ew) ⟨rfl, fin⟩) hs
theorem ix_tup : IxR X (rIxT X.K) := by
  intro value slice pins s σ H x y v u Q I rx ry h hs
  obtain ⟨p, xs, i, z, rfl, rfl, hq, he, q⟩ := h
  cases rx
  obtain ⟨t, rfl⟩ := ry
  obtain ⟨its, r, pl, hz⟩ := I.tuple hq
  obtain ⟨j, h1, h2, h3, h4, h5⟩ := atI_get he
  obtain ⟨w, ew, rw'⟩ := r.get h2
  have hl := r.length
  have hn := line63
  have fin : EP X pins σ Q w s := ⟨z, H, I, rw', q⟩
  exact subscriptTail_builtinR (x := w) pl.typeIs slot_tuple_getitem.lookup
    (getItem_tuple (j := j) (Q := fun r s' => r = w ∧ EP X pins σ Q r s') pl (by omega) (by omega) (by rw [List.size_toArray, ← hl]; exact h1) (by simpa using ew) ⟨rfl, fin⟩) hs
theorem mapSeq_set (its : List Value) (n j : Nat) (u : Value) : Obj.mapSeq (·.setIfInBounds j u) { cls := .type "list", data := .seq its.toArray n } = { cls := .type "list", data := .seq (its.set j u).toArray n } := by
  simp [Obj.mapSeq]
theorem Inv.lst {pins : List (Addr × Obj)} {σ : St} {H : Hp} {s : Shared} {p : Addr} {xs : List V} (I : Inv X pins σ H s) (h : H p = some (.lst xs)) :
    ∃ (its : List Value) (n : Nat), Vals xs its ∧ s.heap.get? p = some { cls := .type "list", data := .seq its.toArray n } ∧ xs.length ≤ sizeLine := by
  obtain ⟨z, its, n, r, e⟩ := I.hok p _ h
  exact ⟨its, n, r, e, z⟩
theorem Inv.lstUpd {pins : List (Addr × Obj)} {σ : St} {H : Hp} {s : Shared} {p : Addr} {xs ys : List V} {its its' : List Value} {n n' : Nat} {f : Obj → Obj} (I : Inv X pins σ H s) (h : H p = some (.lst xs))
    (ho : s.heap.get? p = some { cls := .type "list", data := .seq its.toArray n }) (hf : f { cls := .type "list", data := .seq its.toArray n } = { cls := .type "list", data := .seq its'.toArray n' }) (r : Vals ys its') (hz : ys.length ≤ sizeLine) (t : Nat) :
    Inv X pins σ (upd H p (.lst ys)) { s with heap := s.heap.update p f, toks := t } := by
  have e : (s.heap.update p f).get? p = some { cls := .type "list", data := .seq its'.toArray n' } := by
    rw [Heap.get?_update_self f ho (by rw [hf] <;> rfl), hf]
  refine I.write (x := p) (e := p) (by rw [h]; trivial) (.inl rfl) (fun b u hb q => (Heap.get?_update_other _ _ (Ne.symm hb)).trans q) ⟨_, e⟩ ?_
  exact ⟨hz, its', n', r, e⟩
def rSetL : V → V → V → Hp → (Hp → Prop) → Prop := fun o i v H Q => ∃ p xs k j, o = .ref p ∧ i = .int k ∧ H p = some (.lst xs) ∧ ixN xs.length k = some j ∧ Q (upd H p (.lst (xs.set j v)))
theorem set_list : PSet X rSetL := by
  intro pins s σ H o i v ov iv u Q I ro ri rv h
  obtain ⟨p, xs, k, j, rfl, rfl, hp, hj, q⟩ := h
  cases ro
  obtain ⟨t, rfl⟩ := ri
  obtain ⟨its, n, r, ho, hz⟩ := I.lst hp
  obtain ⟨h1, h2, h3, h4⟩ := ixN_seq hj
  have hl := r.length
  have hn := line63
  have I' : Inv X pins σ (upd H p (.lst (xs.set j v))) { s with heap := s.heap.update p (Obj.mapSeq (·.setIfInBounds j u)) } :=
    I.lstUpd hp ho (mapSeq_set its n j u) (r.set rv j) (by rw [List.length_set]; exact hz) s.toks
  by_cases h0 : 0 ≤ k
  · have hk : k.toNat = j := by
      rw [seqIndex_of h0 h4] at h1
      exact Option.some.inj h1
    exact PySem.W.ki_setAt ho h0 (by omega) (by rw [List.size_toArray, ← hl]; exact h4) (by rw [hk]; exact ⟨_, I', q⟩)
  · have hk : (k + (its.toArray.size : Int)).toNat = j := by
      rw [seqIndex_neg (by omega) h3] at h1
      rw [List.size_toArray, ← hl]
      exact Option.some.inj h1
    exact PySem.W.ki_setBack ho (by omega) (by rw [List.size_toArray, ← hl]; exact h3) (by omega) (by rw [hk]; exact ⟨_, I', q⟩)
def flatV : V → Bool
  | .non => true
  | .bl _ => true
  | .int _ => true
  | .str _ => true
  | _ => false
def eqV : V → V → Bool
  | .non, .non => true
  | .bl a, .bl b => a == b
  | .bl a, .int b => (if a then 1 else 0) == b
  | .int a, .bl b => a == (if b then 1 else 0)
  | .int a, .int b => a == b
  | .str a, .str b => a == b
  | _, _ => false
theorem eqAt_V {A : Around} {s : Shared} {y x : V} {u v : Value} (ry : RelV y u) (rx : RelV x v) (fy : flatV y = true) (fx : flatV x = true) : SeqAt.EqAt A s u v (eqV y x) := by
  cases y with
  | non =>
    cases ry
    cases x with
    | non => cases rx; exact SeqAt.EqAt.same _
    | bl b => cases rx; exact SeqAt.EqAt.none_bool b
    | int b => obtain ⟨t, rfl⟩ := rx; exact SeqAt.EqAt.none_int b t
    | str b => obtain ⟨t, rfl⟩ := rx; exact SeqAt.EqAt.none_str b t
    | _ => exact absurd (show false = true from fx) Bool.false_ne_true
  | bl a =>
    cases ry
    cases x with
    | non => cases rx; exact SeqAt.EqAt.bool_none a
    | bl b => cases rx; exact SeqAt.EqAt.bool_bool a b
    | int b => obtain ⟨t, rfl⟩ := rx; exact SeqAt.EqAt.bool_int a b t
    | str b => obtain ⟨t, rfl⟩ := rx; exact SeqAt.EqAt.bool_str a b t
    | _ => exact absurd (show false = true from fx) Bool.false_ne_true
  | int a =>
    obtain ⟨t', rfl⟩ := ry
    cases x with
    | non => cases rx; exact SeqAt.EqAt.int_none a t'
    | bl b => cases rx; exact SeqAt.EqAt.int_bool a t' b
    | int b => obtain ⟨t, rfl⟩ := rx; exact SeqAt.EqAt.int_int a t' b t
    | str b => obtain ⟨t, rfl⟩ := rx; exact SeqAt.EqAt.int_str a t' b t
    | _ => exact absurd (show false = true from fx) Bool.false_ne_true
  | str a =>
    obtain ⟨t', rfl⟩ := ry
    cases x with
    | non => cases rx; exact SeqAt.EqAt.str_none a t'
    | bl b => cases rx; exact SeqAt.EqAt.str_bool a t' b
    | int b => obtain ⟨t, rfl⟩ := rx; exact SeqAt.EqAt.str_int a t' b t
    | str b => obtain ⟨t, rfl⟩ := rx; exact SeqAt.EqAt.str_str a t' b t
    | _ => exact absurd (show false = true from fx) Bool.false_ne_true
  | _ => exact absurd (show false = true from fy) Bool.false_ne_true
def inV (x : V) (xs : List V) : Bool := xs.any fun y => eqV y x
theorem call_len_seq : CallR X (.builtin "len") (fun xs H Q => ∃ p ys, xs = [.ref p] ∧ (SqL X.K H p ys ∨ SqT X.K H p ys) ∧ Q (.int ys.length) H) := by
  intro pins s σ H xs us Q I r h
  obtain ⟨p, ys, rfl, hq, q⟩ := h
  obtain ⟨u, rfl, rx⟩ := vals1 r
  cases rx
  have hn := line63
  rcases hq with hq | hq
  · obtain ⟨its, r', pl, hz⟩ := I.list hq
    have hlen := r'.length
    exact Calls.call_len_list pl.isList (by simp only [List.size_toArray] <;> omega) ⟨.int ys.length, H, I.tok _, ⟨s.toks + 1, by rw [List.size_toArray, hlen]⟩, q⟩
  · obtain ⟨its, r', pl, hz⟩ := I.tuple hq
    have hlen := r'.length
    exact len_tuple pl (by simp only [List.size_toArray] <;> omega) ⟨.int ys.length, H, I.tok _, ⟨s.toks + 1, by rw [List.size_toArray, hlen]⟩, q⟩
theorem call_list_of : CallR X (.type "list") (fun xs H Q => ∃ p ys, xs = [.ref p] ∧ (SqL X.K H p ys ∨ SqT X.K H p ys) ∧ ∀ l, H l = none → Q (.ref l) (upd H l (.lst ys))) := by
  intro pins s σ H xs us Q I r h
  obtain ⟨p, ys, rfl, hq, q⟩ := h
  obtain ⟨u, rfl, rx⟩ := vals1 r
  cases rx
  have fin : ∀ (its : List Value), Vals ys its → ys.length ≤ sizeLine → ∀ (h' : Heap) (c' : Nat), (∀ b o', s.heap.get? b = some o' → h'.get? b = some o') →
      h'.get? s.heap.objs.size = some { cls := .type "list", dict := none, data := .seq its.toArray c', slots := #[] } → EP X pins σ Q (.ref s.heap.objs.size) { s with heap := h' } := fun its r' hz h' c' kp e =>
    ⟨.ref s.heap.objs.size, _, I.laid (t' := s.toks) kp (Nat.le_refl _) (show ObjOk X.prog X.w _ h' _ (.lst ys) from ⟨hz, its, c', r', e⟩), rfl, q _ (I.hok.fresh (Nat.le_refl _))⟩
  rcases hq with hq | hq
  · obtain ⟨its, r', pl, hz⟩ := I.list hq
    have hlen := r'.length
    obtain ⟨o, ho, hc, n, hd⟩ := pl.isList
    exact call_list_seq p (.inl rfl) ho hc hd (fun h' c' kp e => fin its r' hz h' c' kp e) (by simp only [List.size_toArray] <;> omega)
  · obtain ⟨its, r', pl, hz⟩ := I.tuple hq
    have hlen := r'.length
    obtain ⟨o, ho, hc, n, hd⟩ := pl
    exact call_list_seq p (.inr rfl) ho hc hd (fun h' c' kp e => fin its r' hz h' c' kp e) (by simp only [List.size_toArray] <;> omega)
theorem call_tuple_of : CallR X (.type "tuple") (fun xs H Q => ∃ p ys, xs = [.ref p] ∧ ((SqL X.K H p ys ∧ ∀ l, H l = none → Q (.ref l) (upd H l (.tup ys))) ∨ (SqT X.K H p ys ∧ Q (.ref p) H))) := by
  intro pins s σ H xs us Q I r h
  obtain ⟨p, ys, rfl, h⟩ := h
  obtain ⟨u, rfl, rx⟩ := vals1 r
  cases rx
  rcases h with ⟨hq, q⟩ | ⟨hq, q⟩
  · obtain ⟨its, r', pl, hz⟩ := I.list hq
    have hlen := r'.length
    refine call_tuple_list pl.isList (fun h' kp => ?_) (by simp only [List.size_toArray] <;> omega)
    have I1 : Inv X pins σ H { s with heap := h' } := I.kept (t' := s.toks) kp
    have I2 : Inv X pins σ (upd H h'.objs.size (.tup ys)) { s with heap := h'.push { cls := .type "tuple", data := .seq its.toArray } } :=
      I1.laid (t' := s.toks) (fun b o e => Heap.get?_push_of_some _ e) (Nat.le_refl _) (show ObjOk X.prog X.w _ _ _ (.tup ys) from ⟨hz, its, r', IsTup.new _ _⟩)
    exact ⟨.ref h'.objs.size, _, I2, rfl, q _ (I1.hok.fresh (Nat.le_refl _))⟩
  · obtain ⟨its, r', pl, hz⟩ := I.tuple hq
    exact call_tuple_same pl ⟨.ref p, H, I, rfl, q⟩
def tyV (K : PySem.W.Frag) (T : String) (x : V) (H : Hp) : Prop := match x with
  | .str _ => T = "str"
  | .int _ => T = "int"
  | .ref p => (T = "list" ∧ ∃ xs, SqL K H p xs) ∨ (T = "tuple" ∧ ∃ o, K.lookup p = some o ∧ o.cls = .type "tuple" ∧ o.dict = none) ∨
      (T = "dict" ∧ ((∃ kvs, H p = some (.dK kvs)) ∨ ∃ kvs, H p = some (.dT kvs))) ∨ (T = "set" ∧ ∃ S n, H p = some (.set S n))
  | _ => False
theorem tyV_is {pins : List (Addr × Obj)} {σ : St} {H : Hp} {s : Shared} {T : String} {x : V} {v : Value} (I : Inv X pins σ H s) (r : RelV x v) (ty : tyV X.K T x H) :
    s.TypeIs v T ∧ ∀ a, v = .ref a → ∃ ob, s.heap.get? a = some ob ∧ ob.dict = none := by
  cases x with
  | str z =>
    obtain ⟨t, rfl⟩ := r
    cases (show T = "str" from ty)
    exact ⟨typeIs_str s z t, fun _ e => nomatch e⟩
  | int i =>
    obtain ⟨t, rfl⟩ := r
    cases (show T = "int" from ty)
    exact ⟨typeIs_int s i t, fun _ e => nomatch e⟩
  | ref p =>
    cases r
    rcases ty with ⟨rfl, xs, hq⟩ | ⟨rfl, o, hk, hc, hd⟩ | ⟨rfl, hk⟩ | ⟨rfl, S, n, hk⟩
    · obtain ⟨its, _, pl, _⟩ := I.list hq
      refine ⟨pl.isList.typeIs, fun a e => ?_⟩
      cases e
      obtain ⟨o, n, e, c, hd, _⟩ := pl
      exact ⟨o, e, hd⟩
    · refine ⟨⟨o, I.kIn p o hk, hc⟩, fun a e => ?_⟩
      cases e
      exact ⟨o, I.kIn _ o hk, hd⟩
    · have z : ∃ o, s.heap.get? p = some o ∧ o.ExactDict := by
        rcases hk with ⟨kvs, hk⟩ | ⟨kvs, hk⟩
        · obtain ⟨_, _, _, _, o, _, _, e, ex, _⟩ := I.hok p _ hk
          exact ⟨o, e, ex⟩
        · obtain ⟨_, _, _, _, o, _, _, e, ex, _⟩ := I.hok p _ hk
          exact ⟨o, e, ex⟩
      obtain ⟨o, e, ex⟩ := z
      refine ⟨⟨o, e, ex.1⟩, fun a e2 => ?_⟩
      cases e2
      exact ⟨o, e, ex.2.1⟩
    · obtain ⟨o, _, _, _, e, ex, _⟩ := I.hok p _ hk
      refine ⟨⟨o, e, ex.1⟩, fun a e2 => ?_⟩
      cases e2
      exact ⟨o, e, ex.2.1⟩
  | _ => exact False.elim ty
def tBM0 (K : PySem.W.Frag) (T : String) (r : V → List V → Hp → VK → Prop) (to : TE) : TE := fun σ H Q => to σ H fun x H1 => tyV K T x H1 ∧ r x [] H1 Q
variable {o e : Expr} {es : List Expr} {to : TE} {t : TA} {name : Str} {apos cpos : Pos} {T id : String} {r : V → List V → Hp → VK → Prop}
theorem pe_bm0 (pa : PlainAttrs T) (slot : Slot T name id) (hty : typeOf (.builtin id) = pure (.type "method_descriptor")) (hm : MtR X id r) (ho : PE X o to)
    (hbase : attributeBase o name X.env (eval o X.env) = eval o X.env := by rfl) (hline : (apos.endLine == cpos.line) = true := by rfl) : PE X (.Call (.Attribute o name apos) [] [] cpos) (tBM0 X.K T r to) := by
  intro pins s σ H Q I h
  refine wpAny_Call_method0_late hbase hline (thn (ho pins s σ H _ I h) fun v s1 ⟨x, H1, I1, r1, ty, q1⟩ => ?_)
  obtain ⟨h1, h2⟩ := tyV_is I1 r1 ty
  exact ⟨T, id, pa, slot, hty, h1, h2, Calls.callWith_builtin rfl (PySem.evalArgs_none (hm pins s1 σ H1 x [] v [] Q I1 r1 .nil q1))⟩
end
end L2
namespace L2
open PySem PySem.Spec PyProof.Rows
def MtM (X : Cx) (id : String) (r : V → List V → Hp → VK → Prop) : Prop :=
  ∀ (pins : List (Addr × Obj)) (s : Shared) (σ : St) (H : Hp) (x : V) (xs : List V) (v : Value) (us : List Value) (Q : VK), Inv X pins σ H s → RelV x v → Vals xs us → r x xs H Q →
    wpAny (model X.prog X.w) X.A (call (.builtin id) (v :: us)) (EP X pins σ Q) X.xe s
theorem Vals.one : ∀ {x : V} {us : List Value}, Vals [x] us → ∃ u, us = [u] ∧ RelV x u
  | _, _, .cons r .nil => ⟨_, rfl, r⟩
theorem Vals.two : ∀ {x y : V} {us : List Value}, Vals [x, y] us → ∃ u v, us = [u, v] ∧ RelV x u ∧ RelV y v
  | _, _, _, .cons r (.cons q .nil) => ⟨_, _, rfl, r, q⟩
theorem Vals.zero : ∀ {us : List Value}, Vals [] us → us = []
  | _, .nil => rfl
theorem Vals.reverse {xs : List V} {us : List Value} (h : Vals xs us) : Vals xs.reverse us.reverse := by
  induction h with
  | nil => exact .nil
  | cons r t ih => rw [List.reverse_cons, List.reverse_cons]; exact Vals.append ih (.cons r .nil)
theorem Vals.rep {xs : List V} {us : List Value} (h : Vals xs us) : ∀ k : Nat, Vals (List.replicate k xs).flatten (List.replicate k us).flatten
  | 0 => .nil
  | k + 1 => by
    rw [List.replicate_succ, List.replicate_succ, List.flatten_cons, List.flatten_cons]
    exact Vals.append h (Vals.rep h k)
theorem foldl_rep (its : List Value) : ∀ (k : Nat) (acc : List Value),
    List.foldl (fun x1 x2 => x1 ++ x2) acc.toArray (List.replicate k its.toArray) = (acc ++ (List.replicate k its).flatten).toArray
  | 0, acc => by simp
  | k + 1, acc => by
    have e : acc.toArray ++ its.toArray = (acc ++ its).toArray := by simp
    have e2 : (acc ++ its) ++ (List.replicate k its).flatten = acc ++ (List.replicate (k + 1) its).flatten := by
      rw [List.replicate_succ, List.flatten_cons, List.append_assoc]
    rw [← e2, ← foldl_rep its k (acc ++ its), ← e, List.replicate_succ, List.foldl_cons]
section
variable {X : Cx} {pins : List (Addr × Obj)} {σ : St} {H : Hp} {s : Shared} {l b : Addr} {xs ys zs : List V}
theorem Inv.lset {its its' : List Value} {n : Nat} {f : Array Value → Array Value} {t' : Nat} (I : Inv X pins σ H s) (hH : H l = some (.lst xs))
    (e : s.heap.get? l = some { cls := .type "list", data := .seq its.toArray n }) (hf : f its.toArray = its'.toArray) (hv : Vals ys its') (hz : ys.length ≤ sizeLine) :
    Inv X pins σ (upd H l (.lst ys)) { s with heap := s.heap.update l (Obj.mapSeq f), toks := t' } := by
  have q := PySem.IsL.update e f
  rw [hf] at q
  refine I.write (x := l) (e := l) (by rw [hH]; exact trivial) (.inl rfl) (fun b' u hb hu => (Heap.get?_update_other s.heap (Obj.mapSeq f) (Ne.symm hb)).trans hu) ⟨_, q⟩ ?_
  exact ⟨hz, its', _, hv, q⟩
theorem Inv.lnew {its : List Value} {t' : Nat} (I : Inv X pins σ H s) (hv : Vals ys its) (hz : ys.length ≤ sizeLine) :
    Inv X pins σ (upd H s.heap.objs.size (.lst ys)) { s with heap := s.heap.push { cls := .type "list", data := .seq its.toArray }, toks := t' } :=
  I.laid (fun _ _ q => Heap.get?_push_of_some _ q) (Nat.le_refl _) ⟨hz, its, 0, hv, Heap.get?_push_size _ rfl⟩
theorem Inv.fresh (I : Inv X pins σ H s) : H s.heap.objs.size = none := I.hok.fresh (Nat.le_refl _)
theorem Inv.lstM (I : Inv X pins σ H s) (hH : H l = some (.lst xs)) : xs.length ≤ sizeLine ∧ ∃ (its : List Value) (n : Nat), Vals xs its ∧ xs.length = its.length ∧ s.heap.get? l = some { cls := .type "list", data := .seq its.toArray n } := by
  obtain ⟨z, its, n, r, e⟩ := I.hok l _ hH
  exact ⟨z, its, n, r, r.length, e⟩
end
section
variable {X : Cx}
def rAppend : V → List V → Hp → VK → Prop := fun x vs H Q => ∃ l xs y, x = .ref l ∧ vs = [y] ∧ H l = some (.lst xs) ∧ xs.length < sizeLine ∧ Q .non (upd H l (.lst (xs ++ [y])))
theorem mt_append : MtM X "list.append" rAppend := by
  intro pins s σ H x vs v us Q I rx rv h
  obtain ⟨l, xs, y, rfl, rfl, hH, hz, q⟩ := h
  cases rx
  obtain ⟨u, rfl, ru⟩ := rv.one
  obtain ⟨z, its, n, r, hl, e⟩ := I.lstM hH
  refine call_meets F.slot_list_append ⟨_, e, rfl⟩ F.entry_list_append (F.args_list_append_2 _ _) (PySem.list_append l its.toArray n u (by rw [List.size_toArray]; omega)) ⟨e, ?_⟩
  refine ⟨.non, _, I.lset (its' := its ++ [u]) hH e (by simp) (r.append (.cons ru .nil)) ?_, rfl, q⟩
  rw [List.length_append, List.length_singleton]
  omega
def rCat : R2 := fun x y H Q => ∃ l b xs zs, x = .ref l ∧ y = .ref b ∧ H l = some (.lst xs) ∧ H b = some (.lst zs) ∧ xs.length + zs.length ≤ sizeLine ∧ ∀ p, H p = none → Q (.ref p) (upd H p (.lst (xs ++ zs)))
theorem op_cat : OpR X (binaryOp .Add) rCat := by
  intro pins s σ H x y v u Q I rx ry h
  obtain ⟨l, b, xs, zs, rfl, rfl, hH, hB, hz, q⟩ := h
  cases rx
  cases ry
  obtain ⟨z, its, n, r, hl, e⟩ := I.lstM hH
  obtain ⟨z2, its2, n2, r2, hl2, e2⟩ := I.lstM hB
  refine PySem.P.add_list e e2 ?_ (by rw [List.size_toArray, List.size_toArray]; omega)
  have ea : its.toArray ++ its2.toArray = (its ++ its2).toArray := by simp
  rw [ea]
  exact ⟨.ref _, _, I.lnew (t' := s.toks) (r.append r2) (by rw [List.length_append]; omega), rfl, q _ I.fresh⟩
theorem len_rep {α : Type} (xs : List α) (k : Nat) : (List.replicate k xs).flatten.length = k * xs.length := by
  induction k with
  | zero => simp
  | succ k ih => rw [List.replicate_succ, List.flatten_cons, List.length_append, ih, Nat.succ_mul, Nat.add_comm]
end
section
variable {prog : Program} {w : World} {A : Around} {E : Value → Shared → Prop} {s : Shared}
end
section
variable {X : Cx}
end
end L2
namespace Att
open PySem PySem.W PySem.Calls PyProof.Rows
theorem ints_of_wellAll {P : Params} {h : Heap} : ∀ (ns : List Int) (vs : List Value), WellAll P h vs (ns.map WData.int) → IntsAre vs ns := by
  intro ns
  induction ns with
  | nil =>
    intro vs w
    rw [List.map_nil] at w
    cases w
    exact .nil
  | cons n ns ih =>
    intro vs w
    rw [List.map_cons] at w
    cases w with
    | cons a b =>
      cases a
      exact .cons _ _ (ih _ b)
theorem script_of {l : OpenLaw} {n : Nat} (hn : l.most = some n) {P : Params} {h : Heap} {args : List WData} {vals : List Value}
    (hpre : l.row.toRowW.claim.pre args = true) (hwl : WellAll P h vals args) :
    ∃ a vs ns, vals = [Value.ref a] ∧ args = [WData.list (ns.map WData.int)] ∧ h.get? a = some { cls := .type "list", data := .seq vs.toArray } ∧ IntsAre vs ns ∧ ns.length ≤ n := by
  have hsh : WShape.hasAll [] args [.list .int] = true := (pre_splitW hpre).1
  have hc : l.pre.holds [] { args := args } = true := (pre_splitW hpre).2
  obtain ⟨d, r, rfl, h1, h2⟩ := hasAllW_cons hsh
  obtain rfl := hasAllW_nil h2
  obtain ⟨xs, rfl, h3⟩ := hasW_list h1
  obtain ⟨ns, rfl⟩ := items_int h3
  have hlen : ns.length ≤ n := by
    unfold OpenLaw.pre at hc
    have h4 : (WTm.not (.lt (.lit (.int (n : Int))) (.len (.arg 0)))).holds [] { args := [.list (ns.map .int)] } = true := by
      have h4 := (holds_andW hc).1
      rw [hn] at h4
      exact h4
    have h5 := condW_of h4 (w_not (w_lt w_lit (w_len_list (w_arg rfl))))
    rw [List.length_map] at h5
    refine Nat.le_of_not_lt fun q => ?_
    have q' : (n : Int) < ((ns.length : Nat) : Int) := by omega
    first
      | (rw [decide_eq_true q'] at h5; exact absurd h5 (by decide))
      | (simp at h5; omega)
  cases hwl with
  | cons w1 w2 =>
    cases w2
    cases w1 with
    | list ho hall => exact ⟨_, _, ns, rfl, rfl, ho, ints_of_wellAll ns _ hall, hlen⟩
theorem post_true (l : OpenLaw) (args : List WData) : l.row.toRowW.claim.post args (.bool true) args = true :=
  postW_of (r := l.row.toRowW) (X := (true == true))
    (show WShape.has [] (.bool true) .bool = true by first | rfl | decide | simp [WShape.has, WShape.arms, WShape.armsAll])
    (show (WTm.eq .res (.lit (.bool true))).value [] { args := args, res := some (.bool true), after := args } = some (.bool (true == true)) from w_eq_bool (w_res rfl) w_lit) rfl
theorem attach_call {l : OpenLaw} {n : Nat} {q : Program} {loose : List Str} {XP : (Str → Option Value) → Heap → Prop} {YP : World → Heap → Prop} {d : DefRec}
    (hn : l.most = some n) (hdf : d.params.defaults = [])
    (call : ∀ (w : World) (s₀ s₁ : Shared) (mg mb : Str → Option Value) (fa : Addr) (o : Obj) (pm cd doc : Value) (a : Addr) (vs : List Value) (ns : List Int),
      Ground q loose [] XP w s₀ mg mb s₁.heap → YP w s₁.heap →
      s₁.heap.get? fa = some o → o.data = .func (docDef d.name d.params d.body d.scope pm cd doc) → s₁.heap.CodeRec cd d.name → mg d.name = some (.ref fa) →
      s₁.heap.get? a = some { cls := .type "list", data := .seq vs.toArray } → IntsAre vs ns → ns.length ≤ n → s₁.gens = #[] →
      codeAny (model l.prog w) callerA (.call (.ref fa) ⟨[.ref a], []⟩) (fun r s' => r = .ok (.ret (.bool true)) ∧ OldK s₁.heap s'.heap ∧ s'.os = s₁.os ∧ AllBare s'.gens) s₁) :
    WalkO q loose XP YP l.row.toRowW d [] (fun f vs => PySem.call f vs) := by
  intro w s₀ s₁ mg mb G Y fa o pm cd doc dV kV ho hd hcd hD hmg hg args vals as hpre hlay hrd hwl hlo
  obtain rfl : dV = .none := Dflts.none hD hdf
  obtain rfl : kV = .none := Dflts.noKw hD
  obtain ⟨a, vs, ns, rfl, rfl, hobj, hints, hlen⟩ := script_of hn hpre hwl
  refine enter_call (codeAny_mono (call w s₀ s₁ mg mb fa o pm cd doc a vs ns G Y ho (fd_plain hd) hcd hmg hobj hints hlen hg) fun r s' hq => ?_)
  obtain ⟨rfl, h2, h3, h4⟩ := hq
  exact ⟨.inl ⟨.bool true, .bool true, [], rfl, fun _ => rfl, .bool true, post_true l _, fun _ => ⟨List.Pairwise.nil, fun _ hm => (nomatch hm)⟩⟩, h2, h3, h4⟩
section
variable {prog : Program} {w : World} {A : Around} {E : Value → Shared → Prop} {s : Shared} {K : Frag}
end
end Att
namespace L2
open PySem PySem.Spec PyProof.Rows
theorem vals_ints : ∀ {vs : List Value} {ns : List Int}, IntsAre vs ns → Vals (ns.map V.int) vs
  | _, _, .nil => .nil
  | _, _, .cons n t h => .cons ⟨t, rfl⟩ (vals_ints h)
def Only (H : Hp) : Prop := ∀ b, H b = none ∨ ∃ o xs, H b = some (.frz o (.lst xs))
theorem law_call {P : Program} {w : World} {K : PySem.W.Frag} {mg mb : Str → Option Value} {CX : CXT} {k : Nat} {fa a : Addr} {fd : FuncData} {x : Str} {sp : Sp} {s₁ : Shared} {vs : List Value} {ns : List Int}
    (KX : K.In s₁.heap) (hns : s₁.heap.Ns mainGlobals mg) (hb : s₁.heap.Ns builtinsNs mb) (hbb : ∀ x : Str, x ≠ "__name__" → mb x = bootBuiltins x) (hlim : s₁.heap.NoLimit) (hg : s₁.gens = #[])
    (ha : s₁.heap.get? a = some { cls := .type "list", data := .seq vs.toArray }) (hi : IntsAre vs ns) (hl : ns.length ≤ sizeLine) (hr : Room k callerA)
    (F : ∀ base : Heap, K.In base → base.Ns mainGlobals mg → FnOk P w K mg base CX k fa fd [x] sp) (hbind : ∀ (s : Shared) (u : Value), BindsTo s fd ⟨[u], []⟩ [(x, u)])
    (hsp : ∀ H : Hp, Only H → SqL K H a (ns.map V.int) → sp [.ref a] H (fun v _ => v = .bl true) fun _ _ _ => False)
    (hCX : ∀ H e s', CX [] H s₁ (fun _ _ _ => False) e s' → False) :
    codeAny (model P w) callerA (.call (.ref fa) ⟨[.ref a], []⟩) (fun r s' => r = .ok (.ret (.bool true)) ∧ OldK s₁.heap s'.heap ∧ s'.os = s₁.os ∧ AllBare s'.gens) s₁ := by
  have rv := vals_ints hi
  have lenV := hi.length
  have core : ∀ H : Hp, Only H → SqL K H a (ns.map V.int) → HOk P w H s₁.heap → (∀ b, H b ≠ none → b = a) → (H a ≠ none → K.lookup a = none) →
      codeAny (model P w) callerA (.call (.ref fa) ⟨[.ref a], []⟩) (fun r s' => r = .ok (.ret (.bool true)) ∧ OldK s₁.heap s'.heap ∧ s'.os = s₁.os ∧ AllBare s'.gens) s₁ := by
    intro H hO hS hok hA hK
    have base_of : ∀ {b : Addr} {o : Obj}, s₁.heap.get? b = some o → H b = none → (hidT s₁.heap H).get? b = some o := fun e n => hidT_get e n
    have noA : ∀ {b : Addr} {o : Obj} {es : Array DictEntry} {ep : Nat}, s₁.heap.get? b = some o → o.data = .dict es ep → H b = none := fun {b o es ep} e d => by
      cases q : H b with
      | none => rfl
      | some u =>
        have e' : b = a := hA b (by rw [q]; simp)
        subst e'
        rw [ha] at e; cases e
        have d' : Data.seq vs.toArray _ = Data.dict es ep := d
        cases d'
    have nsK : ∀ {b : Addr} {m : Str → Option Value}, s₁.heap.Ns b m → (hidT s₁.heap H).Ns b m := fun {b m} ⟨o, es, ep, e, d, r⟩ => ⟨o, es, ep, base_of e (noA e d), d, r⟩
    have hKb : K.In (hidT s₁.heap H) := fun b o e => base_of (KX b o e) (by
      cases q : H b with
      | none => rfl
      | some u =>
        have e' : b = a := hA b (by rw [q]; simp)
        subst e'
        rw [hK (by rw [q]; simp)] at e; cases e)
    have hM : Mod K mg (hidT s₁.heap H) := ⟨hKb, nsK hns, ⟨mb, nsK hb, hbb⟩, let ⟨mc, h1, h2⟩ := hlim; ⟨mc, nsK h1, h2⟩⟩
    have e0 : Env0 P w K mg (hidT s₁.heap H) callerA [] s₁ H := ⟨rfl, hM, fun b o e => of_hidT e, Nat.le_of_eq (hidT_size _ _), trivial, fun b hb => absurd (show b ∈ ([] : List Addr) from hb) (by simp), hok, .of_eq hg⟩
    refine codeAny_mono ((F _ hKb (nsK hns)).run callerA [] s₁ H ⟨[.ref a], []⟩ [.ref a] [.ref a] _ _ hr e0 (hbind s₁ (.ref a)) (.cons rfl .nil) (hsp H hO hS)) fun r s' h => ?_
    cases r with
    | error e => exact (hCX H e s' h).elim
    | ok fl =>
      cases fl with
      | next => exact False.elim h
      | brk => exact False.elim h
      | cont => exact False.elim h
      | ret u =>
        obtain ⟨v, H', os, bare, un, hok', r', q⟩ := h
        have q' : v = .bl true := q
        subst q'
        obtain rfl : u = Value.bool true := r'
        refine ⟨rfl, OldK.of_keep fun b o e => ?_, os, bare⟩
        cases q : H b with
        | none => exact un.keep b o e q (by intro z; exact absurd (show b ∈ ([] : List Addr) from z) (by simp)) (by simp)
        | some u =>
          rcases hO b with z | ⟨ob, xs, z⟩
          · rw [q] at z; cases z
          · have z2 := un.frzs b ob _ z
            obtain ⟨e1, _⟩ := hok b _ z
            obtain ⟨e2, _⟩ := hok' b _ z2
            rw [e] at e1; cases e1
            exact e2
  cases hk : K.lookup a with
  | some o =>
    have e := KX a o hk
    rw [ha] at e
    cases e
    refine core (fun _ => none) (fun _ => .inl rfl) (.inr ⟨_, vs.toArray, _, hk, rfl, rfl, rfl, by rw [List.size_toArray, lenV]; exact hl, by simpa using rv⟩) (fun b u z => by have z' : (none : Option HO) = some u := z; cases z') (fun b z => absurd rfl z) fun z => absurd rfl z
  | none =>
    refine core (fun b => if b = a then some (.frz { cls := .type "list", data := .seq vs.toArray } (.lst (ns.map V.int))) else none) (fun b => ?_) (.inl (.inr ⟨{ cls := .type "list", data := .seq vs.toArray }, if_pos rfl⟩)) (fun b u z => ?_) (fun b z => ?_) fun _ => hk
    · by_cases hb : b = a
      · exact .inr ⟨_, _, if_pos hb⟩
      · exact .inl (if_neg hb)
    · by_cases hb : b = a
      · have z' := (if_pos hb).symm.trans z
        cases z'
        subst hb
        exact ⟨ha, by rw [List.length_map]; exact hl, vs, _, rv, ha⟩
      · have z' := (if_neg hb).symm.trans z
        cases z'
    · by_cases hb : b = a
      · exact hb
      · exact absurd (if_neg hb) z
end L2
namespace L2
open PySem PySem.Spec PyProof.Rows
theorem walk_of {l : PySem.W.OpenLaw} {n k : Nat} {q : Program} {loose : List Str} {XP : (Str → Option Value) → Heap → Prop} {YP : World → Heap → Prop} {d : DefRec} {K : Params → PySem.W.Frag} {CX : World → CXT} {sp : World → Sp} {x : Str}
    (hn : l.most = some n) (hn2 : n ≤ sizeLine) (hdf : d.params.defaults = []) (hr : Room k callerA)
    (hY : ∀ (w : World) (h : Heap), YP w h → (K w.params).In h)
    (F : ∀ (w : World) (mg : Str → Option Value) (fa : Addr) (h : Heap), (K w.params).In h → h.Ns mainGlobals mg → mg d.name = some (.ref fa) →
      ∃ fd : FuncData, (∀ (s : Shared) (u : Value), BindsTo s fd ⟨[u], []⟩ [(x, u)]) ∧
        ∀ base : Heap, (K w.params).In base → base.Ns mainGlobals mg → FnOk l.prog w (K w.params) mg base (CX w) k fa fd [x] (sp w))
    (hsp : ∀ (w : World) (H : Hp) (a : Addr) (ns : List Int), ns.length ≤ n → Only H → SqL (K w.params) H a (ns.map V.int) → sp w [.ref a] H (fun v _ => v = .bl true) fun _ _ _ => False)
    (hCX : ∀ (w : World) (H : Hp) (s : Shared) (e : Value) (s' : Shared), CX w [] H s (fun _ _ _ => False) e s' → False) :
    PySem.W.WalkO q loose XP YP l.row.toRowW d [] (fun f vs => PySem.call f vs) := by
  refine Att.attach_call hn hdf fun w s₀ s₁ mg mb fa o pm cd doc a vs ns G Y ho hd hcd hmg hobj hints hlen hg => ?_
  have KX := hY w _ Y
  obtain ⟨fd, hb, hF⟩ := F w mg fa _ KX G.T.g hmg
  exact law_call KX G.T.g G.T.b G.T.builtins G.T.nolimit hg hobj hints (Nat.le_trans hlen hn2) hr hF hb (fun H hO hS => hsp w H a ns hlen hO hS) fun H e s' => hCX w H s₁ e s'
end L2
namespace L2
open PySem PySem.Spec PyProof.Rows
def defArgs (s : Stmt) : Arguments := match s with
  | .FunctionDef _ a _ _ _ _ _ _ _ _ => a
  | _ => { posonlyargs := [], args := [], vararg := none, kwonlyargs := [], kw_defaults := [], kwarg := none, defaults := [] }
def defBody (s : Stmt) : List Stmt := match s with
  | .FunctionDef _ _ b _ _ _ _ _ _ _ => b
  | _ => []
def defScope (s : Stmt) : Scope := match s with
  | .FunctionDef _ _ _ _ _ _ sc _ _ _ => sc
  | _ => { kind := .function, names := [], isGenerator := false, isCoroutine := false }
abbrev CX0 : CXT := fun _ _ _ _ _ _ => False
abbrev E0 : XK := fun _ _ _ => False
theorem pass0 {X : Cx} : Passes CX0 X E0 := fun _ _ _ _ _ _ _ h => h.elim
structure Fun (K : PySem.W.Frag) (x qual : Str) (st : Stmt) (f : Addr) (fd : FuncData) : Prop where
  ex : ∃ (oc : Value) (od : Option Addr) (kV doc pm : Value) (an : Option Addr) (cdv ct : Value) (osl : Array (Option Value)),
    fd = PySem.W.fnOf x qual (defArgs st) (defBody st) (defScope st) .none kV doc pm an cdv ct ∧ K.lookup f = some ⟨oc, od, .func fd, osl⟩ ∧ PySem.W.codeIn K cdv qual = true
  kp : PySem.W.keepIn K (.ref f) = true
section
variable {P : Program} {w : World} {K : PySem.W.Frag} {mg : Str → Option Value} {base : Heap}
theorem Fun.ok {x qual : Str} {st : Stmt} {f : Addr} {fd : FuncData} {N ps : List Str} {k : Nat} {sp : Sp} (F : Fun K x qual st f fd) (S : FnScope N ps (defScope st)) (len : ∀ vs H Q E, sp vs H Q E → vs.length = ps.length)
    (hbody : ∀ (cdv : Value) (A : Around) (outer : List Env) (s : Shared) (H : Hp) (vs : List V) (Q : VK) (E : XK), Room k (A.deeper (envOfC qual (defScope st) s.heap.objs.size f cdv)) → sp vs H Q E →
      ∃ t, PSs (cxOf CX0 P w K mg base N qual (defScope st) f cdv A outer s H E).nox (defBody st) t ∧ t { nx := fun _ H' => Q .non H', rt := Q } (start N vs) H) : FnOk P w K mg base CX0 (k + 1) f fd ps sp := by
  obtain ⟨oc, od, kV, doc, pm, an, cdv, ct, osl, rfl, lk, hcd⟩ := F.ex
  refine fn_of lk hcd S len fun A outer s H vs Q E hr hsp => ?_
  obtain ⟨t, h, q⟩ := hbody cdv A outer s H vs Q E hr hsp
  exact ⟨t, h.nox, q⟩
theorem Fun.binds {x qual : Str} {st : Stmt} {f : Addr} {fd : FuncData} {ps : List Str} (F : Fun K x qual st f fd)
    (h : ∀ (kV doc pm : Value) (an : Option Addr) (cdv ct : Value) (us : List Value), us.length = ps.length → bindArgs (PySem.W.fnOf x qual (defArgs st) (defBody st) (defScope st) .none kV doc pm an cdv ct) ⟨us, []⟩ = pure (ps.zip us)) : Binds K fd ps [] := by
  obtain ⟨oc, od, kV, doc, pm, an, cdv, ct, osl, rfl, lk, hcd⟩ := F.ex
  exact .all (h kV doc pm an cdv ct)
theorem fun_mk {x qual : Str} {st : Stmt} {f : Addr} {oc : Value} {od an : Option Addr} {osl : Array (Option Value)} {kV doc pm cdv ct : Value} (l : K.lookup f = some ⟨oc, od, .func (PySem.W.fnOf x qual (defArgs st) (defBody st) (defScope st) .none kV doc pm an cdv ct), osl⟩)
    (c : PySem.W.codeIn K cdv qual = true) (k : PySem.W.keepIn K (.ref f) = true) : Fun K x qual st f (PySem.W.fnOf x qual (defArgs st) (defBody st) (defScope st) .none kV doc pm an cdv ct) := ⟨⟨oc, od, kV, doc, pm, an, cdv, ct, osl, rfl, l, c⟩, k⟩
end
theorem small1000 {n : Nat} (h : n ≤ 1000) : n < sizeLine := Nat.lt_of_le_of_lt h (by decide)
section
variable {X : Cx}
theorem pv (i : Nat) {x : Str} {pos : Pos} (hN : X.N[i]? = some x := by rfl) (hv : Vis X.env.scope x := by first | exact Or.inl rfl | exact Or.inr (Or.inl rfl) | exact Or.inr (Or.inr rfl)) (hd : (x == ("__debug__" : Str)) = false := by decide)
    (hcd : (x == ("__classdict__" : Str)) = false := by decide) : PE X (.Name x pos) (tVar i) := pe_var hN hv hd hcd
end
def Same (H H' : Hp) : Prop := ∀ b o, H b = some o → H' b = some o
theorem Same.refl (H : Hp) : Same H H := fun _ _ h => h
theorem Same.trans {H H1 H2 : Hp} (a : Same H H1) (b : Same H1 H2) : Same H H2 := fun c o h => b c o (a c o h)
theorem Same.free {H H' : Hp} (e : Same H H') {l : Addr} (h : H' l = Option.none) : H l = Option.none := by
  cases q : H l with
  | none => rfl
  | some o =>
    rw [e l o q] at h
    cases h
theorem Same.seq {K : PySem.W.Frag} {H H' : Hp} {a : Addr} {xs : List V} (e : Same H H') (h : SqL K H a xs) : SqL K H' a xs := by
  rcases h with (h | ⟨o, h⟩) | h
  · exact .inl (.inl (e _ _ h))
  · exact .inl (.inr ⟨o, e _ _ h⟩)
  · exact .inr h
end L2
end
section
set_option Elab.async false
set_option linter.all false
set_option maxRecDepth 100000
namespace L2
open PySem PySem.Spec PyProof.Rows
def clos : List (Str × NameKind) → List (Str × Addr) → List (Str × Addr) → Option (List (Str × Addr))
  | [], _, acc => some acc
  | (n, k) :: r, cs, acc => if k == .free then (match cs.lookup n with | some c => clos r cs ((n, c) :: acc) | none => none) else clos r cs acc
theorem clos_run {env : Env} : ∀ (names : List (Str × NameKind)) (acc cl : List (Str × Addr)), clos names env.cells acc = some cl →
    (forIn names acc fun (x : Str × NameKind) (cs : List (Str × Addr)) => (if (x.2 == NameKind.free) = true then (do let c ← cellOf env x.1; pure (ForInStep.yield ((x.1, c) :: cs))) else pure (ForInStep.yield cs) : Sem (ForInStep (List (Str × Addr))))) = (pure cl : Sem _)
  | [], acc, cl, h => by
    have e : acc = cl := Option.some.inj h
    subst e; rfl
  | (n, k) :: r, acc, cl, h => by
    unfold clos at h
    rw [List.forIn_cons]
    cases hk : k == NameKind.free with
    | false =>
      rw [hk] at h
      have ih := clos_run (env := env) r acc cl (by simpa using h)
      simp only [hk, Bool.false_eq_true, if_false, pure_bind]
      exact ih
    | true =>
      rw [hk] at h
      simp only [if_true] at h
      cases hc : env.cells.lookup n with
      | none => rw [hc] at h; cases h
      | some c =>
        rw [hc] at h
        have ih := clos_run (env := env) r ((n, c) :: acc) cl h
        have e : cellOf env n = pure c := by unfold cellOf; rw [hc]
        simp only [hk, if_true, e, pure_bind]
        exact ih
theorem closureFor_clos {scope : Scope} {env : Env} {cl : List (Str × Addr)} (h : clos scope.names env.cells [] = some cl) : closureFor scope env = pure cl := by
  have q := clos_run scope.names [] cl h
  unfold closureFor
  show (do let r ← _; pure r) = _
  refine Eq.trans ?_ (congrArg (fun z => z >>= fun r => pure r) q) |>.trans ?_
  · rfl
  · rfl
theorem clos_sub {cs : List (Str × Addr)} : ∀ (names : List (Str × NameKind)) (acc cl : List (Str × Addr)), clos names cs acc = some cl → (∀ n c, (n, c) ∈ acc → cs.lookup n = some c) → ∀ n c, (n, c) ∈ cl → cs.lookup n = some c
  | [], acc, cl, h, ha, n, c, hm => by
    have e : acc = cl := Option.some.inj h
    subst e; exact ha n c hm
  | (n0, k) :: r, acc, cl, h, ha, n, c, hm => by
    unfold clos at h
    split at h
    · split at h
      · rename_i c0 hc
        refine clos_sub r _ cl h (fun n' c' h' => ?_) n c hm
        rcases List.mem_cons.mp h' with e | h'
        · cases e; exact hc
        · exact ha n' c' h'
      · cases h
    · exact clos_sub r acc cl h ha n c hm
theorem clos_mono {cs : List (Str × Addr)} : ∀ (names : List (Str × NameKind)) (acc cl : List (Str × Addr)), clos names cs acc = some cl → ∀ p ∈ acc, p ∈ cl
  | [], acc, cl, h, p, hp => by
    have e : acc = cl := Option.some.inj h
    subst e; exact hp
  | (n0, k) :: r, acc, cl, h, p, hp => by
    unfold clos at h
    split at h
    · split at h
      · exact clos_mono r _ cl h p (List.mem_cons_of_mem _ hp)
      · cases h
    · exact clos_mono r acc cl h p hp
theorem clos_has {cs : List (Str × Addr)} : ∀ (names : List (Str × NameKind)) (acc cl : List (Str × Addr)), clos names cs acc = some cl → ∀ n, (n, NameKind.free) ∈ names → ∃ c, (n, c) ∈ cl
  | (n0, k) :: r, acc, cl, h, n, hn => by
    unfold clos at h
    rcases List.mem_cons.mp hn with e | hn
    · cases e
      simp only [beq_self_eq_true, if_true] at h
      split at h
      · rename_i c0 hc
        exact ⟨c0, clos_mono r _ cl h _ List.mem_cons_self⟩
      · cases h
    · split at h
      · split at h
        · exact clos_has r _ cl h n hn
        · cases h
      · exact clos_has r acc cl h n hn
theorem lookup_of_mem {β : Type} : ∀ {l : List (Str × β)} {n : Str} {c : β}, (n, c) ∈ l → ∃ c', l.lookup n = some c'
  | (m, d) :: r, n, c, h => by
    rw [List.lookup_cons]
    cases e : n == m with
    | true => exact ⟨d, rfl⟩
    | false =>
      rcases List.mem_cons.mp h with q | q
      · cases q; simp at e
      · exact lookup_of_mem q
theorem clos_lookup {cs cl : List (Str × Addr)} {names : List (Str × NameKind)} (h : clos names cs [] = some cl) {x : Str} {c : Addr} (q : cl.lookup x = some c) : cs.lookup x = some c :=
  clos_sub names [] cl h (fun _ _ z => absurd z (by simp)) x c (PySem.mem_of_lookup q)
theorem relabel_free {env : Env} : ∀ {names : List (Str × NameKind)} {x : Str}, (∀ y ∈ names, y.2 ≠ NameKind.cell) →
    ((names.map fun (n, k) => if (k == NameKind.free && env.scope.kind == .function && env.kindOf n == some .cell) then (n, NameKind.cell) else (n, k)).lookup x = some .cell ∨
     (names.map fun (n, k) => if (k == NameKind.free && env.scope.kind == .function && env.kindOf n == some .cell) then (n, NameKind.cell) else (n, k)).lookup x = some .free) → (x, NameKind.free) ∈ names
  | [], x, _, h => by simp at h
  | (n, k) :: r, x, hc, h => by
    have ih := @relabel_free env r x (fun y hy => hc y (List.mem_cons_of_mem _ hy))
    rw [List.map_cons] at h
    cases hx : x == n with
    | true =>
      have e : x = n := by simpa using hx
      subst e
      by_cases hk : k = NameKind.free
      · subst hk; exact List.mem_cons_self
      · have hb : (k == NameKind.free) = false := by simpa using hk
        simp only [hb, Bool.false_and, Bool.false_eq_true, if_false, List.lookup_cons, beq_self_eq_true] at h
        rcases h with h | h
        · exact absurd (Option.some.inj h) (hc (x, k) List.mem_cons_self)
        · exact absurd (Option.some.inj h) hk
    | false =>
      refine List.mem_cons_of_mem _ (ih ?_)
      by_cases hcnd : (k == NameKind.free && env.scope.kind == .function && env.kindOf n == some .cell) = true
      · simp only [hcnd, if_true, List.lookup_cons, hx] at h; exact h
      · simp only [hcnd, if_false, List.lookup_cons, hx, Bool.false_eq_true] at h; exact h
theorem relabel_free' {sc : Scope} {env : Env} {x : Str} (hc : ∀ y ∈ sc.names, y.2 ≠ NameKind.cell) (h : (relabel sc env).names.lookup x = some .cell ∨ (relabel sc env).names.lookup x = some .free) : (x, NameKind.free) ∈ sc.names := relabel_free hc h
def cxc (X : Cx) (N : List Str) (sc : Scope) (cl : List (Str × Addr)) (s : Shared) (H : Hp) (ex : List Addr) : Cx where
  prog := X.prog
  w := X.w
  K := X.K
  mg := X.mg
  base := X.base
  A := X.A
  N := N
  s₀ := s
  H₀ := H
  env := compEnvC sc cl s.heap.objs.size X.env
  outer := X.stack
  stack := X.stack
  ex := ex
  fn := fun _ => false
  calm := X.calm
  pn := []
  xe := fun _ _ => False
def frS (fr : List (Option Nat)) (σ : St) : St := fr.map fun o => o.bind fun j => (σ[j]?).bind id
def PIfs (X : Cx) (ifs : List Expr) (t : TT) : Prop :=
  ∀ (pins : List (Addr × Obj)) (s : Shared) (σ : St) (H : Hp) (Q : Bool → Hp → Prop), Inv X pins σ H s → t σ H Q →
    wpAny (model X.prog X.w) X.A (forIn ifs true fun c r => if r = true then do let ok ← isTrue c X.env (eval c X.env); pure (ForInStep.yield ok) else pure (ForInStep.yield r)) (TP X pins σ Q) X.xe s
def tTrue : TT := fun _ H Q => Q true H
theorem pif_nil {X : Cx} : PIfs X [] tTrue := fun _ _ _ _ _ I h => wpAny_tests_nil ⟨_, I, h⟩
theorem pif_one {X : Cx} {c : Expr} {t : TT} (h : PT X c t) : PIfs X [c] t := fun pins s σ H Q I q => wpAny_tests_one (h pins s σ H Q I q)
abbrev TB := St → Hp → (St → Hp → Prop) → Prop
def PB (X : Cx) (body : Sem Unit) (t : TB) : Prop :=
  ∀ (pins : List (Addr × Obj)) (s : Shared) (σ : St) (H : Hp) (N : St → Hp → Prop), Inv X pins σ H s → t σ H N →
    wpAny (model X.prog X.w) X.A body (fun _ s' => ∃ σ' H', Inv X pins σ' H' s' ∧ N σ' H') X.xe s
def tEmit (p : Addr) (te : TE) : TB := fun σ H N => te σ H fun y H1 => ∃ ys, H1 p = some (.lst ys) ∧ ys.length < sizeLine ∧ N σ (upd H1 p (.lst (ys ++ [y])))
theorem pb_emit {X : Cx} {elt : Expr} {te : TE} {p : Addr} (h : PE X elt te) : PB X (do let _ ← call (.builtin "list.append") [.ref p, ← eval elt X.env]) (tEmit p te) := by
  intro pins s σ H N I q
  refine wpAny_bind (thn (h pins s σ H _ I q) fun u s1 ⟨y, H1, I1, r, ys, hp, hz, n⟩ => ?_)
  refine wpAny_bind (thn (mt_append (X := X) pins s1 σ H1 (.ref p) [y] (.ref p) [u] (fun _ H2 => N σ H2) I1 rfl (.cons r .nil) ⟨p, ys, y, rfl, rfl, hp, hz, n⟩) fun _ s2 ⟨_, H2, I2, _, n2⟩ => wpAny_pure ⟨σ, H2, I2, n2⟩)
def tCL (J : It) (g : TG) (tc : TT) (tb : TB) : (St → Hp → Prop) → St → Hp → Prop := fun D σ H => ∃ W : Nat → Nat → St → Hp → Prop, (∃ m, W 0 m σ H) ∧ ∀ i m σ H, W i m σ H →
  (J.stop i H ∧ D σ H) ∨ (J.go i H ∧ ∃ N : St → Hp → Prop, (∀ σ' H', N σ' H' → ∃ m', m' < m ∧ W (i + 1) m' σ' H') ∧ ∀ x H', J.yld i H x H' → g x σ H' fun σ2 H2 => tc σ2 H2 fun b H3 => if b = true then tb σ2 H3 N else N σ2 H3)
theorem comp_loop {X : Cx} {e tg : Expr} {d : Nat} {ip : Pos} {ifs : List Expr} {body : Sem Unit} {acc : Value} {it : Addr} {fp : List Addr} {tn : Nat → Heap → Prop} {J : It} {g : TG} {tc : TT} {tb : TB} {D : St → Hp → Prop} {pins : List (Addr × Obj)} {σ : St} {H : Hp} {s : Shared}
    (hc : X.calm = true) (hx : X.xe = fun _ _ => False)
    (heq : compTurn e d (.ref it) acc X.env = (do
      standAt ip
      match ← pyNext (.ref it) with
      | none => pure (.done .next)
      | some v =>
        letOwnedTupleGo tg (.ref it) v
        assign tg X.env v
        let mut ok := true
        for c in ifs do
          if ok then ok ← isTrue c X.env (eval c X.env)
        if ok then body
        again (.compLoop e d (.ref it) acc X.env)))
    (hfrm : (Code.compLoop e d (.ref it) acc X.env).isFrame = false) (hund : X.A.under (Code.compLoop e d (.ref it) acc X.env) = X.A) (hq : (Code.compLoop e d (.ref it) acc X.env).quiet = true)
    (T : Turn X.prog X.w X.K tg J fp it tn) (hg : PG X tg g) (hi : PIfs X ifs tc) (hb : PB X body tb)
    (I : Inv X pins σ H s) (st : tn 0 s.heap) (f : ∀ b ∈ fp, FpOk X pins H b) (h : tCL J g tc tb D σ H) :
    codeAny (model X.prog X.w) X.A (.compLoop e d (.ref it) acc X.env) (fun r s' => r = .ok .next ∧ ∃ σ' H', Inv X pins σ' H' s' ∧ D σ' H') s := by
  obtain ⟨W, ⟨m0, w0⟩, turn⟩ := h
  have stat : ∀ {H' : Hp}, (∀ b ∈ fp, H' b = none) → ∀ b ∈ fp, FpOk X pins H' b := fun hn b hb => ⟨hn b hb, (f b hb).2⟩
  refine codeAny_loop hq (fun n s' => ∃ i σ' H', Inv X pins σ' H' s' ∧ tn i s'.heap ∧ (∀ b ∈ fp, H' b = none) ∧ W i n σ' H') ?_ m0 ⟨0, σ, H, I, st, fun b hb => (f b hb).1, w0⟩
  rintro n s3 ⟨i, σ3, H3, I3, st3, fr3, w3⟩
  rw [hund]
  show wpAny _ X.A (if (Code.compLoop e d (.ref it) acc X.env).isFrame then _ else (compTurn e d (.ref it) acc X.env).onRaise (fun x => do noteFrame x X.env; theTreesLotGoes x)) _ _ s3
  rw [hfrm]
  show wpAny _ X.A ((compTurn e d (.ref it) acc X.env).onRaise (fun x => do noteFrame x X.env; theTreesLotGoes x)) _ _ s3
  refine wpAny_noted ?_
  rw [heq]
  have no : ∀ {α : Type} {t : Sem α} {Q : α → Shared → Prop} {E : Value → Shared → Prop} {s : Shared}, wpAny (model X.prog X.w) X.A t Q X.xe s → wpAny (model X.prog X.w) X.A t Q E s := fun h => wpAny_mono h (fun _ _ q => q) fun _ _ z => by rw [hx] at z; exact z.elim
  refine wpAny_bind (wpAny_standAt (wpAny_bind ?_))
  rcases turn i n σ3 H3 w3 with ⟨stop, qn⟩ | ⟨go, N, hN, step⟩
  · refine thn (T.done X rfl rfl rfl hc i pins s3 σ3 H3 _ I3 (stat fr3) st3 stop) fun r s4 ⟨hr, I4⟩ => ?_
    subst hr
    exact wpAny_pure ⟨rfl, σ3, H3, I4, qn⟩
  · refine thn (T.item X rfl rfl rfl hc i pins s3 σ3 H3 _ I3 (stat fr3) st3 go) fun r s4 ⟨u, hr, h4⟩ => ?_
    subst hr
    refine wpAny_bind (thn h4 fun _ s5 ⟨x, H5, I5, r5, y5, st5, fr5⟩ => ?_)
    have I5' := I5.pinned (stat fr5) (T.obj _ _ st5)
    have again : ∀ {s7 : Shared} {σ7 : St} {H7 : Hp}, Inv X (pins ++ pinsAt fp s5.heap) σ7 H7 s7 → N σ7 H7 → ∃ m, m < n ∧ ∃ i σ' H', Inv X pins σ' H' s7 ∧ tn i s7.heap ∧ (∀ b ∈ fp, H' b = none) ∧ W i m σ' H' := fun {s7 σ7 H7} I7 n7 => by
      obtain ⟨m', hm, w7⟩ := hN σ7 H7 n7
      refine ⟨m', hm, i + 1, σ7, H7, I7.unpinned, T.keep _ _ _ st5 fun b hb o e => (I7.pin (b, o) (List.mem_append_right _ (List.mem_append_right _ (mem_pinsAt hb e)))).1, fun b hb => ?_, w7⟩
      obtain ⟨o, e, d⟩ := T.obj _ _ st5 b hb
      exact (I7.pin (b, o) (List.mem_append_right _ (List.mem_append_right _ (mem_pinsAt hb e)))).2.1
    refine wpAny_bind (no (thn (hg _ s5 σ3 H5 x u _ I5' r5 (step x H5 y5)) fun _ s6 ⟨σ6, H6, I6, q6⟩ => ?_))
    refine wpAny_bind (no (thn (hi _ s6 σ6 H6 _ I6 q6) fun ok s7 ⟨H7, I7, q7⟩ => ?_))
    cases ok with
    | false => exact wpAny_pure ⟨rfl, again I7 q7⟩
    | true =>
      refine wpAny_bind (no (thn (hb _ s7 σ6 H7 _ I7 q7) fun _ s8 ⟨σ8, H8, I8, n8⟩ => ?_))
      exact wpAny_pure ⟨rfl, again I8 n8⟩
end L2
end
section
set_option Elab.async false
set_option linter.all false
set_option maxRecDepth 100000
namespace L2
open PySem PySem.Spec PyProof.Rows
theorem lookup_relabel_free {env : Env} : ∀ {names : List (Str × NameKind)} {x : Str}, names.lookup x = some .free →
    ((names.map fun (n, k) => if (k == NameKind.free && env.scope.kind == .function && env.kindOf n == some .cell) then (n, NameKind.cell) else (n, k)).lookup x = some .cell ∨
     (names.map fun (n, k) => if (k == NameKind.free && env.scope.kind == .function && env.kindOf n == some .cell) then (n, NameKind.cell) else (n, k)).lookup x = some .free)
  | [], _, h => by simp at h
  | (n, k) :: r, x, h => by
    have ih := @lookup_relabel_free env r x
    rw [List.map_cons]
    cases hx : x == n with
    | true =>
      simp only [List.lookup_cons, hx] at h
      cases h
      by_cases hc : (NameKind.free == NameKind.free && env.scope.kind == .function && env.kindOf n == some .cell) = true
      · left; simp only [hc, if_true, List.lookup_cons, hx]
      · right; simp only [hc, if_false, List.lookup_cons, hx, Bool.false_eq_true]
    | false =>
      simp only [List.lookup_cons, hx] at h
      by_cases hc : (k == NameKind.free && env.scope.kind == .function && env.kindOf n == some .cell) = true
      · simp only [hc, if_true, List.lookup_cons, hx]; exact ih h
      · simp only [hc, if_false, List.lookup_cons, hx, Bool.false_eq_true]; exact ih h
structure CScope (X : Cx) (N : List Str) (fr : List (Option Nat)) (sc : Scope) : Prop where
  kind : sc.kind = .function
  nocell : ∀ y ∈ sc.names, y.2 ≠ NameKind.cell
  loc : ∀ y ∈ sc.names, y.2 = .local → sc.names.lookup y.1 = some .local
  len : fr.length = N.length
  fr : ∀ (i j : Nat), fr[i]? = some (some j) → ∃ x, N[i]? = some x ∧ X.N[j]? = some x ∧ sc.names.lookup x = some .free ∧ (X.env.kindOf x = some .cell ∨ X.env.kindOf x = some .free)
def okFr (XN : List Str) (XS names : List (Str × NameKind)) : List Str → List (Option Nat) → Bool
  | [], [] => true
  | x :: N, o :: fr => (match o with
    | none => true
    | some j => XN[j]? == some x && names.lookup x == some .free && (XS.lookup x == some .cell || XS.lookup x == some .free)) && okFr XN XS names N fr
  | _, _ => false
theorem okFr_len {XN : List Str} {XS names : List (Str × NameKind)} : ∀ {N : List Str} {fr : List (Option Nat)}, okFr XN XS names N fr = true → fr.length = N.length
  | [], [], _ => rfl
  | x :: N, o :: fr, h => by
    unfold okFr at h
    rw [Bool.and_eq_true] at h
    rw [List.length_cons, List.length_cons, okFr_len h.2]
  | [], _ :: _, h => by cases h
  | _ :: _, [], h => by cases h
theorem okFr_get {XN : List Str} {XS names : List (Str × NameKind)} : ∀ {N : List Str} {fr : List (Option Nat)} {i j : Nat}, okFr XN XS names N fr = true → fr[i]? = some (some j) → ∃ x, N[i]? = some x ∧ XN[j]? = some x ∧ names.lookup x = some .free ∧ (XS.lookup x = some .cell ∨ XS.lookup x = some .free)
  | [], [], _, _, _, e => by simp at e
  | x :: N, o :: fr, 0, j, h, e => by
    unfold okFr at h
    rw [Bool.and_eq_true] at h
    simp at e
    subst e
    have h1 := h.1
    simp only [Bool.and_eq_true, Bool.or_eq_true, beq_iff_eq] at h1
    exact ⟨x, rfl, h1.1.1, h1.1.2, h1.2⟩
  | x :: N, o :: fr, i + 1, j, h, e => by
    unfold okFr at h
    rw [Bool.and_eq_true] at h
    obtain ⟨y, q⟩ := okFr_get (i := i) (j := j) h.2 (by simpa using e)
    exact ⟨y, by simpa using q.1, q.2⟩
  | [], _ :: _, _, _, h, _ => by cases h
  | _ :: _, [], _, _, h, _ => by cases h
def okLoc (names : List (Str × NameKind)) : Bool := names.all fun y => !(y.2 == .cell) && (!(y.2 == .local) || names.lookup y.1 == some .local)
theorem CScope.of {X : Cx} {N : List Str} {fr : List (Option Nat)} {sc : Scope} (h1 : sc.kind = .function) (h2 : okLoc sc.names = true) (h3 : okFr X.N X.env.scope.names sc.names N fr = true) : CScope X N fr sc := by
  have h2' := List.all_eq_true.mp h2
  refine ⟨h1, fun y hy e => ?_, fun y hy e => ?_, okFr_len h3, fun i j e => okFr_get h3 e⟩
  · have q := h2' y hy
    rw [e] at q
    simp at q
  · have q := h2' y hy
    rw [e] at q
    simpa using q
theorem frS_get {fr : List (Option Nat)} {σ : St} {i : Nat} {v : V} (h : (frS fr σ)[i]? = some (some v)) : ∃ j, fr[i]? = some (some j) ∧ σ[j]? = some (some v) := by
  unfold frS at h
  rw [List.getElem?_map] at h
  cases e : fr[i]? with
  | none => rw [e] at h; cases h
  | some o =>
    rw [e] at h
    cases o with
    | none => cases h
    | some j =>
      refine ⟨j, rfl, ?_⟩
      have h' : (σ[j]?).bind id = some v := Option.some.inj h
      cases q : σ[j]? with
      | none => rw [q] at h'; cases h'
      | some o => rw [q] at h'; exact congrArg some h'
section
variable {X : Cx} {pins : List (Addr × Obj)} {σ : St} {H H' : Hp} {s : Shared}
theorem Inv.block {N : List Str} {fr : List (Option Nat)} {sc : Scope} {cl : List (Str × Addr)} {ex : List Addr} {h1 : Heap} {tk : Nat} (I : Inv X pins σ H s) (S : CScope X N fr sc) (hcl : clos sc.names X.env.cells [] = some cl)
    (hex : ∀ b ∈ ex, FpOk X pins H b ∧ b < s.heap.objs.size) (hns : h1.Ns s.heap.objs.size (fun _ => none)) (hk : ∀ b u, s.heap.get? b = some u → h1.get? b = some u) :
    Inv (cxc X N sc cl s H ex) [] (frS fr σ) H { s with heap := h1, toks := tk } := by
  have hfree : H s.heap.objs.size = none := I.hok.fresh (Nat.le_refl _)
  have cne : ∀ x c, cl.lookup x = some c → c ≠ s.heap.objs.size := fun x c e z => by
    obtain ⟨v, q⟩ := I.cell x c (clos_lookup hcl e)
    exact absurd q.lt (by rw [z]; exact Nat.lt_irrefl _)
  refine ⟨⟨I.ok.mod, S.kind, I.ok.glob, I.ok.blt, Nat.le_refl _, fun x y c h1 h2 => I.ok.inj x y c (clos_lookup hcl h1) (clos_lookup hcl h2), fun x hx => ?_, fun x c z => absurd (show false = true from z) (by decide), I.ok.hd, I.ok.frames, Or.inl rfl, fun b hb => ?_, I.bs, Nat.le_trans I.ok.bsz I.sz, fun b o e hb => ?_, fun b hb hf => ?_, I.stack, I.stkFree⟩,
    rfl, I.bare, Un.kept hk, ⟨_, hns, fun i x v h1 h2 h3 => ?_⟩, fun x c e => ?_, hfree, fun x c e => I.freeC x c (clos_lookup hcl e), fun p hp => absurd (show p ∈ ([] : List (Addr × Obj)) from hp) (by simp), I.hok.kept hk, ?_⟩
  · have hx' : (relabel sc X.env).names.lookup x = some .cell ∨ (relabel sc X.env).names.lookup x = some .free := hx
    obtain ⟨c, hc⟩ := clos_has sc.names [] cl hcl x (relabel_free' S.nocell hx')
    exact lookup_of_mem hc
  · obtain ⟨⟨f0, f1, f2, f3, f4, f5⟩, lt⟩ := hex b hb
    exact ⟨Nat.ne_of_lt lt, fun x c e => f4 x c (clos_lookup hcl e)⟩
  · obtain ⟨⟨f0, f1, f2, f3, f4, f5⟩, lt⟩ := hex b hb
    rcases f3 with f3 | f3
    · exact I.ok.noex b o e f3
    · exact absurd (Nat.lt_of_lt_of_le (Heap.lt_size e) I.ok.bsz) (Nat.not_lt.mpr f3)
  · obtain ⟨⟨f0, f1, f2, f3, f4, f5⟩, lt⟩ := hex b hb
    rcases List.mem_cons.mp (I.stkSub b hf) with e | e
    · exact f1 e
    · exact f2 e
  · obtain ⟨j, hj, hv⟩ := frS_get h2
    obtain ⟨x', e1, e2, e3, e4⟩ := S.fr i j hj
    have hN : N[i]? = some x := h1
    rw [hN] at e1
    cases e1
    obtain ⟨c, hc⟩ := clos_has sc.names [] cl hcl x (PySem.mem_of_lookup e3)
    obtain ⟨c', hc'⟩ := lookup_of_mem hc
    have hcX := clos_lookup hcl hc'
    obtain ⟨m, hn, hl⟩ := I.loc
    have kc : (relabel sc X.env).names.lookup x = some .cell ∨ (relabel sc X.env).names.lookup x = some .free := lookup_relabel_free e3
    have vis : Vis X.env.scope x ∧ (X.env.kindOf x ≠ some .local) := by
      rcases e4 with q | q
      · exact ⟨.inr (.inl q), by rw [q]; decide⟩
      · exact ⟨.inr (.inr q), by rw [q]; decide⟩
    obtain ⟨u, r, l⟩ := hl j x v e2 hv vis.1
    refine ⟨u, r, .inr ⟨kc, c', hc', ?_⟩⟩
    rcases l with ⟨q, _⟩ | ⟨_, d, hd, hcell⟩
    · exact absurd q vis.2
    · rw [hcX] at hd
      cases hd
      exact hcell.keeps hk
  · obtain ⟨v, q⟩ := I.cell x c (clos_lookup hcl e)
    exact ⟨v, q.keeps hk⟩
  · show (frS fr σ).length = N.length
    unfold frS
    rw [List.length_map]; exact S.len
end
end L2
end
section
set_option Elab.async false
set_option linter.all false
set_option maxRecDepth 100000
namespace L2
open PySem PySem.Spec PyProof.Rows
section
variable {X : Cx} {pins : List (Addr × Obj)} {σ : St} {H H' : Hp} {s : Shared}
theorem Inv.unblock {N : List Str} {sc : Scope} {cl : List (Str × Addr)} {ex : List Addr} {pins' : List (Addr × Obj)} {σ' : St} {s' : Shared} {h' : Heap} (I : Inv X pins σ H s) (J : Inv (cxc X N sc cl s H ex) pins' σ' H' s')
    (hex : ∀ b ∈ ex, FpOk X pins H b) (sb : Heap.SameBut s.heap.objs.size s'.heap h') : Inv X pins σ H' { s' with heap := h' } := by
  have free : H' s.heap.objs.size = none := J.free
  have eq : ∀ b, b ≠ s.heap.objs.size → h'.get? b = s'.heap.get? b := sb.2
  have ne : ∀ b o, s.heap.get? b = some o → b ≠ s.heap.objs.size := fun b o e => Nat.ne_of_lt (Heap.lt_size e)
  have B : Un (frs X.stack) ex H H' s.heap s'.heap := J.base
  refine I.call' (s' := { s' with heap := h' }) (ch := ex) J.os ⟨fun b o q n hb hx => (eq b (ne b o q)).trans (B.keep b o q n hb hx), fun b o q n hb hx => ?_, B.free, fun b o q hx => ?_, B.tups, B.frzs, B.tbls⟩ (fun a o e => ?_) J.bare (fun b hb => ?_)
  · obtain ⟨sl, e⟩ := B.slot b o q n hb hx
    exact ⟨sl, (eq b (ne b o q)).trans e⟩
  · obtain ⟨o', e⟩ := B.there b o q hx
    exact ⟨o', (eq b (ne b o q)).trans e⟩
  · refine (J.hok a o e).stay (fun b u hb q => ?_) (fun _ q => q) fun _ _ q => q
    refine (eq b ?_).trans q
    rcases hb with rfl | hb
    · exact ne_of_none e free
    · exact ne_of_none hb free
  · obtain ⟨f0, f1, f2, f3, f4, f5⟩ := hex b hb
    exact ⟨f3, f1, f4, f5⟩
end
section
variable {X : Cx}
def tLC (fr : List (Option Nat)) (wi : TI) (g : TG) (tc : TT) (te : TE) : TE := fun σ H Q => wi σ H fun J H1 => ∀ p, H1 p = none → tCL J g tc (tEmit p te) (fun _ H2 => Q (.ref p) H2) (frS fr σ) (upd H1 p (.lst []))
theorem lc_entry {N : List Str} {fr : List (Option Nat)} {e tg iter : Expr} {ifs : List Expr} {gs : List Comprehension} {sc : Scope} {ip : Pos} {cl : List (Str × Addr)} {wi : TI} {D : It → Addr → St → Hp → Prop} {pins : List (Addr × Obj)} {σ : St} {H : Hp} {s : Shared} {Q : VK}
    (he : clausesOf e = ⟨tg, iter, ifs, 0⟩ :: gs) (hi : PI X tg iter wi) (S : CScope X N fr sc) (hcl : clos sc.names X.env.cells [] = some cl) (I : Inv X pins σ H s)
    (h : wi σ H fun J H1 => ∀ p, H1 p = none → D J p (frS fr σ) (upd H1 p (.lst [])))
    (loop : ∀ (it p : Addr) (fp : List Addr) (tn : Nat → Heap → Prop) (J : It) (s1 s2 : Shared) (H1 : Hp) (σ1 : St), Turn X.prog X.w X.K tg J fp it tn → Inv (cxc X N sc cl s1 H1 fp) [] σ1 H1 s2 → tn 0 s2.heap → (∀ b ∈ fp, FpOk (cxc X N sc cl s1 H1 fp) [] H1 b) → D J p σ1 H1 →
      codeAny (model X.prog X.w) X.A (.compStart e 0 (.ref it) (.ref p) (compEnvC sc cl s1.heap.objs.size X.env)) (fun r s' => r = .ok .next ∧ ∃ σ' H', Inv (cxc X N sc cl s1 H1 fp) [] σ' H' s' ∧ Q (.ref p) H') s2)
    (hs : ∀ x, foldedSetIterable iter X.env x = pure x) :
    wpAny (model X.prog X.w) X.A (comprehension e sc X.env ip (newList []) false (eval iter X.env)) (EP X pins σ Q) X.xe s := by
  refine wpAny_comprehension_free (use := none) he hs (closureFor_clos hcl) S.kind S.loc ?_
  refine thn (hi pins s σ H _ I h) fun v s1 h1 => thn h1 fun itv s2 ⟨it, fp, tn, J, H2, e2, I2, T, st2, f2, q⟩ => ?_
  subst e2
  refine wpAny_newObj_type ?_
  have hp : H2 s2.heap.objs.size = none := I2.hok.fresh (Nat.le_refl _)
  have I3 : Inv X pins σ (upd H2 s2.heap.objs.size (.lst [])) { s2 with heap := s2.heap.push { cls := .type "list", data := .seq ([] : List Value).toArray }, toks := s2.toks } := I2.lnew (its := []) (ys := []) .nil (Nat.zero_le _)
  have lt2 : ∀ b ∈ fp, b < s2.heap.objs.size := fun b hb => let ⟨o, e, _⟩ := T.obj 0 _ st2 b hb; Heap.lt_size e
  have f3 : ∀ b ∈ fp, FpOk X pins (upd H2 s2.heap.objs.size (.lst [])) b := fun b hb => ⟨by rw [upd_ne (Nat.ne_of_lt (lt2 b hb))]; exact (f2 b hb).1, (f2 b hb).2⟩
  have st3 : tn 0 (s2.heap.push { cls := .type "list", data := .seq ([] : List Value).toArray }) := T.keep _ _ _ st2 fun b _ o e => Heap.get?_push_of_some _ e
  refine wpAny_newFunctionEnv S.nocell (by intro y hy; simp at hy) (fun h₁ hns₁ hsb₁ => ?_) S.kind
  generalize hs3 : ({ s2 with heap := s2.heap.push { cls := .type "list", data := .seq ([] : List Value).toArray } } : Shared) = s3 at hns₁ hsb₁ ⊢
  have I3' : Inv X pins σ (upd H2 s2.heap.objs.size (.lst [])) s3 := by rw [← hs3]; exact I3
  have st3' : tn 0 s3.heap := by rw [← hs3]; exact st3
  have lt3 : ∀ b ∈ fp, b < s3.heap.objs.size := fun b hb => let ⟨o, e, _⟩ := T.obj 0 _ st3' b hb; Heap.lt_size e
  have hk : ∀ b u, s3.heap.get? b = some u → h₁.get? b = some u := fun b u e => hsb₁.extBut b u (Nat.ne_of_lt (Heap.lt_size e)) (Heap.get?_push_of_some _ e)
  have hns : h₁.Ns s3.heap.objs.size (fun _ => none) := by simpa using hns₁
  have B := I3'.block (N := N) (fr := fr) (sc := sc) (cl := cl) (ex := fp) (h1 := h₁) (tk := s3.toks + ([] : List (Str × Value)).length) S hcl (fun b hb => ⟨f3 b hb, lt3 b hb⟩) hns hk
  have stB : tn 0 h₁ := T.keep _ _ _ st3' fun b _ o e => hk b o e
  refine codeAny_mono (loop it s2.heap.objs.size fp tn J s3 _ (upd H2 s2.heap.objs.size (.lst [])) (frS fr σ) T B stB (fun b hb => ?_) (q _ hp)) fun r s' hr => ?_
  · obtain ⟨f0, f1, f2', f3', f4, f5⟩ := f3 b hb
    refine ⟨f0, Nat.ne_of_lt (lt3 b hb), fun z => ?_, .inl hb, fun x c e => f4 x c (clos_lookup hcl e), fun p hp' => absurd (show p ∈ ([] : List (Addr × Obj)) from hp') (by simp)⟩
    rcases List.mem_cons.mp (I3'.stkSub b z) with e | e
    · exact f1 e
    · exact f2' e
  · obtain ⟨rfl, σ', H', J', q'⟩ := hr
    obtain ⟨m, hn, _⟩ := J'.loc
    exact ⟨m, hn, fun h' sb => ⟨.ref s2.heap.objs.size, H', I3'.unblock J' f3 sb, rfl, q'⟩⟩
theorem pe_lc {N : List Str} {fr : List (Option Nat)} {tg iter elt : Expr} {ifs : List Expr} {sc : Scope} {pos : Pos} {cl : List (Str × Addr)} {wi : TI} {g : TG} {tc : TT} {te : TE} (hc : X.calm = true) (hi : PI X tg iter wi) (S : CScope X N fr sc) (hcl : clos sc.names X.env.cells [] = some cl)
    (hb : ∀ s H ex, PG (cxc X N sc cl s H ex) tg g ∧ PIfs (cxc X N sc cl s H ex) ifs tc ∧ PE (cxc X N sc cl s H ex) elt te) (hs : ∀ x, foldedSetIterable iter X.env x = pure x := by intro _; rfl) :
    PE X (.ListComp elt [⟨tg, iter, ifs, 0⟩] sc pos) (tLC fr wi g tc te) := by
  intro pins s σ H Q I h
  rw [eval_ListComp]
  refine lc_entry (D := fun J p σ H => tCL J g tc (tEmit p te) (fun _ H2 => Q (.ref p) H2) σ H) rfl hi S hcl I h (fun it p fp tn J s1 s2 H1 σ1 T B st f d => ?_) hs
  obtain ⟨hg, hifs, helt⟩ := hb s1 H1 fp
  have L := comp_loop (X := cxc X N sc cl s1 H1 fp) (e := .ListComp elt [⟨tg, iter, ifs, 0⟩] sc pos) (d := 0) (acc := .ref p) (D := fun _ H2 => Q (.ref p) H2) (s := s2) hc rfl (compTurn_list elt tg iter ifs sc pos (.ref it) (.ref p) _) rfl rfl rfl T hg hifs (pb_emit helt) B st f d
  exact codeAny_compStart_list L (T.self X.A 0 s2 _ _ st L)
end
end L2
end
section
set_option Elab.async false
set_option linter.all false
set_option maxRecDepth 100000
namespace L2
open PySem PySem.Spec PyProof.Rows
def sq (H : Hp) (a : Addr) : Option (List V) := match H a with
  | some (.lst xs) => some xs
  | some (.tup xs) => some xs
  | some (.frz _ (.lst xs)) => some xs
  | some (.frz _ (.tup xs)) => some xs
  | _ => none
theorem sq_lst {H : Hp} {a : Addr} {xs : List V} (h : H a = some (.lst xs)) : sq H a = some xs := by unfold sq; rw [h]
theorem sq_tup {H : Hp} {a : Addr} {xs : List V} (h : H a = some (.tup xs)) : sq H a = some xs := by unfold sq; rw [h]
theorem sq_updL {H : Hp} {a : Addr} {xs : List V} : sq (upd H a (.lst xs)) a = some xs := sq_lst upd_same
theorem sq_updT {H : Hp} {a : Addr} {xs : List V} : sq (upd H a (.tup xs)) a = some xs := sq_tup upd_same
theorem sq_rd {H : Hp} {a : Addr} {xs : List V} (h : sq H a = some xs) : Rd H a (.lst xs) ∨ Rd H a (.tup xs) := by
  unfold sq at h
  cases e : H a with
  | none => rw [e] at h; cases h
  | some o =>
    rw [e] at h
    cases o with
    | lst ys => cases h; exact .inl (.inl e)
    | tup ys => cases h; exact .inr (.inl e)
    | frz ob u =>
      cases u with
      | lst ys => cases h; exact .inl (.inr ⟨ob, e⟩)
      | tup ys => cases h; exact .inr (.inr ⟨ob, e⟩)
      | _ => cases h
    | _ => cases h
theorem sq_seq {K : PySem.W.Frag} {H : Hp} {a : Addr} {xs : List V} (h : sq H a = some xs) : SqL K H a xs ∨ SqT K H a xs := by
  rcases sq_rd h with h | h
  · exact .inl (.inl h)
  · exact .inr (.inl h)
section
variable {X : Cx}
def rIx0 : R2 := fun x y H Q => ∃ p xs i v, x = .ref p ∧ y = .int i ∧ sq H p = some xs ∧ atI xs i = some v ∧ Q v H
theorem ix0 : IxR X rIx0 := by
  intro value slice pins s σ H x y v u Q I rx ry h hs
  obtain ⟨p, xs, i, z, e1, e2, hq, ha, q⟩ := h
  rcases sq_seq (K := X.K) hq with k | k
  · exact ix_list value slice pins s σ H x y v u Q I rx ry ⟨p, xs, i, z, e1, e2, k, ha, q⟩ hs
  · exact ix_tup value slice pins s σ H x y v u Q I rx ry ⟨p, xs, i, z, e1, e2, k, ha, q⟩ hs
theorem len0 : CallR X (.builtin "len") (fun xs H Q => ∃ p ys, xs = [.ref p] ∧ sq H p = some ys ∧ Q (.int ys.length) H) := by
  intro pins s σ H xs us Q I r h
  obtain ⟨p, ys, e, hq, q⟩ := h
  exact call_len_seq pins s σ H xs us Q I r ⟨p, ys, e, sq_seq hq, q⟩
theorem tupL0 : CallR X (.type "tuple") (fun xs H Q => ∃ p ys, xs = [.ref p] ∧ H p = some (.lst ys) ∧ ∀ l, H l = none → Q (.ref l) (upd H l (.tup ys))) := by
  intro pins s σ H xs us Q I r h
  obtain ⟨p, ys, e, hq, q⟩ := h
  exact call_tuple_of pins s σ H xs us Q I r ⟨p, ys, e, .inl ⟨SqL.of hq, q⟩⟩
theorem list0 : CallR X (.type "list") (fun xs H Q => ∃ p ys, xs = [.ref p] ∧ sq H p = some ys ∧ ∀ l, H l = none → Q (.ref l) (upd H l (.lst ys))) := by
  intro pins s σ H xs us Q I r h
  obtain ⟨p, ys, e, hq, q⟩ := h
  exact call_list_of pins s σ H xs us Q I r ⟨p, ys, e, sq_seq hq, q⟩
def rIn0 (neg : Bool) : R2 := fun x y H Q => ∃ p xs, y = .ref p ∧ sq H p = some xs ∧ flatV x = true ∧ xs.all flatV = true ∧ Q (.bl (if neg then !inV x xs else inV x xs)) H
def gTup0 (n : Nat) (t : TGs) : TG := fun v σ H Q => ∃ a xs, v = .ref a ∧ H a = some (.tup xs) ∧ xs.length = n ∧ t xs σ H Q
theorem pg_tup0 {es : List Expr} {k : Nat} {t : TGs} {n : Nat} {pos : Pos} (hc : X.calm = true) (h : PGs X es t)
    (hn : (assignEach es X.env).length = n := by rfl) (hst : (assignEach es X.env).findIdx? (·.1) = none := by rfl) : PG X (.Tuple es k pos) (gTup0 n t) := by
  intro pins s σ H v u Q I r hw
  obtain ⟨a, xs, e1, hq, hl, hw⟩ := hw
  exact pg_tup hc h hn hst pins s σ H v u Q I r ⟨a, xs, e1, SqT.of hq, hl, hw⟩
theorem PG.mono {tg : Expr} {g g' : TG} (h : PG X tg g) (m : ∀ v σ H Q, g' v σ H Q → g v σ H Q) : PG X tg g' := fun pins s σ H v u Q I r q => h pins s σ H v u Q I r (m _ _ _ _ q)
def ItS (f : Hp → Prop) (xs : List V) : It := ⟨fun i H => f H ∧ i < xs.length, fun i H x H' => H' = H ∧ xs[i]? = some x, fun i H => f H ∧ xs.length ≤ i⟩
theorem Turn.weak {P : Program} {w : World} {K : PySem.W.Frag} {tg : Expr} {J J' : It} {fp : List Addr} {it : Addr} {tn : Nat → Heap → Prop} (T : Turn P w K tg J fp it tn) (hg : ∀ i H, J'.go i H → J.go i H) (hs : ∀ i H, J'.stop i H → J.stop i H)
    (hy : ∀ i H x H', J'.go i H → J.yld i H x H' → J'.yld i H x H') : Turn P w K tg J' fp it tn where
  mem := T.mem
  obj := T.obj
  keep := T.keep
  item := fun X h1 h2 h3 hc i pins s σ H E I f st go => thn (T.item X h1 h2 h3 hc i pins s σ H E I f st (hg i H go)) fun r s1 ⟨u, e, q⟩ => ⟨u, e, thn q fun _ s2 ⟨x, H', I2, r2, y, t, n⟩ => ⟨x, H', I2, r2, hy i H x H' go y, t, n⟩⟩
  done := fun X h1 h2 h3 hc i pins s σ H E I f st go => T.done X h1 h2 h3 hc i pins s σ H E I f st (hs i H go)
  self := T.self
theorem PI.weak {tg iter : Expr} {wi wi' : TI} (h : PI X tg iter wi) (m : ∀ σ H R, wi' σ H R → wi σ H fun J H1 => ∃ J', R J' H1 ∧ (∀ i H, J'.go i H → J.go i H) ∧ (∀ i H, J'.stop i H → J.stop i H) ∧ (∀ i H x H', J'.go i H → J.yld i H x H' → J'.yld i H x H')) : PI X tg iter wi' := by
  intro pins s σ H R I q
  refine thn (h pins s σ H _ I (m σ H R q)) fun v s1 h1 => thn h1 fun itv s2 ⟨it, fp, tn, J, H', e, I2, T, st, f, J', r, a, b, c⟩ => ?_
  exact ⟨it, fp, tn, J', H', e, I2, T.weak a b c, st, f, r⟩
def iT0 (tl : TE) : TI := fun σ H R => tl σ H fun x H1 => ∃ a xs, x = .ref a ∧ H1 a = some (.tup xs) ∧ R (ItS (fun H => H a = some (.tup xs)) xs) H1
def iL0 (tl : TE) : TI := fun σ H R => tl σ H fun x H1 => ∃ a xs, x = .ref a ∧ H1 a = some (.lst xs) ∧ R (ItS (fun H => H a = some (.lst xs)) xs) H1
def Mono (t : TE) : Prop := ∀ σ H Q Q', (∀ v H', Q v H' → Q' v H') → t σ H Q → t σ H Q'
theorem getlen {xs : List V} {i : Nat} (h : i < xs.length) : ∃ x, xs[i]? = some x := ⟨xs[i], by simp [h]⟩
theorem pi_t0 {tg l : Expr} {tl : TE} (hl : PE X l tl) : PI X tg l (iT0 tl) := by
  intro pins s σ H R I h
  refine thn (hl pins s σ H _ I h) fun v s1 ⟨x, H1, I1, r1, q1⟩ => ?_
  obtain ⟨a, xs, e, hq, q⟩ := q1
  subst e
  cases r1
  obtain ⟨its, rv, p, hz⟩ := I1.tuple (SqT.of hq)
  refine wpAny_pyIter_tuple (show s1.heap.IsTuple a its.toArray from p) ?_
  refine ⟨s1.heap.objs.size, [s1.heap.objs.size], _, _, H1, rfl, I1.kept (t' := s1.toks) fun b o e => Heap.get?_push_of_some _ e, (turn_tuple a _).weak (J' := ItS (fun H => H a = some (.tup xs)) xs) (fun i H ⟨k, hi⟩ => ?_) (fun i H ⟨k, hi⟩ => ⟨xs, SqT.of k, hi⟩) (fun i H x H' ⟨k, hi⟩ ⟨y1, y2⟩ => ⟨y1, y2 xs (SqT.of k)⟩), ⟨_, Heap.get?_push_size _ rfl, rfl, rfl⟩, fun b hb => ?_, q⟩
  · obtain ⟨x, hx⟩ := getlen hi
    exact ⟨xs, x, SqT.of k, hx⟩
  · have e : b = s1.heap.objs.size := by simpa using hb
    subst e
    exact I1.fpOk (Nat.le_refl _) (I1.hok.fresh (Nat.le_refl _))
def Cal (P : Program) (w : World) (K : PySem.W.Frag) (mg : Str → Option Value) (base : Heap) (x : Str) (ps : List Str) (k : Nat) (sp : Sp) : Prop :=
  ∃ f fd, FnOk P w K mg base CX0 k f fd ps sp ∧ mg x = some (.ref f) ∧ PySem.W.keepIn K (.ref f) = true ∧ Binds K fd ps []
theorem Cal.mono {P : Program} {w : World} {K : PySem.W.Frag} {mg : Str → Option Value} {base : Heap} {x : Str} {ps : List Str} {j k : Nat} {sp : Sp} (c : Cal P w K mg base x ps j sp) (h : j ≤ k) : Cal P w K mg base x ps k sp :=
  let ⟨f, fd, F, r⟩ := c; ⟨f, fd, F.mono h, r⟩
def tCal (sp : Sp) (t : TA) : TE := fun σ H Q => t σ H fun vs H1 => sp vs H1 Q E0
theorem pe_cal {k j : Nat} {x : Str} {ps : List Str} {sp : Sp} {t : TA} {e : Expr} {es : List Expr} {p pos : Pos} (c : Cal X.prog X.w X.K X.mg X.base x ps k sp) (hr : Room j X.A) (ha : PA X (e :: es) t) (hg : Gl X x := by rfl) (hk : k ≤ j := by decide)
    (hdb : (x == ("__debug__" : Str)) = false := by decide) (he : starEach (e :: es) X.env = (false, eval e X.env) :: starEach es X.env := by rfl) (hpl : (backTo pos (starEach es X.env)).any (·.1) = false := by rfl) :
    PE X (.Call (.Name x p) (e :: es) [] pos) (tCal sp t) := by
  obtain ⟨f, fd, F, hm, kp, hb⟩ := c
  intro pins s σ H Q I h
  refine pe_call (E := E0) (dvs := []) F (hr.mono hk) hg hm kp hb .nil pass0 ha hdb he hpl pins s σ H Q I ?_
  show t σ H fun vs H1 => sp (vs ++ []) H1 Q E0
  have h' : t σ H fun vs H1 => sp vs H1 Q E0 := h
  simpa using h'
theorem cal_of {P : Program} {w : World} {K : PySem.W.Frag} {mg : Str → Option Value} {base : Heap} {x : Str} {st : Stmt} {f : Addr} {fd : FuncData} {N ps : List Str} {k : Nat} {sp : Sp} (F : Fun K x x st f fd) (hm : mg x = some (.ref f)) (hb : Binds K fd ps [])
    (S : FnScope N ps (defScope st)) (len : ∀ vs H Q E, sp vs H Q E → vs.length = ps.length)
    (hbody : ∀ (cdv : Value) (A : Around) (outer : List Env) (s : Shared) (H : Hp) (vs : List V) (Q : VK) (E : XK), Room k (A.deeper (envOfC x (defScope st) s.heap.objs.size f cdv)) → sp vs H Q E →
      ∃ t, PSs (cxOf CX0 P w K mg base N x (defScope st) f cdv A outer s H E).nox (defBody st) t ∧ t { nx := fun _ H' => Q .non H', rt := Q } (start N vs) H) : Cal P w K mg base x ps (k + 1) sp :=
  ⟨f, fd, F.ok S len hbody, hm, F.kp, hb⟩
def rBits : V → List V → Hp → VK → Prop := fun x vs H Q => ∃ i, x = .int i ∧ vs = [] ∧ Q (.int (Builtin.Int.intBits i : Nat)) H
theorem mt_bits : MtR X "int.bit_length" rBits := by
  intro pins s σ H x vs v us Q I rx rv h
  obtain ⟨i, rfl, rfl, q⟩ := h
  obtain ⟨t, rfl⟩ := rx
  cases rv
  exact call_int_bit_length ⟨.int (Builtin.Int.intBits i : Nat), H, I.tok _, ⟨_, rfl⟩, q⟩
def tBits (to : TE) : TE := fun σ H Q => to σ H fun x H1 => ∃ i, x = .int i ∧ Q (.int (Builtin.Int.intBits i : Nat)) H1
theorem pe_bits {o : Expr} {to : TE} {apos cpos : Pos} (ho : PE X o to) (hbase : attributeBase o "bit_length" X.env (eval o X.env) = eval o X.env := by rfl) (hline : (apos.endLine == cpos.line) = true := by rfl) (hm : Mono to) : PE X (.Call (.Attribute o "bit_length" apos) [] [] cpos) (tBits to) := by
  intro pins s σ H Q I h
  refine pe_bm0 PySem.F.plainAttrs_int slot_int_bit_length type_int_bit_length mt_bits ho hbase hline pins s σ H Q I (hm σ H _ _ (fun v H' ⟨i, e, q⟩ => ?_) h)
  subst e
  exact ⟨rfl, i, rfl, rfl, q⟩
theorem mono_var {i : Nat} : Mono (tVar i) := fun _ _ _ _ m ⟨v, e, q⟩ => ⟨v, e, m _ _ q⟩
theorem is_bl : OpR X (compareOp .Is) (fun x y H Q => ∃ a b, x = .bl a ∧ y = .bl b ∧ Q (.bl (a == b)) H) := by
  intro pins s σ H x y v u Q I rx ry h
  obtain ⟨a, b, rfl, rfl, q⟩ := h
  cases rx
  cases ry
  exact is_bool ⟨.bl (a == b), H, I, rfl, q⟩
theorem isnot_bl : OpR X (compareOp .IsNot) (fun x y H Q => ∃ a b, x = .bl a ∧ y = .bl b ∧ Q (.bl (a != b)) H) := by
  intro pins s σ H x y v u Q I rx ry h
  obtain ⟨a, b, rfl, rfl, q⟩ := h
  cases rx
  cases ry
  exact isnot_bool ⟨.bl (a != b), H, I, rfl, q⟩
section
variable {pins : List (Addr × Obj)} {σ : St} {H : Hp} {s : Shared}
theorem Inv.walk {p : Addr} {xs : List V} {E : Value → Shared → Prop} {R : Value → Shared → Prop} (I : Inv X pins σ H s) (hc : X.calm = true) (hq : sq H p = some xs)
    (h : ∀ (it : Addr) (its : List Value) (s2 : Shared) (St : Nat → Heap → Prop) (fp : List Addr), Vals xs its → Walks X.prog X.w X.A.in1 it fp [it] its.length (fun i v => its[i]? = some v) St → St 0 s2.heap → (∀ b ∈ fp, b < s2.heap.objs.size) → s2.heap.objs.size = it + 1 →
      (∀ h' tk, (∀ b o, b ∉ [it] → s2.heap.get? b = some o → h'.get? b = some o) → Inv X pins σ H { s2 with heap := h', toks := tk }) → R (.ref it) s2) :
    wpAny (model X.prog X.w) X.A.in1 (pyIter (.ref p)) R E s := by
  have hd : X.A.in1.handled = none := I.ok.hd hc
  have key : ∀ (ob : Obj), Inv X pins σ H { s with heap := s.heap.push ob } ∧ ∀ h' tk, (∀ b o, b ∉ [s.heap.objs.size] → (s.heap.push ob).get? b = some o → h'.get? b = some o) → Inv X pins σ H { s with heap := h', toks := tk } := fun ob => by
    refine ⟨I.kept (t' := s.toks) fun b o e => Heap.get?_push_of_some _ e, fun h' tk k => I.kept fun b o e => k b o (fun z => ?_) (Heap.get?_push_of_some _ e)⟩
    have e' : b = s.heap.objs.size := by simpa using z
    exact Nat.lt_irrefl _ (e' ▸ Heap.lt_size e)
  rcases sq_seq (K := X.K) hq with k | k
  · obtain ⟨its, rv, pl, hz⟩ := I.list k
    have ne : p ≠ s.heap.objs.size := Nat.ne_of_lt (let ⟨_, e, _⟩ := pl.isList; Heap.lt_size e)
    refine wpAny_pyIter_list pl.isList ?_
    refine h s.heap.objs.size its _ (fun i h => h.IsListIter s.heap.objs.size p i ∧ h.IsList p its.toArray) [s.heap.objs.size, p] rv (by simpa using Walks.list hd s.heap.objs.size p ne its.toArray) ⟨⟨_, Heap.get?_push_size _ rfl, rfl, rfl⟩, pl.isList.at fun o e => Heap.get?_push_of_some _ e⟩ (fun b hb => ?_) (Heap.size_push ..) (key _).2
    rw [Heap.size_push]
    rcases List.mem_cons.mp hb with rfl | hb
    · exact Nat.lt_succ_self _
    · have e : b = p := by simpa using hb
      subst e
      exact Nat.lt_succ_of_lt (let ⟨_, e, _⟩ := pl.isList; Heap.lt_size e)
  · obtain ⟨its, rv, pl, hz⟩ := I.tuple k
    have lt : p < s.heap.objs.size := pl.lt
    have ne : p ≠ s.heap.objs.size := Nat.ne_of_lt lt
    refine wpAny_pyIter_tuple (show s.heap.IsTuple p its.toArray from pl) ?_
    refine h s.heap.objs.size its _ (fun i h => h.IsTupleIter s.heap.objs.size p i ∧ h.IsTuple p its.toArray) [s.heap.objs.size, p] rv (by simpa using Walks.tuple hd s.heap.objs.size p ne its.toArray) ⟨⟨_, Heap.get?_push_size _ rfl, rfl, rfl⟩, (show s.heap.IsTuple p its.toArray from pl).at fun o e => Heap.get?_push_of_some _ e⟩ (fun b hb => ?_) (Heap.size_push ..) (key _).2
    rw [Heap.size_push]
    rcases List.mem_cons.mp hb with rfl | hb
    · exact Nat.lt_succ_self _
    · have e : b = p := by simpa using hb
      subst e
      exact Nat.lt_succ_of_lt lt
end
theorem preSum_eq (ns : List Int) : ∀ n, n ≤ ns.length → preSum (fun i => ns.getD i 0) n = (ns.take n).sum
  | 0, _ => rfl
  | n + 1, h => by
    show preSum (fun i => ns.getD i 0) n + ns.getD n 0 = _
    rw [preSum_eq ns n (by omega), List.take_add_one, List.getElem?_eq_getElem (by omega), List.sum_append]
    simp [List.getD_eq_getElem?_getD, List.getElem?_eq_getElem (show n < ns.length by omega)]
theorem vals_int_get {ns : List Int} {its : List Value} (r : Vals (ns.map V.int) its) {i : Nat} {v : Value} (h : its[i]? = some v) : ∃ t, v = .int (ns.getD i 0) t := by
  have hl := r.length
  rw [List.length_map] at hl
  have hi : i < ns.length := by rw [hl]; exact (List.getElem?_eq_some_iff.mp h).1
  obtain ⟨u, hu, t, rfl⟩ := r.get (i := i) (x := V.int ns[i]) (by simp [hi])
  rw [h] at hu
  cases hu
  exact ⟨t, by simp [List.getD_eq_getElem?_getD, hi]⟩
def sumFits (ns : List Int) : Prop := (∀ n ∈ ns, -(2 ^ 62) ≤ n ∧ n < 2 ^ 62) ∧ ∀ j, j ≤ ns.length → InLong (ns.take j).sum
theorem sum0 (hc : X.calm = true) : CallR X (.builtin "sum") (fun xs H Q => ∃ (p : Addr) (ns : List Int), xs = [.ref p] ∧ sq H p = some (ns.map V.int) ∧ sumFits ns ∧ Q (.int ns.sum) H) := by
  intro pins s σ H xs us Q I r h
  obtain ⟨p, ns, rfl, hq, fit, q⟩ := h
  obtain ⟨u, rfl, ru⟩ := r.one
  cases ru
  refine call_sum_walk (I.walk hc hq fun it its s2 St fp rv W st hfp hsz J => ?_)
  have hl := rv.length
  rw [List.length_map] at hl
  refine ⟨it, fp, [it], its.length, _, St, fun i => ns.getD i 0, rfl, W, st, hfp, fun i v hv => vals_int_get rv hv, fun j hj => ⟨?_, ?_⟩, fun h' tk t' k => ⟨.int ns.sum, H, J h' tk k, ?_, q⟩⟩
  · have hj' : j < ns.length := by omega
    have e : ns.getD j 0 = ns[j] := by simp [List.getD_eq_getElem?_getD, hj']
    show InLong (ns.getD j 0)
    rw [e]
    obtain ⟨a, b⟩ := fit.1 ns[j] (List.getElem_mem hj')
    exact ⟨by omega, by omega⟩
  · rw [preSum_eq ns (j + 1) (by omega)]
    exact fit.2 (j + 1) (by omega)
  · rw [← hl, preSum_eq ns _ (Nat.le_refl _), List.take_length]
    exact ⟨_, rfl⟩
theorem vals_bl_get {bs : List Bool} {its : List Value} (r : Vals (bs.map V.bl) its) {i : Nat} {v : Value} (h : its[i]? = some v) : v = .bool (bs.getD i true) := by
  have hl := r.length
  rw [List.length_map] at hl
  have hi : i < bs.length := by rw [hl]; exact (List.getElem?_eq_some_iff.mp h).1
  obtain ⟨u, hu, e⟩ := r.get (i := i) (x := V.bl bs[i]) (by simp [hi])
  rw [h] at hu
  cases hu
  rw [show v = Value.bool bs[i] from e]
  simp [List.getD_eq_getElem?_getD, hi]
theorem truth_bl {bs : List Bool} {its : List Value} (r : Vals (bs.map V.bl) its) (A : Around) : TruthOf X.prog X.w A (fun i v => its[i]? = some v) (fun i => bs.getD i true) := fun i v s Q E h q => by
  rw [vals_bl_get r h]
  exact wpAny_truthy_bool q
theorem range_all (bs : List Bool) : (List.range bs.length).all (fun i => bs.getD i true) = bs.all id := by
  rw [Bool.eq_iff_iff, List.all_eq_true, List.all_eq_true]
  constructor
  · intro h b hb
    obtain ⟨i, hi, rfl⟩ := List.mem_iff_getElem.mp hb
    have := h i (List.mem_range.mpr hi)
    simpa [List.getD_eq_getElem?_getD, hi] using this
  · intro h i hi
    have hi' := List.mem_range.mp hi
    have := h bs[i] (List.getElem_mem hi')
    simpa [List.getD_eq_getElem?_getD, hi'] using this
theorem range_any (bs : List Bool) : (List.range bs.length).any (fun i => bs.getD i true) = bs.any id := by
  rw [Bool.eq_iff_iff, List.any_eq_true, List.any_eq_true]
  constructor
  · rintro ⟨i, hi, h⟩
    have hi' := List.mem_range.mp hi
    exact ⟨bs[i], List.getElem_mem hi', by simpa [List.getD_eq_getElem?_getD, hi'] using h⟩
  · rintro ⟨b, hb, h⟩
    obtain ⟨i, hi, rfl⟩ := List.mem_iff_getElem.mp hb
    exact ⟨i, List.mem_range.mpr hi, by simpa [List.getD_eq_getElem?_getD, hi] using h⟩
theorem all0 (hc : X.calm = true) : CallR X (.builtin "all") (fun xs H Q => ∃ (p : Addr) (bs : List Bool), xs = [.ref p] ∧ sq H p = some (bs.map V.bl) ∧ Q (.bl (bs.all id)) H) := by
  intro pins s σ H xs us Q I r h
  obtain ⟨p, bs, rfl, hq, q⟩ := h
  obtain ⟨u, rfl, ru⟩ := r.one
  cases ru
  refine call_all_walk (I.walk hc hq fun it its s2 St fp rv W st hfp hsz J => ?_)
  have hl := rv.length
  rw [List.length_map] at hl
  refine ⟨it, fp, [it], its.length, _, St, fun i => bs.getD i true, rfl, W, st, truth_bl rv _, fun h' tk k => ⟨.bl (bs.all id), H, J h' tk k, ?_, q⟩⟩
  rw [← hl, range_all]
  exact rfl
theorem any0 (hc : X.calm = true) : CallR X (.builtin "any") (fun xs H Q => ∃ (p : Addr) (bs : List Bool), xs = [.ref p] ∧ sq H p = some (bs.map V.bl) ∧ Q (.bl (bs.any id)) H) := by
  intro pins s σ H xs us Q I r h
  obtain ⟨p, bs, rfl, hq, q⟩ := h
  obtain ⟨u, rfl, ru⟩ := r.one
  cases ru
  refine call_any_walk (I.walk hc hq fun it its s2 St fp rv W st hfp hsz J => ?_)
  have hl := rv.length
  rw [List.length_map] at hl
  refine ⟨it, fp, [it], its.length, _, St, fun i => bs.getD i true, rfl, W, st, truth_bl rv _, fun h' tk k => ⟨.bl (bs.any id), H, J h' tk k, ?_, q⟩⟩
  rw [← hl, range_any]
  exact rfl
def tyN (H : Hp) : V → Option String
  | .non => some "NoneType"
  | .bl _ => some "bool"
  | .int _ => some "int"
  | .str _ => some "str"
  | .ref a => match H a with
    | some (.lst _) => some "list"
    | some (.tup _) => some "tuple"
    | some (.dK _) => some "dict"
    | _ => none
  | _ => none
def subN (t T : String) : Bool := t == T || (t == "bool" && T == "int")
theorem tyN_of {K : PySem.W.Frag} {H : Hp} {x : V} {t : String} (h : tyN H x = some t) : TyOf K H x (.type t) ∧ (t = "NoneType" ∨ t = "bool" ∨ t = "int" ∨ t = "str" ∨ t = "list" ∨ t = "tuple" ∨ t = "dict") := by
  cases x with
  | non => cases h; exact ⟨.non, by simp⟩
  | bl b => cases h; exact ⟨.bl b, by simp⟩
  | int i => cases h; exact ⟨.int i, by simp⟩
  | str i => cases h; exact ⟨.str i, by simp⟩
  | ref a =>
    cases e : H a with
    | none => simp [tyN, e] at h
    | some o =>
      cases o with
      | lst xs => simp [tyN, e] at h; subst h; exact ⟨.lst e, by simp⟩
      | tup xs => simp [tyN, e] at h; subst h; exact ⟨.tup e, by simp⟩
      | dK xs => simp [tyN, e] at h; subst h; exact ⟨.dK e, by simp⟩
      | _ => simp [tyN, e] at h
  | _ => cases h
theorem kit_of {K : PySem.W.Frag} {t T : String} (h : t = "NoneType" ∨ t = "bool" ∨ t = "int" ∨ t = "str" ∨ t = "list" ∨ t = "tuple" ∨ t = "dict") (hT : T = "int" ∨ T = "bool" ∨ T = "tuple" ∨ T = "str" ∨ T = "list") : PySem.W.kitOne K (.type t) (.type T) = some (subN t T) := by
  rcases h with rfl | rfl | rfl | rfl | rfl | rfl | rfl <;> rcases hT with rfl | rfl | rfl | rfl | rfl <;> rfl
theorem isi0 : CallR X (.builtin "isinstance") (fun xs H Q => ∃ x T t, xs = [x, .ty T] ∧ tyN H x = some t ∧ (T = "int" ∨ T = "bool" ∨ T = "tuple" ∨ T = "str" ∨ T = "list") ∧ Q (.bl (subN t T)) H) := by
  intro pins s σ H xs us Q I r h
  obtain ⟨x, T, t, rfl, ht, hT, q⟩ := h
  obtain ⟨u, v, rfl, ru, rv⟩ := r.two
  cases (show v = Value.type T from rv)
  obtain ⟨ty, ht'⟩ := tyN_of (K := X.K) ht
  exact isinst_ok I ru ty (kit_of ht' hT) fun tk => ⟨.bl (subN t T), H, I.tok tk, rfl, q⟩
end
end L2
end
section
set_option Elab.async false
set_option linter.all false
set_option maxRecDepth 100000
namespace L2
open PySem PySem.Spec PyProof.Rows
theorem bt_len : bootBuiltins "len" = some (.builtin "len") := by decide +kernel
theorem bt_sum : bootBuiltins "sum" = some (.builtin "sum") := by decide +kernel
theorem bt_all : bootBuiltins "all" = some (.builtin "all") := by decide +kernel
theorem bt_any : bootBuiltins "any" = some (.builtin "any") := by decide +kernel
theorem bt_isinstance : bootBuiltins "isinstance" = some (.builtin "isinstance") := by decide +kernel
theorem bt_abs : bootBuiltins "abs" = some (.builtin "abs") := by decide +kernel
theorem bt_min : bootBuiltins "min" = some (.builtin "min") := by decide +kernel
theorem bt_max : bootBuiltins "max" = some (.builtin "max") := by decide +kernel
theorem bt_tuple : bootBuiltins "tuple" = some (.type "tuple") := by decide +kernel
theorem bt_list : bootBuiltins "list" = some (.type "list") := by decide +kernel
theorem bt_int : bootBuiltins "int" = some (.type "int") := by decide +kernel
theorem bt_bool : bootBuiltins "bool" = some (.type "bool") := by decide +kernel
theorem cl_seq {f : Hp → Prop} {xs : List V} {g : TG} {tc : TT} {tb : TB} {D : St → Hp → Prop} {σ : St} {H : Hp} (Pv : Nat → St → Hp → Prop) (h0 : Pv 0 σ H) (hl : ∀ i σ H, i ≤ xs.length → Pv i σ H → f H)
    (hs : ∀ i x σ H, xs[i]? = some x → Pv i σ H → g x σ H fun σ2 H2 => tc σ2 H2 fun b H3 => if b = true then tb σ2 H3 (Pv (i + 1)) else Pv (i + 1) σ2 H3) (hd : ∀ σ H, Pv xs.length σ H → D σ H) : tCL (ItS f xs) g tc tb D σ H := by
  refine ⟨fun i m σ H => m = xs.length - i ∧ i ≤ xs.length ∧ Pv i σ H, ⟨xs.length, by simp, Nat.zero_le _, h0⟩, ?_⟩
  rintro i m σ H ⟨rfl, hi, p⟩
  have q := hl i σ H hi p
  by_cases hlt : i < xs.length
  · refine .inr ⟨⟨q, hlt⟩, Pv (i + 1), fun σ' H' p' => ⟨xs.length - (i + 1), by omega, rfl, hlt, p'⟩, fun x H' y => ?_⟩
    obtain ⟨e, y⟩ := y
    subst e
    exact hs i x σ _ y p
  · have e : i = xs.length := by omega
    subst e
    exact .inl ⟨⟨q, Nat.le_refl _⟩, hd σ H p⟩
theorem cl_range {lo : Int} {n : Nat} {g : TG} {tc : TT} {tb : TB} {D : St → Hp → Prop} {σ : St} {H : Hp} (Pv : Nat → St → Hp → Prop) (h0 : Pv 0 σ H)
    (hs : ∀ i σ H, i < n → Pv i σ H → g (.int (lo + i)) σ H fun σ2 H2 => tc σ2 H2 fun b H3 => if b = true then tb σ2 H3 (Pv (i + 1)) else Pv (i + 1) σ2 H3) (hd : ∀ σ H, Pv n σ H → D σ H) : tCL (Itr lo n) g tc tb D σ H := by
  refine ⟨fun i m σ H => m = n - i ∧ i ≤ n ∧ Pv i σ H, ⟨n, by simp, Nat.zero_le _, h0⟩, ?_⟩
  rintro i m σ H ⟨rfl, hi, p⟩
  by_cases hlt : i < n
  · refine .inr ⟨hlt, Pv (i + 1), fun σ' H' p' => ⟨n - (i + 1), by omega, rfl, hlt, p'⟩, fun x H' y => ?_⟩
    obtain ⟨e, y⟩ := y
    subst e y
    exact hs i σ _ hlt p
  · have e : i = n := by omega
    subst e
    exact .inl ⟨Nat.le_refl _, hd σ H p⟩
def Box (H : Hp) (p : Addr) : Prop := ∃ g m c : Int, H p = some (.lst [.int g, .int m, .int c])
def But (p : Addr) (H H' : Hp) : Prop := ∀ b, b ≠ p → H' b = H b
theorem But.refl {p : Addr} {H : Hp} : But p H H := fun _ _ => rfl
theorem But.trans {p : Addr} {H H1 H2 : Hp} (a : But p H H1) (b : But p H1 H2) : But p H H2 := fun c h => (b c h).trans (a c h)
theorem But.upd {p : Addr} {H : Hp} {o : HO} : But p H (upd H p o) := fun _ h => upd_ne h
theorem But.sq {p a : Addr} {H H' : Hp} (h : But p H H') (n : a ≠ p) : sq H' a = sq H a := by unfold L2.sq; rw [h a n]
def spTake : Sp := fun vs H Q _ => ∃ (p : Addr) (many : Int), vs = [.ref p, .int many] ∧ Box H p ∧ 0 < many ∧ many < 1073741824 ∧ ∀ (r : Int) (H' : Hp), 0 ≤ r → r < many → Box H' p → But p H H' → Q (.int r) H'
def Scr (K : PySem.W.Frag) (a : Addr) (ns : List Int) (H : Hp) : Prop := SqL K H a (ns.map V.int)
def spBox (K : PySem.W.Frag) : Sp := fun vs H Q _ => ∃ (a : Addr) (k : Nat) (ns : List Int), vs = [.ref a, .int (k : Int)] ∧ Scr K a ns H ∧ k ≤ 100 ∧ ∀ (p : Addr) (H' : Hp), H p = none → Box H' p → But p H H' → Q (.ref p) H'
theorem same_upd {H : Hp} {p : Addr} {o : HO} (n : H p = none) : Same H (upd H p o) := fun b u e => by rw [upd_ne (ne_of_none e n)]; exact e
section
variable {X : Cx}
def tTupA (t : TA) : TE := fun σ H Q => t σ H fun xs H1 => xs.length ≤ sizeLine ∧ ∀ (p : Addr) (H2 : Hp), H1 p = none → Same H1 H2 → H2 p = some (.tup xs) → Q (.ref p) H2
theorem pe_tupA {es : List Expr} {t : TA} {x1} {pos : Pos} (h : PA X es t) : PE X (.Tuple es x1 pos) (tTupA t) := by
  intro pins s σ H Q I hq
  refine Tuple_ (thn (h pos pins s σ H _ I hq) fun us s1 ⟨xs, H1, I1, r, z, q⟩ => ?_)
  have hf : H1 s1.heap.objs.size = none := I1.hok.fresh (Nat.le_refl _)
  refine wpAny_newObj_type ?_ (by show us.toArray.size ≤ sizeLine; rw [List.size_toArray, ← r.length]; exact z)
  refine ⟨.ref s1.heap.objs.size, upd H1 s1.heap.objs.size (.tup xs), I1.laid (t' := s1.toks) (fun b u e => Heap.get?_push_of_some _ e) (Nat.le_refl _) ?_, rfl, q _ _ hf (same_upd hf) upd_same⟩
  exact ⟨z, us, r, IsTup.new s1.heap _⟩
theorem tupA0 : CallR X (.type "tuple") (fun xs H Q => ∃ p ys, xs = [.ref p] ∧ H p = some (.lst ys) ∧ ∀ (l : Addr) (H2 : Hp), H l = none → Same H H2 → H2 l = some (.tup ys) → Q (.ref l) H2) := by
  intro pins s σ H xs us Q I r h
  obtain ⟨p, ys, e, hq, q⟩ := h
  exact tupL0 pins s σ H xs us Q I r ⟨p, ys, e, hq, fun l n => q l _ n (same_upd n) upd_same⟩
theorem a_tTupA {t : TA} {σ : St} {H : Hp} {Q : VK} : tTupA t σ H Q = t σ H fun xs H1 => xs.length ≤ sizeLine ∧ ∀ (p : Addr) (H2 : Hp), H1 p = none → Same H1 H2 → H2 p = some (.tup xs) → Q (.ref p) H2 := rfl
end
section
variable {D : Ends} {σ : St} {H : Hp} {Q : VK} {QB : Bool → Hp → Prop} {QA : List V → Hp → Prop} {QG : St → Hp → Prop} {R : It → Hp → Prop}
theorem a_tSeq {t u : TS} : tSeq t u D σ H = t { D with nx := u D } σ H := rfl
theorem a_tRet {te : TE} : tRet te D σ H = te σ H D.rt := rfl
theorem a_tRetN : tRetN D σ H = D.rt .non H := rfl
theorem a_tNext : tNext D σ H = D.nx σ H := rfl
theorem a_tDrop {te : TE} : tDrop te D σ H = te σ H fun _ H1 => D.nx σ H1 := rfl
theorem a_tAsg {te : TE} {g : TG} : tAsg te g D σ H = te σ H fun x H1 => g x σ H1 D.nx := rfl
theorem a_tIfS {c : TT} {t u : TS} : tIfS c t u D σ H = c σ H fun b H1 => if b = true then t D σ H1 else u D σ H1 := rfl
theorem a_tPar {i j : Nat} {ta : TA} : tPar i j ta D σ H = ta σ H fun vs H1 => ∃ v w, vs = [v, w] ∧ D.nx ((σ.set i (some v)).set j (some w)) H1 := rfl
theorem a_gName {i : Nat} {v : V} : gName i v σ H QG = QG (σ.set i (some v)) H := rfl
theorem a_gNil {vs : List V} : gNil vs σ H QG = (vs = [] ∧ QG σ H) := rfl
theorem a_gCons {t : TG} {u : TGs} {vs : List V} : gCons t u vs σ H QG = ∃ v r, vs = v :: r ∧ t v σ H fun σ' H' => u r σ' H' QG := rfl
theorem a_gTup0 {n : Nat} {t : TGs} {v : V} : gTup0 n t v σ H QG = ∃ a xs, v = .ref a ∧ H a = some (.tup xs) ∧ xs.length = n ∧ t xs σ H QG := rfl
theorem a_gSub {to ti : TE} {t : TSet} {v : V} : gSub to ti t v σ H QG = to σ H fun o H1 => ti σ H1 fun i H2 => t o i v H2 fun H3 => QG σ H3 := rfl
theorem a_rSetL {o i v : V} {q : Hp → Prop} : rSetL o i v H q = ∃ p xs k j, o = .ref p ∧ i = .int k ∧ H p = some (.lst xs) ∧ ixN xs.length k = some j ∧ q (upd H p (.lst (xs.set j v))) := rfl
theorem a_tAnd {t u : TT} : tAnd t u σ H QB = t σ H fun c H1 => if c = true then u σ H1 QB else QB false H1 := rfl
theorem a_tOr {t u : TT} : tOr t u σ H QB = t σ H fun c H1 => if c = true then QB true H1 else u σ H1 QB := rfl
theorem a_tNot {t : TT} : tNot t σ H QB = t σ H fun c H1 => QB (!c) H1 := rfl
theorem a_tTest {t : TE} : tTest t σ H QB = t σ H fun x H' => ∃ k, x = .bl k ∧ QB k H' := rfl
theorem a_tB {t : TE} : tB t σ H QB = t σ H fun x H1 => ∃ c, x = .bl c ∧ QB c H1 := rfl
theorem a_tTrue : tTrue σ H QB = QB true H := rfl
theorem a_tIf {t : TT} {ta tb : TE} : tIf t ta tb σ H Q = t σ H fun c H1 => if c = true then ta σ H1 Q else tb σ H1 Q := rfl
theorem a_tAndV {ta tb : TE} : tAndV ta tb σ H Q = ta σ H fun x H1 => ∃ c, x = .bl c ∧ if c = true then tb σ H1 Q else Q (.bl false) H1 := rfl
theorem a_tOrV {ta tb : TE} : tOrV ta tb σ H Q = ta σ H fun x H1 => ∃ c, x = .bl c ∧ if c = true then Q (.bl true) H1 else tb σ H1 Q := rfl
theorem a_tNotV {ta : TE} : tNotV ta σ H Q = ta σ H fun x H1 => ∃ c, x = .bl c ∧ Q (.bl (!c)) H1 := rfl
theorem a_tOp {r : R2} {ta tb : TE} : tOp r ta tb σ H Q = ta σ H fun x H1 => tb σ H1 fun y H2 => r x y H2 Q := rfl
theorem a_tUn {r : V → Hp → VK → Prop} {ta : TE} : tUn r ta σ H Q = ta σ H fun x H1 => r x H1 Q := rfl
theorem a_rU {g : Int → V} {x : V} : rU g x H Q = ∃ i, x = .int i ∧ Q (g i) H := rfl
theorem a_tVar {i : Nat} : tVar i σ H Q = ∃ v, σ[i]? = some (some v) ∧ Q v H := rfl
theorem a_tC {v : V} : tC v σ H Q = Q v H := rfl
theorem a_rI0 {g : Int → Int → V} {x y : V} : rI0 g x y H Q = ∃ i j, x = .int i ∧ y = .int j ∧ Q (g i j) H := rfl
theorem a_rI {C : Int → Int → Prop} {g : Int → Int → V} {x y : V} : rI C g x y H Q = ∃ i j, x = .int i ∧ y = .int j ∧ C i j ∧ Q (g i j) H := rfl
theorem a_rEq {x y : V} : rEq x y H Q = (scal x y = true ∧ Q (.bl (decide (x = y))) H) := rfl
theorem a_rNe {x y : V} : rNe x y H Q = (scal x y = true ∧ Q (.bl (!decide (x = y))) H) := rfl
theorem a_rIx0 {x y : V} : rIx0 x y H Q = ∃ p xs i v, x = .ref p ∧ y = .int i ∧ sq H p = some xs ∧ atI xs i = some v ∧ Q v H := rfl
theorem a_rIn0 {neg : Bool} {x y : V} : rIn0 neg x y H Q = ∃ p xs, y = .ref p ∧ sq H p = some xs ∧ flatV x = true ∧ xs.all flatV = true ∧ Q (.bl (if neg then !inV x xs else inV x xs)) H := rfl
theorem a_tCB {r : List V → Hp → VK → Prop} {t : TA} : tCB r t σ H Q = t σ H fun vs H1 => r vs H1 Q := rfl
theorem a_tCal {sp : Sp} {t : TA} : tCal sp t σ H Q = t σ H fun vs H1 => sp vs H1 Q E0 := rfl
theorem a_tCons {ta : TE} {tr : TA} : tCons ta tr σ H QA = ta σ H fun x H1 => tr σ H1 fun xs H2 => QA (x :: xs) H2 := rfl
theorem a_tNil : tNil σ H QA = QA [] H := rfl
theorem a_tLst {t : TA} : tLst t σ H Q = t σ H fun xs H1 => xs.length ≤ sizeLine ∧ ∀ p, H1 p = none → Q (.ref p) (upd H1 p (.lst xs)) := rfl
theorem a_tBits {to : TE} : tBits to σ H Q = to σ H fun x H1 => ∃ i, x = .int i ∧ Q (.int (Builtin.Int.intBits i : Nat)) H1 := rfl
theorem a_tLC {fr : List (Option Nat)} {wi : TI} {g : TG} {tc : TT} {te : TE} : tLC fr wi g tc te σ H Q = wi σ H fun J H1 => ∀ p, H1 p = none → tCL J g tc (tEmit p te) (fun _ H2 => Q (.ref p) H2) (frS fr σ) (upd H1 p (.lst [])) := rfl
theorem a_iRng1 {ta : TA} : iRng1 ta σ H R = ta σ H fun vs H1 => ∃ j : Int, vs = [.int j] ∧ -(2 ^ 62) ≤ j ∧ j < 2 ^ 62 ∧ R (Itr 0 j.toNat) H1 := rfl
theorem a_iRng2 {ta : TA} : iRng2 ta σ H R = ta σ H fun vs H1 => ∃ i j : Int, vs = [.int i, .int j] ∧ (-(2 ^ 62) ≤ i ∧ i < 2 ^ 62 ∧ -(2 ^ 62) ≤ j ∧ j < 2 ^ 62) ∧ R (Itr i (j - i).toNat) H1 := rfl
theorem a_iT0 {tl : TE} : iT0 tl σ H R = tl σ H fun x H1 => ∃ a xs, x = .ref a ∧ H1 a = some (.tup xs) ∧ R (ItS (fun H => H a = some (.tup xs)) xs) H1 := rfl
theorem a_iL0 {tl : TE} : iL0 tl σ H R = tl σ H fun x H1 => ∃ a xs, x = .ref a ∧ H1 a = some (.lst xs) ∧ R (ItS (fun H => H a = some (.lst xs)) xs) H1 := rfl
theorem a_tEmit {p : Addr} {te : TE} : tEmit p te σ H QG = te σ H fun y H1 => ∃ ys, H1 p = some (.lst ys) ∧ ys.length < sizeLine ∧ QG σ (upd H1 p (.lst (ys ++ [y]))) := rfl
end
def FL (J : It) (g : TG) (tb : TS) (D : Ends) (σ : St) (H1 : Hp) : Prop := ∃ W : Nat → Nat → St → Hp → Prop, (∃ m, W 0 m σ H1) ∧ ∀ i m σ H, W i m σ H →
  (J.stop i H ∧ D.nx σ H) ∨ (J.go i H ∧ ∃ N : St → Hp → Prop, (∀ σ' H', N σ' H' → ∃ m', m' < m ∧ W (i + 1) m' σ' H') ∧ ∀ x H', J.yld i H x H' → g x σ H' fun σ2 H2 => tb { D with nx := N, ct := N, bk := D.nx } σ2 H2)
theorem a_tFor {wi : TI} {g : TG} {tb : TS} {D : Ends} {σ : St} {H : Hp} : tFor wi g tb D σ H = wi σ H fun J H1 => FL J g tb D σ H1 := rfl
theorem fl_range {lo : Int} {n : Nat} {g : TG} {tb : TS} {D : Ends} {σ : St} {H : Hp} (Pv : Nat → St → Hp → Prop) (h0 : Pv 0 σ H)
    (hs : ∀ i σ H, i < n → Pv i σ H → g (.int (lo + i)) σ H fun σ2 H2 => tb { D with nx := Pv (i + 1), ct := Pv (i + 1), bk := D.nx } σ2 H2) (hd : ∀ σ H, Pv n σ H → D.nx σ H) : FL (Itr lo n) g tb D σ H := for_range Pv h0 hs hd
def SameX (c : Addr) (H H' : Hp) : Prop := ∀ b o, b ≠ c → H b = some o → H' b = some o
theorem SameX.refl {c : Addr} {H : Hp} : SameX c H H := fun _ _ _ h => h
theorem SameX.trans {c : Addr} {H H1 H2 : Hp} (a : SameX c H H1) (b : SameX c H1 H2) : SameX c H H2 := fun d o n h => b d o n (a d o n h)
theorem SameX.upd {c : Addr} {H : Hp} {o : HO} : SameX c H (upd H c o) := fun b u n h => by rw [upd_ne n]; exact h
theorem Same.x {c : Addr} {H H' : Hp} (h : Same H H') : SameX c H H' := fun b o _ e => h b o e
theorem SameX.same {c : Addr} {H H' : Hp} (h : SameX c H H') (n : H c = none) : Same H H' := fun b o e => h b o (ne_of_none e n) e
theorem But.x {p : Addr} {H H' : Hp} (h : But p H H') : SameX p H H' := fun b o n e => by rw [h b n]; exact e
theorem Same.sq {H H' : Hp} (h : Same H H') {a : Addr} {xs : List V} (e : L2.sq H a = some xs) : L2.sq H' a = some xs := by
  unfold L2.sq at e ⊢
  cases q : H a with
  | none => rw [q] at e; cases e
  | some o => rw [q] at e; rw [h a o q]; exact e
theorem SameX.sq {c : Addr} {H H' : Hp} (h : SameX c H H') {a : Addr} {xs : List V} (n : a ≠ c) (e : L2.sq H a = some xs) : L2.sq H' a = some xs := by
  unfold L2.sq at e ⊢
  cases q : H a with
  | none => rw [q] at e; cases e
  | some o => rw [q] at e; rw [h a o n q]; exact e
theorem Scr.keep {K : PySem.W.Frag} {a p : Addr} {ns : List Int} {H H' : Hp} (h : Scr K a ns H) (n : H p = none) (s : SameX p H H') : Scr K a ns H' := Same.seq (s.same n) h
theorem a_rIxL {K : PySem.W.Frag} {x y : V} {H : Hp} {Q : VK} : rIxL K x y H Q = ∃ p xs i v, x = .ref p ∧ y = .int i ∧ SqL K H p xs ∧ atI xs i = some v ∧ Q v H := rfl
theorem sum_bound {b : Int} : ∀ {ns : List Int}, (∀ n ∈ ns, -b ≤ n ∧ n ≤ b) → -(b * (ns.length : Int)) ≤ ns.sum ∧ ns.sum ≤ b * (ns.length : Int)
  | [], _ => by simp
  | n :: ns, h => by
    have h1 := h n List.mem_cons_self
    have h2 := sum_bound (ns := ns) fun m hm => h m (List.mem_cons_of_mem _ hm)
    rw [List.sum_cons, List.length_cons, Int.natCast_add, Int.mul_add]
    simp only [Int.natCast_one, Int.mul_one]
    omega
theorem sumFits_of {ns : List Int} (h : ∀ n ∈ ns, -(2 ^ 40) ≤ n ∧ n ≤ 2 ^ 40) (hl : ns.length ≤ 1000) : sumFits ns := by
  refine ⟨fun n hn => ⟨by have := (h n hn).1; omega, by have := (h n hn).2; omega⟩, fun j hj => ?_⟩
  have q := sum_bound (b := 2 ^ 40) (ns := ns.take j) fun n hn => h n (List.mem_of_mem_take hn)
  have e : (ns.take j).length ≤ 1000 := by rw [List.length_take]; omega
  have e' : (2 : Int) ^ 40 * ((ns.take j).length : Int) ≤ 2 ^ 40 * 1000 := Int.mul_le_mul_of_nonneg_left (by omega) (by decide)
  constructor
  · have : (2 : Int) ^ 40 * 1000 < 2 ^ 63 := by decide
    omega
  · have : (2 : Int) ^ 40 * 1000 < 2 ^ 63 := by decide
    omega
theorem ixN30 : ixN 3 0 = some 0 := rfl
theorem ixN31 : ixN 3 1 = some 1 := rfl
theorem ixN32 : ixN 3 2 = some 2 := rfl
theorem atI0 {α : Type} (a : α) (l : List α) : atI (a :: l) 0 = some a := atI_nat (j := 0) (xs := a :: l) rfl
theorem atI1 {α : Type} (a b : α) (l : List α) : atI (a :: b :: l) 1 = some b := atI_nat (j := 1) (xs := a :: b :: l) rfl
theorem atI2 {α : Type} (a b c : α) (l : List α) : atI (a :: b :: c :: l) 2 = some c := atI_nat (j := 2) (xs := a :: b :: c :: l) rfl
end L2
end
section
set_option Elab.async false
set_option linter.all false
set_option maxRecDepth 100000
namespace L2
open PySem PySem.Spec PyProof.Rows
def SeqOf (h : Heap) (c : String) (l : Addr) (xs : Array Value) : Prop := (c = "list_iterator" ∧ h.IsList l xs) ∨ (c = "tuple_iterator" ∧ h.IsTuple l xs)
def Src (h : Heap) (c : String) (it l : Addr) (xs : Array Value) (k : Nat) : Prop := (c = "list_iterator" ∧ h.IsListIter it l k ∧ h.IsList l xs) ∨ (c = "tuple_iterator" ∧ h.IsTupleIter it l k ∧ h.IsTuple l xs)
theorem SeqOf.at {h h' : Heap} {c : String} {l : Addr} {xs : Array Value} (x : SeqOf h c l xs) (k : ∀ o, h.get? l = some o → h'.get? l = some o) : SeqOf h' c l xs := by
  rcases x with ⟨e, x⟩ | ⟨e, x⟩
  · exact .inl ⟨e, x.at k⟩
  · exact .inr ⟨e, x.at k⟩
theorem SeqOf.lt {h : Heap} {c : String} {l : Addr} {xs : Array Value} (x : SeqOf h c l xs) : l < h.objs.size := by
  rcases x with ⟨_, o, e, _⟩ | ⟨_, o, e, _⟩ <;> exact Heap.lt_size e
theorem Src.at {h h' : Heap} {c : String} {it l : Addr} {xs : Array Value} {k : Nat} (x : Src h c it l xs k) (k1 : ∀ o, h.get? it = some o → h'.get? it = some o) (k2 : ∀ o, h.get? l = some o → h'.get? l = some o) : Src h' c it l xs k := by
  rcases x with ⟨e, ⟨o, a, r⟩, y⟩ | ⟨e, ⟨o, a, r⟩, y⟩
  · exact .inl ⟨e, ⟨o, k1 o a, r⟩, y.at k2⟩
  · exact .inr ⟨e, ⟨o, k1 o a, r⟩, y.at k2⟩
theorem Src.ext {h h' : Heap} {c : String} {it l b : Addr} {xs : Array Value} {k : Nat} (x : Src h c it l xs k) (hs : Heap.SameBut b h h') (n1 : it ≠ b) (n2 : l ≠ b) : Src h' c it l xs k :=
  x.at (fun o e => hs.extBut _ _ n1 e) fun o e => hs.extBut _ _ n2 e
section
variable {prog : Program} {w : World} {A : Around} {E : Value → Shared → Prop} {s : Shared}
structure Zs (h : Heap) (z TI TO i1 i2 : Addr) (c1 c2 : String) (l1 l2 : Addr) (xs ys : Array Value) (k : Nat) : Prop where
  zip : IsZip h z TI TO .none
  ti : IsPair h TI (.ref i1) (.ref i2)
  to : ∃ a b, IsPair h TO a b
  s1 : Src h c1 i1 l1 xs k
  s2 : Src h c2 i2 l2 ys k
end
end L2
end
section
set_option Elab.async false
set_option linter.all false
set_option maxRecDepth 100000
namespace L2
open PySem PySem.Spec PyProof.Rows
section
variable {prog : Program} {w : World} {A : Around} {E : Value → Shared → Prop} {s : Shared}
end
end L2
end
section
set_option Elab.async false
set_option linter.all false
set_option maxRecDepth 100000
namespace L2
open PySem PySem.Spec PyProof.Rows
def SqC (H : Hp) (c : String) (a : Addr) (xs : List V) : Prop := (c = "list_iterator" ∧ H a = some (.lst xs)) ∨ (c = "tuple_iterator" ∧ H a = some (.tup xs))
def Itz (c1 c2 : String) (a b : Addr) (xs ys : List V) : It :=
  ⟨fun i H => SqC H c1 a xs ∧ SqC H c2 b ys ∧ i < xs.length ∧ i < ys.length, fun i H x H' => ∃ T u v, x = .ref T ∧ H T = none ∧ H' = upd H T (.tup [u, v]) ∧ xs[i]? = some u ∧ ys[i]? = some v, fun i H => SqC H c1 a xs ∧ SqC H c2 b ys ∧ (xs.length ≤ i ∨ ys.length ≤ i)⟩
structure Zt (h : Heap) (z TI TO i1 i2 : Addr) (c1 c2 : String) (l1 l2 : Addr) (k : Nat) : Prop where
  zip : IsZip h z TI TO .none
  ti : IsPair h TI (.ref i1) (.ref i2)
  to : ∃ a b, IsPair h TO a b
  s1 : (c1 = "list_iterator" ∧ h.IsListIter i1 l1 k) ∨ (c1 = "tuple_iterator" ∧ h.IsTupleIter i1 l1 k)
  s2 : (c2 = "list_iterator" ∧ h.IsListIter i2 l2 k) ∨ (c2 = "tuple_iterator" ∧ h.IsTupleIter i2 l2 k)
end L2
end
section
set_option Elab.async false
set_option linter.all false
set_option maxRecDepth 100000
namespace L2
open PySem PySem.Spec PyProof.Rows
section
variable {X : Cx}
def iZip (ta : TA) : TI := fun σ H R => ta σ H fun vs H1 => ∃ a b c1 c2 xs ys, vs = [.ref a, .ref b] ∧ SqC H1 c1 a xs ∧ SqC H1 c2 b ys ∧ R (Itz c1 c2 a b xs ys) H1
theorem a_iZip {ta : TA} {σ : St} {H : Hp} {R : It → Hp → Prop} : iZip ta σ H R = ta σ H fun vs H1 => ∃ a b c1 c2 xs ys, vs = [.ref a, .ref b] ∧ SqC H1 c1 a xs ∧ SqC H1 c2 b ys ∧ R (Itz c1 c2 a b xs ys) H1 := rfl
end
section
variable {X : Cx}
def tSortR (ta : TA) (tk : TA) : TE := fun σ H Q => ta σ H fun vs H1 => tk σ H1 fun zs H2 => ∃ (p : Addr) (ns : List Int) (b : Bool), vs = [.ref p] ∧ zs = [.bl b] ∧ H2 p = some (.lst (ns.map V.int)) ∧ ns.length < 64 ∧
  ∀ (l : Addr) (ms : List Int), H2 l = none → ms.Perm ns → Ordered b ms → Q (.ref l) (upd H2 l (.lst (ms.map V.int)))
theorem a_tSortR {ta tk : TA} {σ : St} {H : Hp} {Q : VK} : tSortR ta tk σ H Q = ta σ H fun vs H1 => tk σ H1 fun zs H2 => ∃ (p : Addr) (ns : List Int) (b : Bool), vs = [.ref p] ∧ zs = [.bl b] ∧ H2 p = some (.lst (ns.map V.int)) ∧ ns.length < 64 ∧
  ∀ (l : Addr) (ms : List Int), H2 l = none → ms.Perm ns → Ordered b ms → Q (.ref l) (upd H2 l (.lst (ms.map V.int))) := rfl
def rSlL0 : V → Option Int → Option Int → Hp → VK → Prop := fun x lo hi H Q => ∃ a xs, x = .ref a ∧ H a = some (.lst xs) ∧ ∀ p, H p = none → Q (.ref p) (upd H p (.lst (cutV xs lo hi)))
theorem a_tSl {r : V → Option Int → Option Int → Hp → VK → Prop} {te : TE} {tl th : TO} {σ : St} {H : Hp} {Q : VK} : tSl r te tl th σ H Q = te σ H fun x H1 => tl σ H1 fun l H2 => th σ H2 fun u H3 => r x l u H3 Q := rfl
theorem a_rSlL0 {x : V} {lo hi : Option Int} {H : Hp} {Q : VK} : rSlL0 x lo hi H Q = ∃ a xs, x = .ref a ∧ H a = some (.lst xs) ∧ ∀ p, H p = none → Q (.ref p) (upd H p (.lst (cutV xs lo hi))) := rfl
theorem a_tNoPart {σ : St} {H : Hp} {q : Option Int → Hp → Prop} : tNoPart σ H q = q none H := rfl
theorem a_tPart {t : TE} {σ : St} {H : Hp} {q : Option Int → Hp → Prop} : tPart t σ H q = t σ H fun x H1 => ∃ i, x = .int i ∧ q (some i) H1 := rfl
def tApp (to : TE) (t : TA) : TE := fun σ H Q => to σ H fun x H1 => ∃ l xs0, x = .ref l ∧ H1 l = some (.lst xs0) ∧ t σ H1 fun vs H2 => ∃ xs y, vs = [y] ∧ H2 l = some (.lst xs) ∧ xs.length < sizeLine ∧ Q .non (upd H2 l (.lst (xs ++ [y])))
theorem pe_append {o e : Expr} {to : TE} {t : TA} {apos cpos : Pos} (ho : PE X o to) (ha : PA X [e] t) (hbase : attributeBase o "append" X.env (eval o X.env) = eval o X.env := by rfl)
    (hfew : ((backTo cpos (starEach [e] X.env)).all (fun x => !x.1) && (backToKw cpos (keywordEach [] X.env)).all (fun x => x.1.isSome) && decide ([e].length + ([] : List Keyword).length + (if ([] : List Keyword).isEmpty then 0 else 1) < 30)) = true := by rfl)
    (hline : (apos.endLine == cpos.line) = true := by rfl) (hs : starEach [e] X.env = (false, eval e X.env) :: starEach [] X.env := by rfl) : PE X (.Call (.Attribute o "append" apos) [e] [] cpos) (tApp to t) := by
  intro pins s σ H Q I h
  refine wpAny_Call_method_late hbase hfew hline rfl (thn (ho pins s σ H _ I h) fun v s1 ⟨x, H1, I1, r1, q1⟩ => ?_)
  obtain ⟨l, xs0, rfl, hl, q1⟩ := q1
  have ty : tyV X.K "list" (.ref l) H1 := .inl ⟨rfl, _, SqL.of hl⟩
  obtain ⟨h1, h2⟩ := tyV_is I1 r1 ty
  refine ⟨"list", "list.append", PySem.F.plainAttrs_list, PySem.F.slot_list_append, PySem.F.type_list_append, h1, h2, ?_⟩
  have hA := ha cpos pins s1 σ H1 _ I1 q1
  rw [hs] at hA ⊢
  refine Calls.callWith_builtin (by rfl) (Calls.evalArgs_plain ?_)
  exact thn hA fun us s2 ⟨vs, H2, I2, r2, xs, y, e, k, z, q⟩ => mt_append pins s2 σ H2 (.ref l) vs v us Q I2 r1 r2 ⟨l, xs, y, rfl, e, k, z, q⟩
theorem a_tApp {to : TE} {t : TA} {σ : St} {H : Hp} {Q : VK} : tApp to t σ H Q = to σ H fun x H1 => ∃ l xs0, x = .ref l ∧ H1 l = some (.lst xs0) ∧ t σ H1 fun vs H2 => ∃ xs y, vs = [y] ∧ H2 l = some (.lst xs) ∧ xs.length < sizeLine ∧ Q .non (upd H2 l (.lst (xs ++ [y]))) := rfl
end
end L2
end
section
set_option Elab.async false
set_option linter.all false
set_option maxRecDepth 100000
namespace L2
open PySem PySem.Spec PyProof.Rows
section
variable {X : Cx}
def insV (xs : List V) (i : Nat) (y : V) : List V := xs.take i ++ y :: xs.drop i
def tIns (to : TE) (t : TA) : TE := fun σ H Q => to σ H fun x H1 => ∃ l xs0, x = .ref l ∧ H1 l = some (.lst xs0) ∧ t σ H1 fun vs H2 => ∃ xs y, ∃ i : Nat, vs = [.int (i : Int), y] ∧ H2 l = some (.lst xs) ∧ i ≤ xs.length ∧ xs.length < sizeLine ∧ Q .non (upd H2 l (.lst (insV xs i y)))
theorem a_tIns {to : TE} {t : TA} {σ : St} {H : Hp} {Q : VK} : tIns to t σ H Q = to σ H fun x H1 => ∃ l xs0, x = .ref l ∧ H1 l = some (.lst xs0) ∧ t σ H1 fun vs H2 => ∃ xs y, ∃ i : Nat, vs = [.int (i : Int), y] ∧ H2 l = some (.lst xs) ∧ i ≤ xs.length ∧ xs.length < sizeLine ∧ Q .non (upd H2 l (.lst (insV xs i y))) := rfl
theorem max_gen (hc : X.calm = true) {pins : List (Addr × Obj)} {σ : St} {H : Hp} {s : Shared} {p : Addr} {ns : List Int} {Q : VK} (I : Inv X pins σ H s) (hq : sq H p = some (ns.map V.int)) (hne : ns ≠ [])
    (q : ∀ m, m ∈ ns → (∀ x ∈ ns, x ≤ m) → Q (.int m) H) : wpAny (model X.prog X.w) X.A (call (.builtin "max") [.ref p]) (EP X pins σ Q) X.xe s := by
  have hp : 0 < ns.length := List.length_pos_iff.mpr hne
  refine call_max_walk (I.walk hc hq fun it its s2 St fp rv W st hfp hsz J => ?_)
  have hl := rv.length
  rw [List.length_map] at hl
  refine ⟨it, fp, [it], its.length, _, St, _, rfl, W, st, hfp, by omega, CmpOf.ints_gt (fun i => ns.getD i 0) fun i v hv => vals_int_get rv hv, fun v h' tk hv k => ?_⟩
  obtain ⟨a1, a2⟩ := argBest_gt (fun i => ns.getD i 0) (its.length - 1)
  obtain ⟨t, rfl⟩ := vals_int_get rv hv
  generalize argBest (fun i j => decide (ns.getD i 0 > ns.getD j 0)) (its.length - 1) = j at a1 a2 hv ⊢
  have hj : j < ns.length := by omega
  have e : ns.getD j 0 = ns[j] := by simp [List.getD_eq_getElem?_getD, hj]
  refine ⟨.int ns[j], H, J h' tk k, ⟨t, by rw [e]⟩, q _ (List.getElem_mem hj) fun x hx => ?_⟩
  obtain ⟨i, hi, rfl⟩ := List.mem_iff_getElem.mp hx
  have := a2 i (by omega)
  simp only [List.getD_eq_getElem?_getD, List.getElem?_eq_getElem hi, List.getElem?_eq_getElem hj, Option.getD_some] at this
  exact this
theorem max0 (hc : X.calm = true) : CallR X (.builtin "max") (fun xs H Q => ∃ (p : Addr) (ns : List Int), xs = [.ref p] ∧ sq H p = some (ns.map V.int) ∧ ns ≠ [] ∧ ∀ m, m ∈ ns → (∀ x ∈ ns, x ≤ m) → Q (.int m) H) := by
  intro pins s σ H xs us Q I r h
  obtain ⟨p, ns, rfl, hq, hne, q⟩ := h
  obtain ⟨u, rfl, ru⟩ := r.one
  cases ru
  exact max_gen hc I hq hne q
def rCatA : R2 := fun x y H Q => ∃ a b xs ys, x = .ref a ∧ y = .ref b ∧ H a = some (.tup xs) ∧ H b = some (.tup ys) ∧ xs.length + ys.length ≤ sizeLine ∧ ∀ (p : Addr) (H' : Hp), Same H H' → H' p = some (.tup (xs ++ ys)) → Q (.ref p) H'
theorem catA0 : OpR X (binaryOp .Add) rCatA := by
  intro pins s σ H x y v u Q I rx ry h
  obtain ⟨a, b, xs, ys, rfl, rfl, ha, hb, hz, q⟩ := h
  by_cases hx : xs = []
  · cases rx
    cases ry
    obtain ⟨its, r1, p1, _⟩ := I.tuple (SqT.of ha)
    obtain ⟨its2, r2, p2, _⟩ := I.tuple (SqT.of hb)
    have e1 : its = [] := r1.nil_iff.mpr hx
    obtain ⟨⟨c1, d1, da1, sl1⟩, o1, k1, n1, g1⟩ := id p1
    obtain ⟨⟨c2, d2, da2, sl2⟩, o2, k2, n2, g2⟩ := id p2
    simp only at k1 g1 k2 g2
    subst k1 g1 k2 g2
    refine concat_meets ⟨_, o1, rfl⟩ ⟨_, o2, rfl⟩ noFill_tuple_add seq_tuple_add F.slot_tuple_add F.entry_tuple_add (F.args_tuple_add_2 _ _) (tuple_addW0 a b its.toArray its2.toArray n1 n2 d1 d2 sl1 sl2 (by simp [e1])) ⟨o1, o2, ?_⟩
    subst hx
    exact ⟨.ref b, H, I, rfl, q b H (Same.refl H) hb⟩
  · refine op_catT pins s σ H (.ref a) (.ref b) v u Q I rx ry ⟨a, b, xs, ys, rfl, rfl, SqT.of ha, SqT.of hb, hx, hz, fun e => ?_, fun _ p np => q p _ (same_upd np) upd_same⟩
    subst e
    exact q a H (Same.refl H) (by rw [List.append_nil]; exact ha)
theorem a_rCatA {x y : V} {H : Hp} {Q : VK} : rCatA x y H Q = ∃ a b xs ys, x = .ref a ∧ y = .ref b ∧ H a = some (.tup xs) ∧ H b = some (.tup ys) ∧ xs.length + ys.length ≤ sizeLine ∧ ∀ (p : Addr) (H' : Hp), Same H H' → H' p = some (.tup (xs ++ ys)) → Q (.ref p) H' := rfl
def rCatL : R2 := fun x y H Q => ∃ l b xs zs, x = .ref l ∧ y = .ref b ∧ H l = some (.lst xs) ∧ H b = some (.lst zs) ∧ xs.length + zs.length ≤ sizeLine ∧ ∀ (p : Addr) (H' : Hp), H p = none → Same H H' → H' p = some (.lst (xs ++ zs)) → Q (.ref p) H'
theorem catL0 : OpR X (binaryOp .Add) rCatL := fun pins s σ H x y v u Q I rx ry h => by
  obtain ⟨l, b, xs, zs, e1, e2, h1, h2, hz, q⟩ := h
  exact op_cat pins s σ H x y v u Q I rx ry ⟨l, b, xs, zs, e1, e2, h1, h2, hz, fun p np => q p _ np (same_upd np) upd_same⟩
theorem a_rCatL {x y : V} {H : Hp} {Q : VK} : rCatL x y H Q = ∃ l b xs zs, x = .ref l ∧ y = .ref b ∧ H l = some (.lst xs) ∧ H b = some (.lst zs) ∧ xs.length + zs.length ≤ sizeLine ∧ ∀ (p : Addr) (H' : Hp), H p = none → Same H H' → H' p = some (.lst (xs ++ zs)) → Q (.ref p) H' := rfl
end
end L2
end
section
set_option Elab.async false
set_option linter.all false
set_option maxRecDepth 100000
namespace L2
open PySem PySem.Spec PyProof.Rows
section
variable {prog : Program} {w : World} {A : Around} {E : Value → Shared → Prop} {s : Shared}
theorem tup_whole {t sl : Addr} {items : Array Value} {vl vu : Value} {lo hi : Option Int} {Q : Value → Shared → Prop} (ht : IsTup s.heap t items) (hs : s.heap.IsSliceOf sl vl vu .none) (pl : IsPart vl lo) (pu : IsPart vu hi)
    (hw : HT.sIx items.size 0 lo = 0 ∧ HT.sIx items.size items.size hi = items.size) (h : Q (.ref t) s) : wpAny (model prog w) A (getItem (.ref t) (.ref sl)) Q E s := by
  obtain ⟨os, hos, hcs, hds⟩ := id hs
  have kind : s.TypeIs (.ref sl) "slice" := ⟨os, hos, hcs⟩
  unfold getItem
  try with_reducible refine wpAny_holding ?_
  first | refine wpAny_bind (wpAny_pure ?_) | skip
  refine wpAny_bind (wpAny_sequenceKey ht.typeIs (by decide) ?_)
  refine wpAny_bind (wpAny_callSpecial?_slot (name := Str.ofString "__getitem__") ht.typeIs slot_tuple_getitem (wpAny_call_entry slot_tuple_getitem ht.typeIs entry_tuple_getitem ?_ (args_tuple_getitem _ _)))
  show wpAny _ _ (Builtin.Tuple.tupleItemsOf (.ref t) >>= _) _ _ s
  refine wpAny_bind (tupleItemsOf_ ht (wpAny_bind (wpAny_typeOf kind ?_)))
  rw [if_pos (by decide)]
  refine wpAny_bind (HT.sliceApplied_gen hs pl pu ?_)
  rw [hw.1, hw.2]
  have yes : ((((0 : Nat) : Int) == 0 && (1 : Int) == 1 && (items.size - 0) == items.size) = true) := by simp
  show wpAny _ _ (if ((((0 : Nat) : Int) == 0 && (1 : Int) == 1 && (items.size - 0) == items.size) = true) then _ else _) _ _ s
  rw [if_pos yes]
  unfold Builtin.Tuple.tupleIsExact
  refine wpAny_bind (wpAny_bind (wpAny_typeOf ht.typeIs (wpAny_pure ?_)))
  rw [if_pos (by decide)]
  exact wpAny_bind (wpAny_rule (wpAny_pure ⟨_, rfl, wpAny_pure h⟩))
end
section
variable {X : Cx}
def rSlA : V → Option Int → Option Int → Hp → VK → Prop := fun x lo hi H Q => ∃ a xs, x = .ref a ∧ H a = some (.tup xs) ∧ ∀ (p : Addr) (H' : Hp), Same H H' → H' p = some (.tup (cutV xs lo hi)) → Q (.ref p) H'
theorem cut_whole {xs : List V} {lo hi : Option Int} (h : HT.sIx xs.length 0 lo = 0 ∧ HT.sIx xs.length xs.length hi = xs.length) : cutV xs lo hi = xs := by
  unfold cutV
  rw [h.1, h.2, List.drop_zero, Nat.sub_zero, List.take_length]
theorem slA0 : SlR X rSlA := by
  intro pins s σ H x v vl vu lo hi sl Q I rx hs pl pu h
  obtain ⟨a, xs, rfl, hx, q⟩ := h
  by_cases hw : HT.sIx xs.length 0 lo = 0 ∧ HT.sIx xs.length xs.length hi = xs.length
  · cases rx
    obtain ⟨its, r, ht, hz⟩ := I.tuple (SqT.of hx)
    have hlen : its.toArray.size = xs.length := by rw [List.size_toArray]; exact r.length.symm
    refine ⟨"tuple", _, slot_tuple_getitem.lookup, ht.typeIs, tup_whole ht hs pl pu (by rw [hlen]; exact hw) ?_⟩
    exact ⟨.ref a, H, I, rfl, q a H (Same.refl H) (by rw [cut_whole hw]; exact hx)⟩
  · exact sl_tup pins s σ H (.ref a) v vl vu lo hi sl Q I rx hs pl pu ⟨a, xs, rfl, SqT.of hx, hw, fun p np => q p _ (same_upd np) upd_same⟩
theorem a_rSlA {x : V} {lo hi : Option Int} {H : Hp} {Q : VK} : rSlA x lo hi H Q = ∃ a xs, x = .ref a ∧ H a = some (.tup xs) ∧ ∀ (p : Addr) (H' : Hp), Same H H' → H' p = some (.tup (cutV xs lo hi)) → Q (.ref p) H' := rfl
def tRev (te : TE) : TE := fun σ H Q => te σ H fun x H1 => ∃ a xs, x = .ref a ∧ H1 a = some (.tup xs) ∧ ∀ (p : Addr) (H' : Hp), H1 p = none → Same H1 H' → H' p = some (.tup xs.reverse) → Q (.ref p) H'
theorem a_tRev {te : TE} {σ : St} {H : Hp} {Q : VK} : tRev te σ H Q = te σ H fun x H1 => ∃ a xs, x = .ref a ∧ H1 a = some (.tup xs) ∧ ∀ (p : Addr) (H' : Hp), H1 p = none → Same H1 H' → H' p = some (.tup xs.reverse) → Q (.ref p) H' := rfl
end
end L2
end
section
set_option Elab.async false
set_option linter.all false
set_option maxRecDepth 100000
namespace L2
open PySem PySem.Spec PyProof.Rows
def innerBody (e iter : Expr) (d : Nat) (acc : Value) (env : Env) : Sem Unit := do
  let x ← eval iter env
  standAt iter.pos
  let x ← foldedSetIterable iter env x
  let _ ← runOwn (.compStart e d (← holding [x] (pyIter x)) acc env) env
theorem turn_outer (elt tg iter tg2 iter2 : Expr) (ifs ifs2 : List Expr) (rest : List Comprehension) (sc : Scope) (pos : Pos) (it acc : Value) (env : Env) :
    compTurn (.ListComp elt (⟨tg, iter, ifs, 0⟩ :: ⟨tg2, iter2, ifs2, 0⟩ :: rest) sc pos) 0 it acc env = (do
      standAt iter.pos
      match ← pyNext it with
      | none => pure (.done .next)
      | some v =>
        letOwnedTupleGo tg it v
        assign tg env v
        let mut ok := true
        for c in ifs do
          if ok then ok ← isTrue c env (eval c env)
        if ok then innerBody (.ListComp elt (⟨tg, iter, ifs, 0⟩ :: ⟨tg2, iter2, ifs2, 0⟩ :: rest) sc pos) iter2 1 acc env
        again (.compLoop (.ListComp elt (⟨tg, iter, ifs, 0⟩ :: ⟨tg2, iter2, ifs2, 0⟩ :: rest) sc pos) 0 it acc env)) := by
  unfold innerBody
  simp only [bind_assoc, pure_bind]
  rfl
theorem turn_last2 (elt tg iter tg2 iter2 : Expr) (ifs ifs2 : List Expr) (sc : Scope) (pos : Pos) (it acc : Value) (env : Env) :
    compTurn (.ListComp elt [⟨tg, iter, ifs, 0⟩, ⟨tg2, iter2, ifs2, 0⟩] sc pos) 1 it acc env = (do
      standAt iter2.pos
      match ← pyNext it with
      | none => pure (.done .next)
      | some v =>
        letOwnedTupleGo tg2 it v
        assign tg2 env v
        let mut ok := true
        for c in ifs2 do
          if ok then ok ← isTrue c env (eval c env)
        if ok then (do let _ ← call (.builtin "list.append") [acc, ← eval elt env])
        again (.compLoop (.ListComp elt [⟨tg, iter, ifs, 0⟩, ⟨tg2, iter2, ifs2, 0⟩] sc pos) 1 it acc env)) := by rfl
section
variable {prog : Program} {w : World} {A : Around} {R : Result → Shared → Prop} {s : Shared}
theorem start_inner {elt : Expr} {gs : List Comprehension} {sc : Scope} {pos : Pos} {d : Nat} {g : Comprehension} {it acc : Value} {env : Env} (hg : gs[d]? = some g) (ha : g.is_async = 0)
    (h0 : codeAny (model prog w) A (.compLoop (.ListComp elt gs sc pos) d it acc env) R s)
    (h : wpAny (model prog w) A (pyIter it) (fun it' s' => codeAny (model prog w) A (.compLoop (.ListComp elt gs sc pos) d it' acc env) R s') (notedBy (model prog w) A env fun x s' => R (.error x) s') s) :
    codeAny (model prog w) A (.compStart (.ListComp elt gs sc pos) d it acc env) R s := by
  refine codeAny_of_tree (show wpAny _ _ ((compStart (.ListComp elt gs sc pos) d it acc env).onRaise (fun x => do noteFrame x env; standAt theWindowsPlace)) _ _ s from wpAny_notedAt ?_)
  unfold compStart
  have e : (clausesOf (.ListComp elt gs sc pos))[d]? = some g := hg
  rw [e]
  have ea : (some g).elim false (fun x : Comprehension => x.is_async != 0) = false := by show (g.is_async != 0) = false; rw [ha]; rfl
  rw [ea]
  refine wpAny_bind (wpAny_askSetting (wpAny_ite ?_))
  split
  · first
      | exact wpAny_pure ⟨rfl, h0⟩
      | exact wpAny_bind (wpAny_pure (wpAny_pure ⟨rfl, h0⟩))
  · exact wpAny_bind (wpAny_rule (wpAny_bind (wpAny_standAt (wpAny_bind (wpAny_mono h (fun it' s' h' => wpAny_pure ⟨rfl, h'⟩) fun _ _ x => x)))))
end
def tInner (wi : TI) (g : TG) (tc : TT) (tb : TB) : TB := fun σ H N => wi σ H fun J H1 => tCL J g tc tb N σ H1
theorem pb_inner {X : Cx} {elt tg iter : Expr} {ifs : List Expr} {gs : List Comprehension} {sc : Scope} {pos : Pos} {d : Nat} {acc : Value} {wi : TI} {g : TG} {tc : TT} {tb : TB} {body : Sem Unit} (hc : X.calm = true) (hx : X.xe = fun _ _ => False) (hgs : gs[d]? = some ⟨tg, iter, ifs, 0⟩)
    (hi : PI X tg iter wi) (hg : PG X tg g) (hifs : PIfs X ifs tc) (hb : PB X body tb)
    (heq : ∀ it : Addr, compTurn (.ListComp elt gs sc pos) d (.ref it) acc X.env = (do
      standAt iter.pos
      match ← pyNext (.ref it) with
      | none => pure (.done .next)
      | some v =>
        letOwnedTupleGo tg (.ref it) v
        assign tg X.env v
        let mut ok := true
        for c in ifs do
          if ok then ok ← isTrue c X.env (eval c X.env)
        if ok then body
        again (.compLoop (.ListComp elt gs sc pos) d (.ref it) acc X.env)))
    (hs : ∀ x, foldedSetIterable iter X.env x = pure x) : PB X (innerBody (.ListComp elt gs sc pos) iter d acc X.env) (tInner wi g tc tb) := by
  intro pins s σ H N I q
  unfold innerBody
  refine wpAny_bind (thn (hi pins s σ H _ I q) fun v s1 h1 => ?_)
  refine wpAny_bind (wpAny_standAt (wpAny_bind (wpAny_of_eq (hs v) (wpAny_bind (wpAny_holding (thn h1 fun itv s2 h2 => ?_))))))
  obtain ⟨it, fp, tn, J, H2, e2, I2, T, st2, f2, q2⟩ := h2
  subst e2
  have L := comp_loop (X := X) (e := .ListComp elt gs sc pos) (d := d) (acc := acc) (D := N) (s := s2) hc hx (heq it) rfl rfl rfl T hg hifs hb I2 st2 f2 q2
  refine wpAny_bind (wpAny_runOwn (start_inner hgs rfl ?_ ?_))
  · refine codeAny_mono L fun r s' hr => ?_
    obtain ⟨rfl, σ', H', J', n'⟩ := hr
    exact wpAny_pure ⟨σ', H', J', n'⟩
  · refine T.self X.A 0 s2 _ _ st2 ?_
    refine codeAny_mono L fun r s' hr => ?_
    obtain ⟨rfl, σ', H', J', n'⟩ := hr
    exact wpAny_pure ⟨σ', H', J', n'⟩
section
variable {X : Cx}
def tLC2 (fr : List (Option Nat)) (wi : TI) (g : TG) (tc : TT) (wi2 : TI) (g2 : TG) (tc2 : TT) (te : TE) : TE := fun σ H Q => wi σ H fun J H1 => ∀ p, H1 p = none → tCL J g tc (tInner wi2 g2 tc2 (tEmit p te)) (fun _ H2 => Q (.ref p) H2) (frS fr σ) (upd H1 p (.lst []))
theorem pe_lc2 {N : List Str} {fr : List (Option Nat)} {tg iter tg2 iter2 elt : Expr} {ifs ifs2 : List Expr} {sc : Scope} {pos : Pos} {cl : List (Str × Addr)} {wi wi2 : TI} {g g2 : TG} {tc tc2 : TT} {te : TE} (hc : X.calm = true) (hi : PI X tg iter wi) (S : CScope X N fr sc) (hcl : clos sc.names X.env.cells [] = some cl)
    (hb : ∀ s H ex, PG (cxc X N sc cl s H ex) tg g ∧ PIfs (cxc X N sc cl s H ex) ifs tc ∧ PI (cxc X N sc cl s H ex) tg2 iter2 wi2 ∧ PG (cxc X N sc cl s H ex) tg2 g2 ∧ PIfs (cxc X N sc cl s H ex) ifs2 tc2 ∧ PE (cxc X N sc cl s H ex) elt te) (hs : ∀ x, foldedSetIterable iter X.env x = pure x := by intro _; rfl) (hs2 : ∀ env x, foldedSetIterable iter2 env x = pure x := by intro _ _; rfl) :
    PE X (.ListComp elt [⟨tg, iter, ifs, 0⟩, ⟨tg2, iter2, ifs2, 0⟩] sc pos) (tLC2 fr wi g tc wi2 g2 tc2 te) := by
  intro pins s σ H Q I h
  rw [eval_ListComp]
  refine lc_entry (D := fun J p σ H => tCL J g tc (tInner wi2 g2 tc2 (tEmit p te)) (fun _ H2 => Q (.ref p) H2) σ H) rfl hi S hcl I h (fun it p fp tn J s1 s2 H1 σ1 T B st f d => ?_) hs
  obtain ⟨hg, hifs, hi2, hg2, hifs2, helt⟩ := hb s1 H1 fp
  have inn := pb_inner (X := cxc X N sc cl s1 H1 fp) (elt := elt) (gs := [⟨tg, iter, ifs, 0⟩, ⟨tg2, iter2, ifs2, 0⟩]) (sc := sc) (pos := pos) (d := 1) (acc := .ref p) hc rfl rfl hi2 hg2 hifs2 (pb_emit (p := p) helt) (fun it => turn_last2 elt tg iter tg2 iter2 ifs ifs2 sc pos (.ref it) (.ref p) _) (hs2 _)
  have L := comp_loop (X := cxc X N sc cl s1 H1 fp) (e := .ListComp elt [⟨tg, iter, ifs, 0⟩, ⟨tg2, iter2, ifs2, 0⟩] sc pos) (d := 0) (acc := .ref p) (D := fun _ H2 => Q (.ref p) H2) (s := s2) hc rfl (turn_outer elt tg iter tg2 iter2 ifs ifs2 [] sc pos (.ref it) (.ref p) _) rfl rfl rfl T hg hifs inn B st f d
  exact codeAny_compStart_list L (T.self X.A 0 s2 _ _ st L)
def tLC3 (fr : List (Option Nat)) (wi : TI) (g : TG) (tc : TT) (wi2 : TI) (g2 : TG) (tc2 : TT) (wi3 : TI) (g3 : TG) (tc3 : TT) (te : TE) : TE := fun σ H Q => wi σ H fun J H1 => ∀ p, H1 p = none → tCL J g tc (tInner wi2 g2 tc2 (tInner wi3 g3 tc3 (tEmit p te))) (fun _ H2 => Q (.ref p) H2) (frS fr σ) (upd H1 p (.lst []))
theorem a_tLC2 {fr : List (Option Nat)} {wi wi2 : TI} {g g2 : TG} {tc tc2 : TT} {te : TE} {σ : St} {H : Hp} {Q : VK} : tLC2 fr wi g tc wi2 g2 tc2 te σ H Q = wi σ H fun J H1 => ∀ p, H1 p = none → tCL J g tc (tInner wi2 g2 tc2 (tEmit p te)) (fun _ H2 => Q (.ref p) H2) (frS fr σ) (upd H1 p (.lst [])) := rfl
theorem a_tLC3 {fr : List (Option Nat)} {wi wi2 wi3 : TI} {g g2 g3 : TG} {tc tc2 tc3 : TT} {te : TE} {σ : St} {H : Hp} {Q : VK} : tLC3 fr wi g tc wi2 g2 tc2 wi3 g3 tc3 te σ H Q = wi σ H fun J H1 => ∀ p, H1 p = none → tCL J g tc (tInner wi2 g2 tc2 (tInner wi3 g3 tc3 (tEmit p te))) (fun _ H2 => Q (.ref p) H2) (frS fr σ) (upd H1 p (.lst [])) := rfl
theorem a_tInner {wi : TI} {g : TG} {tc : TT} {tb : TB} {σ : St} {H : Hp} {N : St → Hp → Prop} : tInner wi g tc tb σ H N = wi σ H fun J H1 => tCL J g tc tb N σ H1 := rfl
end
end L2
end
section
set_option Elab.async false
set_option linter.all false
set_option maxRecDepth 100000
namespace L2
open PySem PySem.Spec PyProof.Rows
theorem range_drop {n i : Nat} (h : i < n) : (List.range n).drop i = i :: (List.range n).drop (i + 1) := by simp [List.drop_eq_getElem_cons, h]
theorem tuple_neAt (l b : Addr) (items items2 : Array Value) (n n2 : Nat) (dd dd2 : Option Addr) (sl sl2 : Array (Option Value)) (e : Nat → Bool) :
    Meets (Builtin.«tuple.__ne__» ⟨[.ref l, .ref b], []⟩) (fun A R s => s.heap.get? l = some { cls := .type "tuple", dict := dd, data := .seq items n, slots := sl } ∧ s.heap.get? b = some { cls := .type "tuple", dict := dd2, data := .seq items2 n2, slots := sl2 } ∧
        (∀ j (h1 : j < items.size) (h2 : j < items2.size), SeqAt.EqAt A.in1 s items[j] items2[j] (e j)) ∧ R (.ok (.ret (.bool (!((List.range (min items.size items2.size)).all e && items.size == items2.size))))) s) :=
  .of_wp fun prog w A R s h => by
    obtain ⟨hp, g, d, tk, os⟩ := s; obtain ⟨hl, hb, he, h⟩ := h
    have f2 := AutoSeq1.sub_tuple_tuple
    have zl : (items.toList.zip items2.toList).length = min items.size items2.size := by simp
    wp_walk using wpAny_loadPart' hl, wpAny_loadPart' hb, wpAny_forIn_list _ (fun rest b s' => b.1 = none ∧ s' = ⟨hp, g, d, tk, os⟩ ∧ ∃ i, rest = (items.toList.zip items2.toList).drop i ∧ R (.ok (.ret (.bool (!(((List.range (min items.size items2.size)).drop i).all e && items.size == items2.size))))) ⟨hp, g, d, tk, os⟩) _
    case turn =>
      rintro ⟨y, x⟩ rest b s' ⟨hb', rfl, i, hz, hR⟩
      have lt : i < (items.toList.zip items2.toList).length := by
        rcases Nat.lt_or_ge i (items.toList.zip items2.toList).length with q | q
        · exact q
        · rw [List.drop_of_length_le q] at hz; cases hz
      have lm : i < min items.size items2.size := zl ▸ lt
      have l1 : i < items.size := by omega
      have l2 : i < items2.size := by omega
      rw [List.drop_eq_getElem_cons lt] at hz
      injection hz with z1 z2
      have hy : y = items[i] := by have := congrArg Prod.fst z1; simpa using this
      have hx : x = items2[i] := by have := congrArg Prod.snd z1; simpa using this
      subst hy hx
      have dr := range_drop lm
      refine wpAny_bind (he i l1 l2 prog w _ _ ?_)
      cases hc : e i with
      | true =>
        rw [dr, List.all_cons, hc, Bool.true_and] at hR
        exact wpAny_pure ⟨rfl, rfl, i + 1, z2, hR⟩
      | false =>
        rw [dr, List.all_cons, hc, Bool.false_and, Bool.false_and, Bool.not_false] at hR
        wp_walk
        exact ⟨_, rfl, hR⟩
    case fin =>
      rintro ⟨b1, b2⟩ s' ⟨hb', rfl, i, hz, hR⟩
      cases (show b1 = none from hb')
      have ge : min items.size items2.size ≤ i := by
        rcases Nat.lt_or_ge i (items.toList.zip items2.toList).length with q | q
        · rw [List.drop_eq_getElem_cons q] at hz; cases hz
        · exact zl ▸ q
      rw [List.drop_of_length_le (by simpa using ge), List.all_nil, Bool.true_and] at hR
      wp_walk
      exact ⟨_, rfl, hR⟩
    case h => exact ⟨rfl, rfl, 0, rfl, by rw [List.drop_zero]; exact h⟩
theorem ints_all : ∀ (ns ms : List Int), ((List.range (min ns.length ms.length)).all (fun j => decide (ns.getD j 0 = ms.getD j 0)) && ns.length == ms.length) = decide (ns = ms) := fun ns ms => by
  rw [Bool.eq_iff_iff, Bool.and_eq_true, List.all_eq_true, decide_eq_true_eq, beq_iff_eq]
  constructor
  · rintro ⟨h1, h2⟩
    apply List.ext_getElem h2
    intro i q1 q2
    have := h1 i (List.mem_range.mpr (by omega))
    simpa [List.getD_eq_getElem?_getD, q1, q2] using this
  · rintro rfl
    exact ⟨fun j _ => by simp, rfl⟩
section
variable {X : Cx}
theorem tup_eqs {pins : List (Addr × Obj)} {σ : St} {H : Hp} {s : Shared} {a b : Addr} {ns ms : List Int} (I : Inv X pins σ H s) (ha : H a = some (.tup (ns.map V.int))) (hb : H b = some (.tup (ms.map V.int))) :
    ∃ its its2 : List Value, IsTup s.heap a its.toArray ∧ IsTup s.heap b its2.toArray ∧ its.length = ns.length ∧ its2.length = ms.length ∧ ∀ (A : Around) (j : Nat) (h1 : j < its.toArray.size) (h2 : j < its2.toArray.size), SeqAt.EqAt A s its.toArray[j] its2.toArray[j] (decide (ns.getD j 0 = ms.getD j 0)) := by
  obtain ⟨its, r1, p1, _⟩ := I.tuple (SqT.of ha)
  obtain ⟨its2, r2, p2, _⟩ := I.tuple (SqT.of hb)
  have l1 := r1.length
  have l2 := r2.length
  rw [List.length_map] at l1 l2
  refine ⟨its, its2, p1, p2, l1.symm, l2.symm, fun A j h1 h2 => ?_⟩
  have h1' : j < its.length := by simpa using h1
  have h2' : j < its2.length := by simpa using h2
  obtain ⟨t, e1⟩ := vals_int_get r1 (i := j) (v := its[j]) (by simp [h1'])
  obtain ⟨u, e2⟩ := vals_int_get r2 (i := j) (v := its2[j]) (by simp [h2'])
  have key : SeqAt.EqAt A s its[j] its2[j] (eqV (.int (ns.getD j 0)) (.int (ms.getD j 0))) := eqAt_V ⟨t, e1⟩ ⟨u, e2⟩ rfl rfl
  have e : eqV (.int (ns.getD j 0)) (.int (ms.getD j 0)) = decide (ns.getD j 0 = ms.getD j 0) := by
    show (ns.getD j 0 == ms.getD j 0) = _
    rfl
  rw [e] at key
  simpa using key
def rEqT (neg : Bool) : R2 := fun x y H Q => ∃ (a b : Addr) (ns ms : List Int), x = .ref a ∧ y = .ref b ∧ H a = some (.tup (ns.map V.int)) ∧ H b = some (.tup (ms.map V.int)) ∧ Q (.bl (if neg then !decide (ns = ms) else decide (ns = ms))) H
theorem neT0 (hu : X.A.units < cLine) : OpR X (compareOp .NotEq) (rEqT true) := by
  intro pins s σ H x y v u Q I rx ry h
  obtain ⟨a, b, ns, ms, rfl, rfl, ha, hb, q⟩ := h
  cases rx
  cases ry
  obtain ⟨its, its2, p1, p2, l1, l2, he⟩ := tup_eqs I ha hb
  obtain ⟨⟨c1, d1, da1, sl1⟩, o1, k1, n1, g1⟩ := id p1
  obtain ⟨⟨c2, d2, da2, sl2⟩, o2, k2, n2, g2⟩ := id p2
  simp only at k1 g1 k2 g2
  subst k1 g1 k2 g2
  refine richCompare_meets_room (op := .NotEq) ⟨_, o1, rfl⟩ ⟨_, o2, rfl⟩ F.slot_tuple_ne F.entry_tuple_ne (F.args_tuple_ne_2 _ _) (tuple_neAt a b its.toArray its2.toArray n1 n2 d1 d2 sl1 sl2 fun j => decide (ns.getD j 0 = ms.getD j 0)) ⟨o1, o2, fun j h1 h2 => he _ j h1 h2, ?_⟩ hu
  refine ⟨(fun z => nomatch z), ⟨.bl (!decide (ns = ms)), H, I, ?_, q⟩⟩
  rw [List.size_toArray, List.size_toArray, l1, l2, ints_all]
  rfl
theorem a_rEqT {neg : Bool} {x y : V} {H : Hp} {Q : VK} : rEqT neg x y H Q = ∃ (a b : Addr) (ns ms : List Int), x = .ref a ∧ y = .ref b ∧ H a = some (.tup (ns.map V.int)) ∧ H b = some (.tup (ms.map V.int)) ∧ Q (.bl (if neg then !decide (ns = ms) else decide (ns = ms))) H := rfl
end
end L2
end
section
set_option Elab.async false
set_option linter.all false
set_option maxRecDepth 100000
namespace L2
open PySem PySem.Spec PyProof.Rows
theorem rmul_tup (a : Int) (t : Tok) (l : Addr) (items : Array Value) (n : Nat) (dd : Option Addr) (sl : Array (Option Value)) :
    Meets (Builtin.«int.__rmul__» ⟨[.int a t, .ref l], []⟩) (fun _ R s => s.heap.get? l = some { cls := .type "tuple", dict := dd, data := .seq items n, slots := sl } ∧ R (.ok (.ret Value.notImplemented)) s) :=
  .of_wp fun prog w A R s h => by
    obtain ⟨hp, g, d, tk, os⟩ := s
    obtain ⟨hl, h⟩ := h
    wp_walk
    exact ⟨_, rfl, h⟩
theorem noFill_tup_mul : fillsNumberSlot (.type "tuple") "mul" = pure false :=
  PySem.fillsNumberSlot_seq (id := "tuple.__mul__") (r := some (.builtin "tuple.__rmul__")) F.slot_tuple_mul.lookup (by decide +kernel) F.slot_tuple_rmul.lookup (by decide +kernel)
theorem repeat_tup : seqRepeat? (.type "tuple") = pure (some (.builtin "tuple.__mul__")) := by
  unfold seqRepeat?
  rw [PySem.seqSlot_of (T := "tuple") (name := "__mul__") (id := "tuple.__mul__") F.slot_tuple_mul.lookup (by decide +kernel), PySem.seqSlot_of (T := "tuple") (name := "__rmul__") (id := "tuple.__rmul__") F.slot_tuple_rmul.lookup (by decide +kernel)]
  rfl
theorem mul_one (t : Addr) (items : Array Value) (n : Nat) (dd : Option Addr) (sl : Array (Option Value)) (k : Int) (u : Tok) (h1 : ¬ (decide (k < -(2 ^ 63)) || decide (k ≥ 2 ^ 63)) = true) (hc : (items.isEmpty || k == 1) = true) :
    Meets (Builtin.«tuple.__mul__» ⟨[.ref t, .int k u], []⟩) (fun _ R s => s.heap.get? t = some { cls := .type "tuple", dict := dd, data := .seq items n, slots := sl } ∧ R (.ok (.ret (.ref t))) s) :=
  .of_wp fun prog w A R s h => by
    obtain ⟨hp, g, d, tk, os⟩ := s
    obtain ⟨hl, h⟩ := h
    wp_walk
    refine wpAny_ite_split (fun q => absurd q h1) fun _ => ?_
    wp_walk
    exact ⟨_, rfl, h⟩
theorem mul_nil (t : Addr) (items : Array Value) (n : Nat) (dd : Option Addr) (sl : Array (Option Value)) (k : Int) (u : Tok) (h1 : ¬ (decide (k < -(2 ^ 63)) || decide (k ≥ 2 ^ 63)) = true) (hc : ¬ (items.isEmpty || k == 1) = true) (hn : (decide (k ≤ 0) || items.isEmpty) = true) :
    Meets (Builtin.«tuple.__mul__» ⟨[.ref t, .int k u], []⟩) (fun _ R s => s.heap.get? t = some { cls := .type "tuple", dict := dd, data := .seq items n, slots := sl } ∧ R (.ok (.ret (.ref s.heap.objs.size))) { s with heap := s.heap.push { cls := .type "tuple", data := .seq #[] } }) :=
  .of_wp fun prog w A R s h => by
    obtain ⟨hp, g, d, tk, os⟩ := s
    obtain ⟨hl, h⟩ := h
    wp_walk
    refine wpAny_ite_split (fun q => absurd q h1) fun _ => ?_
    wp_walk
    exact ⟨_, rfl, h⟩
theorem mul_more (t : Addr) (items : Array Value) (n : Nat) (dd : Option Addr) (sl : Array (Option Value)) (k : Int) (u : Tok) (h1 : ¬ (decide (k < -(2 ^ 63)) || decide (k ≥ 2 ^ 63)) = true) (hc : ¬ (items.isEmpty || k == 1) = true) (hn : ¬ (decide (k ≤ 0) || items.isEmpty) = true)
    (hm : ¬ (items.size * k > (2 ^ 63 - 1) / 8)) (hl' : ¬ Builtin.Tuple.tupleTooMany (items.size * k) = true) (hsz : ((List.replicate k.toNat items).foldl (· ++ ·) #[]).size ≤ sizeLine) :
    Meets (Builtin.«tuple.__mul__» ⟨[.ref t, .int k u], []⟩) (fun _ R s => s.heap.get? t = some { cls := .type "tuple", dict := dd, data := .seq items n, slots := sl } ∧ R (.ok (.ret (.ref s.heap.objs.size))) { s with heap := s.heap.push { cls := .type "tuple", data := .seq ((List.replicate k.toNat items).foldl (· ++ ·) #[]) } }) :=
  .of_wp fun prog w A R s h => by
    obtain ⟨hp, g, d, tk, os⟩ := s
    obtain ⟨hl, h⟩ := h
    wp_walk
    refine wpAny_ite_split (fun q => absurd q h1) fun _ => ?_
    wp_walk
    refine wpAny_ite_split (fun q => absurd q hm) fun _ => ?_
    wp_walk
    exact ⟨_, rfl, h⟩
section
variable {X : Cx}
def rMulT : R2 := fun x y H Q => ∃ (a : Addr) (k : Nat) (xs : List V), x = .ref a ∧ y = .int (k : Int) ∧ H a = some (.tup xs) ∧ xs.length * k ≤ 1000 ∧ k ≤ 1000 ∧ ∀ (p : Addr) (H' : Hp), Same H H' → H' p = some (.tup (List.replicate k xs).flatten) → Q (.ref p) H'
theorem mulT0 : OpR X (binaryOp .Mult) rMulT := by
  intro pins s σ H x y v u Q I rx ry h
  obtain ⟨a, k, xs, rfl, rfl, ha, hz, hk, q⟩ := h
  cases rx
  obtain ⟨t, rfl⟩ := ry
  obtain ⟨its, r, p1, _⟩ := I.tuple (SqT.of ha)
  have hlen := r.length
  obtain ⟨⟨c1, d1, da1, sl1⟩, e, k1, n1, g1⟩ := id p1
  simp only at k1 g1
  subst k1 g1
  have h1 : ¬ (decide ((k : Int) < -(2 ^ 63)) || decide ((k : Int) ≥ 2 ^ 63)) = true := by
    rw [Bool.or_eq_true, decide_eq_true_eq, decide_eq_true_eq]
    omega
  refine wpAny_binaryOp_repeat_ref (T := "tuple") (U := "int") (by decide) ⟨_, e, rfl⟩ (fun s' => typeIs_int s' (k : Int) t) noFill_tup_mul F.fills_int_mul F.slot_int_rmul repeat_tup F.slot_int_index.lookup
    (call_meets F.slot_int_rmul (typeIs_int s (k : Int) t) F.entry_int_rmul (F.args_int_rmul_2 _ _) (rmul_tup (k : Int) t a its.toArray n1 d1 sl1) ⟨e, rfl, ⟨_, e, rfl⟩, ?_⟩)
  by_cases hc : (its.toArray.isEmpty || (k : Int) == 1) = true
  · refine call_meets F.slot_tuple_mul ⟨_, e, rfl⟩ F.entry_tuple_mul (F.args_tuple_mul_2 _ _) (mul_one a its.toArray n1 d1 sl1 (k : Int) t h1 hc) ⟨e, ⟨.ref a, H, I, rfl, q a H (Same.refl H) ?_⟩⟩
    rw [ha]
    congr 2
    rw [Bool.or_eq_true] at hc
    rcases hc with hc | hc
    · have : its = [] := by simpa using hc
      have : xs = [] := r.nil_iff.mp this
      subst this
      induction k with
      | zero => simp
      | succ k ih => simp
    · have : k = 1 := by have := eq_of_beq hc; omega
      subst this
      simp
  · have ne : ¬ its.toArray.isEmpty = true := fun z => hc (by rw [z]; rfl)
    by_cases hk0 : k = 0
    · subst hk0
      refine call_meets F.slot_tuple_mul ⟨_, e, rfl⟩ F.entry_tuple_mul (F.args_tuple_mul_2 _ _) (mul_nil a its.toArray n1 d1 sl1 ((0 : Nat) : Int) t h1 hc (by simp)) ⟨e, ?_⟩
      have hf := I.hok.fresh (Nat.le_refl s.heap.objs.size)
      refine ⟨.ref s.heap.objs.size, upd H s.heap.objs.size (.tup []), I.laid (t' := s.toks) (fun b o z => Heap.get?_push_of_some _ z) (Nat.le_refl _) ⟨Nat.zero_le _, [], .nil, IsTup.new _ _⟩, rfl, q _ _ (same_upd hf) ?_⟩
      rw [upd_same]
      simp
    · have fl : (List.replicate (k : Int).toNat its.toArray).foldl (· ++ ·) #[] = (List.replicate k its).flatten.toArray := by
        have := foldl_rep its k []
        rw [List.nil_append] at this
        rw [Int.toNat_natCast]
        exact this
      have lr : (List.replicate k its).flatten.length = k * its.length := len_rep its k
      have lx : (List.replicate k xs).flatten.length = k * xs.length := len_rep xs k
      have hsm : k * its.length ≤ 1000 := by rw [← hlen, Nat.mul_comm]; exact hz
      have cast : ((its.toArray.size : Nat) : Int) * (k : Int) = ((its.length * k : Nat) : Int) := by rw [List.size_toArray]; norm_cast
      have hsm2 : its.length * k ≤ 1000 := by rw [Nat.mul_comm]; exact hsm
      refine call_meets F.slot_tuple_mul ⟨_, e, rfl⟩ F.entry_tuple_mul (F.args_tuple_mul_2 _ _) (mul_more a its.toArray n1 d1 sl1 (k : Int) t h1 hc ?_ ?_ ?_ ?_) ⟨e, ?_⟩
      · rw [Bool.or_eq_true, decide_eq_true_eq]
        rintro (z | z)
        · omega
        · exact ne z
      · rw [cast]; omega
      · unfold Builtin.Tuple.tupleTooMany
        rw [cast, sizeLine_eq, decide_eq_true_eq]
        omega
      · rw [fl, List.size_toArray, lr, sizeLine_eq]
        omega
      · rw [fl]
        have hf := I.hok.fresh (Nat.le_refl s.heap.objs.size)
        refine ⟨.ref s.heap.objs.size, upd H s.heap.objs.size (.tup (List.replicate k xs).flatten), I.laid (t' := s.toks) (fun b o z => Heap.get?_push_of_some _ z) (Nat.le_refl _) ⟨?_, (List.replicate k its).flatten, ?_, IsTup.new _ _⟩, rfl, q _ _ (same_upd hf) upd_same⟩
        · rw [lx, hlen, sizeLine_eq]; omega
        · exact r.rep k
theorem a_rMulT {x y : V} {H : Hp} {Q : VK} : rMulT x y H Q = ∃ (a : Addr) (k : Nat) (xs : List V), x = .ref a ∧ y = .int (k : Int) ∧ H a = some (.tup xs) ∧ xs.length * k ≤ 1000 ∧ k ≤ 1000 ∧ ∀ (p : Addr) (H' : Hp), Same H H' → H' p = some (.tup (List.replicate k xs).flatten) → Q (.ref p) H' := rfl
end
end L2
end
section
set_option Elab.async false
set_option linter.all false
set_option maxRecDepth 100000
namespace L2
open PySem PySem.Spec PyProof.Rows
theorem Box.ne {H : Hp} {p c : Addr} (bx : Box H p) (n : H c = none) : p ≠ c := by
  rintro rfl
  obtain ⟨_, _, _, e⟩ := bx
  rw [n] at e
  cases e
theorem Box.upd {H : Hp} {p c : Addr} {o : HO} (bx : Box H p) (n : p ≠ c) : Box (L2.upd H c o) p := by
  obtain ⟨g, m, z, e⟩ := bx
  exact ⟨g, m, z, by rw [upd_ne n]; exact e⟩
theorem Box.same {H H' : Hp} {p : Addr} (bx : Box H p) (s : Same H H') : Box H' p := by
  obtain ⟨g, m, z, e⟩ := bx
  exact ⟨g, m, z, s _ _ e⟩
end L2
end
section
set_option Elab.async false
set_option linter.all false
set_option maxRecDepth 100000
namespace L2
open PySem PySem.Spec PyProof.Rows
section
variable {X : Cx}
def plainE : Expr → Bool
  | .Starred _ _ => false
  | _ => true
theorem star_cons {e : Expr} {es : List Expr} {env : Env} (h : plainE e = true) : starEach (e :: es) env = (false, eval e env) :: starEach es env := by
  cases e <;> first | rfl | cases h
theorem pa_cns {e : Expr} {es : List Expr} {te : TE} {t : TA} (ha : PE X e te) (hr : PA X es t) (hp : plainE e = true := by rfl) : PA X (e :: es) (tCons te t) := pa_cons ha hr (star_cons hp)
def tDict : TE := fun _ H Q => ∀ (p : Addr) (H' : Hp), H p = none → Same H H' → H' p = some (.dK []) → Q (.ref p) H'
theorem pe_dict0 {pos : Pos} : PE X (.Dict [] [] pos) tDict := by
  intro pins s σ H Q I h
  have lt : mainGlobals < s.heap.objs.size := (I.mod.glob.keeps I.bk).lt
  have big : sysModules < s.heap.objs.size := Nat.lt_trans (by decide) lt
  have hf := I.hok.fresh (Nat.le_refl s.heap.objs.size)
  have ok : ObjOk X.prog X.w (upd H s.heap.objs.size (.dK [])) (s.heap.push { cls := .type "dict", data := .dict #[] }) s.heap.objs.size (.dK []) := ⟨Nat.zero_le _, beq_eq_false_iff_ne.mpr (Ne.symm (Nat.ne_of_lt big)), [], .nil, Heap.DictOf.new s.heap⟩
  exact wpAny_Dict_empty ⟨.ref s.heap.objs.size, _, I.laid (t' := s.toks) (fun _ _ q => Heap.get?_push_of_some _ q) (Nat.le_refl _) ok, rfl, h _ _ hf (same_upd hf) upd_same⟩
theorem a_tChain {r r' : R2} {ta tb tc : TE} {σ : St} {H : Hp} {Q : VK} : tChain r r' ta tb tc σ H Q = ta σ H fun x H1 => tb σ H1 fun y H2 => r x y H2 fun z H3 => ∃ k, z = .bl k ∧ (if k = true then tc σ H3 fun w' H4 => r' y w' H4 Q else Q (.bl false) H3) := rfl
theorem a_tDict {σ : St} {H : Hp} {Q : VK} : tDict σ H Q = ∀ (p : Addr) (H' : Hp), H p = none → Same H H' → H' p = some (.dK []) → Q (.ref p) H' := rfl
def tLstA (t : TA) : TE := fun σ H Q => t σ H fun xs H1 => xs.length ≤ sizeLine ∧ ∀ (p : Addr) (H2 : Hp), H1 p = none → Same H1 H2 → H2 p = some (.lst xs) → Q (.ref p) H2
theorem pe_lstA {es : List Expr} {t : TA} {pos : Pos} (h : PA X es t) : PE X (.List es pos) (tLstA t) := by
  intro pins s σ H Q I hq
  refine wpAny_List_spliced (thn (h pos pins s σ H _ I hq) fun us s1 ⟨xs, H1, I1, r, z, q⟩ => ⟨r.length ▸ z, ?_⟩)
  have nf := I1.hok.fresh (Nat.le_refl s1.heap.objs.size)
  exact ⟨.ref s1.heap.objs.size, upd H1 s1.heap.objs.size (.lst xs), I1.laid (t' := s1.toks) (fun b u e => Heap.get?_push_of_some _ e) (Nat.le_refl _) ⟨z, us, 0, r, Heap.get?_push_size _ rfl⟩, rfl, q _ _ nf (same_upd nf) upd_same⟩
theorem a_tLstA {t : TA} {σ : St} {H : Hp} {Q : VK} : tLstA t σ H Q = t σ H fun xs H1 => xs.length ≤ sizeLine ∧ ∀ (p : Addr) (H2 : Hp), H1 p = none → Same H1 H2 → H2 p = some (.lst xs) → Q (.ref p) H2 := rfl
theorem listA0 : CallR X (.type "list") (fun xs H Q => ∃ p ys, xs = [.ref p] ∧ sq H p = some ys ∧ ∀ (l : Addr) (H2 : Hp), H l = none → Same H H2 → H2 l = some (.lst ys) → Q (.ref l) H2) := by
  intro pins s σ H xs us Q I r h
  obtain ⟨p, ys, e, hq, q⟩ := h
  exact list0 pins s σ H xs us Q I r ⟨p, ys, e, hq, fun l n => q l _ n (same_upd n) upd_same⟩
end
end L2
end
section
set_option Elab.async false
set_option linter.all false
set_option maxRecDepth 100000
namespace L2
open PySem PySem.Spec PyProof.Rows
def Later (f : St → Hp → Prop) : St → Hp → Prop := f
theorem a_later {f : St → Hp → Prop} {σ : St} {H : Hp} : Later f σ H = f σ H := rfl
def tSeqL (t u : TS) : TS := tSeq t u
theorem pss_consL {X : Cx} {st : Stmt} {sts : List Stmt} {t u : TS} (h : PS X st t) (hs : PSs X sts u) : PSs X (st :: sts) (tSeqL t u) := pss_cons h hs
theorem a_tSeqL {t u : TS} {D : Ends} {σ : St} {H : Hp} : tSeqL t u D σ H = t { D with nx := Later (u D) } σ H := rfl
end L2
end
section
set_option Elab.async false
set_option linter.all false
set_option maxRecDepth 100000
namespace L2
open PySem PySem.Spec PyProof.Rows
structure QE (X : Cx) (e : Expr) (t : TE) : Prop where
  get : PE X e t
structure QA (X : Cx) (es : List Expr) (t : TA) : Prop where
  get : PA X es t
structure QS (X : Cx) (st : Stmt) (t : TS) : Prop where
  get : PS X st t
structure QSs (X : Cx) (sts : List Stmt) (t : TS) : Prop where
  get : PSs X sts t
section
variable {X : Cx}
theorem qa_nil : QA X [] tNil := ⟨pa_nil⟩
theorem qa_cns {e : Expr} {es : List Expr} {te : TE} {t : TA} (ha : QE X e te) (hr : QA X es t) (hp : plainE e = true := by rfl) : QA X (e :: es) (tCons te t) := ⟨pa_cns ha.get hr.get hp⟩
theorem qe_of {e : Expr} {te : TE} (h : PE X e te) : QE X e te := ⟨h⟩
theorem qe_lst {es : List Expr} {t : TA} {pos : Pos} (h : QA X es t) : QE X (.List es pos) (tLstA t) := ⟨pe_lstA h.get⟩
theorem pe_opQ {op : Operator} {r : R2} {a b : Expr} {ta tb : TE} {pos : Pos} (ho : OpR X (binaryOp op) r) (ha : PE X a ta) (hb : QE X b tb) : PE X (.BinOp a op b pos) (tOp r ta tb) := pe_op ho ha hb.get
end
end L2
end
section
set_option Elab.async false
set_option linter.all false
set_option maxRecDepth 100000
namespace L2
open PySem PySem.Spec PyProof.Rows
section
variable {X : Cx}
end
end L2
end
section
set_option Elab.async false
set_option linter.all false
set_option maxRecDepth 100000
namespace L2
open PySem PySem.Spec PyProof.Rows
def gE {α : Type} (g : List α → List α) : List α → List α → List α
  | [], ws => g ws
  | _ :: _, _ => []
def CalK (P : Program) (w : World) (K : PySem.W.Frag) (mg : Str → Option Value) (base : Heap) (x : Str) (ps ks : List Str) (gV : List V → List V) (k : Nat) (sp : Sp) : Prop :=
  ∃ (f : Addr) (fd : FuncData) (g : List Value → List Value), FnOk P w K mg base CX0 k f fd ps sp ∧ mg x = some (.ref f) ∧ PySem.W.keepIn K (.ref f) = true ∧ KBinds K fd ps ks (gE g) (gE gV)
def tCalK (sp : Sp) (gV : List V → List V) (tk : TA) : TE := fun σ H Q => tk σ H fun zs H2 => sp (gV zs) H2 Q E0
section
variable {X : Cx}
theorem pe_calK0 {k j : Nat} {x : Str} {ps ks : List Str} {gV : List V → List V} {sp : Sp} {tk : TA} {kws : List Keyword} {p pos : Pos} (c : CalK X.prog X.w X.K X.mg X.base x ps ks gV k sp) (hr : Room j X.A) (hkw : PK X kws tk) (hg : Gl X x := by rfl) (hk : k ≤ j := by decide)
    (hall : (backToKw pos (keywordEach kws X.env)).all (·.1.isSome) = true := by rfl) (hks : (backToKw pos (keywordEach kws X.env)).filterMap (·.1) = ks := by rfl) (hdb : (x == ("__debug__" : Str)) = false := by decide)
    (hpl : ((backTo pos (starEach [] X.env)).any (·.1) || (backToKw pos (keywordEach kws X.env)).any (·.1.isNone)) = false := by rfl) : PE X (.Call (.Name x p) [] kws pos) (tCalK sp gV tk) := by
  obtain ⟨f, fd, g, F, hm, kp, hb⟩ := c
  intro pins s σ H Q I h
  refine wpAny_Call_Name_kw (ld_glob I hg hm ?_ hdb)
  refine PySem.W.callWith_KW0 (h₀ := X.base) I.ok.mod.kin kp hall (thn (hkw pos pins s σ H _ I h) fun ws s2 ⟨zs, H2, I2, rz, q2⟩ => ⟨I2.kIn, ?_⟩) hpl
  rw [hks]
  exact run_fnk (E := E0) F (hr.mono hk) hb pass0 I2 .nil rz q2
theorem a_tCalK {sp : Sp} {gV : List V → List V} {tk : TA} {σ : St} {H : Hp} {Q : VK} : tCalK sp gV tk σ H Q = tk σ H fun zs H2 => sp (gV zs) H2 Q E0 := rfl
end
def g1 {α : Type} : List α → List α
  | [a] => [a]
  | _ => []
def g2 {α : Type} : List α → List α
  | [a, b] => [a, b]
  | _ => []
def g2r {α : Type} : List α → List α
  | [a, b] => [b, a]
  | _ => []
theorem g1_rel {zs : List V} {ws : List Value} (r : Vals zs ws) : Vals (g1 zs) (g1 ws) := by
  match zs, ws, r with
  | [], [], .nil => exact .nil
  | [_], [_], .cons a .nil => exact .cons a .nil
  | _ :: _ :: _, _ :: _ :: _, .cons _ (.cons _ _) => exact .nil
theorem g2_rel {zs : List V} {ws : List Value} (r : Vals zs ws) : Vals (g2 zs) (g2 ws) := by
  match zs, ws, r with
  | [], [], .nil => exact .nil
  | [_], [_], .cons _ .nil => exact .nil
  | [_, _], [_, _], .cons a (.cons b .nil) => exact .cons a (.cons b .nil)
  | _ :: _ :: _ :: _, _ :: _ :: _ :: _, .cons _ (.cons _ (.cons _ _)) => exact .nil
theorem kbinds_of {K : PySem.W.Frag} {x qual : Str} {st : Stmt} {f : Addr} {fd : FuncData} {p : Str} {ps ks : List Str} {g : List Value → List Value} {gV : List V → List V} (F : Fun K x qual st f fd) (rel : ∀ {zs : List V} {ws : List Value}, Vals zs ws → Vals (gV zs) (g ws))
    (h : ∀ (kV doc pm : Value) (an : Option Addr) (cdv ct : Value) (ws : List Value), (g ws).length = (p :: ps).length → bindArgs (PySem.W.fnOf x qual (defArgs st) (defBody st) (defScope st) .none kV doc pm an cdv ct) ⟨[], ks.zip ws⟩ = pure ((p :: ps).zip (g ws))) : KBinds K fd (p :: ps) ks (gE g) (gE gV) := by
  obtain ⟨oc, od, kV, doc, pm, an, cdv, ct, osl, rfl, lk, hcd⟩ := F.ex
  refine ⟨fun s us ws _ hl => ?_, fun {vs us zs ws} r rz => ?_⟩
  · cases us with
    | nil => exact .of_eq (h kV doc pm an cdv ct ws hl)
    | cons u r => simp [gE] at hl
  · cases r with
    | nil => exact rel rz
    | cons _ _ => exact .nil
theorem calK_of {P : Program} {w : World} {K : PySem.W.Frag} {mg : Str → Option Value} {base : Heap} {x : Str} {st : Stmt} {f : Addr} {fd : FuncData} {ps ks : List Str} {k : Nat} {sp : Sp} {g : List Value → List Value} {gV : List V → List V} (F : Fun K x x st f fd) (ok : FnOk P w K mg base CX0 k f fd ps sp) (hm : mg x = some (.ref f)) (hb : KBinds K fd ps ks (gE g) (gE gV)) : CalK P w K mg base x ps ks gV k sp := ⟨f, fd, g, ok, hm, F.kp, hb⟩
theorem cal_fn {P : Program} {w : World} {K : PySem.W.Frag} {mg : Str → Option Value} {base : Heap} {x : Str} {st : Stmt} {f : Addr} {fd : FuncData} {ps : List Str} {k : Nat} {sp : Sp} (F : Fun K x x st f fd) (ok : FnOk P w K mg base CX0 k f fd ps sp) (hm : mg x = some (.ref f)) (hb : Binds K fd ps []) : Cal P w K mg base x ps k sp := ⟨f, fd, ok, hm, F.kp, hb⟩
end L2
end
section
set_option Elab.async false
set_option linter.all false
set_option maxRecDepth 100000
namespace L2
open PySem PySem.Spec PyProof.Rows
section
variable {X : Cx}
def tPop0 (to : TE) (t : TA) : TE := fun σ H Q => to σ H fun x H1 => ∃ l xs0, x = .ref l ∧ H1 l = some (.lst xs0) ∧ t σ H1 fun vs H2 => ∃ (y : V) (ys : List V), vs = [.int 0] ∧ H2 l = some (.lst (y :: ys)) ∧ Q y (upd H2 l (.lst ys))
theorem a_tPop0 {to : TE} {t : TA} {σ : St} {H : Hp} {Q : VK} : tPop0 to t σ H Q = to σ H fun x H1 => ∃ l xs0, x = .ref l ∧ H1 l = some (.lst xs0) ∧ t σ H1 fun vs H2 => ∃ (y : V) (ys : List V), vs = [.int 0] ∧ H2 l = some (.lst (y :: ys)) ∧ Q y (upd H2 l (.lst ys)) := rfl
end
def g3r {α : Type} : List α → List α
  | [a, b, c] => [c, b, a]
  | _ => []
theorem g3r_is {α : Type} {a b c : α} : g3r [a, b, c] = [c, b, a] := rfl
theorem g2r_is {α : Type} {a b : α} : g2r [a, b] = [b, a] := rfl
theorem g2_is {α : Type} {a b : α} : g2 [a, b] = [a, b] := rfl
theorem g1_is {α : Type} {a : α} : g1 [a] = [a] := rfl
end L2
end
section
set_option Elab.async false
set_option linter.all false
set_option maxRecDepth 100000
set_option maxHeartbeats 8000000
namespace K06
open PySem L2
local macro_rules | `(tactic| w_cond $a:ident) => `(tactic| (try simp only [a_tPop0, a_tCalK, g3r_is, g2r_is, g2_is, g1_is, a_tSeqL, a_tChain, a_tDict, a_tLstA, a_rMulT, a_rEqT, a_tLC2, a_tLC3, a_tInner, a_tIns, a_tRev, a_rSlA, a_rCatA, a_rCatL, a_tSeq, a_tFor, a_rIxL, a_iZip, a_tSortR, a_tSl, a_rSlL0, a_tNoPart, a_tPart, a_tApp, a_tRet, a_tRetN, a_tNext, a_tDrop, a_tAsg, a_gSub, a_gName, a_gNil, a_gCons, a_gTup0, a_rSetL, a_tIfS, a_tAnd, a_tOr, a_tNot, a_tTest, a_tB, a_tTrue, a_tIf, a_tAndV, a_tOrV, a_tNotV, a_tOp, a_tUn, a_rU, a_tVar, a_tC, a_rI0, a_rI, a_rEq, a_rNe, a_rIx0, a_rIn0, a_tCB, a_tCal, a_tCons, a_tNil, a_tTupA, a_tLst, a_tPar, a_tBits, a_tLC, a_iRng1, a_iRng2, a_iT0, a_iL0, a_tEmit, frS, scal, V.ty.injEq, tyN, subN, String.reduceEq, String.reduceBEq, Bool.true_or, Bool.false_or, Bool.or_false, Bool.true_and, Bool.false_and, Bool.and_false, or_true, true_or, beq_self_eq_true, decide_true, decide_false, List.map_cons, List.map_nil, List.length_cons, List.length_nil, List.getElem?_cons_zero, List.getElem?_cons_succ, List.getElem?_nil, List.set_cons_zero, List.set_cons_succ, Option.some.injEq, Option.bind_some, Option.bind_none, id, exists_eq_left', exists_eq_left, exists_and_left, exists_eq_right, V.int.injEq, V.bl.injEq, V.ref.injEq, List.cons.injEq, and_true, true_and, and_assoc, exists_const, atI0, atI1, atI2, ixN30, ixN31, ixN32, upd_same, upd_upd, sq_updL, sq_updT, Nat.zero_add, Nat.reduceAdd, reduceCtorEq, false_and, and_false, exists_false, false_or, or_false, List.length_map, HO.lst.injEq, HO.tup.injEq, Bool.false_eq_true, if_false, if_true, decide_eq_true_eq, ite_true, ite_false, reduceIte, Int.reduceLT, Int.reduceLE, Nat.reduceLT, Int.zero_add, Bool.not_true, Bool.not_false, $a:ident]))
local macro_rules | `(tactic| wrow_has $a:ident $b:ident) => `(tactic| (try simp only [a_tPop0, a_tCalK, g3r_is, g2r_is, g2_is, g1_is, a_tSeqL, a_tChain, a_tDict, a_tLstA, a_rMulT, a_rEqT, a_tLC2, a_tLC3, a_tInner, a_tIns, a_tRev, a_rSlA, a_rCatA, a_rCatL, a_tSeq, a_tFor, a_rIxL, a_iZip, a_tSortR, a_tSl, a_rSlL0, a_tNoPart, a_tPart, a_tApp, a_tRet, a_tRetN, a_tNext, a_tDrop, a_tAsg, a_gSub, a_gName, a_gNil, a_gCons, a_gTup0, a_rSetL, a_tIfS, a_tAnd, a_tOr, a_tNot, a_tTest, a_tB, a_tTrue, a_tIf, a_tAndV, a_tOrV, a_tNotV, a_tOp, a_tUn, a_rU, a_tVar, a_tC, a_rI0, a_rI, a_rEq, a_rNe, a_rIx0, a_rIn0, a_tCB, a_tCal, a_tCons, a_tNil, a_tTupA, a_tLst, a_tPar, a_tBits, a_tLC, a_iRng1, a_iRng2, a_iT0, a_iL0, a_tEmit, frS, scal, V.ty.injEq, tyN, subN, String.reduceEq, String.reduceBEq, Bool.true_or, Bool.false_or, Bool.or_false, Bool.true_and, Bool.false_and, Bool.and_false, or_true, true_or, beq_self_eq_true, decide_true, decide_false, List.map_cons, List.map_nil, List.length_cons, List.length_nil, List.getElem?_cons_zero, List.getElem?_cons_succ, List.getElem?_nil, List.set_cons_zero, List.set_cons_succ, Option.some.injEq, Option.bind_some, Option.bind_none, id, exists_eq_left', exists_eq_left, exists_and_left, exists_eq_right, V.int.injEq, V.bl.injEq, V.ref.injEq, List.cons.injEq, and_true, true_and, and_assoc, exists_const, atI0, atI1, atI2, ixN30, ixN31, ixN32, upd_same, upd_upd, sq_updL, sq_updT, Nat.zero_add, Nat.reduceAdd, reduceCtorEq, false_and, and_false, exists_false, false_or, or_false, List.length_map, HO.lst.injEq, HO.tup.injEq, Bool.false_eq_true, if_false, if_true, decide_eq_true_eq, ite_true, ite_false, reduceIte, Int.reduceLT, Int.reduceLE, Nat.reduceLT, Int.zero_add, Bool.not_true, Bool.not_false, $a:ident, $b:ident]))
local macro_rules | `(tactic| walk_at "rd") => `(tactic| (try simp only [a_tPop0, a_tCalK, g3r_is, g2r_is, g2_is, g1_is, a_tSeqL, a_tChain, a_tDict, a_tLstA, a_rMulT, a_rEqT, a_tLC2, a_tLC3, a_tInner, a_tIns, a_tRev, a_rSlA, a_rCatA, a_rCatL, a_tSeq, a_tFor, a_rIxL, a_iZip, a_tSortR, a_tSl, a_rSlL0, a_tNoPart, a_tPart, a_tApp, a_tRet, a_tRetN, a_tNext, a_tDrop, a_tAsg, a_gSub, a_gName, a_gNil, a_gCons, a_gTup0, a_rSetL, a_tIfS, a_tAnd, a_tOr, a_tNot, a_tTest, a_tB, a_tTrue, a_tIf, a_tAndV, a_tOrV, a_tNotV, a_tOp, a_tUn, a_rU, a_tVar, a_tC, a_rI0, a_rI, a_rEq, a_rNe, a_rIx0, a_rIn0, a_tCB, a_tCal, a_tCons, a_tNil, a_tTupA, a_tLst, a_tPar, a_tBits, a_tLC, a_iRng1, a_iRng2, a_iT0, a_iL0, a_tEmit, frS, scal, V.ty.injEq, tyN, subN, String.reduceEq, String.reduceBEq, Bool.true_or, Bool.false_or, Bool.or_false, Bool.true_and, Bool.false_and, Bool.and_false, or_true, true_or, beq_self_eq_true, decide_true, decide_false, List.map_cons, List.map_nil, List.length_cons, List.length_nil, List.getElem?_cons_zero, List.getElem?_cons_succ, List.getElem?_nil, List.set_cons_zero, List.set_cons_succ, Option.some.injEq, Option.bind_some, Option.bind_none, id, exists_eq_left', exists_eq_left, exists_and_left, exists_eq_right, V.int.injEq, V.bl.injEq, V.ref.injEq, List.cons.injEq, and_true, true_and, and_assoc, exists_const, atI0, atI1, atI2, ixN30, ixN31, ixN32, upd_same, upd_upd, sq_updL, sq_updT, Nat.zero_add, Nat.reduceAdd, reduceCtorEq, false_and, and_false, exists_false, false_or, or_false, List.length_map, HO.lst.injEq, HO.tup.injEq, Bool.false_eq_true, if_false, if_true, decide_eq_true_eq, ite_true, ite_false, reduceIte, Int.reduceLT, Int.reduceLE, Nat.reduceLT, Int.zero_add, Bool.not_true, Bool.not_false]))
def top (i : Nat) : Stmt := PySem.Challenge.pw_wantprices_k06_what_towns_are.main.body.getD i (.Pass ⟨0, 0, 0, 0⟩)
abbrev s_has : Stmt := top 1
abbrev s_taken_out : Stmt := top 2
abbrev s_less : Stmt := top 3
abbrev s_things_in : Stmt := top 4
abbrev s_heap_of : Stmt := top 5
abbrev s_is_within : Stmt := top 6
abbrev s_is_whole : Stmt := top 8
abbrev s_are_wholes : Stmt := top 9
abbrev s_are_wholes_from : Stmt := top 10
abbrev s_is_want : Stmt := top 12
abbrev s_never_sinks : Stmt := top 13
abbrev s_is_sides : Stmt := top 17
abbrev s_is_town : Stmt := top 18
abbrev s__law_box : Stmt := top 20
abbrev s__law_take : Stmt := top 21
abbrev s__law_many : Stmt := top 22
abbrev s__law_want : Stmt := top 23
abbrev s__law_whole : Stmt := top 24
abbrev s__law_truth : Stmt := top 25
abbrev s__law_is_want : Stmt := top 26
abbrev s__law_due : Stmt := top 27
abbrev s__law_spoilt : Stmt := top 28
abbrev s__law_named : Stmt := top 29
abbrev s_law : Stmt := top 30
structure Txt (mg : Str → Option Value) : Prop where
  len_ : mg "len" = none
  sum_ : mg "sum" = none
  all_ : mg "all" = none
  any_ : mg "any" = none
  isinstance_ : mg "isinstance" = none
  abs_ : mg "abs" = none
  min_ : mg "min" = none
  max_ : mg "max" = none
  range_ : mg "range" = none
  tuple_ : mg "tuple" = none
  list_ : mg "list" = none
  int_ : mg "int" = none
  bool_ : mg "bool" = none
  MOST_THINGS_c : ∃ t, mg "MOST_THINGS" = some (.int 5 t)
  MOST_HANDS_c : ∃ t, mg "MOST_HANDS" = some (.int 5 t)
section
variable {P : Program} {w : World} {K : PySem.W.Frag} {mg : Str → Option Value} {base : Heap} {f : Addr} {fd : FuncData}
theorem bits_le {h : Int} (h0 : 0 ≤ h) (h1 : h < 32) : Builtin.Int.intBits h ≤ 5 := by
  obtain ⟨n, rfl⟩ := Int.eq_ofNat_of_zero_le h0
  have hn : n < 32 := by omega
  have key : ∀ m : _root_.Fin 32, Builtin.Int.intBits (m.val : Int) ≤ 5 := by decide +kernel
  exact key ⟨n, hn⟩
def hasI (h t : Int) : Bool := decide (Builtin.bitAnd (h / 2 ^ t.toNat) 1 = 1)
theorem bits_filter {h : Int} (h0 : 0 ≤ h) (h1 : h < 32) : ((List.range (Builtin.Int.intBits h)).filter fun t : Nat => hasI h (t : Int)) = ((List.range 5).filter fun t : Nat => hasI h (t : Int)) := by
  obtain ⟨n, rfl⟩ := Int.eq_ofNat_of_zero_le h0
  have hn : n < 32 := by omega
  have key : ∀ m : _root_.Fin 32, ((List.range (Builtin.Int.intBits (m.val : Int))).filter fun t : Nat => hasI (m.val : Int) (t : Int)) = ((List.range 5).filter fun t : Nat => hasI (m.val : Int) (t : Int)) := by decide +kernel
  exact key ⟨n, hn⟩
def sp_has : Sp := fun vs H Q _ => ∃ h t : Int, vs = [.int h, .int t] ∧ 0 ≤ t ∧ Q (.bl (hasI h t)) H
theorem sc_has : FnScope ["heap", "thing"] ["heap", "thing"] (defScope s_has) := ⟨rfl, rfl, rfl, by decide +kernel, rfl, by decide +kernel, by decide +kernel⟩
theorem ok_has (F : Fun K "has" "has" s_has f fd) (hm : mg "has" = some (.ref f)) (hb : Binds K fd ["heap", "thing"] []) (T : Txt mg) : Cal P w K mg base "has" ["heap", "thing"] 1 sp_has := by
  refine cal_of F hm hb sc_has (fun vs H Q E h => ?_) (fun cdv A outer s H vs Q E hr h => ?_)
  · obtain ⟨_, _, rfl, _⟩ := h; rfl
  · obtain ⟨h, t, rfl, ht, q⟩ := h
    have sc := sc_has
    refine ⟨_, pss_one (ps_ret (pe_cmpR op_eq (pe_op op_and (pe_op op_shr (pv 0) (pv 1)) pe_int) pe_int (nomark _))), ?_⟩
    rw [show L2.start ["heap", "thing"] [.int h, .int t] = [some (.int h), some (.int t)] from rfl]
    (walk_at "rd")
    exact ⟨ht, q⟩
theorem sc__law_take : FnScope ["_law_box_here", "_law_size", "_law_digit"] ["_law_box_here", "_law_size"] (defScope s__law_take) := ⟨rfl, rfl, rfl, by decide +kernel, rfl, by decide +kernel, by decide +kernel⟩
theorem ok_take (F : Fun K "_law_take" "_law_take" s__law_take f fd) (hm : mg "_law_take" = some (.ref f)) (hb : Binds K fd ["_law_box_here", "_law_size"] []) (T : Txt mg) : Cal P w K mg base "_law_take" ["_law_box_here", "_law_size"] 1 spTake := by
  refine cal_of F hm hb sc__law_take (fun vs H Q E h => ?_) (fun cdv A outer s H vs Q E hr h => ?_)
  · obtain ⟨_, _, rfl, _⟩ := h; rfl
  · obtain ⟨p, many, rfl, ⟨g, m, c, hp⟩, h1, h2, q⟩ := h
    have sc := sc__law_take
    refine ⟨_, pss_cons (ps_asg (pe_op op_add (pe_ix ix0 (pv 0) pe_int (fun _ _ => rfl)) pe_int) (pg_sub (pv 0) pe_int set_list))
      (pss_cons (ps_if (PW.pt (pw_and (pt_cmpR op_gt (pe_ix ix0 (pv 0) pe_int (fun _ _ => rfl)) pe_int (nomark _)) (pw_and1 (pt_cmpR op_le (pe_ix ix0 (pv 0) pe_int (fun _ _ => rfl)) pe_int (nomark _))))) (pss_cons (ps_set (i := 2) sc.nd rfl (Or.inl rfl) (pe_op op_mod (pe_ix ix0 (pv 0) pe_int (fun _ _ => rfl)) (pv 1)))
      (pss_cons (ps_asg (pe_op op_fdiv (pe_ix ix0 (pv 0) pe_int (fun _ _ => rfl)) (pv 1)) (pg_sub (pv 0) pe_int set_list))
      (pss_one (ps_ret (pv 2))))) pss_nil)
      (pss_cons (ps_asg (pe_op op_mod (pe_op op_add (pe_op op_add (pe_op op_mul (pe_ix ix0 (pv 0) pe_int (fun _ _ => rfl)) pe_int) pe_int) (pe_ix ix0 (pv 0) pe_int (fun _ _ => rfl))) pe_int) (pg_sub (pv 0) pe_int set_list))
      (pss_one (ps_ret (pe_op op_mod (pe_op op_fdiv (pe_op op_mod (pe_op op_mul (pe_ix ix0 (pv 0) pe_int (fun _ _ => rfl)) (pe_op op_add (pe_op op_mod (pe_ix ix0 (pv 0) pe_int (fun _ _ => rfl)) pe_int) pe_int)) pe_int) pe_int) (pv 1)))))), ?_⟩
    have hq := sq_lst hp
    rw [show L2.start ["_law_box_here", "_law_size", "_law_digit"] [.ref p, .int many] = [some (.ref p), some (.int many), none] from rfl]
    (wrow_has hq hp)
    have fin : ∀ (z g' m' c' : Int), Q (V.int (z % many)) (upd H p (.lst [.int g', .int m', .int c'])) := fun z g' m' c' => q _ _ (Int.emod_nonneg _ (by omega)) (Int.emod_lt_of_pos _ h1) ⟨g', m', c', upd_same⟩ But.upd
    have cm : ∀ a b : Int, CMul a (b % 40009 + 3) := fun a b => .inr ⟨by omega, by omega⟩
    split
    · split
      · exact ⟨h1, ⟨h1, h2⟩, fin _ _ _ _⟩
      · exact ⟨.inr ⟨by decide, by decide⟩, cm _ _, ⟨by decide, by decide⟩, h1, fin _ _ _ _⟩
    · exact ⟨.inr ⟨by decide, by decide⟩, cm _ _, ⟨by decide, by decide⟩, h1, fin _ _ _ _⟩
theorem sc__law_box : FnScope ["_law_script", "_law_k", "_law_cell", "_law_great"] ["_law_script", "_law_k"] (defScope s__law_box) := ⟨rfl, rfl, rfl, by decide +kernel, rfl, by decide +kernel, by decide +kernel⟩
theorem ok_box (F : Fun K "_law_box" "_law_box" s__law_box f fd) (hm : mg "_law_box" = some (.ref f)) (hb : Binds K fd ["_law_script", "_law_k"] []) (T : Txt mg) : Cal P w K mg base "_law_box" ["_law_script", "_law_k"] 1 (spBox K) := by
  refine cal_of F hm hb sc__law_box (fun vs H Q E h => ?_) (fun cdv A outer s H vs Q E hr h => ?_)
  · obtain ⟨_, _, _, rfl, _⟩ := h; rfl
  · obtain ⟨a, k, ns, rfl, hq, hk, q⟩ := h
    have sc := sc__law_box
    refine ⟨_, pss_cons (ps_set (i := 2) sc.nd rfl (Or.inl rfl) (pe_ifExp (pt_cmpR op_lt (pv 1) (pe_callB call_len_seq rfl T.len_ bt_len (pa_cons (pv 0) pa_nil)) (nomark _)) (pe_ix ix_list (pv 0) (pv 1) (fun _ _ => rfl)) pe_int))
      (pss_cons (ps_set (i := 3) sc.nd rfl (Or.inl rfl) (pe_op op_mul (pe_callB call_abs rfl T.abs_ bt_abs (pa_cns (pv 2) pa_nil)) (pe_callTy call_int1 rfl T.int_ bt_int (pa_cns (pe_cmpR op_ge (pe_callB call_abs rfl T.abs_ bt_abs (pa_cns (pv 2) pa_nil)) (pe_op op_pow pe_int pe_int) (nomark _)) pa_nil))))
      (pss_one (ps_ret (pe_lst (pa_cns (pv 3) (pa_cns (pe_op op_mod (pe_op op_mul (pe_op op_add (pe_op op_add (pe_op op_mod (pv 2) pe_int) (pe_op op_mul (pe_op op_mul pe_int (pv 1)) (pv 1))) pe_int) pe_int) pe_int) (pa_cns pe_int pa_nil))))))), ?_⟩
    rw [show L2.start ["_law_script", "_law_k", "_law_cell", "_law_great"] [.ref a, .int (k : Int)] = [some (.ref a), some (.int (k : Int)), none, none] from rfl]
    have cm : ∀ (z : Int) (c : Prop) [Decidable c], CMul z (if c then 1 else 0) := fun z c _ => .inr (by split <;> exact ⟨by decide, by decide⟩)
    have fin : ∀ x y z : Int, CPow 10 18 ∧ ((CMul 7919 (k : Int) ∧ CMul (7919 * (k : Int)) (k : Int) ∧ CMul x 48271 ∧ 3 ≤ sizeLine) ∧ ∀ p : Addr, H p = none → Q (V.ref p) (upd H p (.lst [.int y, .int z, .int 0]))) := fun x y z =>
      ⟨⟨by decide, by decide, by decide⟩, ⟨.inl ⟨by decide, by decide⟩, .inr ⟨by omega, by omega⟩, .inr ⟨by decide, by decide⟩, by decide⟩, fun p hp => q p _ hp ⟨y, z, 0, upd_same⟩ But.upd⟩
    (walk_at "rd")
    refine ⟨_, .inl hq, ?_⟩
    by_cases hlt : k < ns.length
    · have ha : atI (ns.map V.int) (k : Int) = some (V.int ns[k]) := atI_nat (by simp [hlt])
      rw [if_pos (by simp; omega)]
      refine ⟨_, hq, _, ha, ?_⟩
      (walk_at "rd")
      obtain ⟨f1, ⟨f2, f3, f4, f5⟩, f6⟩ := fin (ns[k] % 2147483629 + 7919 * (k : Int) * (k : Int) + 11) ((if ns[k] < 0 then -ns[k] else ns[k]) * if 10 ^ Int.toNat 18 ≤ if ns[k] < 0 then -ns[k] else ns[k] then 1 else 0) ((ns[k] % 2147483629 + 7919 * (k : Int) * (k : Int) + 11) * 48271 % 2147483647)
      exact ⟨f1, cm _ _, f2, f3, f4, f5, f6⟩
    · rw [if_neg (by simp; omega)]
      (walk_at "rd")
      obtain ⟨f1, ⟨f2, f3, f4, f5⟩, f6⟩ := fin (0 % 2147483629 + 7919 * (k : Int) * (k : Int) + 11) (0 * if 10 ^ Int.toNat 18 ≤ 0 then 1 else 0) ((0 % 2147483629 + 7919 * (k : Int) * (k : Int) + 11) * 48271 % 2147483647)
      exact ⟨f1, cm _ _, f2, f3, f4, f5, f6⟩
def thingsI (h : Int) : List Int := ((List.range 5).filter fun t : Nat => hasI h (t : Int)).map fun t : Nat => (t : Int)
def sp_things : Sp := fun vs H Q _ => ∃ h : Int, vs = [.int h] ∧ 0 ≤ h ∧ h < 32 ∧ ∀ (t : Addr) (H' : Hp), H t = none → Same H H' → H' t = some (.tup ((thingsI h).map V.int)) → Q (.ref t) H'
theorem sc_things_in : FnScope ["heap"] ["heap"] (defScope s_things_in) := ⟨rfl, rfl, rfl, by decide +kernel, rfl, by decide +kernel, by decide +kernel⟩
theorem ok_things (F : Fun K "things_in" "things_in" s_things_in f fd) (T : Txt mg) (c_has : Cal P w K mg base "has" ["heap", "thing"] 1 sp_has) :
    FnOk P w K mg base CX0 2 f fd ["heap"] sp_things := by
  refine F.ok sc_things_in (fun vs H Q E h => ?_) (fun cdv A outer s H vs Q E hr h => ?_)
  · obtain ⟨_, rfl, _⟩ := h; rfl
  · obtain ⟨h, rfl, h0, h1, q⟩ := h
    have sc := sc_things_in
    refine ⟨_, pss_one (ps_ret (pe_callTy tupA0 rfl T.tuple_ bt_tuple (pa_cns (pe_lc (N := ["thing", "heap"]) (fr := [none, some 0]) rfl (pi_range1 rfl T.range_ (pa_cns (pe_bits (pv 0) rfl rfl mono_var) pa_nil)) (CScope.of rfl rfl rfl) rfl (fun _ _ _ => ⟨pg_name (i := 0) (show List.Nodup (α := Str) ["thing", "heap"] by decide +kernel) rfl (Or.inl rfl), pif_one (pt_val (pe_cal c_has hr (pa_cns (pv 1) (pa_cns (pv 0) pa_nil)))), pv 0⟩)) pa_nil))), ?_⟩
    rw [show L2.start ["heap"] [.int h] = [some (.int h)] from rfl]
    (w_cond sp_has)
    have hb : Builtin.Int.intBits h ≤ 5 := bits_le h0 h1
    refine ⟨by omega, by omega, fun p hp => cl_range (fun i σ H' => ∃ v, σ = [v, some (.int h)] ∧ H' = upd H p (.lst ((((List.range i).filter fun t : Nat => hasI h (t : Int)).map fun t : Nat => (t : Int)).map V.int))) ⟨_, rfl, rfl⟩ ?_ ?_⟩
    · rintro i σ H' hi ⟨v, rfl, rfl⟩
      (w_cond sp_has)
      have el : ((List.range (i + 1)).filter fun t : Nat => hasI h (t : Int)) = ((List.range i).filter fun t : Nat => hasI h (t : Int)) ++ if hasI h (i : Int) = true then [i] else [] := by
        rw [List.range_succ, List.filter_append]
        congr 1
        cases e : hasI h (i : Int) <;> simp [List.filter, e]
      have len : ((List.range i).filter fun t : Nat => hasI h (t : Int)).length ≤ i := Nat.le_trans (List.length_filter_le _ _) (by simp)
      refine ⟨by omega, ?_⟩
      split
      · rename_i e
        rw [el, if_pos e]
        exact ⟨small1000 (by omega), by simp⟩
      · rename_i e
        rw [el, if_neg e]
        simp
    · rintro σ H' ⟨v, rfl, rfl⟩
      (walk_at "rd")
      intro l H2 hl sm hT
      have npl : l ≠ p := by rintro rfl; rw [upd_same] at hl; cases hl
      rw [upd_ne npl] at hl
      refine q l _ hl ((same_upd hp).trans sm) ?_
      rw [hT, Int.toNat_natCast, bits_filter h0 h1]
      rfl
def sp_many : Sp := fun vs H Q _ => ∃ p : Addr, vs = [.ref p] ∧ Box H p ∧ ∀ (m : Nat) (H' : Hp), 1 ≤ m → m ≤ 5 → Box H' p → SameX p H H' → Q (.int (m : Int)) H'
theorem sc__law_many : FnScope ["_law_box_here"] ["_law_box_here"] (defScope s__law_many) := ⟨rfl, rfl, rfl, by decide +kernel, rfl, by decide +kernel, by decide +kernel⟩
theorem ok_many (F : Fun K "_law_many" "_law_many" s__law_many f fd) (hm : mg "_law_many" = some (.ref f)) (hb : Binds K fd ["_law_box_here"] []) (T : Txt mg) (c__law_take : Cal P w K mg base "_law_take" ["_law_box_here", "_law_size"] 1 spTake) : Cal P w K mg base "_law_many" ["_law_box_here"] 2 sp_many := by
  refine cal_of F hm hb sc__law_many (fun vs H Q E h => ?_) (fun cdv A outer s H vs Q E hr h => ?_)
  · obtain ⟨_, rfl, _⟩ := h; rfl
  · obtain ⟨p, rfl, bx, q⟩ := h
    have sc := sc__law_many
    refine ⟨_, pss_one (ps_ret (pe_ifExp (pt_cmpR op_eq (pe_cal c__law_take hr (pa_cns (pv 0) (pa_cns pe_int pa_nil))) pe_int (nomark _)) pe_int (pe_op op_add pe_int (pe_cal c__law_take hr (pa_cns (pv 0) (pa_cns pe_int pa_nil)))))), ?_⟩
    rw [show L2.start ["_law_box_here"] [.ref p] = [some (.ref p)] from rfl]
    (walk_at "rd")
    refine ⟨p, 8, rfl, bx, by decide, by decide, fun r H1 r0 r1 bx1 bt1 => ?_⟩
    (walk_at "rd")
    split
    · exact q 5 H1 (by decide) (by decide) bx1 bt1.x
    · refine ⟨p, 4, rfl, bx1, by decide, by decide, fun r' H2 r0' r1' bx2 bt2 => ?_⟩
      (walk_at "rd")
      obtain ⟨n, rfl⟩ := Int.eq_ofNat_of_zero_le r0'
      have := q (1 + n) H2 (by omega) (by omega) bx2 (bt1.x.trans bt2.x)
      rw [Int.natCast_add] at this
      exact this
def lessI (a b : Int) : Int := a - Builtin.bitAnd a b
def sp_less : Sp := fun vs H Q _ => ∃ a b : Int, vs = [.int a, .int b] ∧ Q (.int (lessI a b)) H
theorem sc_less : FnScope ["one", "other"] ["one", "other"] (defScope s_less) := ⟨rfl, rfl, rfl, by decide +kernel, rfl, by decide +kernel, by decide +kernel⟩
theorem ok_less (F : Fun K "less" "less" s_less f fd) (hm : mg "less" = some (.ref f)) (hb : Binds K fd ["one", "other"] []) (T : Txt mg) : Cal P w K mg base "less" ["one", "other"] 1 sp_less := by
  refine cal_of F hm hb sc_less (fun vs H Q E h => ?_) (fun cdv A outer s H vs Q E hr h => ?_)
  · obtain ⟨_, _, rfl, _⟩ := h; rfl
  · obtain ⟨h, t, rfl, q⟩ := h
    have sc := sc_less
    refine ⟨_, pss_one (ps_ret (pe_op op_sub (pv 0) (pe_op op_and (pv 0) (pv 1)))), ?_⟩
    rw [show L2.start ["one", "other"] [.int h, .int t] = [some (.int h), some (.int t)] from rfl]
    (walk_at "rd")
    exact q
def out (h t : Nat) : Nat := if h / 2 ^ t % 2 = 1 then h - 2 ^ t else h
theorem out_int {h t : Nat} (hh : h < 32) (ht : t < 5) : lessI (h : Int) (1 * 2 ^ (t : Int).toNat) = (out h t : Int) := by
  have key : ∀ (a : _root_.Fin 32) (b : _root_.Fin 5), lessI (a.val : Int) (1 * 2 ^ (b.val : Int).toNat) = (out a.val b.val : Int) := by decide +kernel
  exact key ⟨h, hh⟩ ⟨t, ht⟩
theorem out_le (h t : Nat) : out h t ≤ h := by
  unfold out
  split
  · exact Nat.sub_le _ _
  · exact Nat.le_refl _
def sp_taken : Sp := fun vs H Q _ => ∃ h t : Nat, vs = [.int (h : Int), .int (t : Int)] ∧ h < 32 ∧ t < 5 ∧ Q (.int (out h t : Int)) H
theorem sc_taken_out : FnScope ["heap", "thing"] ["heap", "thing"] (defScope s_taken_out) := ⟨rfl, rfl, rfl, by decide +kernel, rfl, by decide +kernel, by decide +kernel⟩
theorem ok_taken (F : Fun K "taken_out" "taken_out" s_taken_out f fd) (hm : mg "taken_out" = some (.ref f)) (hb : Binds K fd ["heap", "thing"] []) (T : Txt mg) (c_less : Cal P w K mg base "less" ["one", "other"] 1 sp_less) : Cal P w K mg base "taken_out" ["heap", "thing"] 2 sp_taken := by
  refine cal_of F hm hb sc_taken_out (fun vs H Q E h => ?_) (fun cdv A outer s H vs Q E hr h => ?_)
  · obtain ⟨_, _, rfl, _⟩ := h; rfl
  · obtain ⟨h, t, rfl, hh, ht, q⟩ := h
    have sc := sc_taken_out
    refine ⟨_, pss_one (ps_ret (pe_cal c_less hr (pa_cns (pv 0) (pa_cns (pe_op op_shl pe_int (pv 1)) pa_nil)))), ?_⟩
    rw [show L2.start ["heap", "thing"] [.int (h : Int), .int (t : Int)] = [some (.int (h : Int)), some (.int (t : Int))] from rfl]
    (w_cond sp_less)
    refine ⟨⟨by omega, by omega, by decide⟩, ?_⟩
    rw [out_int hh ht]
    exact q
def sp_within : Sp := fun vs H Q _ => ∃ a b : Int, vs = [.int a, .int b] ∧ Q (.bl (decide (lessI a b = 0))) H
theorem sc_is_within : FnScope ["one", "other"] ["one", "other"] (defScope s_is_within) := ⟨rfl, rfl, rfl, by decide +kernel, rfl, by decide +kernel, by decide +kernel⟩
theorem ok_within (F : Fun K "is_within" "is_within" s_is_within f fd) (T : Txt mg) (c_less : Cal P w K mg base "less" ["one", "other"] 1 sp_less) :
    FnOk P w K mg base CX0 2 f fd ["one", "other"] sp_within := by
  refine F.ok sc_is_within (fun vs H Q E h => ?_) (fun cdv A outer s H vs Q E hr h => ?_)
  · obtain ⟨_, _, rfl, _⟩ := h; rfl
  · obtain ⟨h, t, rfl, q⟩ := h
    have sc := sc_is_within
    refine ⟨_, pss_one (ps_ret (pe_cmpR op_eq (pe_cal c_less hr (pa_cns (pv 0) (pa_cns (pv 1) pa_nil))) pe_int (nomark _))), ?_⟩
    rw [show L2.start ["one", "other"] [.int h, .int t] = [some (.int h), some (.int t)] from rfl]
    (w_cond sp_less)
    exact q
def isI : V → Bool
  | .int _ => true
  | _ => false
def isFrom (least : Int) : V → Bool
  | .int i => decide (least ≤ i)
  | _ => false
theorem tyN_isI {H : Hp} {x : V} {t : String} (h : tyN H x = some t) : ((t == "int" || (t == "bool" && true)) && !(t == "bool")) = isI x := by
  cases x with
  | non => cases h; rfl
  | bl b => cases h; rfl
  | int i => cases h; rfl
  | str i => cases h; rfl
  | ref a =>
    cases e : H a with
    | none => simp [tyN, e] at h
    | some o =>
      cases o with
      | lst xs => simp [tyN, e] at h; subst h; rfl
      | tup xs => simp [tyN, e] at h; subst h; rfl
      | dK xs => simp [tyN, e] at h; subst h; rfl
      | _ => simp [tyN, e] at h
  | _ => cases h
theorem tyN_same {H H' : Hp} (s : Same H H') {x : V} {t : String} (h : tyN H x = some t) : tyN H' x = some t := by
  cases x with
  | ref a =>
    cases e : H a with
    | none => simp [tyN, e] at h
    | some o => simp only [tyN, e] at h; simp only [tyN, s a o e]; exact h
  | _ => exact h
def sp_whole : Sp := fun vs H Q _ => ∃ (x : V) (t : String), vs = [x] ∧ tyN H x = some t ∧ Q (.bl (isI x)) H
theorem sc_is_whole : FnScope ["thing"] ["thing"] (defScope s_is_whole) := ⟨rfl, rfl, rfl, by decide +kernel, rfl, by decide +kernel, by decide +kernel⟩
theorem ok_whole (F : Fun K "is_whole" "is_whole" s_is_whole f fd) (hm : mg "is_whole" = some (.ref f)) (hb : Binds K fd ["thing"] []) (T : Txt mg) : Cal P w K mg base "is_whole" ["thing"] 1 sp_whole := by
  refine cal_of F hm hb sc_is_whole (fun vs H Q E h => ?_) (fun cdv A outer s H vs Q E hr h => ?_)
  · obtain ⟨_, _, rfl, _⟩ := h; rfl
  · obtain ⟨x, t, rfl, hx, q⟩ := h
    have sc := sc_is_whole
    refine ⟨_, pss_one (ps_ret (pe_and (pe_callB isi0 rfl T.isinstance_ bt_isinstance (pa_cns (pv 0) (pa_cns (pe_bltn (v := .ty "int") rfl T.int_ bt_int rfl) pa_nil))) (pe_one (pe_not (pe_callB isi0 rfl T.isinstance_ bt_isinstance (pa_cns (pv 0) (pa_cns (pe_bltn (v := .ty "bool") rfl T.bool_ bt_bool rfl) pa_nil))))))), ?_⟩
    rw [show L2.start ["thing"] [x] = [some (x)] from rfl]
    rw [← tyN_isI hx] at q
    (walk_at "rd")
    refine ⟨_, hx, ?_⟩
    obtain ⟨_, ht⟩ := tyN_of (K := K) hx
    rcases ht with rfl | rfl | rfl | rfl | rfl | rfl | rfl
    all_goals first
      | (rw [if_neg (by decide)]; simpa using q)
      | (rw [if_pos (by decide)]; refine ⟨_, hx, ?_⟩; simpa using q)
def Kn (H : Hp) (xs : List V) : Prop := ∀ x ∈ xs, ∃ t, tyN H x = some t
theorem Kn.same {H H' : Hp} (s : Same H H') {xs : List V} (k : Kn H xs) : Kn H' xs := fun x hx => let ⟨t, e⟩ := k x hx; ⟨t, tyN_same s e⟩
theorem Kn.ints {H : Hp} (ns : List Int) : Kn H (ns.map V.int) := fun x hx => by
  obtain ⟨n, _, rfl⟩ := List.mem_map.mp hx
  exact ⟨"int", rfl⟩
def sp_wholes : Sp := fun vs H Q _ => (∃ (x : V) (k : Int) (t : String), vs = [x, .int k] ∧ tyN H x = some t ∧ (t == "tuple") = false ∧ Q (.bl false) H) ∨
  ∃ (a : Addr) (k : Int) (xs : List V), vs = [.ref a, .int k] ∧ H a = some (.tup xs) ∧ Kn H xs ∧ xs.length < 1000 ∧ ∀ H', Same H H' → Q (.bl (decide ((xs.length : Int) = k) && xs.all isI)) H'
def LW (c : Addr) (xs : List V) (G : Hp) (i : Nat) (σ : St) (H : Hp) : Prop := ∃ v, σ = [v] ∧ SameX c G H ∧ H c = some (.lst (((xs.take i).map isI).map V.bl))
theorem sc_are_wholes : FnScope ["thing", "many"] ["thing", "many"] (defScope s_are_wholes) := ⟨rfl, rfl, rfl, by decide +kernel, rfl, by decide +kernel, by decide +kernel⟩
theorem ok_wholes (F : Fun K "are_wholes" "are_wholes" s_are_wholes f fd) (hm : mg "are_wholes" = some (.ref f)) (hb : Binds K fd ["thing", "many"] []) (T : Txt mg) (c_is_whole : Cal P w K mg base "is_whole" ["thing"] 1 sp_whole) : Cal P w K mg base "are_wholes" ["thing", "many"] 2 sp_wholes := by
  refine cal_of F hm hb sc_are_wholes (fun vs H Q E h => ?_) (fun cdv A outer s H vs Q E hr h => ?_)
  · rcases h with h | h
    · obtain ⟨_, _, _, rfl, _⟩ := h; rfl
    · obtain ⟨_, _, _, rfl, _⟩ := h; rfl
  · rcases h with h | h
    · obtain ⟨x, k, t, rfl, hx, ht, q⟩ := h
      have sc := sc_are_wholes
      refine ⟨_, pss_one (ps_ret (pe_and (pe_callB isi0 rfl T.isinstance_ bt_isinstance (pa_cns (pv 0) (pa_cns (pe_bltn (v := .ty "tuple") rfl T.tuple_ bt_tuple rfl) pa_nil))) (pe_and (pe_cmpR op_eq (pe_callB len0 rfl T.len_ bt_len (pa_cns (pv 0) pa_nil)) (pv 1) (nomark _)) (pe_one (pe_callB (all0 rfl) rfl T.all_ bt_all (pa_cns (pe_lc (N := ["part"]) (fr := [none]) rfl (pi_t0 (pv 0)) (CScope.of rfl rfl rfl) rfl (fun _ _ _ => ⟨pg_name (i := 0) (show List.Nodup (α := Str) ["part"] by decide +kernel) rfl (Or.inl rfl), pif_nil, pe_cal c_is_whole hr (pa_cns (pv 0) pa_nil)⟩)) pa_nil)))))), ?_⟩
      rw [show L2.start ["thing", "many"] [x, .int k] = [some (x), some (.int k)] from rfl]
      (walk_at "rd")
      refine ⟨_, hx, ?_⟩
      (walk_at "rd")
      rw [if_neg (by rw [ht]; decide)]
      exact q
    · obtain ⟨a, k, xs, rfl, ha, hk, hlen, q⟩ := h
      have sc := sc_are_wholes
      refine ⟨_, pss_one (ps_ret (pe_and (pe_callB isi0 rfl T.isinstance_ bt_isinstance (pa_cns (pv 0) (pa_cns (pe_bltn (v := .ty "tuple") rfl T.tuple_ bt_tuple rfl) pa_nil))) (pe_and (pe_cmpR op_eq (pe_callB len0 rfl T.len_ bt_len (pa_cns (pv 0) pa_nil)) (pv 1) (nomark _)) (pe_one (pe_callB (all0 rfl) rfl T.all_ bt_all (pa_cns (pe_lc (N := ["part"]) (fr := [none]) rfl (pi_t0 (pv 0)) (CScope.of rfl rfl rfl) rfl (fun _ _ _ => ⟨pg_name (i := 0) (show List.Nodup (α := Str) ["part"] by decide +kernel) rfl (Or.inl rfl), pif_nil, pe_cal c_is_whole hr (pa_cns (pv 0) pa_nil)⟩)) pa_nil)))))), ?_⟩
      rw [show L2.start ["thing", "many"] [.ref a, .int k] = [some (.ref a), some (.int k)] from rfl]
      have hsa := sq_tup ha
      (wrow_has ha hsa)
      by_cases hl : (xs.length : Int) = k
      · rw [if_pos hl]
        intro c nc
        have nac : a ≠ c := ne_of_none ha nc
        refine cl_seq (LW c xs H) ⟨none, rfl, SameX.upd, upd_same⟩ (fun j σ H' _ ⟨_, _, s, _⟩ => s _ _ nac ha) ?_ ?_
        · rintro i x σ H1 hx ⟨v, rfl, s1, e1⟩
          obtain ⟨t, ht⟩ := hk x (List.mem_of_getElem? hx)
          have ht1 := tyN_same (s1.same nc) ht
          have hi : i < xs.length := (List.getElem?_eq_some_iff.mp hx).1
          (w_cond e1)
          refine ⟨_, _, rfl, ht1, ?_⟩
          refine ⟨_, e1, small1000 (by rw [List.length_map, List.length_map, List.length_take]; omega), ⟨_, rfl, s1.trans SameX.upd, ?_⟩⟩
          rw [upd_same, List.take_add_one, hx]
          simp
        · rintro σ H1 ⟨v, rfl, s1, e1⟩
          rw [List.take_length] at e1
          refine ⟨_, sq_lst e1, ?_⟩
          have := q H1 (s1.same nc)
          rw [decide_eq_true hl, Bool.true_and] at this
          rw [List.all_map]
          exact this
      · rw [if_neg hl]
        have := q H (Same.refl H)
        rw [decide_eq_false hl, Bool.false_and] at this
        exact this
theorem isI_int {x : V} (h : isI x = true) : ∃ i, x = .int i := by
  cases x with
  | int i => exact ⟨i, rfl⟩
  | _ => cases h
theorem allI_ints : ∀ {xs : List V}, xs.all isI = true → ∃ ns : List Int, xs = ns.map V.int
  | [], _ => ⟨[], rfl⟩
  | x :: r, h => by
    rw [List.all_cons, Bool.and_eq_true] at h
    obtain ⟨ns, e⟩ := allI_ints h.2
    obtain ⟨i, rfl⟩ := isI_int h.1
    exact ⟨i :: ns, by rw [e]; rfl⟩
theorem allF_I {least : Int} : ∀ {xs : List V}, xs.all (isFrom least) = true → xs.all isI = true
  | [], _ => rfl
  | x :: r, h => by
    rw [List.all_cons, Bool.and_eq_true] at h
    rw [List.all_cons, allF_I h.2, Bool.and_true]
    cases x <;> first | rfl | exact h.1
def sp_from : Sp := fun vs H Q _ => (∃ (x : V) (k l : Int) (t : String), vs = [x, .int k, .int l] ∧ tyN H x = some t ∧ (t == "tuple") = false ∧ Q (.bl false) H) ∨
  ∃ (a : Addr) (k l : Int) (xs : List V), vs = [.ref a, .int k, .int l] ∧ H a = some (.tup xs) ∧ Kn H xs ∧ xs.length < 1000 ∧ ∀ H', Same H H' → Q (.bl (decide ((xs.length : Int) = k) && xs.all (isFrom l))) H'
def LF (c : Addr) (ns : List Int) (l : Int) (G : Hp) (i : Nat) (σ : St) (H : Hp) : Prop := ∃ v, σ = [v, some (.int l)] ∧ SameX c G H ∧ H c = some (.lst (((ns.take i).map fun n => decide (l ≤ n)).map V.bl))
theorem sc_are_wholes_from : FnScope ["thing", "many", "least"] ["thing", "many", "least"] (defScope s_are_wholes_from) := ⟨rfl, rfl, rfl, by decide +kernel, rfl, by decide +kernel, by decide +kernel⟩
theorem ok_from (F : Fun K "are_wholes_from" "are_wholes_from" s_are_wholes_from f fd) (hm : mg "are_wholes_from" = some (.ref f)) (hb : Binds K fd ["thing", "many", "least"] []) (T : Txt mg) (c_are_wholes : Cal P w K mg base "are_wholes" ["thing", "many"] 2 sp_wholes) : Cal P w K mg base "are_wholes_from" ["thing", "many", "least"] 3 sp_from := by
  refine cal_of F hm hb sc_are_wholes_from (fun vs H Q E h => ?_) (fun cdv A outer s H vs Q E hr h => ?_)
  · rcases h with h | h
    · obtain ⟨_, _, _, _, rfl, _⟩ := h; rfl
    · obtain ⟨_, _, _, _, rfl, _⟩ := h; rfl
  · rcases h with h | h
    · obtain ⟨x, k, l, t, rfl, hx, ht, q⟩ := h
      have sc := sc_are_wholes_from
      refine ⟨_, pss_one (ps_ret (pe_and (pe_cal c_are_wholes hr (pa_cns (pv 0) (pa_cns (pv 1) pa_nil))) (pe_one (pe_callB (all0 rfl) rfl T.all_ bt_all (pa_cns (pe_lc (N := ["part", "least"]) (fr := [none, some 2]) rfl (pi_t0 (pv 0)) (CScope.of rfl rfl rfl) rfl (fun _ _ _ => ⟨pg_name (i := 0) (show List.Nodup (α := Str) ["part", "least"] by decide +kernel) rfl (Or.inl rfl), pif_nil, pe_cmpR op_ge (pv 0) (pv 1) (nomark _)⟩)) pa_nil))))), ?_⟩
      rw [show L2.start ["thing", "many", "least"] [x, .int k, .int l] = [some (x), some (.int k), some (.int l)] from rfl]
      (walk_at "rd")
      refine .inl ⟨x, k, t, rfl, hx, ht, ?_⟩
      (walk_at "rd")
      exact q
    · obtain ⟨a, k, l, xs, rfl, ha, hk, hlen, q⟩ := h
      have sc := sc_are_wholes_from
      refine ⟨_, pss_one (ps_ret (pe_and (pe_cal c_are_wholes hr (pa_cns (pv 0) (pa_cns (pv 1) pa_nil))) (pe_one (pe_callB (all0 rfl) rfl T.all_ bt_all (pa_cns (pe_lc (N := ["part", "least"]) (fr := [none, some 2]) rfl (pi_t0 (pv 0)) (CScope.of rfl rfl rfl) rfl (fun _ _ _ => ⟨pg_name (i := 0) (show List.Nodup (α := Str) ["part", "least"] by decide +kernel) rfl (Or.inl rfl), pif_nil, pe_cmpR op_ge (pv 0) (pv 1) (nomark _)⟩)) pa_nil))))), ?_⟩
      rw [show L2.start ["thing", "many", "least"] [.ref a, .int k, .int l] = [some (.ref a), some (.int k), some (.int l)] from rfl]
      (walk_at "rd")
      refine .inr ⟨a, k, xs, rfl, ha, hk, hlen, fun H1 s1 => ?_⟩
      by_cases hl : (decide ((xs.length : Int) = k) && xs.all isI) = true
      · rw [hl]
        rw [Bool.and_eq_true, decide_eq_true_eq] at hl
        obtain ⟨ns, rfl⟩ := allI_ints hl.2
        have ha1 := s1 _ _ ha
        (w_cond ha1)
        intro c nc
        have nac : a ≠ c := ne_of_none ha1 nc
        refine cl_seq (LF c ns l H1) ⟨none, rfl, SameX.upd, upd_same⟩ (fun j σ H' _ ⟨_, _, s, _⟩ => s _ _ nac ha1) ?_ ?_
        · rintro i x σ H2 hx ⟨v, rfl, s2, e2⟩
          rw [List.getElem?_map] at hx
          obtain ⟨n, hn, rfl⟩ := Option.map_eq_some_iff.mp hx
          have hi : i < ns.length := (List.getElem?_eq_some_iff.mp hn).1
          rw [List.length_map] at hlen
          (w_cond e2)
          refine ⟨small1000 (by rw [List.length_take]; omega), ⟨_, rfl, s2.trans SameX.upd, ?_⟩⟩
          rw [upd_same, List.take_add_one, hn]
          simp
        · rintro σ H2 ⟨v, rfl, s2, e2⟩
          rw [List.length_map, List.take_length] at e2
          refine ⟨_, sq_lst e2, ?_⟩
          have := q H2 (s1.trans (s2.same nc))
          rw [decide_eq_true hl.1, Bool.true_and, List.all_map] at this
          rw [List.all_map]
          exact this
      · have hf : (decide ((xs.length : Int) = k) && xs.all isI) = false := by simpa using hl
        rw [hf]
        have e : (decide ((xs.length : Int) = k) && xs.all (isFrom l)) = false := by
          cases e1 : decide ((xs.length : Int) = k) with
          | false => rfl
          | true =>
            cases e2 : xs.all (isFrom l) with
            | false => rfl
            | true => rw [e1, allF_I e2] at hf; exact hf
        have := q H1 s1
        rw [e] at this
        (walk_at "rd")
        exact this
def Ok (H : Hp) (x : V) : Prop := (∃ t, tyN H x = some t ∧ (t == "tuple") = false) ∨ ∃ a xs, x = .ref a ∧ H a = some (.tup xs) ∧ Kn H xs ∧ xs.length < 1000
theorem Ok.same {H H' : Hp} (s : Same H H') {x : V} (h : Ok H x) : Ok H' x := by
  rcases h with ⟨t, e, n⟩ | ⟨a, xs, e, h, k, l⟩
  · exact .inl ⟨t, tyN_same s e, n⟩
  · exact .inr ⟨a, xs, e, s _ _ h, k.same s, l⟩
theorem Ok.kn {H : Hp} {x : V} (h : Ok H x) : ∃ t, tyN H x = some t := by
  rcases h with ⟨t, e, n⟩ | ⟨a, xs, rfl, h, k, l⟩
  · exact ⟨t, e⟩
  · exact ⟨"tuple", by simp only [tyN, h]⟩
theorem Ok.tup {H : Hp} {a : Addr} {xs : List V} (h : H a = some (.tup xs)) (k : Kn H xs) (l : xs.length < 1000) : Ok H (.ref a) := .inr ⟨a, xs, rfl, h, k, l⟩
theorem Ok.int {H : Hp} (i : Int) : Ok H (.int i) := .inl ⟨"int", rfl, by decide⟩
theorem Ok.bl {H : Hp} (b : Bool) : Ok H (.bl b) := .inl ⟨"bool", rfl, by decide⟩
theorem Ok.str {H : Hp} (x : Str) : Ok H (.str x) := .inl ⟨"str", rfl, by decide⟩
theorem Ok.non {H : Hp} : Ok H .non := .inl ⟨"NoneType", rfl, by decide⟩
theorem Ok.lst {H : Hp} {a : Addr} {xs : List V} (h : H a = some (.lst xs)) : Ok H (.ref a) := .inl ⟨"list", by simp only [tyN, h], by decide⟩
theorem Ok.dct {H : Hp} {a : Addr} (h : H a = some (.dK [])) : Ok H (.ref a) := .inl ⟨"dict", by simp only [tyN, h], by decide⟩
theorem Kn.cons {H : Hp} {x : V} {xs : List V} (h : Ok H x) (k : Kn H xs) : Kn H (x :: xs) := fun y hy => by
  rcases List.mem_cons.mp hy with rfl | hy
  · exact h.kn
  · exact k y hy
theorem Kn.app {H : Hp} {xs ys : List V} (h : Kn H xs) (k : Kn H ys) : Kn H (xs ++ ys) := fun y hy => by
  rcases List.mem_append.mp hy with hy | hy
  · exact h y hy
  · exact k y hy
theorem Kn.nil {H : Hp} : Kn H [] := fun _ h => absurd h (by simp)
theorem Kn.cut {H : Hp} {xs : List V} (h : Kn H xs) (lo hi : Option Int) : Kn H (cutV xs lo hi) := fun y hy => h y (List.mem_of_mem_drop (List.mem_of_mem_take hy))
theorem Kn.rep {H : Hp} {xs : List V} (h : Kn H xs) (k : Nat) : Kn H (List.replicate k xs).flatten := fun y hy => by
  obtain ⟨l, hl, hy⟩ := List.mem_flatten.mp hy
  rw [List.eq_of_mem_replicate hl] at hy
  exact h y hy
theorem notI {H : Hp} {x : V} {t : String} (h : tyN H x = some t) (n : (t == "tuple") = false) {a : Addr} {xs : List V} (e : x = .ref a) : H a ≠ some (.tup xs) := by
  subst e
  intro z
  simp only [tyN, z, Option.some.injEq] at h
  subst h
  exact absurd n (by decide)
def sp_truth : Sp := fun vs H Q _ => ∃ b c : Bool, vs = [.bl b, .bl c] ∧ Q (.bl (decide (b = c))) H
theorem sc__law_truth : FnScope ["_law_found", "_law_due_here"] ["_law_found", "_law_due_here"] (defScope s__law_truth) := ⟨rfl, rfl, rfl, by decide +kernel, rfl, by decide +kernel, by decide +kernel⟩
theorem ok_truth (F : Fun K "_law_truth" "_law_truth" s__law_truth f fd) (hm : mg "_law_truth" = some (.ref f)) (hb : Binds K fd ["_law_found", "_law_due_here"] []) (T : Txt mg) : Cal P w K mg base "_law_truth" ["_law_found", "_law_due_here"] 1 sp_truth := by
  refine cal_of F hm hb sc__law_truth (fun vs H Q E h => ?_) (fun cdv A outer s H vs Q E hr h => ?_)
  · obtain ⟨_, _, rfl, _⟩ := h; rfl
  · obtain ⟨b, c, rfl, q⟩ := h
    have sc := sc__law_truth
    refine ⟨_, pss_one (ps_ret (pe_and (pe_callB isi0 rfl T.isinstance_ bt_isinstance (pa_cns (pv 0) (pa_cns (pe_bltn (v := .ty "bool") rfl T.bool_ bt_bool rfl) pa_nil))) (pe_one (pe_cmpR op_eq (pv 0) (pv 1) (nomark _))))), ?_⟩
    rw [show L2.start ["_law_found", "_law_due_here"] [.bl b, .bl c] = [some (.bl b), some (.bl c)] from rfl]
    (walk_at "rd")
    exact q
def isSide : V → Bool
  | .int i => decide (0 ≤ i) && decide (i ≤ 1)
  | _ => false
def sidesB (xs : List V) : Bool := decide (1 ≤ xs.length) && decide (xs.length ≤ 5) && xs.all isSide
def bySides (H : Hp) : V → Bool
  | .ref a => match H a with
    | some (.tup xs) => sidesB xs
    | _ => false
  | _ => false
theorem bySides_no {H : Hp} {x : V} {t : String} (h : tyN H x = some t) (n : (t == "tuple") = false) : bySides H x = false := by
  cases x with
  | ref a =>
    have := fun xs => notI (xs := xs) h n rfl
    show (match H a with | some (.tup xs) => sidesB xs | _ => false) = false
    split
    · rename_i xs e; exact absurd e (this xs)
    · rfl
  | _ => rfl
theorem bySides_tup {H : Hp} {a : Addr} {xs : List V} (h : H a = some (.tup xs)) : bySides H (.ref a) = sidesB xs := by
  unfold bySides
  simp only [h]
def sp_sides : Sp := fun vs H Q _ => ∃ x : V, vs = [x] ∧ Ok H x ∧ ∀ H', Same H H' → Q (.bl (bySides H x)) H'
theorem side_max {ns : List Int} {mx : Int} (h0 : (ns.map V.int).all (isFrom 0) = true) (h1 : mx ∈ ns) (h2 : ∀ x ∈ ns, x ≤ mx) : (ns.map V.int).all isSide = decide (mx ≤ 1) := by
  rw [Bool.eq_iff_iff, decide_eq_true_eq, List.all_eq_true]
  rw [List.all_eq_true] at h0
  constructor
  · intro h
    have := h (.int mx) (List.mem_map.mpr ⟨mx, h1, rfl⟩)
    simp [isSide] at this
    exact this.2
  · intro h x hx
    have := h0 x hx
    obtain ⟨n, hn, rfl⟩ := List.mem_map.mp hx
    have := h2 n hn
    simp [isSide, isFrom] at *
    omega
theorem side_from : ∀ {xs : List V}, xs.all isSide = true → xs.all (isFrom 0) = true
  | [], _ => rfl
  | x :: r, h => by
    rw [List.all_cons, Bool.and_eq_true] at h
    rw [List.all_cons, side_from h.2, Bool.and_true]
    cases x with
    | int i => have := h.1; simp [isSide, isFrom] at *; exact this.1
    | _ => exact h.1
theorem sc_is_sides : FnScope ["thing"] ["thing"] (defScope s_is_sides) := ⟨rfl, rfl, rfl, by decide +kernel, rfl, by decide +kernel, by decide +kernel⟩
theorem ok_sides (F : Fun K "is_sides" "is_sides" s_is_sides f fd) (T : Txt mg) (c_are_wholes_from : Cal P w K mg base "are_wholes_from" ["thing", "many", "least"] 3 sp_from) :
    FnOk P w K mg base CX0 4 f fd ["thing"] sp_sides := by
  refine F.ok sc_is_sides (fun vs H Q E h => ?_) (fun cdv A outer s H vs Q E hr h => ?_)
  · obtain ⟨_, rfl, _⟩ := h; rfl
  · obtain ⟨x, rfl, ok, q⟩ := h
    have sc := sc_is_sides
    refine ⟨_, pss_cons (ps_if (PW.pt (pw_or (pt_not (pt_val (pe_callB isi0 rfl T.isinstance_ bt_isinstance (pa_cns (pv 0) (pa_cns (pe_bltn (v := .ty "tuple") rfl T.tuple_ bt_tuple rfl) pa_nil))))) (pw_or1 (pt_not (pt_chain op_le op_le pe_int (pe_callB len0 rfl T.len_ bt_len (pa_cns (pv 0) pa_nil)) (pe_glob (v := .int 5) rfl T.MOST_THINGS_c.choose_spec ⟨_, rfl⟩) rfl))))) (pss_one (ps_ret pe_bl)) pss_nil)
      (pss_one (ps_ret (pe_and (pe_cal c_are_wholes_from hr (pa_cns (pv 0) (pa_cns (pe_callB len0 rfl T.len_ bt_len (pa_cns (pv 0) pa_nil)) (pa_cns pe_int pa_nil)))) (pe_one (pe_cmpR op_le (pe_callB (max0 rfl) rfl T.max_ bt_max (pa_cns (pv 0) pa_nil)) pe_int (nomark _)))))), ?_⟩
    rw [show L2.start ["thing"] [x] = [some (x)] from rfl]
    rcases ok with ⟨t, ht, hn⟩ | ⟨a, xs, rfl, ha, hk, hl⟩
    · rw [bySides_no ht hn] at q
      (walk_at "rd")
      refine ⟨_, ht, ?_⟩
      (walk_at "rd")
      rw [if_pos (by rw [hn]; decide)]
      exact q H (Same.refl H)
    · rw [bySides_tup ha] at q
      have hsa := sq_tup ha
      (wrow_has ha hsa)
      by_cases h1 : 1 ≤ xs.length ∧ xs.length ≤ 5
      · have c1 : (1 : Int) ≤ (xs.length : Int) := by omega
        have c2 : (xs.length : Int) ≤ 5 := by omega
        simp only [c1, c2, decide_true, if_true, Bool.not_true, Bool.false_eq_true, if_false]
        refine .inr ⟨a, _, _, xs, rfl, ha, hk, hl, fun H1 s1 => ?_⟩
        rw [decide_eq_true rfl, Bool.true_and]
        unfold sidesB at q
        rw [decide_eq_true h1.1, decide_eq_true h1.2, Bool.true_and, Bool.true_and] at q
        cases hf : xs.all (isFrom 0) with
        | false =>
          have : xs.all isSide = false := by
            cases e : xs.all isSide with
            | false => rfl
            | true => rw [side_from e] at hf; cases hf
          rw [this] at q
          (walk_at "rd")
          exact q H1 s1
        | true =>
          obtain ⟨ns, rfl⟩ := allI_ints (allF_I hf)
          have ha1 := s1 _ _ ha
          (walk_at "rd")
          refine ⟨ns, sq_tup ha1, by rintro rfl; simp at h1, fun mx m1 m2 => ?_⟩
          (walk_at "rd")
          rw [side_max hf m1 m2] at q
          exact q H1 s1
      · unfold sidesB at q
        have e : (decide (1 ≤ xs.length) && decide (xs.length ≤ 5)) = false := by
          rw [Bool.and_eq_false_iff, decide_eq_false_iff_not, decide_eq_false_iff_not]
          omega
        rw [e, Bool.false_and] at q
        by_cases c1 : (1 : Int) ≤ (xs.length : Int)
        · have c2 : ¬ (xs.length : Int) ≤ 5 := by omega
          simp only [c1, c2, decide_true, decide_false, if_true, Bool.not_false]
          exact q H (Same.refl H)
        · simp only [c1, decide_false, Bool.false_eq_true, if_false, Bool.not_false, if_true]
          exact q H (Same.refl H)
theorem two_le {t : Nat} (h : t < 5) : (0 : Int) ≤ 2 ^ t ∧ (2 : Int) ^ t ≤ 16 := by
  have h5 : t = 0 ∨ t = 1 ∨ t = 2 ∨ t = 3 ∨ t = 4 := by omega
  rcases h5 with rfl | rfl | rfl | rfl | rfl <;> decide
def sp_hp : Sp := fun vs H Q _ => ∃ (a : Addr) (i j : Nat), vs = [.ref a] ∧ H a = some (.tup [.int (i : Int), .int (j : Int)]) ∧ i < 5 ∧ j < 5 ∧ ∀ H', Same H H' → Q (.int ((2 ^ i + 2 ^ j : Nat) : Int)) H'
def LHP (c : Addr) (ts : List Nat) (G : Hp) (i : Nat) (σ : St) (H : Hp) : Prop := ∃ v, σ = [v] ∧ SameX c G H ∧ H c = some (.lst (((ts.take i).map fun t : Nat => (2 : Int) ^ t).map V.int))
theorem sc_heap_of : FnScope ["things"] ["things"] (defScope s_heap_of) := ⟨rfl, rfl, rfl, by decide +kernel, rfl, by decide +kernel, by decide +kernel⟩
theorem ok_hp (F : Fun K "heap_of" "heap_of" s_heap_of f fd) (T : Txt mg) :
    FnOk P w K mg base CX0 1 f fd ["things"] sp_hp := by
  refine F.ok sc_heap_of (fun vs H Q E h => ?_) (fun cdv A outer s H vs Q E hr h => ?_)
  · obtain ⟨_, _, _, rfl, _⟩ := h; rfl
  · obtain ⟨a, i, j, rfl, ha, hi, hj, q⟩ := h
    have sc := sc_heap_of
    refine ⟨_, pss_one (ps_ret (pe_callB (sum0 rfl) rfl T.sum_ bt_sum (pa_cns (pe_lc (N := ["thing"]) (fr := [none]) rfl (pi_t0 (pv 0)) (CScope.of rfl rfl rfl) rfl (fun _ _ _ => ⟨pg_name (i := 0) (show List.Nodup (α := Str) ["thing"] by decide +kernel) rfl (Or.inl rfl), pif_nil, pe_op op_shl pe_int (pv 0)⟩)) pa_nil))), ?_⟩
    rw [show L2.start ["things"] [.ref a] = [some (.ref a)] from rfl]
    (w_cond ha)
    intro c nc
    have nac : a ≠ c := ne_of_none ha nc
    refine cl_seq (LHP c [i, j] H) ⟨none, rfl, SameX.upd, upd_same⟩ (fun k σ H' _ ⟨_, _, s, _⟩ => s _ _ nac ha) ?_ ?_
    · rintro k x σ H1 hx ⟨v, rfl, s1, e1⟩
      have hx' : ([i, j].map fun t : Nat => V.int (t : Int))[k]? = some x := hx
      rw [List.getElem?_map] at hx'
      obtain ⟨t, ht, rfl⟩ := Option.map_eq_some_iff.mp hx'
      have hk : k < [i, j].length := (List.getElem?_eq_some_iff.mp ht).1
      have t5 : t < 5 := by
        have := List.mem_of_getElem? ht
        simp at this
        omega
      (w_cond e1)
      refine ⟨⟨by omega, by omega, by decide⟩, small1000 (by rw [List.length_take]; simp at hk ⊢; omega), ⟨_, rfl, s1.trans SameX.upd, ?_⟩⟩
      rw [upd_same, List.take_add_one, ht]
      simp
    · rintro σ H1 ⟨v, rfl, s1, e1⟩
      have e1' : H1 c = some (.lst ([(2 : Int) ^ i, (2 : Int) ^ j].map V.int)) := e1
      have b1 := two_le hi
      have b2 := two_le hj
      refine ⟨_, sq_lst e1', sumFits_of (fun n hn => ?_) (by simp), ?_⟩
      · simp at hn
        rcases hn with rfl | rfl <;> omega
      · have : [(2 : Int) ^ i, (2 : Int) ^ j].sum = ((2 ^ i + 2 ^ j : Nat) : Int) := by
          rw [Int.natCast_add, Int.natCast_pow, Int.natCast_pow]
          simp
        rw [this]
        exact q H1 (s1.same nc)
end
end K06
end
section
set_option Elab.async false
set_option linter.all false
set_option maxRecDepth 100000
set_option maxHeartbeats 8000000
namespace K06
open PySem L2
local macro_rules | `(tactic| w_cond $a:ident) => `(tactic| (try simp only [a_tPop0, a_tCalK, g3r_is, g2r_is, g2_is, g1_is, a_tSeqL, a_tChain, a_tDict, a_tLstA, a_rMulT, a_rEqT, a_tLC2, a_tLC3, a_tInner, a_tIns, a_tRev, a_rSlA, a_rCatA, a_rCatL, a_tSeq, a_tFor, a_rIxL, a_iZip, a_tSortR, a_tSl, a_rSlL0, a_tNoPart, a_tPart, a_tApp, a_tRet, a_tRetN, a_tNext, a_tDrop, a_tAsg, a_gSub, a_gName, a_gNil, a_gCons, a_gTup0, a_rSetL, a_tIfS, a_tAnd, a_tOr, a_tNot, a_tTest, a_tB, a_tTrue, a_tIf, a_tAndV, a_tOrV, a_tNotV, a_tOp, a_tUn, a_rU, a_tVar, a_tC, a_rI0, a_rI, a_rEq, a_rNe, a_rIx0, a_rIn0, a_tCB, a_tCal, a_tCons, a_tNil, a_tTupA, a_tLst, a_tPar, a_tBits, a_tLC, a_iRng1, a_iRng2, a_iT0, a_iL0, a_tEmit, frS, scal, V.ty.injEq, tyN, subN, String.reduceEq, String.reduceBEq, Bool.true_or, Bool.false_or, Bool.or_false, Bool.true_and, Bool.false_and, Bool.and_false, or_true, true_or, beq_self_eq_true, decide_true, decide_false, List.map_cons, List.map_nil, List.length_cons, List.length_nil, List.getElem?_cons_zero, List.getElem?_cons_succ, List.getElem?_nil, List.set_cons_zero, List.set_cons_succ, Option.some.injEq, Option.bind_some, Option.bind_none, id, exists_eq_left', exists_eq_left, exists_and_left, exists_eq_right, V.int.injEq, V.bl.injEq, V.ref.injEq, List.cons.injEq, and_true, true_and, and_assoc, exists_const, atI0, atI1, atI2, ixN30, ixN31, ixN32, upd_same, upd_upd, sq_updL, sq_updT, Nat.zero_add, Nat.reduceAdd, reduceCtorEq, false_and, and_false, exists_false, false_or, or_false, List.length_map, HO.lst.injEq, HO.tup.injEq, Bool.false_eq_true, if_false, if_true, decide_eq_true_eq, ite_true, ite_false, reduceIte, Int.reduceLT, Int.reduceLE, Nat.reduceLT, Int.zero_add, Bool.not_true, Bool.not_false, $a:ident]))
local macro_rules | `(tactic| wrow_has $a:ident $b:ident) => `(tactic| (try simp only [a_tPop0, a_tCalK, g3r_is, g2r_is, g2_is, g1_is, a_tSeqL, a_tChain, a_tDict, a_tLstA, a_rMulT, a_rEqT, a_tLC2, a_tLC3, a_tInner, a_tIns, a_tRev, a_rSlA, a_rCatA, a_rCatL, a_tSeq, a_tFor, a_rIxL, a_iZip, a_tSortR, a_tSl, a_rSlL0, a_tNoPart, a_tPart, a_tApp, a_tRet, a_tRetN, a_tNext, a_tDrop, a_tAsg, a_gSub, a_gName, a_gNil, a_gCons, a_gTup0, a_rSetL, a_tIfS, a_tAnd, a_tOr, a_tNot, a_tTest, a_tB, a_tTrue, a_tIf, a_tAndV, a_tOrV, a_tNotV, a_tOp, a_tUn, a_rU, a_tVar, a_tC, a_rI0, a_rI, a_rEq, a_rNe, a_rIx0, a_rIn0, a_tCB, a_tCal, a_tCons, a_tNil, a_tTupA, a_tLst, a_tPar, a_tBits, a_tLC, a_iRng1, a_iRng2, a_iT0, a_iL0, a_tEmit, frS, scal, V.ty.injEq, tyN, subN, String.reduceEq, String.reduceBEq, Bool.true_or, Bool.false_or, Bool.or_false, Bool.true_and, Bool.false_and, Bool.and_false, or_true, true_or, beq_self_eq_true, decide_true, decide_false, List.map_cons, List.map_nil, List.length_cons, List.length_nil, List.getElem?_cons_zero, List.getElem?_cons_succ, List.getElem?_nil, List.set_cons_zero, List.set_cons_succ, Option.some.injEq, Option.bind_some, Option.bind_none, id, exists_eq_left', exists_eq_left, exists_and_left, exists_eq_right, V.int.injEq, V.bl.injEq, V.ref.injEq, List.cons.injEq, and_true, true_and, and_assoc, exists_const, atI0, atI1, atI2, ixN30, ixN31, ixN32, upd_same, upd_upd, sq_updL, sq_updT, Nat.zero_add, Nat.reduceAdd, reduceCtorEq, false_and, and_false, exists_false, false_or, or_false, List.length_map, HO.lst.injEq, HO.tup.injEq, Bool.false_eq_true, if_false, if_true, decide_eq_true_eq, ite_true, ite_false, reduceIte, Int.reduceLT, Int.reduceLE, Nat.reduceLT, Int.zero_add, Bool.not_true, Bool.not_false, $a:ident, $b:ident]))
local macro_rules | `(tactic| walk_at "rd") => `(tactic| (try simp only [a_tPop0, a_tCalK, g3r_is, g2r_is, g2_is, g1_is, a_tSeqL, a_tChain, a_tDict, a_tLstA, a_rMulT, a_rEqT, a_tLC2, a_tLC3, a_tInner, a_tIns, a_tRev, a_rSlA, a_rCatA, a_rCatL, a_tSeq, a_tFor, a_rIxL, a_iZip, a_tSortR, a_tSl, a_rSlL0, a_tNoPart, a_tPart, a_tApp, a_tRet, a_tRetN, a_tNext, a_tDrop, a_tAsg, a_gSub, a_gName, a_gNil, a_gCons, a_gTup0, a_rSetL, a_tIfS, a_tAnd, a_tOr, a_tNot, a_tTest, a_tB, a_tTrue, a_tIf, a_tAndV, a_tOrV, a_tNotV, a_tOp, a_tUn, a_rU, a_tVar, a_tC, a_rI0, a_rI, a_rEq, a_rNe, a_rIx0, a_rIn0, a_tCB, a_tCal, a_tCons, a_tNil, a_tTupA, a_tLst, a_tPar, a_tBits, a_tLC, a_iRng1, a_iRng2, a_iT0, a_iL0, a_tEmit, frS, scal, V.ty.injEq, tyN, subN, String.reduceEq, String.reduceBEq, Bool.true_or, Bool.false_or, Bool.or_false, Bool.true_and, Bool.false_and, Bool.and_false, or_true, true_or, beq_self_eq_true, decide_true, decide_false, List.map_cons, List.map_nil, List.length_cons, List.length_nil, List.getElem?_cons_zero, List.getElem?_cons_succ, List.getElem?_nil, List.set_cons_zero, List.set_cons_succ, Option.some.injEq, Option.bind_some, Option.bind_none, id, exists_eq_left', exists_eq_left, exists_and_left, exists_eq_right, V.int.injEq, V.bl.injEq, V.ref.injEq, List.cons.injEq, and_true, true_and, and_assoc, exists_const, atI0, atI1, atI2, ixN30, ixN31, ixN32, upd_same, upd_upd, sq_updL, sq_updT, Nat.zero_add, Nat.reduceAdd, reduceCtorEq, false_and, and_false, exists_false, false_or, or_false, List.length_map, HO.lst.injEq, HO.tup.injEq, Bool.false_eq_true, if_false, if_true, decide_eq_true_eq, ite_true, ite_false, reduceIte, Int.reduceLT, Int.reduceLE, Nat.reduceLT, Int.zero_add, Bool.not_true, Bool.not_false]))
section
variable {P : Program} {w : World} {K : PySem.W.Frag} {mg : Str → Option Value} {base : Heap} {f : Addr} {fd : FuncData}
def sinkRow (ns : List Int) (h : Nat) : List Bool := (thingsI (h : Int)).map fun t => decide (ns.getD (out h t.toNat) 0 ≤ ns.getD h 0)
def noSink (ns : List Int) : Bool := ((List.range ns.length).flatMap (sinkRow ns)).all id
theorem thingsI_bd (h : Int) : ∀ t ∈ thingsI h, 0 ≤ t ∧ t < 5 := by
  intro t ht
  unfold thingsI at ht
  obtain ⟨n, hn, rfl⟩ := List.mem_map.mp ht
  have := List.mem_range.mp (List.mem_filter.mp hn).1
  omega
theorem thingsI_len (h : Int) : (thingsI h).length ≤ 5 := by
  unfold thingsI
  rw [List.length_map]
  exact Nat.le_trans (List.length_filter_le _ _) (by simp)
theorem sink_len (ns : List Int) : ∀ n : Nat, ((List.range n).flatMap (sinkRow ns)).length ≤ 5 * n
  | 0 => by simp
  | n + 1 => by
    rw [List.range_succ, List.flatMap_append, List.length_append]
    have := sink_len ns n
    have h2 : ([n].flatMap (sinkRow ns)).length ≤ 5 := by
      rw [List.flatMap_singleton]
      unfold sinkRow
      rw [List.length_map]
      exact thingsI_len _
    omega
def sp_sinks : Sp := fun vs H Q _ => ∃ (a : Addr) (ns : List Int), vs = [.ref a] ∧ H a = some (.tup (ns.map V.int)) ∧ ns.length ≤ 32 ∧ ∀ H', Same H H' → Q (.bl (noSink ns)) H'
def NS1 (a c : Addr) (ns : List Int) (G : Hp) (i : Nat) (σ : St) (H : Hp) : Prop := ∃ v1 v2, σ = [v1, v2, some (.ref a)] ∧ SameX c G H ∧ H c = some (.lst (((List.range i).flatMap (sinkRow ns)).map V.bl))
def NS2 (a c : Addr) (ns : List Int) (h : Nat) (G : Hp) (j : Nat) (σ : St) (H : Hp) : Prop := ∃ v2, σ = [some (.int (h : Int)), v2, some (.ref a)] ∧ SameX c G H ∧ H c = some (.lst (((List.range h).flatMap (sinkRow ns) ++ (sinkRow ns h).take j).map V.bl))
theorem at_int {ns : List Int} {n : Nat} (h : n < ns.length) : atI (ns.map V.int) (n : Int) = some (V.int (ns.getD n 0)) := atI_nat (by simp [h, List.getD_eq_getElem?_getD])
theorem sc_never_sinks : FnScope ["worths"] ["worths"] (defScope s_never_sinks) := ⟨rfl, rfl, rfl, by decide +kernel, rfl, by decide +kernel, by decide +kernel⟩
theorem ok_sinks (F : Fun K "never_sinks" "never_sinks" s_never_sinks f fd) (hm : mg "never_sinks" = some (.ref f)) (hb : Binds K fd ["worths"] []) (T : Txt mg) (c_things_in : Cal P w K mg base "things_in" ["heap"] 2 sp_things) (c_taken_out : Cal P w K mg base "taken_out" ["heap", "thing"] 2 sp_taken) : Cal P w K mg base "never_sinks" ["worths"] 3 sp_sinks := by
  refine cal_of F hm hb sc_never_sinks (fun vs H Q E h => ?_) (fun cdv A outer s H vs Q E hr h => ?_)
  · obtain ⟨_, _, rfl, _⟩ := h; rfl
  · obtain ⟨a, ns, rfl, ha, hlen, q⟩ := h
    have sc := sc_never_sinks
    refine ⟨_, pss_one (ps_ret (pe_callB (all0 rfl) rfl T.all_ bt_all (pa_cns (pe_lc2 (N := ["heap", "thing", "worths"]) (fr := [none, none, some 0]) rfl (pi_range1 rfl T.range_ (pa_cns (pe_callB len0 rfl T.len_ bt_len (pa_cns (pv 0) pa_nil)) pa_nil)) (CScope.of rfl rfl rfl) rfl (fun _ _ _ => ⟨pg_name (i := 0) (show List.Nodup (α := Str) ["heap", "thing", "worths"] by decide +kernel) rfl (Or.inl rfl), pif_nil, pi_t0 (pe_cal c_things_in hr (pa_cns (pv 0) pa_nil)), pg_name (i := 1) (show List.Nodup (α := Str) ["heap", "thing", "worths"] by decide +kernel) rfl (Or.inl rfl), pif_nil, pe_cmpR op_le (pe_ix ix0 (pv 2) (pe_cal c_taken_out hr (pa_cns (pv 0) (pa_cns (pv 1) pa_nil))) (fun _ _ => rfl)) (pe_ix ix0 (pv 2) (pv 0) (fun _ _ => rfl)) (nomark _)⟩)) pa_nil))), ?_⟩
    rw [show L2.start ["worths"] [.ref a] = [some (.ref a)] from rfl]
    have hsa := sq_tup ha
    (w_cond hsa)
    refine ⟨by omega, by omega, fun c nc => ?_⟩
    have nac : a ≠ c := ne_of_none ha nc
    refine cl_range (NS1 a c ns H) ⟨none, none, rfl, SameX.upd, upd_same⟩ ?_ ?_
    · rintro i σ H1 hi ⟨v1, v2, rfl, s1, e1⟩
      rw [Int.toNat_natCast] at hi
      have ha1 := s1 _ _ nac ha
      (walk_at "rd")
      refine ⟨(i : Int), rfl, by omega, by omega, fun t H2 nt s2 e2 => ?_⟩
      have ha2 := s2 _ _ ha1
      have e2c := s2 _ _ e1
      have ntc : t ≠ c := (ne_of_none e1 nt).symm
      (w_cond e2)
      refine cl_seq (NS2 a c ns i H2) ⟨_, rfl, SameX.refl, by rw [e2c]; simp⟩ (fun j σ H' _ ⟨_, _, s, _⟩ => s _ _ ntc e2) ?_ ?_
      · rintro j x σ H3 hx ⟨v3, rfl, s3, e3⟩
        rw [List.getElem?_map] at hx
        obtain ⟨tt, htt, rfl⟩ := Option.map_eq_some_iff.mp hx
        have htm := List.mem_of_getElem? htt
        obtain ⟨t0, t5⟩ := thingsI_bd _ tt htm
        obtain ⟨n, rfl⟩ := Int.eq_ofNat_of_zero_le t0
        have hsa3 := sq_tup (s3 _ _ nac ha2)
        have hj : j < (thingsI (i : Int)).length := (List.getElem?_eq_some_iff.mp htt).1
        have ol := out_le i n
        have hat1 := at_int (ns := ns) (n := out i n) (by omega)
        have hat2 := at_int (ns := ns) (n := i) hi
        (w_cond hsa3)
        refine ⟨i, n, rfl, by omega, by omega, ?_⟩
        (try simp only [a_tPop0, a_tCalK, g3r_is, g2r_is, g2_is, g1_is, a_tSeqL, a_tChain, a_tDict, a_tLstA, a_rMulT, a_rEqT, a_tLC2, a_tLC3, a_tInner, a_tIns, a_tRev, a_rSlA, a_rCatA, a_rCatL, a_tSeq, a_tFor, a_rIxL, a_iZip, a_tSortR, a_tSl, a_rSlL0, a_tNoPart, a_tPart, a_tApp, a_tRet, a_tRetN, a_tNext, a_tDrop, a_tAsg, a_gSub, a_gName, a_gNil, a_gCons, a_gTup0, a_rSetL, a_tIfS, a_tAnd, a_tOr, a_tNot, a_tTest, a_tB, a_tTrue, a_tIf, a_tAndV, a_tOrV, a_tNotV, a_tOp, a_tUn, a_rU, a_tVar, a_tC, a_rI0, a_rI, a_rEq, a_rNe, a_rIx0, a_rIn0, a_tCB, a_tCal, a_tCons, a_tNil, a_tTupA, a_tLst, a_tPar, a_tBits, a_tLC, a_iRng1, a_iRng2, a_iT0, a_iL0, a_tEmit, frS, scal, V.ty.injEq, tyN, subN, String.reduceEq, String.reduceBEq, Bool.true_or, Bool.false_or, Bool.or_false, Bool.true_and, Bool.false_and, Bool.and_false, or_true, true_or, beq_self_eq_true, decide_true, decide_false, List.map_cons, List.map_nil, List.length_cons, List.length_nil, List.getElem?_cons_zero, List.getElem?_cons_succ, List.getElem?_nil, List.set_cons_zero, List.set_cons_succ, Option.some.injEq, Option.bind_some, Option.bind_none, id, exists_eq_left', exists_eq_left, exists_and_left, exists_eq_right, V.int.injEq, V.bl.injEq, V.ref.injEq, List.cons.injEq, and_true, true_and, and_assoc, exists_const, atI0, atI1, atI2, ixN30, ixN31, ixN32, upd_same, upd_upd, sq_updL, sq_updT, Nat.zero_add, Nat.reduceAdd, reduceCtorEq, false_and, and_false, exists_false, false_or, or_false, List.length_map, HO.lst.injEq, HO.tup.injEq, Bool.false_eq_true, if_false, if_true, decide_eq_true_eq, ite_true, ite_false, reduceIte, Int.reduceLT, Int.reduceLE, Nat.reduceLT, Int.zero_add, Bool.not_true, Bool.not_false, hsa3, hat1, hat2, e3])
        have sl := sink_len ns i
        have tl := thingsI_len (i : Int)
        refine ⟨small1000 (by rw [List.length_append, List.length_take]; unfold sinkRow at *; rw [List.length_map]; omega), ⟨_, rfl, s3.trans SameX.upd, ?_⟩⟩
        rw [upd_same, List.take_add_one]
        have er : (sinkRow ns i)[j]? = some (decide (ns.getD (out i n) 0 ≤ ns.getD i 0)) := by
          unfold sinkRow
          rw [List.getElem?_map, htt]
          rfl
        rw [er]
        simp
      · rintro σ H3 ⟨v3, rfl, s3, e3⟩
        rw [List.length_map, List.take_of_length_le (by unfold sinkRow; rw [List.length_map]; exact Nat.le_refl _)] at e3
        refine ⟨_, _, rfl, (s1.trans s2.x).trans s3, ?_⟩
        rw [e3, List.range_succ, List.flatMap_append, List.flatMap_singleton]
    · rintro σ H1 ⟨v1, v2, rfl, s1, e1⟩
      rw [Int.toNat_natCast] at e1
      refine ⟨_, sq_lst e1, ?_⟩
      exact q H1 (s1.same nc)
def intV : V → Int
  | .int i => i
  | _ => 0
theorem intV_map (ns : List Int) : (ns.map V.int).map intV = ns := by
  rw [List.map_map]
  exact List.map_id' ns
def isWant (xs : List V) (m : Nat) : Bool := decide (xs.length = 2 ^ m) && xs.all (isFrom 0) && (decide ((xs.map intV).getD 0 0 = 0) && noSink (xs.map intV))
theorem pow32 {m : Nat} (h : m ≤ 5) : 2 ^ m ≤ 32 ∧ 0 < 2 ^ m := by
  have h6 : m = 0 ∨ m = 1 ∨ m = 2 ∨ m = 3 ∨ m = 4 ∨ m = 5 := by omega
  rcases h6 with e | e | e | e | e | e <;> rw [e] <;> decide
def sp_want : Sp := fun vs H Q _ => (∃ (x : V) (m : Nat) (t : String), vs = [x, .int (m : Int)] ∧ m ≤ 5 ∧ tyN H x = some t ∧ (t == "tuple") = false ∧ Q (.bl false) H) ∨
  ∃ (a : Addr) (m : Nat) (xs : List V), vs = [.ref a, .int (m : Int)] ∧ m ≤ 5 ∧ H a = some (.tup xs) ∧ Kn H xs ∧ xs.length < 1000 ∧ ∀ H', Same H H' → Q (.bl (isWant xs m)) H'
theorem sc_is_want : FnScope ["thing", "many"] ["thing", "many"] (defScope s_is_want) := ⟨rfl, rfl, rfl, by decide +kernel, rfl, by decide +kernel, by decide +kernel⟩
theorem ok_want (F : Fun K "is_want" "is_want" s_is_want f fd) (T : Txt mg) (c_are_wholes_from : Cal P w K mg base "are_wholes_from" ["thing", "many", "least"] 3 sp_from) (c_never_sinks : Cal P w K mg base "never_sinks" ["worths"] 3 sp_sinks) :
    FnOk P w K mg base CX0 4 f fd ["thing", "many"] sp_want := by
  refine F.ok sc_is_want (fun vs H Q E h => ?_) (fun cdv A outer s H vs Q E hr h => ?_)
  · rcases h with h | h
    · obtain ⟨_, _, _, rfl, _⟩ := h; rfl
    · obtain ⟨_, _, _, rfl, _⟩ := h; rfl
  · rcases h with h | h
    · obtain ⟨x, m, t, rfl, m5, hx, ht, q⟩ := h
      have sc := sc_is_want
      refine ⟨_, pss_one (ps_ret (pe_and (pe_cal c_are_wholes_from hr (pa_cns (pv 0) (pa_cns (pe_op op_shl pe_int (pv 1)) (pa_cns pe_int pa_nil)))) (pe_and (pe_cmpR op_eq (pe_ix ix0 (pv 0) pe_int (fun _ _ => rfl)) pe_int (nomark _)) (pe_one (pe_cal c_never_sinks hr (pa_cns (pv 0) pa_nil)))))), ?_⟩
      rw [show L2.start ["thing", "many"] [x, .int (m : Int)] = [some (x), some (.int (m : Int))] from rfl]
      (walk_at "rd")
      refine ⟨⟨by omega, by omega, by decide⟩, ?_⟩
      refine .inl ⟨x, _, _, t, rfl, hx, ht, ?_⟩
      (walk_at "rd")
      exact q
    · obtain ⟨a, m, xs, rfl, m5, ha, hk, hlen, q⟩ := h
      have sc := sc_is_want
      refine ⟨_, pss_one (ps_ret (pe_and (pe_cal c_are_wholes_from hr (pa_cns (pv 0) (pa_cns (pe_op op_shl pe_int (pv 1)) (pa_cns pe_int pa_nil)))) (pe_and (pe_cmpR op_eq (pe_ix ix0 (pv 0) pe_int (fun _ _ => rfl)) pe_int (nomark _)) (pe_one (pe_cal c_never_sinks hr (pa_cns (pv 0) pa_nil)))))), ?_⟩
      rw [show L2.start ["thing", "many"] [.ref a, .int (m : Int)] = [some (.ref a), some (.int (m : Int))] from rfl]
      (walk_at "rd")
      refine ⟨⟨by omega, by omega, by decide⟩, ?_⟩
      refine .inr ⟨a, _, _, xs, rfl, ha, hk, hlen, fun H1 s1 => ?_⟩
      have hpow : (1 : Int) * 2 ^ (m : Int).toNat = ((2 ^ m : Nat) : Int) := by rw [Int.one_mul, Int.toNat_natCast]; norm_cast
      have hdec : decide ((xs.length : Int) = 1 * 2 ^ (m : Int).toNat) = decide (xs.length = 2 ^ m) := by
        rw [hpow, Bool.eq_iff_iff, decide_eq_true_eq, decide_eq_true_eq, Int.ofNat_inj]
      rw [hdec]
      unfold isWant at q
      cases hl : decide (xs.length = 2 ^ m) && xs.all (isFrom 0) with
      | false =>
        rw [hl] at q
        (walk_at "rd")
        exact q H1 s1
      | true =>
        rw [hl] at q
        rw [Bool.and_eq_true, decide_eq_true_eq] at hl
        obtain ⟨ns, rfl⟩ := allI_ints (allF_I hl.2)
        rw [intV_map, List.length_map] at *
        have hp := pow32 m5
        have ha1 := s1 _ _ ha
        have hsa1 := sq_tup ha1
        have hat := at_int (ns := ns) (n := 0) (by omega)
        rw [Int.natCast_zero] at hat
        (wrow_has hsa1 hat)
        cases hz : decide (ns.getD 0 0 = 0) with
        | false =>
          rw [hz] at q
          rw [if_neg (by simpa using hz)]
          exact q H1 s1
        | true =>
          rw [hz] at q
          rw [if_pos (by simpa using hz)]
          refine ⟨a, ns, rfl, ha1, by omega, fun H2 s2 => ?_⟩
          exact q H2 (s1.trans s2)
structure Want (ns : List Int) (m : Nat) : Prop where
  len : ns.length = 2 ^ m
  zero : ns.getD 0 0 = 0
  bd : ∀ x ∈ ns, 0 ≤ x ∧ x ≤ 1000
  mono : ∀ h t, h < 2 ^ m → t < 5 → ns.getD (out h t) 0 ≤ ns.getD h 0
structure Pre (ns : List Int) : Prop where
  zero : ns.getD 0 0 = 0
  bd : ∀ x ∈ ns, 0 ≤ x ∧ x ≤ 1000
  mono : ∀ h t, h < ns.length → t < 5 → ns.getD (out h t) 0 ≤ ns.getD h 0
def bitOn (h t : Nat) : Bool := decide (h / 2 ^ t % 2 = 1)
theorem bit_on {h t : Nat} (hh : h < 32) (ht : t < 5) : decide (Builtin.bitAnd ((h : Int) / 2 ^ (t : Int).toNat) 1 = 1) = bitOn h t ∧ (bitOn h t = true → (h : Int) - 1 * 2 ^ (t : Int).toNat = (out h t : Int) ∧ out h t < h) ∧ (bitOn h t = false → out h t = h) := by
  have key : ∀ (a : _root_.Fin 32) (b : _root_.Fin 5), decide (Builtin.bitAnd ((a.val : Int) / 2 ^ (b.val : Int).toNat) 1 = 1) = bitOn a.val b.val ∧ (bitOn a.val b.val = true → (a.val : Int) - 1 * 2 ^ (b.val : Int).toNat = (out a.val b.val : Int) ∧ out a.val b.val < a.val) ∧ (bitOn a.val b.val = false → out a.val b.val = a.val) := by decide +kernel
  exact key ⟨h, hh⟩ ⟨t, ht⟩
theorem some_bit {h m : Nat} (h0 : 1 ≤ h) (hm : m ≤ 5) (h1 : h < 2 ^ m) : ∃ t, t < m ∧ bitOn h t = true := by
  have key : ∀ (a : _root_.Fin 32) (b : _root_.Fin 6), 1 ≤ a.val → a.val < 2 ^ b.val → ∃ t : _root_.Fin 5, t.val < b.val ∧ bitOn a.val t.val = true := by decide +kernel
  have := pow32 hm
  obtain ⟨t, q⟩ := key ⟨h, by omega⟩ ⟨m, by omega⟩ h0 h1
  exact ⟨t.val, q⟩
theorem high_bit {h m t : Nat} (hm : m ≤ 5) (h1 : h < 2 ^ m) (ht : t < 5) (hb : bitOn h t = true) : t < m := by
  have key : ∀ (a : _root_.Fin 32) (b : _root_.Fin 6) (t : _root_.Fin 5), a.val < 2 ^ b.val → bitOn a.val t.val = true → t.val < b.val := by decide +kernel
  have := pow32 hm
  exact key ⟨h, by omega⟩ ⟨m, by omega⟩ ⟨t, ht⟩ h1 hb
def lows (ns : List Int) (h m : Nat) : List Int := ((List.range m).filter (bitOn h)).map fun t => ns.getD (out h t) 0
theorem lows_succ (ns : List Int) (h i : Nat) : lows ns h (i + 1) = lows ns h i ++ if bitOn h i = true then [ns.getD (out h i) 0] else [] := by
  unfold lows
  rw [List.range_succ, List.filter_append, List.map_append]
  congr 1
  cases e : bitOn h i <;> simp [List.filter, e]
theorem lows_len (ns : List Int) (h m : Nat) : (lows ns h m).length ≤ m := by
  unfold lows
  rw [List.length_map]
  exact Nat.le_trans (List.length_filter_le _ _) (by simp)
theorem pre_push {ns : List Int} {m : Nat} {v mx : Int} (W : Pre ns) (hm : m ≤ 5) (hl : ns.length < 2 ^ m) (h1 : 1 ≤ ns.length) (hmx : ∀ x ∈ lows ns ns.length m, x ≤ mx) (hv : mx ≤ v) (v0 : 0 ≤ v) (v1 : v ≤ 1000) : Pre (ns ++ [v]) := by
  have hp := pow32 hm
  have gd : ∀ n, n < ns.length → (ns ++ [v]).getD n 0 = ns.getD n 0 := fun n hn => by simp [List.getD_eq_getElem?_getD, List.getElem?_append_left hn]
  have gv : (ns ++ [v]).getD ns.length 0 = v := by simp [List.getD_eq_getElem?_getD]
  refine ⟨by rw [gd 0 (by omega)]; exact W.zero, fun x hx => ?_, fun h t hh ht => ?_⟩
  · rcases List.mem_append.mp hx with z | z
    · exact W.bd x z
    · have : x = v := by simpa using z
      omega
  · rw [List.length_append] at hh
    have hh' : h < ns.length ∨ h = ns.length := by simp at hh; omega
    rcases hh' with hh' | rfl
    · have := out_le h t
      rw [gd _ (by omega), gd _ hh']
      exact W.mono h t hh' ht
    · obtain ⟨_, b2, b3⟩ := bit_on (h := ns.length) (t := t) (by omega) ht
      cases e : bitOn ns.length t with
      | false => rw [b3 e]; exact Int.le_refl _
      | true =>
        obtain ⟨_, lt⟩ := b2 e
        rw [gd _ lt, gv]
        refine Int.le_trans (hmx _ ?_) hv
        unfold lows
        exact List.mem_map.mpr ⟨t, List.mem_filter.mpr ⟨List.mem_range.mpr (high_bit hm hl ht e), e⟩, rfl⟩
def sp_lwant : Sp := fun vs H Q _ => ∃ (p : Addr) (m : Nat), vs = [.ref p, .int (m : Int)] ∧ Box H p ∧ 1 ≤ m ∧ m ≤ 5 ∧ ∀ (t : Addr) (ns : List Int) (H' : Hp), H t = none → Want ns m → Box H' p → SameX p H H' → H' t = some (.tup (ns.map V.int)) → Q (.ref t) H'
def LQ (p c : Addr) (m : Nat) (most : Int) (G : Hp) (i : Nat) (σ : St) (H : Hp) : Prop := ∃ (v4 v5 : Option V) (ns : List Int), σ = [some (.ref p), some (.int (m : Int)), some (.int most), some (.ref c), v4, v5] ∧ ns.length = min (i + 1) (2 ^ m) ∧ Pre ns ∧ Box H p ∧ (∀ b o, b ≠ p → b ≠ c → G b = some o → H b = some o) ∧ H c = some (.lst (ns.map V.int))
def LR (c d : Addr) (ns : List Int) (G : Hp) (i : Nat) (σ : St) (H : Hp) : Prop := ∃ v, σ = [v, some (.ref c), some (.int (ns.length : Int))] ∧ SameX d G H ∧ H d = some (.lst ((lows ns ns.length i).map V.int))
theorem sc__law_want : FnScope ["_law_box_here", "_law_size", "_law_most", "_law_found", "_law_pile", "_law_low"] ["_law_box_here", "_law_size"] (defScope s__law_want) := ⟨rfl, rfl, rfl, by decide +kernel, rfl, by decide +kernel, by decide +kernel⟩
theorem ok_lwant (F : Fun K "_law_want" "_law_want" s__law_want f fd) (hm : mg "_law_want" = some (.ref f)) (hb : Binds K fd ["_law_box_here", "_law_size"] []) (T : Txt mg) (c__law_take : Cal P w K mg base "_law_take" ["_law_box_here", "_law_size"] 1 spTake) : Cal P w K mg base "_law_want" ["_law_box_here", "_law_size"] 2 sp_lwant := by
  refine cal_of F hm hb sc__law_want (fun vs H Q E h => ?_) (fun cdv A outer s H vs Q E hr h => ?_)
  · obtain ⟨_, _, rfl, _⟩ := h; rfl
  · obtain ⟨p, m, rfl, bx, m1, m5, q⟩ := h
    have sc := sc__law_want
    refine ⟨_, pss_cons (ps_set (i := 2) sc.nd rfl (Or.inl rfl) (pe_ix ix0 (pe_lst (pa_cns pe_int (pa_cns pe_int (pa_cns pe_int (pa_cns pe_int (pa_cns pe_int pa_nil)))))) (pe_cal c__law_take hr (pa_cns (pv 0) (pa_cns pe_int pa_nil))) (fun _ _ => rfl)))
      (pss_cons (ps_set (i := 3) sc.nd rfl (Or.inr rfl) (pe_lst (pa_cns pe_int pa_nil)))
      (pss_cons (ps_for PassesOwn.never rfl (pi_range2 rfl T.range_ (pa_cns pe_int (pa_cns (pe_op op_pow pe_int pe_int) pa_nil))) (pg_name (i := 4) sc.nd rfl (Or.inr rfl))
        (pss_one (ps_if (pt_cmpR op_lt (pv 4) (pe_op op_shl pe_int (pv 1)) (nomark _)) (pss_cons (ps_set (i := 5) sc.nd rfl (Or.inl rfl) (pe_callB (max0 rfl) rfl T.max_ bt_max (pa_cns (pe_lc (N := ["_law_t", "_law_found", "_law_pile"]) (fr := [none, some 3, some 4]) rfl (pi_range1 rfl T.range_ (pa_cns (pv 1) pa_nil)) (CScope.of rfl rfl rfl) rfl (fun _ _ _ => ⟨pg_name (i := 0) (show List.Nodup (α := Str) ["_law_t", "_law_found", "_law_pile"] by decide +kernel) rfl (Or.inl rfl), pif_one (pt_cmpR op_eq (pe_op op_and (pe_op op_shr (pv 2) (pv 0)) pe_int) pe_int (nomark _)), pe_ix ix0 (pv 1) (pe_op op_sub (pv 2) (pe_op op_shl pe_int (pv 0))) (fun _ _ => rfl)⟩)) pa_nil)))
      (pss_one (ps_expr (pe_append (pv 3) (pa_cns (pe_callB (call_min2 rfl) rfl T.min_ bt_min (pa_cns pe_int (pa_cns (pe_op op_add (pv 5) (pe_op op_mul (pe_cal c__law_take hr (pa_cns (pv 0) (pa_cns (pv 2) pa_nil))) (pe_callTy call_int1 rfl T.int_ bt_int (pa_cns (pe_cmpR op_gt (pe_cal c__law_take hr (pa_cns (pv 0) (pa_cns pe_int pa_nil))) pe_int (nomark _)) pa_nil)))) pa_nil))) pa_nil))))) pss_nil)))
      (pss_one (ps_ret (pe_callTy tupA0 rfl T.tuple_ bt_tuple (pa_cns (pv 3) pa_nil)))))), ?_⟩
    rw [show L2.start ["_law_box_here", "_law_size", "_law_most", "_law_found", "_law_pile", "_law_low"] [.ref p, .int (m : Int)] = [some (.ref p), some (.int (m : Int)), none, none, none, none] from rfl]
    have hp := pow32 m5
    (walk_at "rd")
    refine ⟨by decide, fun d0 nd0 => ?_⟩
    have n0 := bx.ne nd0
    refine ⟨p, 5, rfl, bx.upd n0, by decide, by decide, fun r H1 r0 r1 bx1 bt1 => ?_⟩
    have hd1 : H1 d0 = some (.lst [.int 2, .int 4, .int 10, .int 31, .int 201]) := by rw [bt1 d0 n0.symm]; exact upd_same
    have hsd := sq_lst hd1
    have s1 : SameX p H H1 := (same_upd nd0).x.trans bt1.x
    obtain ⟨most, hat, mo0, mo1⟩ : ∃ most : Int, atI [V.int 2, V.int 4, V.int 10, V.int 31, V.int 201] r = some (.int most) ∧ 0 < most ∧ most ≤ 1001 := by
      have h4 : r = 0 ∨ r = 1 ∨ r = 2 ∨ r = 3 ∨ r = 4 := by omega
      rcases h4 with rfl | rfl | rfl | rfl | rfl
      · exact ⟨2, rfl, by decide, by decide⟩
      · exact ⟨4, rfl, by decide, by decide⟩
      · exact ⟨10, rfl, by decide, by decide⟩
      · exact ⟨31, rfl, by decide, by decide⟩
      · exact ⟨201, rfl, by decide, by decide⟩
    (wrow_has hsd hat)
    refine ⟨by decide, fun c nc => ?_⟩
    have ncp := bx1.ne nc
    refine ⟨⟨by decide, by decide, by decide⟩, by decide, by decide, by decide, by decide, ?_⟩
    refine fl_range (LQ p c m most H1) ⟨none, none, [0], rfl, by simp; omega, ⟨rfl, fun x hx => ?_, fun h t hh ht => ?_⟩, bx1.upd ncp, fun b o _ n e => by rw [upd_ne n]; exact e, by rw [upd_same]; rfl⟩ ?_ ?_
    · have : x = 0 := by simpa using hx
      omega
    · have h0 : h = 0 := by simpa using hh
      subst h0
      have := out_le 0 t
      rw [show out 0 t = 0 by omega]
      exact Int.le_refl _
    · rintro i σ H2 hi ⟨v4, v5, ns, rfl, hlen, W, bx2, k2, e2⟩
      have hi31 : i < 31 := by simpa using hi
      (walk_at "rd")
      have hpow : (1 : Int) * 2 ^ (m : Int).toNat = ((2 ^ m : Nat) : Int) := by rw [Int.one_mul, Int.toNat_natCast]; norm_cast
      refine ⟨⟨by omega, by omega, by decide⟩, ?_⟩
      rw [hpow]
      by_cases hlt : i + 1 < 2 ^ m
      · rw [if_pos (by omega)]
        have hl : ns.length = i + 1 := by omega
        have hI : (1 : Int) + (i : Int) = (ns.length : Int) := by omega
        rw [hI]
        (walk_at "rd")
        refine ⟨by omega, by omega, fun d nd => ?_⟩
        have ncd : c ≠ d := ne_of_none e2 nd
        have npd := bx2.ne nd
        refine cl_range (LR c d ns H2) ⟨none, rfl, SameX.upd, by rw [upd_same]; rfl⟩ ?_ ?_
        · rintro j σ H3 hj ⟨v, rfl, s3, e3⟩
          rw [Int.toNat_natCast] at hj
          have hsc := sq_lst (s3 _ _ ncd e2)
          obtain ⟨b1, b2, b3⟩ := bit_on (h := ns.length) (t := j) (by omega) (by omega)
          (walk_at "rd")
          refine ⟨by omega, ?_⟩
          have ll := lows_len ns ns.length j
          by_cases hb : bitOn ns.length j = true
          · have hc1 : Builtin.bitAnd ((ns.length : Int) / 2 ^ (j : Int).toNat) 1 = 1 := by rw [hb] at b1; simpa using b1
            rw [if_pos (by simpa using hc1)]
            obtain ⟨b4, b5⟩ := b2 hb
            have hat2 := at_int (ns := ns) (n := out ns.length j) b5
            rw [← b4] at hat2
            refine ⟨⟨by omega, by omega, by decide⟩, ?_⟩
            (try simp only [a_tPop0, a_tCalK, g3r_is, g2r_is, g2_is, g1_is, a_tSeqL, a_tChain, a_tDict, a_tLstA, a_rMulT, a_rEqT, a_tLC2, a_tLC3, a_tInner, a_tIns, a_tRev, a_rSlA, a_rCatA, a_rCatL, a_tSeq, a_tFor, a_rIxL, a_iZip, a_tSortR, a_tSl, a_rSlL0, a_tNoPart, a_tPart, a_tApp, a_tRet, a_tRetN, a_tNext, a_tDrop, a_tAsg, a_gSub, a_gName, a_gNil, a_gCons, a_gTup0, a_rSetL, a_tIfS, a_tAnd, a_tOr, a_tNot, a_tTest, a_tB, a_tTrue, a_tIf, a_tAndV, a_tOrV, a_tNotV, a_tOp, a_tUn, a_rU, a_tVar, a_tC, a_rI0, a_rI, a_rEq, a_rNe, a_rIx0, a_rIn0, a_tCB, a_tCal, a_tCons, a_tNil, a_tTupA, a_tLst, a_tPar, a_tBits, a_tLC, a_iRng1, a_iRng2, a_iT0, a_iL0, a_tEmit, frS, scal, V.ty.injEq, tyN, subN, String.reduceEq, String.reduceBEq, Bool.true_or, Bool.false_or, Bool.or_false, Bool.true_and, Bool.false_and, Bool.and_false, or_true, true_or, beq_self_eq_true, decide_true, decide_false, List.map_cons, List.map_nil, List.length_cons, List.length_nil, List.getElem?_cons_zero, List.getElem?_cons_succ, List.getElem?_nil, List.set_cons_zero, List.set_cons_succ, Option.some.injEq, Option.bind_some, Option.bind_none, id, exists_eq_left', exists_eq_left, exists_and_left, exists_eq_right, V.int.injEq, V.bl.injEq, V.ref.injEq, List.cons.injEq, and_true, true_and, and_assoc, exists_const, atI0, atI1, atI2, ixN30, ixN31, ixN32, upd_same, upd_upd, sq_updL, sq_updT, Nat.zero_add, Nat.reduceAdd, reduceCtorEq, false_and, and_false, exists_false, false_or, or_false, List.length_map, HO.lst.injEq, HO.tup.injEq, Bool.false_eq_true, if_false, if_true, decide_eq_true_eq, ite_true, ite_false, reduceIte, Int.reduceLT, Int.reduceLE, Nat.reduceLT, Int.zero_add, Bool.not_true, Bool.not_false, hsc, hat2, e3])
            refine ⟨small1000 (by omega), ⟨_, rfl, s3.trans SameX.upd, ?_⟩⟩
            rw [upd_same, lows_succ, if_pos hb]
            simp
          · have hc1 : ¬ Builtin.bitAnd ((ns.length : Int) / 2 ^ (j : Int).toNat) 1 = 1 := by
              have : bitOn ns.length j = false := by simpa using hb
              rw [this] at b1
              simpa using b1
            rw [if_neg (by simpa using hc1)]
            refine ⟨_, rfl, s3, ?_⟩
            rw [e3, lows_succ, if_neg hb, List.append_nil]
        · rintro σ H3 ⟨v, rfl, s3, e3⟩
          rw [Int.toNat_natCast] at e3
          have hne : lows ns ns.length m ≠ [] := by
            obtain ⟨t, t1, t2⟩ := some_bit (h := ns.length) (m := m) (by omega) m5 (by omega)
            intro z
            have : ns.getD (out ns.length t) 0 ∈ lows ns ns.length m := by
              unfold lows
              exact List.mem_map.mpr ⟨t, List.mem_filter.mpr ⟨List.mem_range.mpr t1, t2⟩, rfl⟩
            rw [z] at this
            cases this
          refine ⟨_, sq_lst e3, hne, fun mx hm1 hm2 => ?_⟩
          have mxb : 0 ≤ mx ∧ mx ≤ 1000 := by
            unfold lows at hm1
            obtain ⟨t, ht, rfl⟩ := List.mem_map.mp hm1
            obtain ⟨_, b2, _⟩ := bit_on (h := ns.length) (t := t) (by omega) (by have := List.mem_range.mp (List.mem_filter.mp ht).1; omega)
            obtain ⟨_, lt⟩ := b2 (List.mem_filter.mp ht).2
            have := W.bd ns[out ns.length t] (List.getElem_mem lt)
            simpa [List.getD_eq_getElem?_getD, lt] using this
          (walk_at "rd")
          have e3c := s3 _ _ ncd e2
          have bx3 : Box H3 p := by obtain ⟨g, m', z, e⟩ := bx2; exact ⟨g, m', z, s3 _ _ npd e⟩
          refine ⟨_, e3c, ?_⟩
          (walk_at "rd")
          refine ⟨p, most, rfl, bx3, mo0, by omega, fun ra H4 ra0 ra1 bx4 bt4 => ?_⟩
          (walk_at "rd")
          refine ⟨p, 3, rfl, bx4, by decide, by decide, fun rb H5 rb0 rb1 bx5 bt5 => ?_⟩
          (walk_at "rd")
          have e5 : H5 c = some (.lst (ns.map V.int)) := by rw [bt5 c ncp.symm, bt4 c ncp.symm]; exact e3c
          refine ⟨.inr (by split <;> exact ⟨by decide, by decide⟩), ?_⟩
          have k5 : ∀ b o, b ≠ p → b ≠ c → H1 b = some o → H5 b = some o := fun b o n1 n2 e => by
            rw [bt5 b n1, bt4 b n1]
            have z := k2 b o n1 n2 e
            exact s3 _ _ (ne_of_none z nd) z
          have fin : ∀ v : Int, mx ≤ v → v ≤ 1000 → LQ p c m most H1 (i + 1) [some (.ref p), some (.int (m : Int)), some (.int most), some (.ref c), some (.int (ns.length : Int)), some (.int mx)] (L2.upd H5 c (.lst (ns.map V.int ++ [.int v]))) := fun v hv hv1 =>
            ⟨_, _, ns ++ [v], rfl, by rw [List.length_append, List.length_singleton]; omega, pre_push W m5 (by omega) (by omega) hm2 hv (by omega) hv1, bx5.upd ncp, fun b o n1 n2 e => by rw [upd_ne n2]; exact k5 b o n1 n2 e, by rw [upd_same]; simp⟩
          refine ⟨_, e5, small1000 (by rw [List.length_map]; omega), fin _ ?_ ?_⟩
          · have hm0 : 0 ≤ ra * (if 0 < rb then 1 else 0) := Int.mul_nonneg ra0 (by split <;> decide)
            split <;> omega
          · split <;> omega
      · rw [if_neg (by omega)]
        exact ⟨_, _, ns, rfl, by omega, W, bx2, k2, e2⟩
    · rintro σ H2 ⟨v4, v5, ns, rfl, hlen, W, bx2, k2, e2⟩
      have h32 : ns.length = 2 ^ m := by rw [hlen]; simp; omega
      (walk_at "rd")
      refine ⟨_, e2, fun l H3 nl s3 e3 => ?_⟩
      refine q l ns H3 ?_ ⟨h32, W.zero, W.bd, fun h t hh ht => W.mono h t (by omega) ht⟩ (bx2.same s3) ?_ e3
      · cases e : H l with
        | none => rfl
        | some o =>
          have nlp : l ≠ p := (bx2.ne nl).symm
          have e1 := s1 _ _ nlp e
          rw [k2 l o nlp (ne_of_none e1 nc) e1] at nl
          cases nl
      · intro b o n e
        have e1 := s1 _ _ n e
        exact s3 _ _ (k2 b o n (ne_of_none e1 nc) e1)
theorem things_bit {h t : Nat} (hh : h < 32) : ((t : Int) ∈ thingsI (h : Int)) ↔ (t < 5 ∧ bitOn h t = true) := by
  unfold thingsI
  constructor
  · intro z
    obtain ⟨n, hn, e⟩ := List.mem_map.mp z
    have e' : n = t := Int.ofNat_inj.mp e
    subst e'
    obtain ⟨h1, h2⟩ := List.mem_filter.mp hn
    have ht := List.mem_range.mp h1
    refine ⟨ht, ?_⟩
    have := (bit_on hh ht).1
    unfold hasI at h2
    rw [← this]
    exact h2
  · rintro ⟨ht, hb⟩
    refine List.mem_map.mpr ⟨t, List.mem_filter.mpr ⟨List.mem_range.mpr ht, ?_⟩, rfl⟩
    have := (bit_on hh ht).1
    unfold hasI
    rw [hb] at this
    exact this
theorem noSink_iff {ns : List Int} (hl : ns.length ≤ 32) : noSink ns = true ↔ ∀ h t, h < ns.length → t < 5 → bitOn h t = true → ns.getD (out h t) 0 ≤ ns.getD h 0 := by
  unfold noSink
  rw [List.all_eq_true]
  constructor
  · intro z h t hh ht hb
    have hm : decide (ns.getD (out h t) 0 ≤ ns.getD h 0) ∈ (List.range ns.length).flatMap (sinkRow ns) := by
      refine List.mem_flatMap.mpr ⟨h, List.mem_range.mpr hh, ?_⟩
      unfold sinkRow
      exact List.mem_map.mpr ⟨(t : Int), (things_bit (by omega)).mpr ⟨ht, hb⟩, by simp⟩
    simpa using z _ hm
  · intro z b hb
    obtain ⟨h, hh, hb⟩ := List.mem_flatMap.mp hb
    unfold sinkRow at hb
    obtain ⟨t, ht, rfl⟩ := List.mem_map.mp hb
    obtain ⟨t0, t5⟩ := thingsI_bd _ t ht
    obtain ⟨n, rfl⟩ := Int.eq_ofNat_of_zero_le t0
    have hh' := List.mem_range.mp hh
    obtain ⟨n5, hb⟩ := (things_bit (by omega)).mp ht
    simpa using z h n hh' n5 hb
theorem isWant_ints (ns : List Int) (m : Nat) : isWant (ns.map V.int) m = (decide (ns.length = 2 ^ m) && ns.all (fun n => decide (0 ≤ n)) && (decide (ns.getD 0 0 = 0) && noSink ns)) := by
  unfold isWant
  rw [intV_map, List.length_map, List.all_map]
  rfl
theorem isWant_of {ns : List Int} {m : Nat} (m5 : m ≤ 5) (hl : ns.length = 2 ^ m) (h0 : ns.getD 0 0 = 0) (hn : ∀ x ∈ ns, 0 ≤ x) (hs : ∀ h t, h < 2 ^ m → t < 5 → ns.getD (out h t) 0 ≤ ns.getD h 0) : isWant (ns.map V.int) m = true := by
  have hp := pow32 m5
  rw [isWant_ints, decide_eq_true hl, decide_eq_true h0, Bool.true_and, Bool.true_and, Bool.and_eq_true]
  exact ⟨List.all_eq_true.mpr fun x hx => decide_eq_true (hn x hx), (noSink_iff (by omega)).mpr fun h t hh ht _ => hs h t (by omega) ht⟩
theorem never_below {ns : List Int} (hl : ns.length ≤ 32) (h0 : ns.getD 0 0 = 0) (hs : ∀ h t, h < ns.length → t < 5 → bitOn h t = true → ns.getD (out h t) 0 ≤ ns.getD h 0) : ∀ h, h < ns.length → 0 ≤ ns.getD h 0 := by
  intro h
  induction h using Nat.strongRecOn with
  | ind h ih =>
    intro hh
    by_cases hz : h = 0
    · subst hz; omega
    · obtain ⟨t, t1, t2⟩ := some_bit (h := h) (m := 5) (by omega) (Nat.le_refl _) (by omega)
      have lt := ((bit_on (h := h) (t := t) (by omega) t1).2.1 t2).2
      have := ih _ lt (by omega)
      have := hs h t hh t1 t2
      omega
theorem sc__law_whole : FnScope ["_law_item"] ["_law_item"] (defScope s__law_whole) := ⟨rfl, rfl, rfl, by decide +kernel, rfl, by decide +kernel, by decide +kernel⟩
theorem ok_lwhole (F : Fun K "_law_whole" "_law_whole" s__law_whole f fd) (hm : mg "_law_whole" = some (.ref f)) (hb : Binds K fd ["_law_item"] []) (T : Txt mg) : Cal P w K mg base "_law_whole" ["_law_item"] 1 sp_whole := by
  refine cal_of F hm hb sc__law_whole (fun vs H Q E h => ?_) (fun cdv A outer s H vs Q E hr h => ?_)
  · obtain ⟨_, _, rfl, _⟩ := h; rfl
  · obtain ⟨x, t, rfl, hx, q⟩ := h
    have sc := sc__law_whole
    refine ⟨_, pss_one (ps_ret (pe_and (pe_callB isi0 rfl T.isinstance_ bt_isinstance (pa_cns (pv 0) (pa_cns (pe_bltn (v := .ty "int") rfl T.int_ bt_int rfl) pa_nil))) (pe_one (pe_not (pe_callB isi0 rfl T.isinstance_ bt_isinstance (pa_cns (pv 0) (pa_cns (pe_bltn (v := .ty "bool") rfl T.bool_ bt_bool rfl) pa_nil))))))), ?_⟩
    rw [show L2.start ["_law_item"] [x] = [some (x)] from rfl]
    rw [← tyN_isI hx] at q
    (walk_at "rd")
    refine ⟨_, hx, ?_⟩
    obtain ⟨_, ht⟩ := tyN_of (K := K) hx
    rcases ht with rfl | rfl | rfl | rfl | rfl | rfl | rfl
    all_goals first
      | (rw [if_neg (by decide)]; simpa using q)
      | (rw [if_pos (by decide)]; refine ⟨_, hx, ?_⟩; simpa using q)
def LA (c : Addr) (xs : List V) (G : Hp) (i : Nat) (σ : St) (H : Hp) : Prop := ∃ v, σ = [v] ∧ SameX c G H ∧ H c = some (.lst (((xs.take i).map fun x => !isI x).map V.bl))
def fineTo (ns : List Int) (h : Nat) : Prop := ∀ h', h' < h → ∀ t, t < 5 → bitOn h' t = true → ns.getD (out h' t) 0 ≤ ns.getD h' 0
def LB (a : Addr) (m : Nat) (ns : List Int) (G : Hp) (h : Nat) (σ : St) (H : Hp) : Prop := ∃ v2 v3, σ = [some (.ref a), some (.int (m : Int)), v2, v3] ∧ H = G ∧ fineTo ns h
def LC' (a : Addr) (m : Nat) (ns : List Int) (h : Nat) (G : Hp) (i : Nat) (σ : St) (H : Hp) : Prop := ∃ v3, σ = [some (.ref a), some (.int (m : Int)), some (.int (h : Int)), v3] ∧ H = G ∧ ∀ t, t < i → bitOn h t = true → ns.getD (out h t) 0 ≤ ns.getD h 0
theorem sc__law_is_want : FnScope ["_law_item", "_law_size", "_law_pile", "_law_t"] ["_law_item", "_law_size"] (defScope s__law_is_want) := ⟨rfl, rfl, rfl, by decide +kernel, rfl, by decide +kernel, by decide +kernel⟩
theorem ok_lisw (F : Fun K "_law_is_want" "_law_is_want" s__law_is_want f fd) (hm : mg "_law_is_want" = some (.ref f)) (hb : Binds K fd ["_law_item", "_law_size"] []) (T : Txt mg) (c__law_whole : Cal P w K mg base "_law_whole" ["_law_item"] 1 sp_whole) : Cal P w K mg base "_law_is_want" ["_law_item", "_law_size"] 2 sp_want := by
  refine cal_of F hm hb sc__law_is_want (fun vs H Q E h => ?_) (fun cdv A outer s H vs Q E hr h => ?_)
  · rcases h with h | h
    · obtain ⟨_, _, _, rfl, _⟩ := h; rfl
    · obtain ⟨_, _, _, rfl, _⟩ := h; rfl
  · rcases h with h | h
    · obtain ⟨x, m, t, rfl, m5, hx, ht, q⟩ := h
      have sc := sc__law_is_want
      refine ⟨_, pss_cons (ps_if (PW.pt (pw_or (pt_not (pt_val (pe_callB isi0 rfl T.isinstance_ bt_isinstance (pa_cns (pv 0) (pa_cns (pe_bltn (v := .ty "tuple") rfl T.tuple_ bt_tuple rfl) pa_nil))))) (pw_or (pt_cmpR op_ne (pe_callB len0 rfl T.len_ bt_len (pa_cns (pv 0) pa_nil)) (pe_op op_shl pe_int (pv 1)) (nomark _)) (pw_or1 (pt_val (pe_callB (any0 rfl) rfl T.any_ bt_any (pa_cns (pe_lc (N := ["_law_worth"]) (fr := [none]) rfl (pi_t0 (pv 0)) (CScope.of rfl rfl rfl) rfl (fun _ _ _ => ⟨pg_name (i := 0) (show List.Nodup (α := Str) ["_law_worth"] by decide +kernel) rfl (Or.inl rfl), pif_nil, pe_not (pe_cal c__law_whole hr (pa_cns (pv 0) pa_nil))⟩)) pa_nil))))))) (pss_one (ps_ret pe_bl)) pss_nil)
      (pss_cons (ps_for PassesOwn.never rfl (pi_range1 rfl T.range_ (pa_cns (pe_op op_shl pe_int (pv 1)) pa_nil)) (pg_name (i := 2) sc.nd rfl (Or.inl rfl))
        (pss_one (ps_for PassesOwn.never rfl (pi_range1 rfl T.range_ (pa_cns (pv 1) pa_nil)) (pg_name (i := 3) sc.nd rfl (Or.inl rfl))
        (pss_one (ps_if (PW.pt (pw_and (pt_cmpR op_eq (pe_op op_and (pe_op op_shr (pv 2) (pv 3)) pe_int) pe_int (nomark _)) (pw_and1 (pt_cmpR op_lt (pe_ix ix0 (pv 0) (pv 2) (fun _ _ => rfl)) (pe_ix ix0 (pv 0) (pe_op op_sub (pv 2) (pe_op op_shl pe_int (pv 3))) (fun _ _ => rfl)) (nomark _))))) (pss_one (ps_ret pe_bl)) pss_nil)))))
      (pss_one (ps_ret (pe_cmpR op_eq (pe_ix ix0 (pv 0) pe_int (fun _ _ => rfl)) pe_int (nomark _))))), ?_⟩
      rw [show L2.start ["_law_item", "_law_size", "_law_pile", "_law_t"] [x, .int (m : Int)] = [some (x), some (.int (m : Int)), none, none] from rfl]
      (walk_at "rd")
      refine ⟨_, hx, ?_⟩
      (walk_at "rd")
      rw [if_pos (by rw [ht]; decide)]
      exact q
    · obtain ⟨a, m, xs, rfl, m5, ha, hk, hlen, q⟩ := h
      have sc := sc__law_is_want
      refine ⟨_, pss_cons (ps_if (PW.pt (pw_or (pt_not (pt_val (pe_callB isi0 rfl T.isinstance_ bt_isinstance (pa_cns (pv 0) (pa_cns (pe_bltn (v := .ty "tuple") rfl T.tuple_ bt_tuple rfl) pa_nil))))) (pw_or (pt_cmpR op_ne (pe_callB len0 rfl T.len_ bt_len (pa_cns (pv 0) pa_nil)) (pe_op op_shl pe_int (pv 1)) (nomark _)) (pw_or1 (pt_val (pe_callB (any0 rfl) rfl T.any_ bt_any (pa_cns (pe_lc (N := ["_law_worth"]) (fr := [none]) rfl (pi_t0 (pv 0)) (CScope.of rfl rfl rfl) rfl (fun _ _ _ => ⟨pg_name (i := 0) (show List.Nodup (α := Str) ["_law_worth"] by decide +kernel) rfl (Or.inl rfl), pif_nil, pe_not (pe_cal c__law_whole hr (pa_cns (pv 0) pa_nil))⟩)) pa_nil))))))) (pss_one (ps_ret pe_bl)) pss_nil)
      (pss_cons (ps_for PassesOwn.never rfl (pi_range1 rfl T.range_ (pa_cns (pe_op op_shl pe_int (pv 1)) pa_nil)) (pg_name (i := 2) sc.nd rfl (Or.inl rfl))
        (pss_one (ps_for PassesOwn.never rfl (pi_range1 rfl T.range_ (pa_cns (pv 1) pa_nil)) (pg_name (i := 3) sc.nd rfl (Or.inl rfl))
        (pss_one (ps_if (PW.pt (pw_and (pt_cmpR op_eq (pe_op op_and (pe_op op_shr (pv 2) (pv 3)) pe_int) pe_int (nomark _)) (pw_and1 (pt_cmpR op_lt (pe_ix ix0 (pv 0) (pv 2) (fun _ _ => rfl)) (pe_ix ix0 (pv 0) (pe_op op_sub (pv 2) (pe_op op_shl pe_int (pv 3))) (fun _ _ => rfl)) (nomark _))))) (pss_one (ps_ret pe_bl)) pss_nil)))))
      (pss_one (ps_ret (pe_cmpR op_eq (pe_ix ix0 (pv 0) pe_int (fun _ _ => rfl)) pe_int (nomark _))))), ?_⟩
      rw [show L2.start ["_law_item", "_law_size", "_law_pile", "_law_t"] [.ref a, .int (m : Int)] = [some (.ref a), some (.int (m : Int)), none, none] from rfl]
      have hp := pow32 m5
      have hsa := sq_tup ha
      have hpow : (1 : Int) * 2 ^ (m : Int).toNat = ((2 ^ m : Nat) : Int) := by rw [Int.one_mul, Int.toNat_natCast]; norm_cast
      (wrow_has ha hsa)
      refine ⟨⟨by omega, by omega, by decide⟩, ?_⟩
      rw [hpow]
      by_cases hl : xs.length = 2 ^ m
      · rw [if_neg (by simp [hl])]
        intro c nc
        have nac : a ≠ c := ne_of_none ha nc
        refine cl_seq (LA c xs H) ⟨none, rfl, SameX.upd, upd_same⟩ (fun j σ H' _ ⟨_, _, s, _⟩ => s _ _ nac ha) ?_ ?_
        · rintro i x σ H1 hx ⟨v, rfl, s1, e1⟩
          obtain ⟨t, ht⟩ := hk x (List.mem_of_getElem? hx)
          have ht1 := tyN_same (s1.same nc) ht
          have hi : i < xs.length := (List.getElem?_eq_some_iff.mp hx).1
          (w_cond e1)
          refine ⟨_, _, rfl, ht1, ?_⟩
          (walk_at "rd")
          refine ⟨_, e1, small1000 (by rw [List.length_map, List.length_map, List.length_take]; omega), ⟨_, rfl, s1.trans SameX.upd, ?_⟩⟩
          rw [upd_same, List.take_add_one, hx]
          simp
        · rintro σ H1 ⟨v, rfl, s1, e1⟩
          rw [List.take_length] at e1
          have sm1 := s1.same nc
          refine ⟨_, sq_lst e1, ?_⟩
          cases hI : xs.all isI with
          | false =>
            have e2 : (xs.map fun x => !isI x).any id = true := by
              rw [List.any_map]
              obtain ⟨x, hx, hn⟩ := List.all_eq_false.mp hI
              exact List.any_eq_true.mpr ⟨x, hx, by simpa using hn⟩
            have e3 : isWant xs m = false := by
              unfold isWant
              cases e4 : xs.all (isFrom 0) with
              | false => simp
              | true => rw [allF_I e4] at hI; cases hI
            rw [e2, if_pos rfl]
            rw [e3] at q
            exact q H1 sm1
          | true =>
            have e2 : (xs.map fun x => !isI x).any id = false := by
              rw [List.any_map, List.any_eq_false]
              intro x hx
              have := List.all_eq_true.mp hI x hx
              simp [this]
            rw [e2]
            obtain ⟨ns, rfl⟩ := allI_ints hI
            rw [List.length_map] at hl
            rw [isWant_ints, decide_eq_true hl, Bool.true_and] at q
            have hsa1 := sq_tup (sm1 _ _ ha)
            (walk_at "rd")
            refine ⟨⟨by omega, by omega, by decide⟩, ?_⟩
            refine ⟨Int.le_trans (by decide) (Int.natCast_nonneg _), Int.lt_of_le_of_lt (Int.ofNat_le.mpr hp.1) (by decide), fl_range (LB a m ns H1) ⟨_, _, rfl, rfl, fun h' z => absurd z (by omega)⟩ ?_ ?_⟩
            · rintro h σ H2 hh ⟨v2, v3, rfl, rfl, fine⟩
              rw [Int.toNat_natCast] at hh
              (walk_at "rd")
              refine ⟨by omega, by omega, fl_range (LC' a m ns h H2) ⟨_, rfl, rfl, fun t z => absurd z (by omega)⟩ ?_ ?_⟩
              · rintro t σ H3 ht ⟨v3', rfl, rfl, fine2⟩
                rw [Int.toNat_natCast] at ht
                obtain ⟨b1, b2, b3⟩ := bit_on (h := h) (t := t) (by omega) (by omega)
                (walk_at "rd")
                refine ⟨by omega, ?_⟩
                cases hb : bitOn h t with
                | false =>
                  have hc1 : ¬ Builtin.bitAnd ((h : Int) / 2 ^ (t : Int).toNat) 1 = 1 := by rw [hb] at b1; simpa using b1
                  rw [if_neg (by simpa using hc1)]
                  refine ⟨_, rfl, rfl, fun t' ht' hb' => ?_⟩
                  rcases Nat.lt_succ_iff_lt_or_eq.mp ht' with z | rfl
                  · exact fine2 t' z hb'
                  · rw [hb] at hb'; cases hb'
                | true =>
                  have hc1 : Builtin.bitAnd ((h : Int) / 2 ^ (t : Int).toNat) 1 = 1 := by rw [hb] at b1; simpa using b1
                  rw [if_pos (by simpa using hc1)]
                  obtain ⟨b4, b5⟩ := b2 hb
                  have hat1 := at_int (ns := ns) (n := h) (by omega)
                  have hat2 := at_int (ns := ns) (n := out h t) (by omega)
                  rw [← b4] at hat2
                  (wrow_has hsa1 hat1)
                  refine ⟨⟨by omega, by omega, by decide⟩, _, hat2, ?_⟩
                  by_cases hlt : ns.getD h 0 < ns.getD (out h t) 0
                  · (walk_at "rd")
                    rw [if_pos hlt]
                    have : noSink ns = false := by
                      cases e : noSink ns with
                      | false => rfl
                      | true =>
                        have := (noSink_iff (by omega)).mp e h t (by omega) (by omega) hb
                        omega
                    rw [this, Bool.and_false, Bool.and_false] at q
                    exact q _ sm1
                  · (walk_at "rd")
                    rw [if_neg hlt]
                    refine ⟨_, rfl, rfl, fun t' ht' hb' => ?_⟩
                    rcases Nat.lt_succ_iff_lt_or_eq.mp ht' with z | rfl
                    · exact fine2 t' z hb'
                    · omega
              · rintro σ H3 ⟨v3', rfl, rfl, fine2⟩
                rw [Int.toNat_natCast] at fine2
                refine ⟨_, _, rfl, rfl, fun h' hh' t ht hb => ?_⟩
                rcases Nat.lt_succ_iff_lt_or_eq.mp hh' with z | rfl
                · exact fine h' z t ht hb
                · exact fine2 t (high_bit m5 hh ht hb) hb
            · rintro σ H2 ⟨v2, v3, rfl, rfl, fine⟩
              rw [Int.toNat_natCast, ← hl] at fine
              have ns1 : noSink ns = true := (noSink_iff (by omega)).mpr fun h t hh ht hb => fine h hh t ht hb
              have hat0 := at_int (ns := ns) (n := 0) (by omega)
              rw [Int.natCast_zero] at hat0
              rw [ns1, Bool.and_true] at q
              (wrow_has hsa1 hat0)
              have e : (ns.all (fun n => decide (0 ≤ n)) && decide (ns.getD 0 0 = 0)) = decide (ns.getD 0 0 = 0) := by
                by_cases hz : ns.getD 0 0 = 0
                · rw [decide_eq_true hz, Bool.and_true, List.all_eq_true]
                  intro x hx
                  obtain ⟨i, hi, rfl⟩ := List.mem_iff_getElem.mp hx
                  have := never_below (by omega) hz (fun h t hh ht hb => fine h hh t ht hb) i hi
                  simpa [List.getD_eq_getElem?_getD, hi] using this
                · rw [decide_eq_false hz, Bool.and_false]
              rw [e] at q
              exact q _ sm1
      · rw [if_pos (by rw [Bool.not_eq_true', decide_eq_false_iff_not]; intro z; exact hl (Int.ofNat_inj.mp z))]
        have e : isWant xs m = false := by
          unfold isWant
          rw [decide_eq_false hl]
          simp
        rw [e] at q
        exact q H (Same.refl H)
end
end K06
end
section
set_option Elab.async false
set_option linter.all false
set_option maxRecDepth 100000
set_option maxHeartbeats 8000000
namespace K06
open PySem L2
local macro_rules | `(tactic| w_cond $a:ident) => `(tactic| (try simp only [a_tPop0, a_tCalK, g3r_is, g2r_is, g2_is, g1_is, a_tSeqL, a_tChain, a_tDict, a_tLstA, a_rMulT, a_rEqT, a_tLC2, a_tLC3, a_tInner, a_tIns, a_tRev, a_rSlA, a_rCatA, a_rCatL, a_tSeq, a_tFor, a_rIxL, a_iZip, a_tSortR, a_tSl, a_rSlL0, a_tNoPart, a_tPart, a_tApp, a_tRet, a_tRetN, a_tNext, a_tDrop, a_tAsg, a_gSub, a_gName, a_gNil, a_gCons, a_gTup0, a_rSetL, a_tIfS, a_tAnd, a_tOr, a_tNot, a_tTest, a_tB, a_tTrue, a_tIf, a_tAndV, a_tOrV, a_tNotV, a_tOp, a_tUn, a_rU, a_tVar, a_tC, a_rI0, a_rI, a_rEq, a_rNe, a_rIx0, a_rIn0, a_tCB, a_tCal, a_tCons, a_tNil, a_tTupA, a_tLst, a_tPar, a_tBits, a_tLC, a_iRng1, a_iRng2, a_iT0, a_iL0, a_tEmit, frS, scal, V.ty.injEq, tyN, subN, String.reduceEq, String.reduceBEq, Bool.true_or, Bool.false_or, Bool.or_false, Bool.true_and, Bool.false_and, Bool.and_false, or_true, true_or, beq_self_eq_true, decide_true, decide_false, List.map_cons, List.map_nil, List.length_cons, List.length_nil, List.getElem?_cons_zero, List.getElem?_cons_succ, List.getElem?_nil, List.set_cons_zero, List.set_cons_succ, Option.some.injEq, Option.bind_some, Option.bind_none, id, exists_eq_left', exists_eq_left, exists_and_left, exists_eq_right, V.int.injEq, V.bl.injEq, V.ref.injEq, List.cons.injEq, and_true, true_and, and_assoc, exists_const, atI0, atI1, atI2, ixN30, ixN31, ixN32, upd_same, upd_upd, sq_updL, sq_updT, Nat.zero_add, Nat.reduceAdd, reduceCtorEq, false_and, and_false, exists_false, false_or, or_false, List.length_map, HO.lst.injEq, HO.tup.injEq, Bool.false_eq_true, if_false, if_true, decide_eq_true_eq, ite_true, ite_false, reduceIte, Int.reduceLT, Int.reduceLE, Nat.reduceLT, Int.zero_add, Bool.not_true, Bool.not_false, $a:ident]))
local macro_rules | `(tactic| wrow_has $a:ident $b:ident) => `(tactic| (try simp only [a_tPop0, a_tCalK, g3r_is, g2r_is, g2_is, g1_is, a_tSeqL, a_tChain, a_tDict, a_tLstA, a_rMulT, a_rEqT, a_tLC2, a_tLC3, a_tInner, a_tIns, a_tRev, a_rSlA, a_rCatA, a_rCatL, a_tSeq, a_tFor, a_rIxL, a_iZip, a_tSortR, a_tSl, a_rSlL0, a_tNoPart, a_tPart, a_tApp, a_tRet, a_tRetN, a_tNext, a_tDrop, a_tAsg, a_gSub, a_gName, a_gNil, a_gCons, a_gTup0, a_rSetL, a_tIfS, a_tAnd, a_tOr, a_tNot, a_tTest, a_tB, a_tTrue, a_tIf, a_tAndV, a_tOrV, a_tNotV, a_tOp, a_tUn, a_rU, a_tVar, a_tC, a_rI0, a_rI, a_rEq, a_rNe, a_rIx0, a_rIn0, a_tCB, a_tCal, a_tCons, a_tNil, a_tTupA, a_tLst, a_tPar, a_tBits, a_tLC, a_iRng1, a_iRng2, a_iT0, a_iL0, a_tEmit, frS, scal, V.ty.injEq, tyN, subN, String.reduceEq, String.reduceBEq, Bool.true_or, Bool.false_or, Bool.or_false, Bool.true_and, Bool.false_and, Bool.and_false, or_true, true_or, beq_self_eq_true, decide_true, decide_false, List.map_cons, List.map_nil, List.length_cons, List.length_nil, List.getElem?_cons_zero, List.getElem?_cons_succ, List.getElem?_nil, List.set_cons_zero, List.set_cons_succ, Option.some.injEq, Option.bind_some, Option.bind_none, id, exists_eq_left', exists_eq_left, exists_and_left, exists_eq_right, V.int.injEq, V.bl.injEq, V.ref.injEq, List.cons.injEq, and_true, true_and, and_assoc, exists_const, atI0, atI1, atI2, ixN30, ixN31, ixN32, upd_same, upd_upd, sq_updL, sq_updT, Nat.zero_add, Nat.reduceAdd, reduceCtorEq, false_and, and_false, exists_false, false_or, or_false, List.length_map, HO.lst.injEq, HO.tup.injEq, Bool.false_eq_true, if_false, if_true, decide_eq_true_eq, ite_true, ite_false, reduceIte, Int.reduceLT, Int.reduceLE, Nat.reduceLT, Int.zero_add, Bool.not_true, Bool.not_false, $a:ident, $b:ident]))
local macro_rules | `(tactic| walk_at "rd") => `(tactic| (try simp only [a_tPop0, a_tCalK, g3r_is, g2r_is, g2_is, g1_is, a_tSeqL, a_tChain, a_tDict, a_tLstA, a_rMulT, a_rEqT, a_tLC2, a_tLC3, a_tInner, a_tIns, a_tRev, a_rSlA, a_rCatA, a_rCatL, a_tSeq, a_tFor, a_rIxL, a_iZip, a_tSortR, a_tSl, a_rSlL0, a_tNoPart, a_tPart, a_tApp, a_tRet, a_tRetN, a_tNext, a_tDrop, a_tAsg, a_gSub, a_gName, a_gNil, a_gCons, a_gTup0, a_rSetL, a_tIfS, a_tAnd, a_tOr, a_tNot, a_tTest, a_tB, a_tTrue, a_tIf, a_tAndV, a_tOrV, a_tNotV, a_tOp, a_tUn, a_rU, a_tVar, a_tC, a_rI0, a_rI, a_rEq, a_rNe, a_rIx0, a_rIn0, a_tCB, a_tCal, a_tCons, a_tNil, a_tTupA, a_tLst, a_tPar, a_tBits, a_tLC, a_iRng1, a_iRng2, a_iT0, a_iL0, a_tEmit, frS, scal, V.ty.injEq, tyN, subN, String.reduceEq, String.reduceBEq, Bool.true_or, Bool.false_or, Bool.or_false, Bool.true_and, Bool.false_and, Bool.and_false, or_true, true_or, beq_self_eq_true, decide_true, decide_false, List.map_cons, List.map_nil, List.length_cons, List.length_nil, List.getElem?_cons_zero, List.getElem?_cons_succ, List.getElem?_nil, List.set_cons_zero, List.set_cons_succ, Option.some.injEq, Option.bind_some, Option.bind_none, id, exists_eq_left', exists_eq_left, exists_and_left, exists_eq_right, V.int.injEq, V.bl.injEq, V.ref.injEq, List.cons.injEq, and_true, true_and, and_assoc, exists_const, atI0, atI1, atI2, ixN30, ixN31, ixN32, upd_same, upd_upd, sq_updL, sq_updT, Nat.zero_add, Nat.reduceAdd, reduceCtorEq, false_and, and_false, exists_false, false_or, or_false, List.length_map, HO.lst.injEq, HO.tup.injEq, Bool.false_eq_true, if_false, if_true, decide_eq_true_eq, ite_true, ite_false, reduceIte, Int.reduceLT, Int.reduceLE, Nat.reduceLT, Int.zero_add, Bool.not_true, Bool.not_false]))
section
variable {P : Program} {w : World} {K : PySem.W.Frag} {mg : Str → Option Value} {base : Heap} {f : Addr} {fd : FuncData}
def Ok2 (H : Hp) (x : V) : Prop := (∃ t, tyN H x = some t ∧ (t == "tuple") = false) ∨ ∃ a xs, x = .ref a ∧ H a = some (.tup xs) ∧ (∀ y ∈ xs, Ok H y) ∧ xs.length < 1000
theorem Ok2.same {H H' : Hp} (s : Same H H') {x : V} (h : Ok2 H x) : Ok2 H' x := by
  rcases h with ⟨t, e, n⟩ | ⟨a, xs, e, h, k, l⟩
  · exact .inl ⟨t, tyN_same s e, n⟩
  · exact .inr ⟨a, xs, e, s _ _ h, fun y hy => (k y hy).same s, l⟩
theorem Ok2.ok {H : Hp} {x : V} (h : Ok2 H x) : Ok H x := by
  rcases h with h | ⟨a, xs, e, h, k, l⟩
  · exact .inl h
  · exact .inr ⟨a, xs, e, h, fun y hy => (k y hy).kn, l⟩
def byWant (H : Hp) (m : Nat) : V → Bool
  | .ref a => match H a with
    | some (.tup xs) => isWant xs m
    | _ => false
  | _ => false
theorem byWant_no {H : Hp} {x : V} {t : String} (m : Nat) (h : tyN H x = some t) (n : (t == "tuple") = false) : byWant H m x = false := by
  cases x with
  | ref a =>
    have := fun xs => notI (xs := xs) h n rfl
    show (match H a with | some (.tup xs) => isWant xs m | _ => false) = false
    split
    · rename_i xs e; exact absurd e (this xs)
    · rfl
  | _ => rfl
theorem byWant_tup {H : Hp} {a : Addr} {xs : List V} (m : Nat) (h : H a = some (.tup xs)) : byWant H m (.ref a) = isWant xs m := by
  unfold byWant
  simp only [h]
theorem byWant_same {H H' : Hp} (s : Same H H') {x : V} (h : Ok H x) (m : Nat) : byWant H' m x = byWant H m x := by
  rcases h with ⟨t, e, n⟩ | ⟨a, xs, rfl, h, _, _⟩
  · rw [byWant_no m e n, byWant_no m (tyN_same s e) n]
  · rw [byWant_tup m h, byWant_tup m (s _ _ h)]
def sp_want2 : Sp := fun vs H Q _ => ∃ (x : V) (m : Nat), vs = [x, .int (m : Int)] ∧ m ≤ 5 ∧ Ok H x ∧ ∀ H', Same H H' → Q (.bl (byWant H m x)) H'
theorem want_of {vs : List V} {H : Hp} {Q : VK} {E : XK} (h : sp_want2 vs H Q E) : sp_want vs H Q E := by
  obtain ⟨x, m, rfl, m5, ok, q⟩ := h
  rcases ok with ⟨t, e, n⟩ | ⟨a, xs, rfl, h, k, l⟩
  · refine .inl ⟨x, m, t, rfl, m5, e, n, ?_⟩
    rw [← byWant_no m e n]
    exact q H (Same.refl H)
  · refine .inr ⟨a, m, xs, rfl, m5, h, k, l, fun H' s => ?_⟩
    rw [← byWant_tup m h]
    exact q H' s
def wantsB (H : Hp) (m : Nat) (ws : List V) : Bool := decide (1 ≤ ws.length) && decide (ws.length ≤ 5) && ws.all (byWant H m)
inductive TB (H : Hp) : V → Bool → Prop
  | no {x : V} {t : String} : tyN H x = some t → (t == "tuple") = false → TB H x false
  | len {a : Addr} {xs : List V} : H a = some (.tup xs) → xs.length ≠ 2 → Kn H xs → TB H (.ref a) false
  | sno {a : Addr} {s w : V} {t : String} : H a = some (.tup [s, w]) → tyN H s = some t → (t == "tuple") = false → Ok H w → TB H (.ref a) false
  | wno {a b : Addr} {ss : List V} {w : V} {t : String} : H a = some (.tup [.ref b, w]) → H b = some (.tup ss) → Kn H ss → ss.length < 1000 → tyN H w = some t → (t == "tuple") = false → TB H (.ref a) false
  | all {a b c : Addr} {ss ws : List V} : H a = some (.tup [.ref b, .ref c]) → H b = some (.tup ss) → Kn H ss → ss.length < 1000 → H c = some (.tup ws) → (∀ y ∈ ws, Ok H y) → ws.length < 1000 → TB H (.ref a) (sidesB ss && wantsB H ss.length ws)
def sp_town : Sp := fun vs H Q _ => ∃ (x : V) (b : Bool), vs = [x] ∧ TB H x b ∧ ∀ H', Same H H' → Q (.bl b) H'
def LTW (c : Addr) (m : Nat) (sd : V) (ws : List V) (G : Hp) (i : Nat) (σ : St) (H : Hp) : Prop := ∃ v, σ = [v, some sd] ∧ SameX c G H ∧ H c = some (.lst (((ws.take i).map (byWant G m)).map V.bl))
theorem sc_is_town : FnScope ["thing", "sides", "wants"] ["thing"] (defScope s_is_town) := ⟨rfl, rfl, rfl, by decide +kernel, rfl, by decide +kernel, by decide +kernel⟩
theorem ok_town (F : Fun K "is_town" "is_town" s_is_town f fd) (T : Txt mg) (c_is_sides : Cal P w K mg base "is_sides" ["thing"] 4 sp_sides) (c_is_want : Cal P w K mg base "is_want" ["thing", "many"] 4 sp_want) :
    FnOk P w K mg base CX0 5 f fd ["thing"] sp_town := by
  refine F.ok sc_is_town (fun vs H Q E h => ?_) (fun cdv A outer s H vs Q E hr h => ?_)
  · obtain ⟨_, _, rfl, _⟩ := h; rfl
  · obtain ⟨x, b, rfl, tb, q⟩ := h
    have sc := sc_is_town
    refine ⟨_, pss_cons (ps_if (PW.pt (pw_or (pt_not (pt_val (pe_callB isi0 rfl T.isinstance_ bt_isinstance (pa_cns (pv 0) (pa_cns (pe_bltn (v := .ty "tuple") rfl T.tuple_ bt_tuple rfl) pa_nil))))) (pw_or1 (pt_cmpR op_ne (pe_callB len0 rfl T.len_ bt_len (pa_cns (pv 0) pa_nil)) pe_int (nomark _))))) (pss_one (ps_ret pe_bl)) pss_nil)
      (pss_cons (ps_asg (pv 0) (pg_tup0 (n := 2) rfl (pgs_cons (pg_name (i := 1) sc.nd rfl (Or.inr rfl)) (pgs_cons (pg_name (i := 2) sc.nd rfl (Or.inl rfl)) pgs_nil))))
      (pss_cons (ps_if (pt_not (pt_val (pe_cal c_is_sides hr (pa_cns (pv 1) pa_nil)))) (pss_one (ps_ret pe_bl)) pss_nil)
      (pss_cons (ps_if (PW.pt (pw_or (pt_not (pt_val (pe_callB isi0 rfl T.isinstance_ bt_isinstance (pa_cns (pv 2) (pa_cns (pe_bltn (v := .ty "tuple") rfl T.tuple_ bt_tuple rfl) pa_nil))))) (pw_or1 (pt_not (pt_chain op_le op_le pe_int (pe_callB len0 rfl T.len_ bt_len (pa_cns (pv 2) pa_nil)) (pe_glob (v := .int 5) rfl T.MOST_HANDS_c.choose_spec ⟨_, rfl⟩) rfl))))) (pss_one (ps_ret pe_bl)) pss_nil)
      (pss_one (ps_ret (pe_callB (all0 rfl) rfl T.all_ bt_all (pa_cns (pe_lc (N := ["want", "sides"]) (fr := [none, some 1]) rfl (pi_t0 (pv 2)) (CScope.of rfl rfl rfl) rfl (fun _ _ _ => ⟨pg_name (i := 0) (show List.Nodup (α := Str) ["want", "sides"] by decide +kernel) rfl (Or.inl rfl), pif_nil, pe_cal c_is_want hr (pa_cns (pv 0) (pa_cns (pe_callB len0 rfl T.len_ bt_len (pa_cns (pv 1) pa_nil)) pa_nil))⟩)) pa_nil))))))), ?_⟩
    rw [show L2.start ["thing", "sides", "wants"] [x] = [some (x), none, none] from rfl]
    cases tb with
    | no h1 h2 =>
      (walk_at "rd")
      refine ⟨_, h1, ?_⟩
      rw [if_pos (by rw [h2]; rfl)]
      exact q H (Same.refl H)
    | len h1 h2 h3 =>
      have hs := sq_tup h1
      (wrow_has h1 hs)
      rw [if_pos (by simp; omega)]
      exact q H (Same.refl H)
    | sno h1 h2 h3 h4 =>
      have hs := sq_tup h1
      (wrow_has h1 hs)
      rw [if_neg (by decide)]
      refine ⟨_, rfl, .inl ⟨_, h2, h3⟩, fun H1 s1 => ?_⟩
      rw [bySides_no h2 h3]
      (walk_at "rd")
      exact q H1 s1
    | wno h1 h2 h3 h4 h5 h6 =>
      have hs := sq_tup h1
      (wrow_has h1 hs)
      rw [if_neg (by decide)]
      refine ⟨_, rfl, .inr ⟨_, _, rfl, h2, h3, h4⟩, fun H1 s1 => ?_⟩
      rw [bySides_tup h2]
      refine ⟨_, rfl, ?_⟩
      cases sidesB _ with
      | false => exact q H1 s1
      | true =>
        (walk_at "rd")
        refine ⟨_, tyN_same s1 h5, ?_⟩
        rw [if_pos (by rw [h6]; rfl)]
        exact q H1 s1
    | @all ta b c ss ws h1 h2 h3 h4 h5 h6 h7 =>
      have hs := sq_tup h1
      (wrow_has h1 hs)
      rw [if_neg (by decide)]
      refine ⟨_, rfl, .inr ⟨_, _, rfl, h2, h3, h4⟩, fun H1 s1 => ?_⟩
      rw [bySides_tup h2]
      refine ⟨_, rfl, ?_⟩
      cases hsb : sidesB ss with
      | false =>
        rw [hsb, Bool.false_and] at q
        exact q H1 s1
      | true =>
        have e1c := s1 _ _ h5
        have hs1c := sq_tup e1c
        have sl : ss.length ≤ 5 := by
          unfold sidesB at hsb
          rw [Bool.and_eq_true, Bool.and_eq_true] at hsb
          exact of_decide_eq_true hsb.1.2
        rw [hsb, Bool.true_and] at q
        (wrow_has e1c hs1c)
        unfold wantsB at q
        by_cases z1 : 1 ≤ ws.length
        · rw [if_pos (by omega)]
          by_cases z5 : ws.length ≤ 5
          · rw [if_neg (by simp; omega)]
            rw [decide_eq_true z1, decide_eq_true z5, Bool.true_and, Bool.true_and] at q
            refine fun d nd => ?_
            have ncd : c ≠ d := ne_of_none e1c nd
            have e1b := s1 _ _ h2
            have nbd : b ≠ d := ne_of_none e1b nd
            refine cl_seq (LTW d ss.length (.ref b) ws H1) ⟨none, rfl, SameX.upd, upd_same⟩ (fun j σ H' _ ⟨_, _, s', _⟩ => s' _ _ ncd e1c) ?_ ?_
            · rintro k y σ H2 hy ⟨v, rfl, s2, e2⟩
              have oky := (h6 y (List.mem_of_getElem? hy)).same s1
              have S2 : Same H1 H2 := s2.same nd
              have hsb2 := sq_tup (s2 _ _ nbd e1b)
              have wk : k < ws.length := (List.getElem?_eq_some_iff.mp hy).1
              (w_cond hsb2)
              refine want_of ⟨y, ss.length, rfl, sl, oky.same S2, fun H3 s3 => ?_⟩
              rw [byWant_same S2 oky]
              have e3 := s3 _ _ e2
              (w_cond e3)
              refine ⟨small1000 (by first | omega | (rw [List.length_take]; omega)), ⟨_, rfl, (s2.trans s3.x).trans SameX.upd, ?_⟩⟩
              rw [upd_same, List.take_add_one, hy]
              simp
            · rintro σ H2 ⟨v, rfl, s2, e2⟩
              rw [List.take_length] at e2
              refine ⟨_, sq_lst e2, ?_⟩
              have : (ws.map (byWant H1 ss.length)).all id = ws.all (byWant H ss.length) := by
                rw [List.all_map, Bool.eq_iff_iff, List.all_eq_true, List.all_eq_true]
                constructor
                · intro g y hy
                  have := g y hy
                  rw [← byWant_same s1 (h6 y hy)]
                  exact this
                · intro g y hy
                  have := g y hy
                  rw [← byWant_same s1 (h6 y hy)] at this
                  exact this
              rw [this]
              exact q H2 (s1.trans (s2.same nd))
          · rw [if_pos (by simp; omega)]
            rw [decide_eq_false z5, Bool.and_false, Bool.false_and] at q
            exact q H1 s1
        · rw [if_neg (by omega)]
          rw [decide_eq_false z1, Bool.false_and, Bool.false_and] at q
          exact q H1 s1
def LDS (c : Addr) (ss : List V) (G : Hp) (i : Nat) (σ : St) (H : Hp) : Prop := ∃ v, σ = [v] ∧ SameX c G H ∧ H c = some (.lst (((ss.take i).map fun y => !isSide y).map V.bl))
theorem sc__law_due : FnScope ["_law_item", "_law_sides", "_law_wants"] ["_law_item"] (defScope s__law_due) := ⟨rfl, rfl, rfl, by decide +kernel, rfl, by decide +kernel, by decide +kernel⟩
theorem ok_due (F : Fun K "_law_due" "_law_due" s__law_due f fd) (hm : mg "_law_due" = some (.ref f)) (hb : Binds K fd ["_law_item"] []) (T : Txt mg) (c__law_whole : Cal P w K mg base "_law_whole" ["_law_item"] 1 sp_whole) (c__law_is_want : Cal P w K mg base "_law_is_want" ["_law_item", "_law_size"] 2 sp_want) : Cal P w K mg base "_law_due" ["_law_item"] 3 sp_town := by
  refine cal_of F hm hb sc__law_due (fun vs H Q E h => ?_) (fun cdv A outer s H vs Q E hr h => ?_)
  · obtain ⟨_, _, rfl, _⟩ := h; rfl
  · obtain ⟨x, b, rfl, tb, q⟩ := h
    have sc := sc__law_due
    refine ⟨_, pss_cons (ps_if (PW.pt (pw_or (pt_not (pt_val (pe_callB isi0 rfl T.isinstance_ bt_isinstance (pa_cns (pv 0) (pa_cns (pe_bltn (v := .ty "tuple") rfl T.tuple_ bt_tuple rfl) pa_nil))))) (pw_or (pt_cmpR op_ne (pe_callB len0 rfl T.len_ bt_len (pa_cns (pv 0) pa_nil)) pe_int (nomark _)) (pw_or1 (pt_not (pt_val (pe_callB isi0 rfl T.isinstance_ bt_isinstance (pa_cns (pe_ix ix0 (pv 0) pe_int (fun _ _ => rfl)) (pa_cns (pe_bltn (v := .ty "tuple") rfl T.tuple_ bt_tuple rfl) pa_nil))))))))) (pss_one (ps_ret pe_bl)) pss_nil)
      (pss_cons (ps_asg (pv 0) (pg_tup0 (n := 2) rfl (pgs_cons (pg_name (i := 1) sc.nd rfl (Or.inr rfl)) (pgs_cons (pg_name (i := 2) sc.nd rfl (Or.inl rfl)) pgs_nil))))
      (pss_cons (ps_if (PW.pt (pw_or (pt_not (pt_chain op_le op_le pe_int (pe_callB len0 rfl T.len_ bt_len (pa_cns (pv 1) pa_nil)) pe_int rfl)) (pw_or1 (pt_val (pe_callB (any0 rfl) rfl T.any_ bt_any (pa_cns (pe_lc (N := ["_law_side"]) (fr := [none]) rfl (pi_t0 (pv 1)) (CScope.of rfl rfl rfl) rfl (fun _ _ _ => ⟨pg_name (i := 0) (show List.Nodup (α := Str) ["_law_side"] by decide +kernel) rfl (Or.inl rfl), pif_nil, pe_or (pe_not (pe_cal c__law_whole hr (pa_cns (pv 0) pa_nil))) (pe_one (pe_not (pe_chain op_le op_le pe_int (pv 0) pe_int rfl)))⟩)) pa_nil)))))) (pss_one (ps_ret pe_bl)) pss_nil)
      (pss_cons (ps_if (PW.pt (pw_or (pt_not (pt_val (pe_callB isi0 rfl T.isinstance_ bt_isinstance (pa_cns (pv 2) (pa_cns (pe_bltn (v := .ty "tuple") rfl T.tuple_ bt_tuple rfl) pa_nil))))) (pw_or1 (pt_not (pt_chain op_le op_le pe_int (pe_callB len0 rfl T.len_ bt_len (pa_cns (pv 2) pa_nil)) pe_int rfl))))) (pss_one (ps_ret pe_bl)) pss_nil)
      (pss_one (ps_ret (pe_callB (all0 rfl) rfl T.all_ bt_all (pa_cns (pe_lc (N := ["_law_want_here", "_law_sides"]) (fr := [none, some 1]) rfl (pi_t0 (pv 2)) (CScope.of rfl rfl rfl) rfl (fun _ _ _ => ⟨pg_name (i := 0) (show List.Nodup (α := Str) ["_law_want_here", "_law_sides"] by decide +kernel) rfl (Or.inl rfl), pif_nil, pe_cal c__law_is_want hr (pa_cns (pv 0) (pa_cns (pe_callB len0 rfl T.len_ bt_len (pa_cns (pv 1) pa_nil)) pa_nil))⟩)) pa_nil))))))), ?_⟩
    rw [show L2.start ["_law_item", "_law_sides", "_law_wants"] [x] = [some (x), none, none] from rfl]
    cases tb with
    | no h1 h2 =>
      (walk_at "rd")
      refine ⟨_, h1, ?_⟩
      rw [if_pos (by rw [h2]; rfl)]
      exact q H (Same.refl H)
    | len h1 h2 h3 =>
      have hs := sq_tup h1
      (wrow_has h1 hs)
      rw [if_pos (by simp; omega)]
      exact q H (Same.refl H)
    | sno h1 h2 h3 h4 =>
      have hs := sq_tup h1
      (wrow_has h1 hs)
      rw [if_neg (by decide)]
      refine ⟨_, h2, ?_⟩
      rw [if_pos (by rw [h3]; rfl)]
      exact q H (Same.refl H)
    | @wno ta b ss w' t' h1 h2 h3 h4 h5 h6 =>
      have hs := sq_tup h1
      have hss := sq_tup h2
      (try simp only [a_tPop0, a_tCalK, g3r_is, g2r_is, g2_is, g1_is, a_tSeqL, a_tChain, a_tDict, a_tLstA, a_rMulT, a_rEqT, a_tLC2, a_tLC3, a_tInner, a_tIns, a_tRev, a_rSlA, a_rCatA, a_rCatL, a_tSeq, a_tFor, a_rIxL, a_iZip, a_tSortR, a_tSl, a_rSlL0, a_tNoPart, a_tPart, a_tApp, a_tRet, a_tRetN, a_tNext, a_tDrop, a_tAsg, a_gSub, a_gName, a_gNil, a_gCons, a_gTup0, a_rSetL, a_tIfS, a_tAnd, a_tOr, a_tNot, a_tTest, a_tB, a_tTrue, a_tIf, a_tAndV, a_tOrV, a_tNotV, a_tOp, a_tUn, a_rU, a_tVar, a_tC, a_rI0, a_rI, a_rEq, a_rNe, a_rIx0, a_rIn0, a_tCB, a_tCal, a_tCons, a_tNil, a_tTupA, a_tLst, a_tPar, a_tBits, a_tLC, a_iRng1, a_iRng2, a_iT0, a_iL0, a_tEmit, frS, scal, V.ty.injEq, tyN, subN, String.reduceEq, String.reduceBEq, Bool.true_or, Bool.false_or, Bool.or_false, Bool.true_and, Bool.false_and, Bool.and_false, or_true, true_or, beq_self_eq_true, decide_true, decide_false, List.map_cons, List.map_nil, List.length_cons, List.length_nil, List.getElem?_cons_zero, List.getElem?_cons_succ, List.getElem?_nil, List.set_cons_zero, List.set_cons_succ, Option.some.injEq, Option.bind_some, Option.bind_none, id, exists_eq_left', exists_eq_left, exists_and_left, exists_eq_right, V.int.injEq, V.bl.injEq, V.ref.injEq, List.cons.injEq, and_true, true_and, and_assoc, exists_const, atI0, atI1, atI2, ixN30, ixN31, ixN32, upd_same, upd_upd, sq_updL, sq_updT, Nat.zero_add, Nat.reduceAdd, reduceCtorEq, false_and, and_false, exists_false, false_or, or_false, List.length_map, HO.lst.injEq, HO.tup.injEq, Bool.false_eq_true, if_false, if_true, decide_eq_true_eq, ite_true, ite_false, reduceIte, Int.reduceLT, Int.reduceLE, Nat.reduceLT, Int.zero_add, Bool.not_true, Bool.not_false, h1, hs, h2, hss])
      rw [if_neg (by decide)]
      by_cases z1 : 1 ≤ ss.length
      · rw [if_pos (by omega)]
        by_cases z5 : ss.length ≤ 5
        · rw [if_neg (by simp; omega)]
          refine fun d nd => ?_
          have nbd : b ≠ d := ne_of_none h2 nd
          refine cl_seq (LDS d ss H) ⟨none, rfl, SameX.upd, upd_same⟩ (fun j σ H' _ ⟨_, _, s', _⟩ => s' _ _ nbd h2) ?_ ?_
          · rintro k y σ H2 hy ⟨v, rfl, s2, e2⟩
            have wk : k < ss.length := (List.getElem?_eq_some_iff.mp hy).1
            obtain ⟨t0, ht0⟩ := h3 y (List.mem_of_getElem? hy)
            have hty := tyN_same (s2.same nd) ht0
            have put : ∀ bb : Bool, bb = (!isSide y) → LDS d ss H (k + 1) [some y] (upd H2 d (.lst ((((ss.take k).map fun y => !isSide y).map V.bl) ++ [V.bl bb]))) := fun bb eb => by
              refine ⟨_, rfl, s2.trans SameX.upd, ?_⟩
              rw [upd_same, List.take_add_one, hy, eb]
              simp
            have sz := small1000 (n := (((ss.take k).map fun y => !isSide y).map V.bl).length) (by simp only [List.length_map, List.length_take]; omega)
            (walk_at "rd")
            refine ⟨y, t0, rfl, hty, ?_⟩
            cases y with
            | int v =>
              rw [show isI (.int v) = true from rfl]
              (walk_at "rd")
              by_cases z : 0 ≤ v
              · rw [if_pos z]
                exact ⟨_, e2, sz, put _ (by simp [isSide, z])⟩
              · rw [if_neg z]
                exact ⟨_, e2, sz, put true (by simp [isSide, z])⟩
            | _ =>
              first
                | (rw [show isI _ = false from rfl]
                   (w_cond e2)
                   exact ⟨by simpa using sz, put true rfl⟩)
          · rintro σ H2 ⟨v, rfl, s2, e2⟩
            rw [List.take_length] at e2
            have S2 : Same H H2 := s2.same nd
            refine ⟨_, sq_lst e2, ?_⟩
            have an : (ss.map fun y => !isSide y).any id = !(ss.all isSide) := by
              rw [List.any_map, List.all_eq_not_any_not, Bool.not_not]
              rfl
            rw [an]
            cases hal : ss.all isSide with
            | false =>
              rw [if_pos (by rfl)]
              exact q _ S2
            | true =>
              rw [if_neg (by decide)]
              (walk_at "rd")
              refine ⟨_, tyN_same S2 h5, ?_⟩
              rw [if_pos (by rw [h6]; rfl)]
              exact q H2 S2
        · rw [if_pos (by simp; omega)]
          exact q _ (Same.refl H)
      · rw [if_neg (by omega)]
        exact q _ (Same.refl H)
    | @all ta b c ss ws h1 h2 h3 h4 h5 h6 h7 =>
      have hs := sq_tup h1
      have hss := sq_tup h2
      (try simp only [a_tPop0, a_tCalK, g3r_is, g2r_is, g2_is, g1_is, a_tSeqL, a_tChain, a_tDict, a_tLstA, a_rMulT, a_rEqT, a_tLC2, a_tLC3, a_tInner, a_tIns, a_tRev, a_rSlA, a_rCatA, a_rCatL, a_tSeq, a_tFor, a_rIxL, a_iZip, a_tSortR, a_tSl, a_rSlL0, a_tNoPart, a_tPart, a_tApp, a_tRet, a_tRetN, a_tNext, a_tDrop, a_tAsg, a_gSub, a_gName, a_gNil, a_gCons, a_gTup0, a_rSetL, a_tIfS, a_tAnd, a_tOr, a_tNot, a_tTest, a_tB, a_tTrue, a_tIf, a_tAndV, a_tOrV, a_tNotV, a_tOp, a_tUn, a_rU, a_tVar, a_tC, a_rI0, a_rI, a_rEq, a_rNe, a_rIx0, a_rIn0, a_tCB, a_tCal, a_tCons, a_tNil, a_tTupA, a_tLst, a_tPar, a_tBits, a_tLC, a_iRng1, a_iRng2, a_iT0, a_iL0, a_tEmit, frS, scal, V.ty.injEq, tyN, subN, String.reduceEq, String.reduceBEq, Bool.true_or, Bool.false_or, Bool.or_false, Bool.true_and, Bool.false_and, Bool.and_false, or_true, true_or, beq_self_eq_true, decide_true, decide_false, List.map_cons, List.map_nil, List.length_cons, List.length_nil, List.getElem?_cons_zero, List.getElem?_cons_succ, List.getElem?_nil, List.set_cons_zero, List.set_cons_succ, Option.some.injEq, Option.bind_some, Option.bind_none, id, exists_eq_left', exists_eq_left, exists_and_left, exists_eq_right, V.int.injEq, V.bl.injEq, V.ref.injEq, List.cons.injEq, and_true, true_and, and_assoc, exists_const, atI0, atI1, atI2, ixN30, ixN31, ixN32, upd_same, upd_upd, sq_updL, sq_updT, Nat.zero_add, Nat.reduceAdd, reduceCtorEq, false_and, and_false, exists_false, false_or, or_false, List.length_map, HO.lst.injEq, HO.tup.injEq, Bool.false_eq_true, if_false, if_true, decide_eq_true_eq, ite_true, ite_false, reduceIte, Int.reduceLT, Int.reduceLE, Nat.reduceLT, Int.zero_add, Bool.not_true, Bool.not_false, h1, hs, h2, hss])
      have nb : sidesB ss = false → ∀ H', Same H H' → Q (.bl false) H' := fun z H' s' => by
        rw [z, Bool.false_and] at q
        exact q H' s'
      rw [if_neg (by decide)]
      by_cases z1 : 1 ≤ ss.length
      · rw [if_pos (by omega)]
        by_cases z5 : ss.length ≤ 5
        · rw [if_neg (by simp; omega)]
          refine fun d nd => ?_
          have nbd : b ≠ d := ne_of_none h2 nd
          refine cl_seq (LDS d ss H) ⟨none, rfl, SameX.upd, upd_same⟩ (fun j σ H' _ ⟨_, _, s', _⟩ => s' _ _ nbd h2) ?_ ?_
          · rintro k y σ H2 hy ⟨v, rfl, s2, e2⟩
            have wk : k < ss.length := (List.getElem?_eq_some_iff.mp hy).1
            obtain ⟨t0, ht0⟩ := h3 y (List.mem_of_getElem? hy)
            have hty := tyN_same (s2.same nd) ht0
            have put : ∀ bb : Bool, bb = (!isSide y) → LDS d ss H (k + 1) [some y] (upd H2 d (.lst ((((ss.take k).map fun y => !isSide y).map V.bl) ++ [V.bl bb]))) := fun bb eb => by
              refine ⟨_, rfl, s2.trans SameX.upd, ?_⟩
              rw [upd_same, List.take_add_one, hy, eb]
              simp
            have sz := small1000 (n := (((ss.take k).map fun y => !isSide y).map V.bl).length) (by simp only [List.length_map, List.length_take]; omega)
            (walk_at "rd")
            refine ⟨y, t0, rfl, hty, ?_⟩
            cases y with
            | int v =>
              rw [show isI (.int v) = true from rfl]
              (walk_at "rd")
              by_cases z : 0 ≤ v
              · rw [if_pos z]
                exact ⟨_, e2, sz, put _ (by simp [isSide, z])⟩
              · rw [if_neg z]
                exact ⟨_, e2, sz, put true (by simp [isSide, z])⟩
            | _ =>
              first
                | (rw [show isI _ = false from rfl]
                   (w_cond e2)
                   exact ⟨by simpa using sz, put true rfl⟩)
          · rintro σ H2 ⟨v, rfl, s2, e2⟩
            rw [List.take_length] at e2
            have S2 : Same H H2 := s2.same nd
            refine ⟨_, sq_lst e2, ?_⟩
            have an : (ss.map fun y => !isSide y).any id = !(ss.all isSide) := by
              rw [List.any_map, List.all_eq_not_any_not, Bool.not_not]
              rfl
            rw [an]
            cases hal : ss.all isSide with
            | false =>
              rw [if_pos (by rfl)]
              exact nb (by unfold sidesB; simp [hal]) _ S2
            | true =>
              rw [if_neg (by decide)]
              have sb1 : sidesB ss = true := by unfold sidesB; rw [decide_eq_true z1, decide_eq_true z5, hal]; rfl
              rw [sb1, Bool.true_and] at q
              unfold wantsB at q
              have e2c := S2 _ _ h5
              have hs2c := sq_tup e2c
              have e2b := S2 _ _ h2
              (wrow_has e2c hs2c)
              by_cases y1 : 1 ≤ ws.length
              · rw [if_pos (by omega)]
                by_cases y5 : ws.length ≤ 5
                · rw [if_neg (by simp; omega)]
                  rw [decide_eq_true y1, decide_eq_true y5, Bool.true_and, Bool.true_and] at q
                  refine fun d2 nd2 => ?_
                  have ncd : c ≠ d2 := ne_of_none e2c nd2
                  have nbd2 : b ≠ d2 := ne_of_none e2b nd2
                  refine cl_seq (LTW d2 ss.length (.ref b) ws H2) ⟨none, rfl, SameX.upd, upd_same⟩ (fun j σ H' _ ⟨_, _, s', _⟩ => s' _ _ ncd e2c) ?_ ?_
                  · rintro k y σ H3 hy ⟨v, rfl, s3, e3⟩
                    have oky := (h6 y (List.mem_of_getElem? hy)).same S2
                    have S3 : Same H2 H3 := s3.same nd2
                    have hsb2 := sq_tup (s3 _ _ nbd2 e2b)
                    have wk : k < ws.length := (List.getElem?_eq_some_iff.mp hy).1
                    (w_cond hsb2)
                    refine want_of ⟨y, ss.length, rfl, z5, oky.same S3, fun H4 s4 => ?_⟩
                    rw [byWant_same S3 oky]
                    have e4 := s4 _ _ e3
                    (w_cond e4)
                    refine ⟨small1000 (by first | omega | (rw [List.length_take]; omega)), ⟨_, rfl, (s3.trans s4.x).trans SameX.upd, ?_⟩⟩
                    rw [upd_same, List.take_add_one, hy]
                    simp
                  · rintro σ H3 ⟨v, rfl, s3, e3⟩
                    rw [List.take_length] at e3
                    refine ⟨_, sq_lst e3, ?_⟩
                    have : (ws.map (byWant H2 ss.length)).all id = ws.all (byWant H ss.length) := by
                      rw [List.all_map, Bool.eq_iff_iff, List.all_eq_true, List.all_eq_true]
                      constructor
                      · intro g y hy
                        have := g y hy
                        rw [← byWant_same S2 (h6 y hy)]
                        exact this
                      · intro g y hy
                        have := g y hy
                        rw [← byWant_same S2 (h6 y hy)] at this
                        exact this
                    rw [this]
                    exact q H3 (S2.trans (s3.same nd2))
                · rw [if_pos (by simp; omega)]
                  rw [decide_eq_false y5, Bool.and_false, Bool.false_and] at q
                  exact q H2 S2
              · rw [if_neg (by omega)]
                rw [decide_eq_false y1, Bool.false_and, Bool.false_and] at q
                exact q H2 S2
        · rw [if_pos (by simp; omega)]
          exact nb (by unfold sidesB; simp [z5]) _ (Same.refl H)
      · rw [if_neg (by omega)]
        exact nb (by unfold sidesB; simp [z1]) _ (Same.refl H)
end
end K06
end
section
set_option Elab.async false
set_option linter.all false
set_option maxRecDepth 100000
set_option maxHeartbeats 8000000
namespace K06
open PySem L2
local macro_rules | `(tactic| w_cond $a:ident) => `(tactic| (try simp only [a_tPop0, a_tCalK, g3r_is, g2r_is, g2_is, g1_is, a_tSeqL, a_tChain, a_tDict, a_tLstA, a_rMulT, a_rEqT, a_tLC2, a_tLC3, a_tInner, a_tIns, a_tRev, a_rSlA, a_rCatA, a_rCatL, a_tSeq, a_tFor, a_rIxL, a_iZip, a_tSortR, a_tSl, a_rSlL0, a_tNoPart, a_tPart, a_tApp, a_tRet, a_tRetN, a_tNext, a_tDrop, a_tAsg, a_gSub, a_gName, a_gNil, a_gCons, a_gTup0, a_rSetL, a_tIfS, a_tAnd, a_tOr, a_tNot, a_tTest, a_tB, a_tTrue, a_tIf, a_tAndV, a_tOrV, a_tNotV, a_tOp, a_tUn, a_rU, a_tVar, a_tC, a_rI0, a_rI, a_rEq, a_rNe, a_rIx0, a_rIn0, a_tCB, a_tCal, a_tCons, a_tNil, a_tTupA, a_tLst, a_tPar, a_tBits, a_tLC, a_iRng1, a_iRng2, a_iT0, a_iL0, a_tEmit, frS, scal, V.ty.injEq, tyN, subN, String.reduceEq, String.reduceBEq, Bool.true_or, Bool.false_or, Bool.or_false, Bool.true_and, Bool.false_and, Bool.and_false, or_true, true_or, beq_self_eq_true, decide_true, decide_false, List.map_cons, List.map_nil, List.length_cons, List.length_nil, List.getElem?_cons_zero, List.getElem?_cons_succ, List.getElem?_nil, List.set_cons_zero, List.set_cons_succ, Option.some.injEq, Option.bind_some, Option.bind_none, id, exists_eq_left', exists_eq_left, exists_and_left, exists_eq_right, V.int.injEq, V.bl.injEq, V.ref.injEq, List.cons.injEq, and_true, true_and, and_assoc, exists_const, atI0, atI1, atI2, ixN30, ixN31, ixN32, upd_same, upd_upd, sq_updL, sq_updT, Nat.zero_add, Nat.reduceAdd, reduceCtorEq, false_and, and_false, exists_false, false_or, or_false, List.length_map, HO.lst.injEq, HO.tup.injEq, Bool.false_eq_true, if_false, if_true, decide_eq_true_eq, ite_true, ite_false, reduceIte, Int.reduceLT, Int.reduceLE, Nat.reduceLT, Int.zero_add, Bool.not_true, Bool.not_false, $a:ident]))
local macro_rules | `(tactic| walk_at "rd") => `(tactic| (try simp only [a_tPop0, a_tCalK, g3r_is, g2r_is, g2_is, g1_is, a_tSeqL, a_tChain, a_tDict, a_tLstA, a_rMulT, a_rEqT, a_tLC2, a_tLC3, a_tInner, a_tIns, a_tRev, a_rSlA, a_rCatA, a_rCatL, a_tSeq, a_tFor, a_rIxL, a_iZip, a_tSortR, a_tSl, a_rSlL0, a_tNoPart, a_tPart, a_tApp, a_tRet, a_tRetN, a_tNext, a_tDrop, a_tAsg, a_gSub, a_gName, a_gNil, a_gCons, a_gTup0, a_rSetL, a_tIfS, a_tAnd, a_tOr, a_tNot, a_tTest, a_tB, a_tTrue, a_tIf, a_tAndV, a_tOrV, a_tNotV, a_tOp, a_tUn, a_rU, a_tVar, a_tC, a_rI0, a_rI, a_rEq, a_rNe, a_rIx0, a_rIn0, a_tCB, a_tCal, a_tCons, a_tNil, a_tTupA, a_tLst, a_tPar, a_tBits, a_tLC, a_iRng1, a_iRng2, a_iT0, a_iL0, a_tEmit, frS, scal, V.ty.injEq, tyN, subN, String.reduceEq, String.reduceBEq, Bool.true_or, Bool.false_or, Bool.or_false, Bool.true_and, Bool.false_and, Bool.and_false, or_true, true_or, beq_self_eq_true, decide_true, decide_false, List.map_cons, List.map_nil, List.length_cons, List.length_nil, List.getElem?_cons_zero, List.getElem?_cons_succ, List.getElem?_nil, List.set_cons_zero, List.set_cons_succ, Option.some.injEq, Option.bind_some, Option.bind_none, id, exists_eq_left', exists_eq_left, exists_and_left, exists_eq_right, V.int.injEq, V.bl.injEq, V.ref.injEq, List.cons.injEq, and_true, true_and, and_assoc, exists_const, atI0, atI1, atI2, ixN30, ixN31, ixN32, upd_same, upd_upd, sq_updL, sq_updT, Nat.zero_add, Nat.reduceAdd, reduceCtorEq, false_and, and_false, exists_false, false_or, or_false, List.length_map, HO.lst.injEq, HO.tup.injEq, Bool.false_eq_true, if_false, if_true, decide_eq_true_eq, ite_true, ite_false, reduceIte, Int.reduceLT, Int.reduceLE, Nat.reduceLT, Int.zero_add, Bool.not_true, Bool.not_false]))
section
variable {P : Program} {w : World} {K : PySem.W.Frag} {mg : Str → Option Value} {base : Heap} {f : Addr} {fd : FuncData}
theorem mem_get {xs : List V} {r : Int} (h0 : 0 ≤ r) (h1 : r < xs.length) : ∃ x ∈ xs, atI xs r = some x := by
  obtain ⟨n, rfl⟩ := Int.eq_ofNat_of_zero_le h0
  have hn : n < xs.length := by omega
  exact ⟨xs[n], List.getElem_mem hn, atI_nat (by simp [hn])⟩
theorem But.okk {H H' : Hp} {p : Addr} (b : But p H H') (bx : Box H p) {x : V} (h : Ok H x) (bx' : Box H' p) : Ok H' x := by
  have ty : ∀ {y : V} {t : String}, tyN H y = some t → tyN H' y = some t := fun {y t} e => by
    cases y with
    | ref a =>
      by_cases n : a = p
      · subst n
        obtain ⟨_, _, _, z⟩ := bx
        obtain ⟨_, _, _, z'⟩ := bx'
        simp only [tyN, z] at e
        simp only [tyN, z']
        exact e
      · simp only [tyN, b a n]
        exact e
    | _ => exact e
  rcases h with ⟨t, e, n⟩ | ⟨a, xs, rfl, h, k, l⟩
  · exact .inl ⟨t, ty e, n⟩
  · refine .inr ⟨a, xs, rfl, ?_, fun y hy => let ⟨t, e⟩ := k y hy; ⟨t, ty e⟩, l⟩
    rw [b a ?_]
    · exact h
    · rintro rfl
      obtain ⟨_, _, _, z⟩ := bx
      rw [h] at z
      cases z
theorem okk2 {H H' : Hp} {p : Addr} (b : But p H H') (bx : Box H p) {x : V} (h : Ok2 H x) (bx' : Box H' p) : Ok2 H' x := by
  rcases h with h | ⟨a, xs, rfl, h, k, l⟩
  · have := But.okk b bx (x := x) (.inl h) bx'
    rcases this with q | ⟨a, xs, rfl, e, _, _⟩
    · exact .inl q
    · exfalso
      obtain ⟨t, h1, h2⟩ := h
      have na : a ≠ p := by rintro rfl; obtain ⟨_, _, _, z⟩ := bx'; rw [e] at z; cases z
      exact notI h1 h2 rfl (by rw [← b a na]; exact e)
  · have na : a ≠ p := by rintro rfl; obtain ⟨_, _, _, z⟩ := bx; rw [h] at z; cases z
    exact .inr ⟨a, xs, rfl, by rw [b a na]; exact h, fun y hy => But.okk b bx (k y hy) bx', l⟩
def Ok3 (H : Hp) (x : V) : Prop := (∃ t, tyN H x = some t ∧ (t == "tuple") = false) ∨ ∃ a xs, x = .ref a ∧ H a = some (.tup xs) ∧ (∀ y ∈ xs, Ok2 H y) ∧ xs.length < 1000
theorem Ok3.same {H H' : Hp} (s : Same H H') {x : V} (h : Ok3 H x) : Ok3 H' x := by
  rcases h with ⟨t, e, n⟩ | ⟨a, xs, e, h, k, l⟩
  · exact .inl ⟨t, tyN_same s e, n⟩
  · exact .inr ⟨a, xs, e, s _ _ h, fun y hy => (k y hy).same s, l⟩
theorem okk3 {H H' : Hp} {p : Addr} (b : But p H H') (bx : Box H p) {x : V} (h : Ok3 H x) (bx' : Box H' p) : Ok3 H' x := by
  rcases h with h | ⟨a, xs, rfl, h, k, l⟩
  · have := okk2 b bx (x := x) (.inl h) bx'
    rcases this with q | ⟨a, xs, rfl, e, _, _⟩
    · exact .inl q
    · exfalso
      obtain ⟨t, h1, h2⟩ := h
      have na : a ≠ p := by rintro rfl; obtain ⟨_, _, _, z⟩ := bx'; rw [e] at z; cases z
      exact notI h1 h2 rfl (by rw [← b a na]; exact e)
  · have na : a ≠ p := by rintro rfl; obtain ⟨_, _, _, z⟩ := bx; rw [h] at z; cases z
    exact .inr ⟨a, xs, rfl, by rw [b a na]; exact h, fun y hy => okk2 b bx (k y hy) bx', l⟩
theorem Ok3.tb {H : Hp} {x : V} (h : Ok3 H x) : ∃ b, TB H x b := by
  rcases h with ⟨t, e, n⟩ | ⟨a, xs, rfl, h, k, l⟩
  · exact ⟨_, .no e n⟩
  · by_cases l2 : xs.length = 2
    · match xs, l2 with
      | [s, w], _ =>
        have ks := k s (by simp)
        have kw := k w (by simp)
        rcases ks.ok with ⟨t, e, n⟩ | ⟨b, ss, rfl, hb, kk, sl⟩
        · exact ⟨_, .sno h e n kw.ok⟩
        · rcases kw with ⟨t, e, n⟩ | ⟨c, ws, rfl, hc, kc, wl⟩
          · exact ⟨_, .wno h hb kk sl e n⟩
          · exact ⟨_, .all h hb kk sl hc kc wl⟩
    · exact ⟨_, .len h l2 fun y hy => (k y hy).ok.kn⟩
theorem Ok2.ints {H : Hp} {a : Addr} {ns : List Int} (h : H a = some (.tup (ns.map V.int))) (l : ns.length < 1000) : Ok2 H (.ref a) := .inr ⟨a, _, rfl, h, fun y hy => by obtain ⟨n, _, rfl⟩ := List.mem_map.mp hy; exact Ok.int n, by rw [List.length_map]; exact l⟩
theorem Ok2.tup {H : Hp} {a : Addr} {xs : List V} (h : H a = some (.tup xs)) (k : ∀ y ∈ xs, Ok H y) (l : xs.length < 1000) : Ok2 H (.ref a) := .inr ⟨a, xs, rfl, h, k, l⟩
theorem Ok3.tup {H : Hp} {a : Addr} {xs : List V} (h : H a = some (.tup xs)) (k : ∀ y ∈ xs, Ok2 H y) (l : xs.length < 1000) : Ok3 H (.ref a) := .inr ⟨a, xs, rfl, h, k, l⟩
theorem all2 {P : V → Prop} {x y : V} (hx : P x) (hy : P y) : ∀ z ∈ [x, y], P z := fun z hz => by
  have : z = x ∨ z = y := by simpa using hz
  rcases this with rfl | rfl
  · exact hx
  · exact hy
structure Wts (H : Hp) (a : Addr) (m : Nat) (ts : List (Addr × List Int)) : Prop where
  at' : H a = some (.tup (ts.map fun t => V.ref t.1))
  one : 1 ≤ ts.length
  five : ts.length ≤ 5
  row : ∀ t ∈ ts, H t.1 = some (.tup (t.2.map V.int)) ∧ t.2.length = 2 ^ m
theorem Ok2.int {H : Hp} (i : Int) : Ok2 H (.int i) := .inl ⟨"int", rfl, by decide⟩
theorem Ok2.non {H : Hp} : Ok2 H .non := .inl ⟨"NoneType", rfl, by decide⟩
theorem Ok2.lst {H : Hp} {a : Addr} {xs : List V} (h : H a = some (.lst xs)) : Ok2 H (.ref a) := .inl ⟨"list", by simp only [tyN, h], by decide⟩
theorem Ok2.dct {H : Hp} {a : Addr} (h : H a = some (.dK [])) : Ok2 H (.ref a) := .inl ⟨"dict", by simp only [tyN, h], by decide⟩
theorem Ok3.bl {H : Hp} (b : Bool) : Ok3 H (.bl b) := .inl ⟨"bool", rfl, by decide⟩
theorem Ok3.str {H : Hp} (x : Str) : Ok3 H (.str x) := .inl ⟨"str", rfl, by decide⟩
theorem Ok3.non {H : Hp} : Ok3 H .non := .inl ⟨"NoneType", rfl, by decide⟩
theorem Ok3.lst {H : Hp} {a : Addr} {xs : List V} (h : H a = some (.lst xs)) : Ok3 H (.ref a) := .inl ⟨"list", by simp only [tyN, h], by decide⟩
theorem Ok3.dct {H : Hp} {a : Addr} (h : H a = some (.dK [])) : Ok3 H (.ref a) := .inl ⟨"dict", by simp only [tyN, h], by decide⟩
theorem Ok3.two {H : Hp} {a : Addr} {x y : V} (h : H a = some (.tup [x, y])) (hx : Ok2 H x) (hy : Ok2 H y) : Ok3 H (.ref a) := Ok3.tup h (all2 hx hy) (by simp)
def Oks (H : Hp) (L : List V) : Prop := ∀ y ∈ L, Ok H y
theorem Oks.app {H : Hp} {L M : List V} (h : Oks H L) (k : Oks H M) : Oks H (L ++ M) := fun y hy => by
  rcases List.mem_append.mp hy with hy | hy
  · exact h y hy
  · exact k y hy
theorem Oks.one {H : Hp} {x : V} (h : Ok H x) : Oks H [x] := fun y hy => by rw [List.mem_singleton.mp hy]; exact h
theorem Oks.cut {H : Hp} {xs : List V} (h : Oks H xs) (lo hi : Option Int) : Oks H (cutV xs lo hi) := fun y hy => h y (List.mem_of_mem_drop (List.mem_of_mem_take hy))
theorem Oks.rep {H : Hp} {xs : List V} (h : Oks H xs) (k : Nat) : Oks H (List.replicate k xs).flatten := fun y hy => by
  obtain ⟨l, hl, hy⟩ := List.mem_flatten.mp hy
  rw [List.eq_of_mem_replicate hl] at hy
  exact h y hy
theorem Oks.ints {H : Hp} (ns : List Int) : Oks H (ns.map V.int) := fun y hy => by obtain ⟨n, _, rfl⟩ := List.mem_map.mp hy; exact Ok.int n
def All3 (H : Hp) (L : List V) : Prop := ∀ y ∈ L, Ok3 H y
theorem All3.same {H H' : Hp} {L : List V} (h : All3 H L) (s : Same H H') : All3 H' L := fun y hy => (h y hy).same s
theorem All3.nil {H : Hp} : All3 H [] := fun _ h => absurd h (by simp)
theorem All3.cons {H : Hp} {x : V} {L : List V} (h : Ok3 H x) (k : All3 H L) : All3 H (x :: L) := fun y hy => by
  rcases List.mem_cons.mp hy with rfl | hy
  · exact h
  · exact k y hy
theorem All3.app {H : Hp} {L M : List V} (h : All3 H L) (k : All3 H M) : All3 H (L ++ M) := fun y hy => by
  rcases List.mem_append.mp hy with hy | hy
  · exact h y hy
  · exact k y hy
structure Sz (p sa wa hd tl : Addr) (ss : List Int) (ws hs us : List V) (b : V) (H : Hp) : Prop where
  box : Box H p
  sa : H sa = some (.tup (ss.map V.int))
  wa : H wa = some (.tup ws)
  hd : H hd = some (.tup hs)
  tl : H tl = some (.tup us)
  ob : Ok H b
  wk : ∀ y ∈ ws, Ok2 H y
theorem Sz.same {p sa wa hd tl : Addr} {ss : List Int} {ws hs us : List V} {b : V} {H H' : Hp} (z : Sz p sa wa hd tl ss ws hs us b H) (s : Same H H') : Sz p sa wa hd tl ss ws hs us b H' :=
  ⟨z.box.same s, s _ _ z.sa, s _ _ z.wa, s _ _ z.hd, s _ _ z.tl, z.ob.same s, fun y hy => (z.wk y hy).same s⟩
theorem Sz.oks {p sa wa hd tl : Addr} {ss : List Int} {ws hs us : List V} {b : V} {H : Hp} (z : Sz p sa wa hd tl ss ws hs us b H) : Oks H ws := fun y hy => (z.wk y hy).ok
theorem Sz.si {p sa wa hd tl : Addr} {ss : List Int} {ws hs us : List V} {b : V} {H : Hp} (z : Sz p sa wa hd tl ss ws hs us b H) (l : ss.length ≤ 5) : Ok2 H (.ref sa) := Ok2.ints z.sa (by omega)
theorem Sz.wo {p sa wa hd tl : Addr} {ss : List Int} {ws hs us : List V} {b : V} {H : Hp} (z : Sz p sa wa hd tl ss ws hs us b H) (l : ws.length ≤ 5) : Ok2 H (.ref wa) := Ok2.tup z.wa z.oks (by omega)
def sp_spoilt : Sp := fun vs H Q _ => ∃ (p sa wa : Addr) (ss : List Int) (m : Nat) (ts : List (Addr × List Int)), vs = [.ref p, .ref sa, .ref wa] ∧ Box H p ∧ H sa = some (.tup (ss.map V.int)) ∧ 1 ≤ ss.length ∧ ss.length ≤ 5 ∧ m ≤ 5 ∧ Wts H wa m ts ∧ ∀ (x : V) (H' : Hp), Ok3 H' x → Box H' p → SameX p H H' → Q x H'
theorem sc__law_spoilt : FnScope ["_law_box_here", "_law_sides", "_law_wants", "_law_at", "_law_want_here", "_law_place", "_law_odd", "_law_bad", "_law_ones", "_law_head", "_law_tail", "_law_some"] ["_law_box_here", "_law_sides", "_law_wants"] (defScope s__law_spoilt) := ⟨rfl, rfl, rfl, by decide +kernel, rfl, by decide +kernel, by decide +kernel⟩
theorem ok_spoilt (F : Fun K "_law_spoilt" "_law_spoilt" s__law_spoilt f fd) (hm : mg "_law_spoilt" = some (.ref f)) (hb : Binds K fd ["_law_box_here", "_law_sides", "_law_wants"] []) (T : Txt mg) (c__law_take : Cal P w K mg base "_law_take" ["_law_box_here", "_law_size"] 1 spTake) : Cal P w K mg base "_law_spoilt" ["_law_box_here", "_law_sides", "_law_wants"] 2 sp_spoilt := by
  refine cal_of F hm hb sc__law_spoilt (fun vs H Q E h => ?_) (fun cdv A outer s H vs Q E hr h => ?_)
  · obtain ⟨_, _, _, _, _, _, rfl, _⟩ := h; rfl
  · obtain ⟨p, sa, wa, ss, m, ts, rfl, bx, hsa, s1, s5, m5, W, q⟩ := h
    have sc := sc__law_spoilt
    refine ⟨_, pss_consL (ps_set (i := 3) sc.nd rfl (Or.inl rfl) (pe_cal c__law_take hr (pa_cns (pv 0) (pa_cns (pe_callB len0 rfl T.len_ bt_len (pa_cns (pv 2) pa_nil)) pa_nil))))
      (pss_consL (ps_set (i := 4) sc.nd rfl (Or.inl rfl) (pe_ix ix0 (pv 2) (pv 3) (fun _ _ => rfl)))
      (pss_consL (ps_set (i := 5) sc.nd rfl (Or.inl rfl) (pe_cal c__law_take hr (pa_cns (pv 0) (pa_cns (pe_callB len0 rfl T.len_ bt_len (pa_cns (pv 4) pa_nil)) pa_nil))))
      (pss_consL (ps_set (i := 6) sc.nd rfl (Or.inl rfl) (pe_lstA (pa_cns (pe_op op_sub (pe_ix ix0 (pv 4) (pv 5) (fun _ _ => rfl)) pe_int) (pa_cns (pe_op op_add (pe_ix ix0 (pv 4) (pv 5) (fun _ _ => rfl)) pe_int) (pa_cns (pe_un un_neg pe_int) (pa_cns pe_bl (pa_cns pe_non (pa_cns pe_str (pa_cns (pe_lstA (pa_cns pe_int pa_nil)) (pa_cns (pe_op op_pow pe_int pe_int) pa_nil))))))))))
      (pss_consL (ps_set (i := 7) sc.nd rfl (Or.inl rfl) (pe_op catA0 (pe_op catA0 (pe_slice slA0 (pv 4) po_none (po_some (pv 5))) (pe_tupA (pa_cns (pe_ix ix0 (pv 6) (pe_cal c__law_take hr (pa_cns (pv 0) (pa_cns pe_int pa_nil))) (fun _ _ => rfl)) pa_nil))) (pe_slice slA0 (pv 4) (po_some (pe_op op_add (pv 5) pe_int)) po_none)))
      (pss_consL (ps_set (i := 8) sc.nd rfl (Or.inl rfl) (pe_lstA (pa_cns (pv 7) (pa_cns (pv 7) (pa_cns (pe_op catA0 (pv 4) (pv 4)) (pa_cns (pe_slice slA0 (pv 4) po_none (po_some (pe_un un_neg pe_int))) (pa_cns (pe_callTy listA0 rfl T.list_ bt_list (pa_cns (pv 4) pa_nil)) (pa_cns pe_non (pa_cns (pe_tupA pa_nil) (pa_cns pe_int (pa_cns pe_dict0 (pa_cns (pv 4) pa_nil))))))))))))
      (pss_consL (ps_set (i := 7) sc.nd rfl (Or.inl rfl) (pe_ix ix0 (pv 8) (pe_cal c__law_take hr (pa_cns (pv 0) (pa_cns pe_int pa_nil))) (fun _ _ => rfl)))
      (pss_consL (ps_par (i := 9) (j := 10) rfl sc.nd rfl rfl (by decide) rfl rfl (pa_cns (pe_slice slA0 (pv 2) po_none (po_some (pv 3))) (pa_cns (pe_slice slA0 (pv 2) (po_some (pe_op op_add (pv 3) pe_int)) po_none) pa_nil)) rfl)
      (pss_consL (ps_set (i := 11) sc.nd rfl (Or.inl rfl) (pe_lstA (pa_cns (pe_tupA (pa_cns (pv 1) (pa_cns (pe_op catA0 (pe_op catA0 (pv 9) (pe_tupA (pa_cns (pv 7) pa_nil))) (pv 10)) pa_nil))) (pa_cns (pe_tupA (pa_cns (pv 1) (pa_cns (pe_op catA0 (pe_op catA0 (pv 9) (pe_tupA (pa_cns (pv 7) pa_nil))) (pv 10)) pa_nil))) (pa_cns (pe_tupA (pa_cns (pv 1) (pa_cns (pe_op catA0 (pv 9) (pv 10)) pa_nil))) (pa_cns (pe_tupA (pa_cns (pv 1) (pa_cns (pe_op mulT0 (pv 2) pe_int) pa_nil))) pa_nil))))))
      (pss_consL (ps_set (i := 11) sc.nd rfl (Or.inl rfl) (pe_opQ catL0 (pv 11) (qe_lst (qa_cns (qe_of (pe_tupA (pa_cns (pv 1) (pa_cns (pe_tupA pa_nil) pa_nil)))) (qa_cns (qe_of (pe_tupA (pa_cns (pe_op catA0 (pv 1) (pe_tupA (pa_cns pe_int pa_nil))) (pa_cns (pv 2) pa_nil)))) (qa_cns (qe_of (pe_tupA (pa_cns (pe_slice slA0 (pv 1) (po_some pe_int) po_none) (pa_cns (pv 2) pa_nil)))) (qa_cns (qe_of (pe_tupA (pa_cns (pe_op catA0 (pe_slice slA0 (pv 1) po_none (po_some (pe_un un_neg pe_int))) (pe_tupA (pa_cns pe_int pa_nil))) (pa_cns (pv 2) pa_nil)))) qa_nil)))))))
      (pss_consL (ps_set (i := 11) sc.nd rfl (Or.inl rfl) (pe_opQ catL0 (pv 11) (qe_lst (qa_cns (qe_of (pe_tupA (pa_cns (pv 1) (pa_cns (pv 2) (pa_cns pe_int pa_nil))))) (qa_cns (qe_of (pe_tupA (pa_cns (pv 1) (pa_cns (pe_callTy listA0 rfl T.list_ bt_list (pa_cns (pv 2) pa_nil)) pa_nil)))) (qa_cns (qe_of (pe_tupA (pa_cns (pe_callTy listA0 rfl T.list_ bt_list (pa_cns (pv 1) pa_nil)) (pa_cns (pv 2) pa_nil)))) (qa_cns (qe_of (pe_lstA (pa_cns (pv 1) (pa_cns (pv 2) pa_nil)))) (qa_cns (qe_of (pe_tupA (pa_cns (pv 1) pa_nil))) qa_nil))))))))
      (pss_consL (ps_set (i := 11) sc.nd rfl (Or.inl rfl) (pe_opQ catL0 (pv 11) (qe_lst (qa_cns (qe_of (pe_tupA (pa_cns (pv 2) (pa_cns (pv 1) pa_nil)))) (qa_cns (qe_of (pv 1)) (qa_cns (qe_of (pv 2)) qa_nil))))))
      (pss_one (ps_ret (pe_ix ix0 (pe_opQ catL0 (pv 11) (qe_lst (qa_cns (qe_of pe_non) (qa_cns (qe_of pe_bl) (qa_cns (qe_of pe_str) (qa_cns (qe_of (pe_tupA pa_nil)) (qa_cns (qe_of pe_dict0) (qa_cns (qe_of (pe_tupA (pa_cns pe_non (pa_cns (pv 2) pa_nil)))) (qa_cns (qe_of (pe_tupA (pa_cns (pv 1) (pa_cns pe_non pa_nil)))) (qa_cns (qe_of (pe_tupA (pa_cns (pe_lstA pa_nil) (pa_cns pe_dict0 pa_nil)))) qa_nil)))))))))) (pe_cal c__law_take hr (pa_cns (pv 0) (pa_cns pe_int pa_nil))) (fun _ _ => rfl))))))))))))))), ?_⟩
    rw [show L2.start ["_law_box_here", "_law_sides", "_law_wants", "_law_at", "_law_want_here", "_law_place", "_law_odd", "_law_bad", "_law_ones", "_law_head", "_law_tail", "_law_some"] [.ref p, .ref sa, .ref wa] = [some (.ref p), some (.ref sa), some (.ref wa), none, none, none, none, none, none, none, none, none] from rfl]
    have hsw := sq_tup W.at'
    have t1 := W.one
    have t5 := W.five
    (w_cond hsw)
    refine ⟨p, (ts.length : Int), rfl, bx, by omega, by omega, fun kk H1 k0 k1 bx1 bt1 => ?_⟩
    obtain ⟨k, rfl⟩ := Int.eq_ofNat_of_zero_le k0
    (walk_at "rd")
    (simp only [a_later])
    (walk_at "rd")
    obtain ⟨x, hx⟩ : ∃ x, ts[k]? = some x := ⟨_, List.getElem?_eq_getElem (by omega)⟩
    have nsp : sa ≠ p := by rintro rfl; obtain ⟨_, _, _, z⟩ := bx; rw [hsa] at z; cases z
    have nwp : wa ≠ p := by rintro rfl; obtain ⟨_, _, _, z⟩ := bx; rw [W.at'] at z; cases z
    have hw1 : H1 wa = some (.tup (ts.map fun t => V.ref t.1)) := by rw [bt1 wa nwp]; exact W.at'
    have hat1 : atI (ts.map fun t => V.ref t.1) (k : Int) = some (.ref x.1) := atI_nat (by rw [List.getElem?_map, hx]; rfl)
    obtain ⟨ex0, xl⟩ := W.row x (List.mem_of_getElem? hx)
    have nxp : x.1 ≠ p := by intro z; obtain ⟨_, _, _, z'⟩ := bx; rw [z, z'] at ex0; cases ex0
    have ex1 : H1 x.1 = some (.tup (x.2.map V.int)) := by rw [bt1 x.1 nxp]; exact ex0
    have hp := pow32 m5
    refine ⟨_, sq_tup hw1, _, hat1, ?_⟩
    have hs1 := sq_tup ex1
    (simp only [a_later])
    (w_cond hs1)
    refine ⟨p, (x.2.length : Int), rfl, bx1, by omega, by omega, fun pl H2 p0 p1 bx2 bt2 => ?_⟩
    obtain ⟨pn, rfl⟩ := Int.eq_ofNat_of_zero_le p0
    have ex2 : H2 x.1 = some (.tup (x.2.map V.int)) := by rw [bt2 x.1 nxp]; exact ex1
    have hs2 := sq_tup ex2
    have at2 := at_int (ns := x.2) (n := pn) (by omega)
    have sx2 : SameX p H H2 := bt1.x.trans bt2.x
    (simp only [a_later])
    (try simp only [a_tPop0, a_tCalK, g3r_is, g2r_is, g2_is, g1_is, a_tSeqL, a_tChain, a_tDict, a_tLstA, a_rMulT, a_rEqT, a_tLC2, a_tLC3, a_tInner, a_tIns, a_tRev, a_rSlA, a_rCatA, a_rCatL, a_tSeq, a_tFor, a_rIxL, a_iZip, a_tSortR, a_tSl, a_rSlL0, a_tNoPart, a_tPart, a_tApp, a_tRet, a_tRetN, a_tNext, a_tDrop, a_tAsg, a_gSub, a_gName, a_gNil, a_gCons, a_gTup0, a_rSetL, a_tIfS, a_tAnd, a_tOr, a_tNot, a_tTest, a_tB, a_tTrue, a_tIf, a_tAndV, a_tOrV, a_tNotV, a_tOp, a_tUn, a_rU, a_tVar, a_tC, a_rI0, a_rI, a_rEq, a_rNe, a_rIx0, a_rIn0, a_tCB, a_tCal, a_tCons, a_tNil, a_tTupA, a_tLst, a_tPar, a_tBits, a_tLC, a_iRng1, a_iRng2, a_iT0, a_iL0, a_tEmit, frS, scal, V.ty.injEq, tyN, subN, String.reduceEq, String.reduceBEq, Bool.true_or, Bool.false_or, Bool.or_false, Bool.true_and, Bool.false_and, Bool.and_false, or_true, true_or, beq_self_eq_true, decide_true, decide_false, List.map_cons, List.map_nil, List.length_cons, List.length_nil, List.getElem?_cons_zero, List.getElem?_cons_succ, List.getElem?_nil, List.set_cons_zero, List.set_cons_succ, Option.some.injEq, Option.bind_some, Option.bind_none, id, exists_eq_left', exists_eq_left, exists_and_left, exists_eq_right, V.int.injEq, V.bl.injEq, V.ref.injEq, List.cons.injEq, and_true, true_and, and_assoc, exists_const, atI0, atI1, atI2, ixN30, ixN31, ixN32, upd_same, upd_upd, sq_updL, sq_updT, Nat.zero_add, Nat.reduceAdd, reduceCtorEq, false_and, and_false, exists_false, false_or, or_false, List.length_map, HO.lst.injEq, HO.tup.injEq, Bool.false_eq_true, if_false, if_true, decide_eq_true_eq, ite_true, ite_false, reduceIte, Int.reduceLT, Int.reduceLE, Nat.reduceLT, Int.zero_add, Bool.not_true, Bool.not_false, hs2, at2])
    refine ⟨by decide, fun d1 H3 n3 s3 e3 => ?_⟩
    refine ⟨⟨by decide, by decide, by decide⟩, by decide, fun d2 H4 n4 s4 e4 => ?_⟩
    have s24 : Same H2 H4 := s3.trans s4
    have bx4 : Box H4 p := bx2.same s24
    have boxne : ∀ {G : Hp} {a : Addr} {xs : List V}, Box G p → G a = some (.lst xs) → xs.length ≠ 3 → a ≠ p := fun b e l => by
      rintro rfl
      obtain ⟨_, _, _, z⟩ := b
      rw [e] at z
      injection z with z
      injection z with z
      rw [z] at l
      exact l rfl
    have tupne : ∀ {G : Hp} {a : Addr} {xs : List V}, Box G p → G a = some (.tup xs) → a ≠ p := fun b e => by
      rintro rfl
      obtain ⟨_, _, _, z⟩ := b
      rw [e] at z
      cases z
    have sm : ∀ {n : Nat}, n ≤ 500 → n ≤ sizeLine := fun h => Nat.le_trans h (by decide)
    have kI : ∀ {H : Hp}, Kn H (x.2.map V.int) := Kn.ints x.2
    have cl : ∀ lo hi, (cutV (x.2.map V.int) lo hi).length ≤ 32 := fun lo hi => Nat.le_trans (cutV_length _ lo hi) (by rw [List.length_map]; omega)
    have xl32 : (x.2.map V.int).length ≤ 32 := by rw [List.length_map]; omega
    have ex4 := s24 _ _ ex2
    (walk_at "rd")
    (simp only [a_later])
    (w_cond ex4)
    intro hd0 H5 s5' e5
    refine ⟨p, 8, rfl, bx4.same s5', by decide, by decide, fun r2 H6 r20 r21 bx6 bt6 => ?_⟩
    have nd2 : d2 ≠ p := boxne bx4 e4 (by simp)
    have e4' := s5' _ _ e4
    have hs6 := sq_lst (show H6 d2 = _ by rw [bt6 d2 nd2]; exact e4')
    obtain ⟨one, hone, hat⟩ := mem_get (xs := [V.int (x.2.getD pn 0 - 1), V.int (x.2.getD pn 0 + 1), V.int (-1), V.bl true, V.non, V.str "0", V.ref d1, V.int (10 ^ Int.toNat 30)]) r20 (by simpa using r21)
    have ok5 : Ok H5 one := by
      simp only [List.mem_cons, List.not_mem_nil, or_false] at hone
      rcases hone with rfl | rfl | rfl | rfl | rfl | rfl | rfl | rfl
      · exact Ok.int _
      · exact Ok.int _
      · exact Ok.int _
      · exact Ok.bl _
      · exact Ok.non
      · exact Ok.str _
      · exact (Ok.lst e3).same (s4.trans s5')
      · exact Ok.int _
    have ok6 : Ok H6 one := But.okk bt6 (bx4.same s5') ok5 bx6
    have e56 : H6 hd0 = _ := (bt6 hd0 (tupne (bx4.same s5') e5)).trans e5
    have ex6 : H6 x.1 = _ := (bt6 x.1 nxp).trans (s5' _ _ ex4)
    refine ⟨_, _, rfl, hs6, _, hat, ?_⟩
    refine ⟨by decide, fun o1 H7 n7 s7 e7 => ?_⟩
    have c1 := cl none (some (pn : Int))
    have c2 := cl (some ((pn : Int) + 1)) none
    refine ⟨_, s7 _ _ e56, _, e7, sm (by simp; omega), fun o2 H8 s8 e8 => ?_⟩
    refine ⟨_, s8 _ _ (s7 _ _ ex6), fun o3 H9 s9 e9 => ?_⟩
    refine ⟨_, s9 _ _ e8, _, e9, sm (by rw [List.length_append]; simp; omega), fun bad H10 s10 e10 => ?_⟩
    have s610 : Same H6 H10 := (s7.trans s8).trans (s9.trans s10)
    have okb : Ok H10 (.ref bad) := Ok.tup e10 (Kn.app (Kn.app (kI.cut _ _) (Kn.cons (ok6.same s610) Kn.nil)) (kI.cut _ _)) (by rw [List.length_append, List.length_append]; simp; omega)
    have bx10 := bx6.same s610
    have ex10 := s610 _ _ ex6
    have sx10 : SameX p H H10 := (sx2.trans (s24.trans s5').x).trans (bt6.x.trans s610.x)
    (walk_at "rd")
    (simp only [a_later])
    (walk_at "rd")
    refine ⟨_, ex10, _, ex10, sm (by omega), fun v1 H11 s11 f11 => ?_⟩
    refine ⟨_, s11 _ _ ex10, fun v2 H12 s12 f12 => ?_⟩
    have ex12 := s12 _ _ (s11 _ _ ex10)
    refine ⟨_, sq_tup ex12, fun v3 H13 n13 s13 f13 => ?_⟩
    refine ⟨by decide, fun v4 H14 n14 s14 f14 => ?_⟩
    intro v5 H15 n15 s15 f15
    refine ⟨by decide, fun v6 H16 n16 s16 f16 => ?_⟩
    have s1016 : Same H10 H16 := ((s11.trans s12).trans (s13.trans s14)).trans (s15.trans s16)
    have bx16 := bx10.same s1016
    (walk_at "rd")
    (simp only [a_later])
    (walk_at "rd")
    refine ⟨p, 10, rfl, bx16, by decide, by decide, fun r3 H17 r30 r31 bx17 bt17 => ?_⟩
    have nv6 : v6 ≠ p := boxne bx16 f16 (by simp)
    have hs17 := sq_lst (show H17 v6 = _ by rw [bt17 v6 nv6]; exact f16)
    obtain ⟨b2, hb2, hat3⟩ := mem_get (xs := [V.ref bad, V.ref bad, V.ref v1, V.ref v2, V.ref v3, V.non, V.ref v4, V.int 0, V.ref v5, V.ref x.1]) r30 (by simpa using r31)
    have ok16 : Ok H16 b2 := by
      have c3 := cl none (some (-1))
      simp only [List.mem_cons, List.not_mem_nil, or_false] at hb2
      rcases hb2 with rfl | rfl | rfl | rfl | rfl | rfl | rfl | rfl | rfl | rfl
      · exact okb.same s1016
      · exact okb.same s1016
      · exact (Ok.tup f11 (Kn.app kI kI) (by rw [List.length_append]; omega)).same ((s12.trans s13).trans ((s14.trans s15).trans s16))
      · exact (Ok.tup f12 (kI.cut _ _) (by omega)).same ((s13.trans s14).trans (s15.trans s16))
      · exact (Ok.lst f13).same ((s14.trans s15).trans s16)
      · exact Ok.non
      · exact (Ok.tup f14 Kn.nil (by simp)).same (s15.trans s16)
      · exact Ok.int _
      · exact (Ok.dct f15).same s16
      · exact (Ok.tup ex10 kI (by omega)).same s1016
    have ok17 : Ok H17 b2 := But.okk bt17 bx16 ok16 bx17
    refine ⟨_, _, rfl, hs17, _, hat3, ?_⟩
    have sx17 : SameX p H H17 := sx10.trans (s1016.x.trans bt17.x)
    have hw17 : H17 wa = some (.tup (ts.map fun t => V.ref t.1)) := sx17 _ _ nwp W.at'
    have hs17' : H17 sa = some (.tup (ss.map V.int)) := sx17 _ _ nsp hsa
    have wk17 : ∀ y ∈ ts.map (fun t => V.ref t.1), Ok H17 y := fun y hy => by
      obtain ⟨t, ht, rfl⟩ := List.mem_map.mp hy
      obtain ⟨et, lt⟩ := W.row t ht
      exact Ok.tup (sx17 _ _ (tupne bx et) et) (Kn.ints t.2) (by rw [List.length_map]; omega)
    (walk_at "rd")
    (simp only [a_later])
    (w_cond hw17)
    intro hd H18 s18 f18
    refine ⟨_, s18 _ _ hw17, ?_⟩
    intro tl H19 s19 f19
    have wl5 : (ts.map fun t => V.ref t.1).length ≤ 5 := by rw [List.length_map]; exact t5
    have sl5 : (ss.map V.int).length ≤ 5 := by rw [List.length_map]; exact s5
    have wc : ∀ lo hi, (cutV (ts.map fun t => V.ref t.1) lo hi).length ≤ 5 := fun lo hi => Nat.le_trans (cutV_length _ lo hi) wl5
    have sc5 : ∀ lo hi, (cutV (ss.map V.int) lo hi).length ≤ 5 := fun lo hi => Nat.le_trans (cutV_length _ lo hi) sl5
    have wk19 : ∀ y ∈ ts.map (fun t => V.ref t.1), Ok2 H19 y := fun y hy => by
      obtain ⟨t, ht, rfl⟩ := List.mem_map.mp hy
      obtain ⟨et, lt⟩ := W.row t ht
      exact Ok2.ints (s19 _ _ (s18 _ _ (sx17 _ _ (tupne bx et) et))) (by omega)
    have wc1 := wc none (some (k : Int))
    have wc2 := wc (some ((k : Int) + 1)) none
    have z19 : Sz p sa wa hd tl ss (ts.map fun t => V.ref t.1) (cutV (ts.map fun t => V.ref t.1) none (some (k : Int))) (cutV (ts.map fun t => V.ref t.1) (some ((k : Int) + 1)) none) b2 H19 :=
      ⟨(bx17.same s18).same s19, s19 _ _ (s18 _ _ hs17'), s19 _ _ (s18 _ _ hw17), s19 _ _ f18, f19, (ok17.same s18).same s19, wk19⟩
    have sx19 : SameX p H H19 := sx17.trans (s18.trans s19).x
    clear wk19 wk17 ok17 hs17 hat3 hb2 ok16 f11 f12 f13 f14 f15 f16 okb e10 e9 e8 e7 ok6 ok5 hone hat hs6 e4 e3 ex12 ex10 ex6 ex4 f18 f19 hs17' hw17
    (simp only [a_later])
    (walk_at "rd")
    refine ⟨by decide, fun a1 G1 m1 t1 g1 => ?_⟩
    have z1 := z19.same t1
    refine ⟨_, z1.hd, _, g1, sm (by simp; omega), fun a2 G2 t2 g2 => ?_⟩
    have z2 := z1.same t2
    refine ⟨_, g2, _, z2.tl, sm (by rw [List.length_append]; simp; omega), fun a3 G3 t3 g3 => ?_⟩
    have z3 := z2.same t3
    refine ⟨by decide, fun a4 G4 m4 t4 g4 => ?_⟩
    have z4 := z3.same t4
    have k4 : Ok3 G4 (.ref a4) := Ok3.two g4 (z4.si s5) (Ok2.tup (t4 _ _ g3) (Oks.app (Oks.app (z4.oks.cut _ _) (Oks.one z4.ob)) (z4.oks.cut _ _)) (by rw [List.length_append, List.length_append]; simp; omega))
    refine ⟨by decide, fun a5 G5 m5' t5' g5 => ?_⟩
    have z5 := z4.same t5'
    refine ⟨_, z5.hd, _, g5, sm (by simp; omega), fun a6 G6 t6 g6 => ?_⟩
    have z6 := z5.same t6
    refine ⟨_, g6, _, z6.tl, sm (by rw [List.length_append]; simp; omega), fun a7 G7 t7 g7 => ?_⟩
    have z7 := z6.same t7
    refine ⟨by decide, fun a8 G8 m8 t8 g8 => ?_⟩
    have z8 := z7.same t8
    have k8 : Ok3 G8 (.ref a8) := Ok3.two g8 (z8.si s5) (Ok2.tup (t8 _ _ g7) (Oks.app (Oks.app (z8.oks.cut _ _) (Oks.one z8.ob)) (z8.oks.cut _ _)) (by rw [List.length_append, List.length_append]; simp; omega))
    refine ⟨_, z8.hd, _, z8.tl, sm (by omega), fun a9 G9 t9 g9 => ?_⟩
    have z9 := z8.same t9
    refine ⟨by decide, fun a10 G10 m10 t10 g10 => ?_⟩
    have z10 := z9.same t10
    have k10 : Ok3 G10 (.ref a10) := Ok3.two g10 (z10.si s5) (Ok2.tup (t10 _ _ g9) (Oks.app (z10.oks.cut _ _) (z10.oks.cut _ _)) (by rw [List.length_append]; omega))
    refine ⟨6, rfl, _, z10.wa, by omega, by omega, fun a11 G11 t11 g11 => ?_⟩
    have z11 := z10.same t11
    refine ⟨by decide, fun a12 G12 m12 t12 g12 => ?_⟩
    have z12 := z11.same t12
    have k12 : Ok3 G12 (.ref a12) := Ok3.two g12 (z12.si s5) (Ok2.tup (t12 _ _ g11) (z12.oks.rep 6) (by rw [len_rep]; omega))
    refine ⟨by decide, fun l1 G13 m13 t13 g13 => ?_⟩
    have z13 := z12.same t13
    have K1 : All3 G13 [.ref a4, .ref a8, .ref a10, .ref a12] := All3.same (All3.cons (k4.same ((((t5'.trans t6).trans t7).trans t8).trans (((t9.trans t10).trans t11).trans t12))) (All3.cons (k8.same (((t9.trans t10).trans t11).trans t12)) (All3.cons (k10.same (t11.trans t12)) (All3.cons k12 All3.nil)))) t13
    have S1 : Same H19 G13 := (((t1.trans t2).trans (t3.trans t4)).trans ((t5'.trans t6).trans (t7.trans t8))).trans (((t9.trans t10).trans (t11.trans t12)).trans t13)
    clear z1 z2 z3 z4 z5 z6 z7 z8 z9 z10 z11 z12 t1 t2 t3 t4 t5' t6 t7 t8 t9 t10 t11 t12 t13 k4 k8 k10 k12 g1 g2 g3 g4 g5 g6 g7 g8 g9 g10 g11 g12
    (walk_at "rd")
    (simp only [a_later])
    (walk_at "rd")
    refine ⟨by decide, fun b1 J1 m1 t1 g1 => ?_⟩
    refine ⟨by decide, fun b2' J2 m2 t2 g2 => ?_⟩
    have z2 := (z13.same t1).same t2
    have k2 : Ok3 J2 (.ref b2') := Ok3.two g2 (z2.si s5) (Ok2.tup (t2 _ _ g1) (fun y hy => absurd hy (by simp)) (by simp))
    refine ⟨by decide, fun b3 J3 m3 t3 g3 => ?_⟩
    have z3 := z2.same t3
    refine ⟨_, z3.sa, _, g3, sm (by simp; omega), fun b4 J4 t4 g4 => ?_⟩
    refine ⟨by decide, fun b5 J5 m5 t5' g5 => ?_⟩
    have z5 := (z3.same t4).same t5'
    have k5 : Ok3 J5 (.ref b5) := Ok3.two g5 (Ok2.tup (t5' _ _ g4) (Oks.app (Oks.ints ss) (Oks.one (Ok.int 0))) (by rw [List.length_append]; simp; omega)) (z5.wo wl5)
    refine ⟨_, z5.sa, fun b6 J6 t6 g6 => ?_⟩
    refine ⟨by decide, fun b7 J7 m7 t7 g7 => ?_⟩
    have z7 := (z5.same t6).same t7
    have q1 := sc5 (some 1) none
    have q2 := sc5 none (some (-1))
    have k7 : Ok3 J7 (.ref b7) := Ok3.two g7 (Ok2.tup (t7 _ _ g6) ((Oks.ints ss).cut _ _) (by omega)) (z7.wo wl5)
    refine ⟨_, z7.sa, fun b8 J8 t8 g8 => ?_⟩
    refine ⟨by decide, fun b9 J9 m9 t9 g9 => ?_⟩
    refine ⟨_, t9 _ _ g8, _, g9, sm (by simp; omega), fun b10 J10 t10 g10 => ?_⟩
    refine ⟨by decide, fun b11 J11 m11 t11 g11 => ?_⟩
    have z11 := ((z7.same t8).same t9).same (t10.trans t11)
    have k11 : Ok3 J11 (.ref b11) := Ok3.two g11 (Ok2.tup (t11 _ _ g10) (Oks.app ((Oks.ints ss).cut _ _) (Oks.one (Ok.int 2))) (by rw [List.length_append]; simp; omega)) (z11.wo wl5)
    refine ⟨by decide, fun l2 J12 m12 t12 g12 => ?_⟩
    have S2 : Same G13 J12 := (((t1.trans t2).trans (t3.trans t4)).trans ((t5'.trans t6).trans (t7.trans t8))).trans ((t9.trans t10).trans (t11.trans t12))
    refine ⟨_, S2 _ _ g13, _, g12, sm (by simp), fun l3 J13 n13 t13 g13' => ?_⟩
    have K2 : All3 J13 ([.ref a4, .ref a8, .ref a10, .ref a12] ++ [.ref b2', .ref b5, .ref b7, .ref b11]) :=
      All3.app (K1.same (S2.trans t13)) (All3.same (All3.cons (k2.same ((t3.trans t4).trans ((t5'.trans t6).trans ((t7.trans t8).trans (t9.trans (t10.trans t11)))))) (All3.cons (k5.same ((t6.trans t7).trans (t8.trans (t9.trans (t10.trans t11))))) (All3.cons (k7.same (t8.trans (t9.trans (t10.trans t11)))) (All3.cons k11 All3.nil)))) (t12.trans t13))
    have zJ := z13.same (S2.trans t13)
    have SJ : Same H19 J13 := S1.trans (S2.trans t13)
    clear z2 z3 z5 z7 z11 z13 S1 S2 K1 t1 t2 t3 t4 t5' t6 t7 t8 t9 t10 t11 t12 t13 k2 k5 k7 k11 g1 g2 g3 g4 g5 g6 g7 g8 g9 g10 g11 g12 g13
    (walk_at "rd")
    (simp only [a_later])
    (walk_at "rd")
    refine ⟨by decide, fun c1' M1 m1 t1 g1 => ?_⟩
    have z1 := zJ.same t1
    have k1 : Ok3 M1 (.ref c1') := Ok3.tup g1 (fun y hy => by
      have : y = .ref sa ∨ y = .ref wa ∨ y = .int 0 := by simpa using hy
      rcases this with rfl | rfl | rfl
      · exact z1.si s5
      · exact z1.wo wl5
      · exact Ok2.int 0) (by simp)
    refine ⟨_, sq_tup z1.wa, fun c2' M2 m2 t2 g2 => ?_⟩
    refine ⟨by decide, fun c3 M3 m3 t3 g3 => ?_⟩
    have z3 := (z1.same t2).same t3
    have k3 : Ok3 M3 (.ref c3) := Ok3.two g3 (z3.si s5) (Ok2.lst (t3 _ _ g2))
    refine ⟨_, sq_tup z3.sa, fun c4 M4 m4 t4 g4 => ?_⟩
    refine ⟨by decide, fun c5 M5 m5 t5' g5 => ?_⟩
    have z5 := (z3.same t4).same t5'
    have k5 : Ok3 M5 (.ref c5) := Ok3.two g5 (Ok2.lst (t5' _ _ g4)) (z5.wo wl5)
    refine ⟨by decide, fun c6 M6 m6 t6 g6 => ?_⟩
    refine ⟨by decide, fun c7 M7 m7 t7 g7 => ?_⟩
    have z7 := (z5.same t6).same t7
    have k7 : Ok3 M7 (.ref c7) := Ok3.tup g7 (fun y hy => by rw [List.mem_singleton.mp hy]; exact z7.si s5) (by simp)
    refine ⟨by decide, fun l4 M8 m8 t8 g8 => ?_⟩
    have S3 : Same J13 M8 := ((t1.trans t2).trans (t3.trans t4)).trans ((t5'.trans t6).trans (t7.trans t8))
    refine ⟨_, S3 _ _ g13', _, g8, sm (by simp), fun l5 M9 n9 t9 g9 => ?_⟩
    have K3 : All3 M9 _ := All3.app (K2.same (S3.trans t9)) (All3.same (All3.cons (k1.same ((t2.trans t3).trans ((t4.trans t5').trans (t6.trans t7)))) (All3.cons (k3.same ((t4.trans t5').trans (t6.trans t7))) (All3.cons (k5.same (t6.trans t7)) (All3.cons ((Ok3.lst g6).same t7) (All3.cons k7 All3.nil))))) (t8.trans t9))
    have zM := zJ.same (S3.trans t9)
    have SM : Same H19 M9 := SJ.trans (S3.trans t9)
    clear z1 z3 z5 z7 zJ S3 K2 t1 t2 t3 t4 t5' t6 t7 t8 t9 k1 k3 k5 k7 g1 g2 g3 g4 g5 g6 g7 g8 g13'
    (walk_at "rd")
    (simp only [a_later])
    (walk_at "rd")
    refine ⟨by decide, fun d3 N1 m1 t1 g1 => ?_⟩
    have z1 := zM.same t1
    have k1 : Ok3 N1 (.ref d3) := Ok3.two g1 (z1.wo wl5) (z1.si s5)
    refine ⟨by decide, fun l6 N2 m2 t2 g2 => ?_⟩
    have z2 := z1.same t2
    refine ⟨_, (t1.trans t2) _ _ g9, _, g2, sm (by simp), fun l7 N3 n3' t3 gN => ?_⟩
    have zN := z2.same t3
    have K4 : All3 N3 _ := All3.app (K3.same ((t1.trans t2).trans t3)) (All3.cons (k1.same (t2.trans t3)) (All3.cons (Ok3.tup zN.sa (fun y hy => by obtain ⟨n, _, rfl⟩ := List.mem_map.mp hy; exact Ok2.int n) (by omega)) (All3.cons (Ok3.tup zN.wa zN.wk (by omega)) All3.nil)))
    have SN : Same H19 N3 := SM.trans ((t1.trans t2).trans t3)
    clear z1 z2 zM K3 t1 t2 t3 k1 g1 g2 g9
    (walk_at "rd")
    (simp only [a_later])
    (walk_at "rd")
    refine ⟨by decide, fun e1 O1 m1 t1 g1 => ?_⟩
    intro e2 O2 m2 t2 g2
    refine ⟨by decide, fun e3' O3 m3 t3 g3 => ?_⟩
    have z3 := zN.same ((t1.trans t2).trans t3)
    have k3 : Ok3 O3 (.ref e3') := Ok3.two g3 Ok2.non (z3.wo wl5)
    refine ⟨by decide, fun e4' O4 m4 t4 g4 => ?_⟩
    have z4 := z3.same t4
    have k4 : Ok3 O4 (.ref e4') := Ok3.two g4 (z4.si s5) Ok2.non
    refine ⟨by decide, fun e5' O5 m5 t5' g5 => ?_⟩
    intro e6 O6 m6 t6 g6
    refine ⟨by decide, fun e7' O7 m7 t7 g7 => ?_⟩
    have k7 : Ok3 O7 (.ref e7') := Ok3.two g7 (Ok2.lst (t7 _ _ (t6 _ _ g5))) (Ok2.dct (t7 _ _ g6))
    refine ⟨by decide, fun l8 O8 m8 t8 g8 => ?_⟩
    have S5 : Same N3 O8 := ((t1.trans t2).trans (t3.trans t4)).trans ((t5'.trans t6).trans (t7.trans t8))
    refine ⟨_, S5 _ _ gN, _, g8, sm (by simp), fun l9 O9 n9 t9 g9 => ?_⟩
    have K5 : All3 O9 _ := All3.app (K4.same (S5.trans t9)) (All3.same (All3.cons Ok3.non (All3.cons (Ok3.bl true) (All3.cons (Ok3.str "") (All3.cons ((Ok3.tup g1 (fun y hy => absurd hy (by simp)) (by simp)).same ((t2.trans t3).trans ((t4.trans t5').trans (t6.trans (t7.trans t8))))) (All3.cons ((Ok3.dct g2).same (t3.trans ((t4.trans t5').trans (t6.trans (t7.trans t8))))) (All3.cons (k3.same ((t4.trans t5').trans (t6.trans (t7.trans t8)))) (All3.cons (k4.same (t5'.trans (t6.trans (t7.trans t8)))) (All3.cons (k7.same t8) All3.nil)))))))) t9)
    have zO := zN.same (S5.trans t9)
    have SO : Same H19 O9 := SN.trans (S5.trans t9)
    refine ⟨p, 24, rfl, zO.box, by decide, by decide, fun r4 P1 r40 r41 bxP btP => ?_⟩
    have nl9 : l9 ≠ p := boxne zO.box g9 (by simp)
    have hsP := sq_lst (show P1 l9 = _ by rw [btP l9 nl9]; exact g9)
    obtain ⟨y, hy, hatP⟩ := mem_get (xs := (([V.ref a4, V.ref a8, V.ref a10, V.ref a12] ++ [V.ref b2', V.ref b5, V.ref b7, V.ref b11]) ++ [V.ref c1', V.ref c3, V.ref c5, V.ref c6, V.ref c7] ++ [V.ref d3, V.ref sa, V.ref wa]) ++ [V.non, V.bl true, V.str "", V.ref e1, V.ref e2, V.ref e3', V.ref e4', V.ref e7']) r40 (by simpa using r41)
    refine ⟨_, _, rfl, hsP, _, hatP, ?_⟩
    exact q y P1 (okk3 btP zO.box (K5 y hy) bxP) bxP ((sx19.trans SO.x).trans btP.x)
end
end K06
end
section
set_option Elab.async false
set_option linter.all false
set_option maxRecDepth 100000
set_option maxHeartbeats 8000000
namespace K06
open PySem L2
local macro_rules | `(tactic| walk_at "rd") => `(tactic| (try simp only [a_tPop0, a_tCalK, g3r_is, g2r_is, g2_is, g1_is, a_tSeqL, a_tChain, a_tDict, a_tLstA, a_rMulT, a_rEqT, a_tLC2, a_tLC3, a_tInner, a_tIns, a_tRev, a_rSlA, a_rCatA, a_rCatL, a_tSeq, a_tFor, a_rIxL, a_iZip, a_tSortR, a_tSl, a_rSlL0, a_tNoPart, a_tPart, a_tApp, a_tRet, a_tRetN, a_tNext, a_tDrop, a_tAsg, a_gSub, a_gName, a_gNil, a_gCons, a_gTup0, a_rSetL, a_tIfS, a_tAnd, a_tOr, a_tNot, a_tTest, a_tB, a_tTrue, a_tIf, a_tAndV, a_tOrV, a_tNotV, a_tOp, a_tUn, a_rU, a_tVar, a_tC, a_rI0, a_rI, a_rEq, a_rNe, a_rIx0, a_rIn0, a_tCB, a_tCal, a_tCons, a_tNil, a_tTupA, a_tLst, a_tPar, a_tBits, a_tLC, a_iRng1, a_iRng2, a_iT0, a_iL0, a_tEmit, frS, scal, V.ty.injEq, tyN, subN, String.reduceEq, String.reduceBEq, Bool.true_or, Bool.false_or, Bool.or_false, Bool.true_and, Bool.false_and, Bool.and_false, or_true, true_or, beq_self_eq_true, decide_true, decide_false, List.map_cons, List.map_nil, List.length_cons, List.length_nil, List.getElem?_cons_zero, List.getElem?_cons_succ, List.getElem?_nil, List.set_cons_zero, List.set_cons_succ, Option.some.injEq, Option.bind_some, Option.bind_none, id, exists_eq_left', exists_eq_left, exists_and_left, exists_eq_right, V.int.injEq, V.bl.injEq, V.ref.injEq, List.cons.injEq, and_true, true_and, and_assoc, exists_const, atI0, atI1, atI2, ixN30, ixN31, ixN32, upd_same, upd_upd, sq_updL, sq_updT, Nat.zero_add, Nat.reduceAdd, reduceCtorEq, false_and, and_false, exists_false, false_or, or_false, List.length_map, HO.lst.injEq, HO.tup.injEq, Bool.false_eq_true, if_false, if_true, decide_eq_true_eq, ite_true, ite_false, reduceIte, Int.reduceLT, Int.reduceLE, Nat.reduceLT, Int.zero_add, Bool.not_true, Bool.not_false]))
section
variable {P : Program} {w : World} {K : PySem.W.Frag} {mg : Str → Option Value} {base : Heap} {f : Addr} {fd : FuncData}
theorem TB.same {H H' : Hp} (s : Same H H') {x : V} {b : Bool} (h : TB H x b) : TB H' x b := by
  cases h with
  | no e n => exact .no (tyN_same s e) n
  | len h l k => exact .len (s _ _ h) l (k.same s)
  | sno h e n k => exact .sno (s _ _ h) (tyN_same s e) n (k.same s)
  | wno h hb k l e n => exact .wno (s _ _ h) (s _ _ hb) (k.same s) l (tyN_same s e) n
  | @all a b c ss ws h hb k l hc kc wl =>
    have e : wantsB H ss.length ws = wantsB H' ss.length ws := by
      unfold wantsB
      congr 1
      rw [Bool.eq_iff_iff, List.all_eq_true, List.all_eq_true]
      exact ⟨fun q y hy => by rw [byWant_same s (kc y hy)]; exact q y hy, fun q y hy => by rw [← byWant_same s (kc y hy)]; exact q y hy⟩
    rw [e]
    exact .all (s _ _ h) (s _ _ hb) (k.same s) l (s _ _ hc) (fun y hy => (kc y hy).same s) wl
def sp_named : Sp := fun vs H Q _ => vs = [] ∧ ∀ H', Q (.bl true) H'
theorem sc__law_named : FnScope [] [] (defScope s__law_named) := ⟨rfl, rfl, rfl, by decide +kernel, rfl, by decide +kernel, by decide +kernel⟩
theorem ok_named (F : Fun K "_law_named" "_law_named" s__law_named f fd) (hm : mg "_law_named" = some (.ref f)) (hb : Binds K fd [] []) (T : Txt mg) (ck_things_in : CalK P w K mg base "things_in" ["heap"] ["heap"] g1 2 sp_things) (ck_heap_of : CalK P w K mg base "heap_of" ["things"] ["things"] g1 1 sp_hp) (ck_is_within : CalK P w K mg base "is_within" ["one", "other"] ["one", "other"] g2 2 sp_within) (ck_is_want : CalK P w K mg base "is_want" ["thing", "many"] ["thing", "many"] g2 4 sp_want) (ck_is_sides : CalK P w K mg base "is_sides" ["thing"] ["thing"] g1 4 sp_sides) (ck_is_town : CalK P w K mg base "is_town" ["thing"] ["thing"] g1 5 sp_town) : Cal P w K mg base "_law_named" [] 6 sp_named := by
  refine cal_of F hm hb sc__law_named (fun vs H Q E h => ?_) (fun cdv A outer s H vs Q E hr h => ?_)
  · obtain ⟨rfl, _⟩ := h; rfl
  · obtain ⟨rfl, q⟩ := h
    have sc := sc__law_named
    refine ⟨_, pss_cons (ps_if (PW.pt (pw_or (pt_cmpR (neT0 hr.units0) (pe_calK0 ck_things_in hr (pk_cons (pe_calK0 ck_heap_of hr (pk_cons (pe_tupA (pa_cns pe_int (pa_cns pe_int pa_nil))) pk_nil)) pk_nil)) (pe_tupA (pa_cns pe_int (pa_cns pe_int pa_nil))) (nomark _)) (pw_or1 (pt_cmpR isnot_bl (pe_calK0 ck_is_within hr (pk_cons pe_int (pk_cons pe_int pk_nil))) pe_bl (nomark _))))) (pss_one (ps_ret pe_bl)) pss_nil)
      (pss_cons (ps_if (PW.pt (pw_or (pt_cmpR isnot_bl (pe_calK0 ck_is_within hr (pk_cons pe_int (pk_cons pe_int pk_nil))) pe_bl (nomark _)) (pw_or1 (pt_cmpR isnot_bl (pe_calK0 ck_is_want hr (pk_cons (pe_tupA (pa_cns pe_int (pa_cns pe_int pa_nil))) (pk_cons pe_int pk_nil))) pe_bl (nomark _))))) (pss_one (ps_ret pe_bl)) pss_nil)
      (pss_one (ps_ret (pe_and (pe_cmpR is_bl (pe_calK0 ck_is_sides hr (pk_cons (pe_tupA (pa_cns pe_int (pa_cns pe_int pa_nil))) pk_nil)) pe_bl (nomark _)) (pe_one (pe_cmpR is_bl (pe_calK0 ck_is_town hr (pk_cons (pe_tupA (pa_cns (pe_tupA (pa_cns pe_int pa_nil)) (pa_cns (pe_tupA (pa_cns (pe_tupA (pa_cns pe_int (pa_cns pe_int pa_nil))) pa_nil)) pa_nil))) pk_nil)) pe_bl (nomark _))))))), ?_⟩
    rw [show L2.start [] [] = [] from rfl]
    (walk_at "rd")
    refine ⟨by decide, fun a1 H1 n1 s1 e1 => ?_⟩
    refine ⟨a1, 3, 1, rfl, e1, by decide, by decide, fun H2 s2 => ?_⟩
    refine ⟨10, rfl, by decide, by decide, fun t3 H3 n3 s3 e3 => ?_⟩
    refine ⟨by decide, fun a4 H4 n4 s4 e4 => ?_⟩
    refine ⟨t3, rfl, thingsI 10, s4 _ _ e3, [1, 3], e4, ?_⟩
    rw [show (!decide (thingsI 10 = [1, 3])) = false by decide +kernel]
    rw [if_neg (by decide)]
    refine ⟨4, 6, rfl, true, congrArg V.bl (by decide +kernel), ?_⟩
    rw [if_neg (by decide)]
    refine ⟨6, 4, rfl, false, congrArg V.bl (by decide +kernel), ?_⟩
    rw [if_neg (by decide)]
    refine ⟨by decide, fun a5 H5 n5 s5 e5 => ?_⟩
    refine .inr ⟨a5, 1, [V.int 0, V.int 1], rfl, by decide, e5, Kn.ints [0, 1], by decide, fun H6 s6 => ?_⟩
    rw [show isWant [V.int 0, V.int 1] 1 = true by decide +kernel]
    refine ⟨true, rfl, ?_⟩
    rw [if_neg (by decide)]
    refine ⟨by decide, fun a6 H7 n7 s7 e7 => ?_⟩
    refine ⟨_, rfl, Ok.tup e7 (Kn.ints [0, 1]) (by decide), fun H8 s8 => ?_⟩
    rw [bySides_tup e7, show sidesB [V.int 0, V.int 1] = true by decide +kernel]
    (walk_at "rd")
    refine ⟨by decide, fun a7 H9 n9 s9 e9 => ?_⟩
    refine ⟨by decide, fun a8 H10 n10 s10 e10 => ?_⟩
    refine ⟨by decide, fun a9 H11 n11 s11 e11 => ?_⟩
    refine ⟨by decide, fun a10 H12 n12 s12 e12 => ?_⟩
    have wk : ∀ y ∈ [V.ref a8], Ok H12 y := fun y hy => by rw [List.mem_singleton.mp hy]; exact Ok.tup (s12 _ _ (s11 _ _ e10)) (Kn.ints [0, 1]) (by decide)
    have tb := TB.all e12 (s12 _ _ (s11 _ _ (s10 _ _ e9))) (Kn.ints [0]) (by decide) (s12 _ _ e11) wk (by simp)
    refine ⟨_, _, rfl, tb, fun H13 s13 => ?_⟩
    have wb : wantsB H12 1 [V.ref a8] = true := by
      unfold wantsB
      rw [List.all_cons, byWant_tup 1 (s12 _ _ (s11 _ _ e10)), show isWant [V.int 0, V.int 1] 1 = true by decide +kernel]
      rfl
    have e : (sidesB [V.int 0] && wantsB H12 [V.int 0].length [V.ref a8]) = true := by
      rw [show [V.int 0].length = 1 from rfl, wb]
      decide +kernel
    refine ⟨true, congrArg V.bl e, ?_⟩
    exact q _
theorem pe_cal0 {X : Cx} {k j : Nat} {x : Str} {ps : List Str} {sp : Sp} {p pos : Pos} (c : Cal X.prog X.w X.K X.mg X.base x ps k sp) (hr : Room j X.A) (hg : Gl X x := by rfl) (hk : k ≤ j := by decide)
    (hdb : (x == ("__debug__" : Str)) = false := by decide) : PE X (.Call (.Name x p) [] [] pos) (tCal sp tNil) := by
  obtain ⟨f, fd, F, hm, kp, hb⟩ := c
  intro pins s σ H Q I h
  refine pe_call0 (E := E0) (dvs := []) F (hr.mono hk) hg hm kp hb .nil pass0 hdb pins s σ H Q I ?_
  show tNil σ H fun vs H1 => sp (vs ++ []) H1 Q E0
  have h' : tNil σ H fun vs H1 => sp vs H1 Q E0 := h
  simpa using h'
theorem sides_good {ns : List Int} (l1 : 1 ≤ ns.length) (l5 : ns.length ≤ 5) (h : ∀ x ∈ ns, 0 ≤ x ∧ x < 2) : sidesB (ns.map V.int) = true := by
  unfold sidesB
  rw [List.length_map, decide_eq_true l1, decide_eq_true l5, Bool.true_and, Bool.true_and, List.all_eq_true]
  intro x hx
  obtain ⟨n, hn, rfl⟩ := List.mem_map.mp hx
  have := h n hn
  simp [isSide]
  omega
def sp_law (K : PySem.W.Frag) : Sp := fun vs H Q _ => ∃ (a : Addr) (ns : List Int), vs = [.ref a] ∧ Scr K a ns H ∧ ns.length ≤ 63 ∧ ∀ H', Q (.bl true) H'
def J0 (K : PySem.W.Frag) (a : Addr) (ns : List Int) (i : Nat) (σ : St) (H : Hp) : Prop := ∃ v1 v2 v3 v4 v5 v6 v7, σ = [some (.ref a), v1, v2, v3, v4, v5, v6, v7] ∧ Scr K a ns H
def JC (p c : Addr) (G : Hp) (i : Nat) (σ : St) (H : Hp) : Prop := ∃ (v : Option V) (ns : List Int), σ = [v, some (.ref p)] ∧ ns.length = i ∧ (∀ x ∈ ns, 0 ≤ x ∧ x < 2) ∧ Box H p ∧ (∀ b o, b ≠ p → b ≠ c → G b = some o → H b = some o) ∧ H c = some (.lst (ns.map V.int))
def JW (p c : Addr) (m : Nat) (G : Hp) (i : Nat) (σ : St) (H : Hp) : Prop := ∃ (v : Option V) (ts : List (Addr × List Int)), σ = [v, some (.ref p), some (.int (m : Int))] ∧ ts.length = i ∧ (∀ t ∈ ts, H t.1 = some (.tup (t.2.map V.int)) ∧ Want t.2 m) ∧ Box H p ∧ (∀ b o, b ≠ p → b ≠ c → G b = some o → H b = some o) ∧ H c = some (.lst (ts.map fun t => V.ref t.1))
def J1 (a p t u : Addr) (m : Int) (k : Int) (G : Hp) (i : Nat) (σ : St) (H : Hp) : Prop := ∃ v6 v7, σ = [some (.ref a), some (.int k), some (.ref p), some (.int m), some (.ref t), some (.ref u), v6, v7] ∧ Box H p ∧ SameX p G H
theorem sc_law : FnScope ["_law_script", "_law_k", "_law_box_here", "_law_size", "_law_sides", "_law_wants", "_law_turn", "_law_item"] ["_law_script"] (defScope s_law) := ⟨rfl, rfl, rfl, by decide +kernel, rfl, by decide +kernel, by decide +kernel⟩
theorem ok_law (F : Fun K "law" "law" s_law f fd) (T : Txt mg) (c__law_box : Cal P w K mg base "_law_box" ["_law_script", "_law_k"] 1 (spBox K)) (c__law_take : Cal P w K mg base "_law_take" ["_law_box_here", "_law_size"] 1 spTake) (c__law_many : Cal P w K mg base "_law_many" ["_law_box_here"] 2 sp_many) (c__law_want : Cal P w K mg base "_law_want" ["_law_box_here", "_law_size"] 2 sp_lwant) (c_is_town : Cal P w K mg base "is_town" ["thing"] 5 sp_town) (c__law_spoilt : Cal P w K mg base "_law_spoilt" ["_law_box_here", "_law_sides", "_law_wants"] 2 sp_spoilt) (c__law_truth : Cal P w K mg base "_law_truth" ["_law_found", "_law_due_here"] 1 sp_truth) (c__law_due : Cal P w K mg base "_law_due" ["_law_item"] 3 sp_town) (c__law_named : Cal P w K mg base "_law_named" [] 6 sp_named) :
    FnOk P w K mg base CX0 7 f fd ["_law_script"] (sp_law K) := by
  refine F.ok sc_law (fun vs H Q E h => ?_) (fun cdv A outer s H vs Q E hr h => ?_)
  · obtain ⟨_, _, rfl, _⟩ := h; rfl
  · obtain ⟨a, ns, rfl, hq, hlen, q⟩ := h
    have sc := sc_law
    refine ⟨_, pss_consL (ps_for PassesOwn.never rfl (pi_range1 rfl T.range_ (pa_cns (pe_op op_add pe_int (pe_callB (call_min2 rfl) rfl T.min_ bt_min (pa_cns pe_int (pa_cns (pe_callB call_len_seq rfl T.len_ bt_len (pa_cons (pv 0) pa_nil)) pa_nil)))) pa_nil)) (pg_name (i := 1) sc.nd rfl (Or.inl rfl))
        (pss_consL (ps_set (i := 2) sc.nd rfl (Or.inr rfl) (pe_cal c__law_box hr (pa_cns (pv 0) (pa_cns (pv 1) pa_nil))))
      (pss_consL (ps_set (i := 3) sc.nd rfl (Or.inr rfl) (pe_cal c__law_many hr (pa_cns (pv 2) pa_nil)))
      (pss_consL (ps_set (i := 4) sc.nd rfl (Or.inl rfl) (pe_callTy tupA0 rfl T.tuple_ bt_tuple (pa_cns (pe_lc (N := ["_law_t", "_law_box_here"]) (fr := [none, some 2]) rfl (pi_range1 rfl T.range_ (pa_cns (pv 3) pa_nil)) (CScope.of rfl rfl rfl) rfl (fun _ _ _ => ⟨pg_name (i := 0) (show List.Nodup (α := Str) ["_law_t", "_law_box_here"] by decide +kernel) rfl (Or.inl rfl), pif_nil, pe_cal c__law_take hr (pa_cns (pv 1) (pa_cns pe_int pa_nil))⟩)) pa_nil)))
      (pss_consL (ps_set (i := 5) sc.nd rfl (Or.inl rfl) (pe_callTy tupA0 rfl T.tuple_ bt_tuple (pa_cns (pe_lc (N := ["_law_hand", "_law_box_here", "_law_size"]) (fr := [none, some 2, some 3]) rfl (pi_range1 rfl T.range_ (pa_cns (pe_op op_add pe_int (pe_cal c__law_take hr (pa_cns (pv 2) (pa_cns pe_int pa_nil)))) pa_nil)) (CScope.of rfl rfl rfl) rfl (fun _ _ _ => ⟨pg_name (i := 0) (show List.Nodup (α := Str) ["_law_hand", "_law_box_here", "_law_size"] by decide +kernel) rfl (Or.inl rfl), pif_nil, pe_cal c__law_want hr (pa_cns (pv 1) (pa_cns (pv 2) pa_nil))⟩)) pa_nil)))
      (pss_consL (ps_if (pt_cmpR isnot_bl (pe_cal c_is_town hr (pa_cns (pe_tupA (pa_cns (pv 4) (pa_cns (pv 5) pa_nil))) pa_nil)) pe_bl (nomark _)) (pss_one (ps_ret pe_bl)) pss_nil)
      (pss_one (ps_for PassesOwn.never rfl (pi_range1 rfl T.range_ (pa_cns pe_int pa_nil)) (pg_name (i := 6) sc.nd rfl (Or.inl rfl))
        (pss_consL (ps_set (i := 7) sc.nd rfl (Or.inl rfl) (pe_cal c__law_spoilt hr (pa_cns (pv 2) (pa_cns (pv 4) (pa_cns (pv 5) pa_nil)))))
      (pss_one (ps_if (pt_not (pt_val (pe_cal c__law_truth hr (pa_cns (pe_cal c_is_town hr (pa_cns (pv 7) pa_nil)) (pa_cns (pe_cal c__law_due hr (pa_cns (pv 7) pa_nil)) pa_nil))))) (pss_one (ps_ret pe_bl)) pss_nil)))))))))))
      (pss_one (ps_ret (pe_cal0 c__law_named hr))), ?_⟩
    rw [show L2.start ["_law_script", "_law_k", "_law_box_here", "_law_size", "_law_sides", "_law_wants", "_law_turn", "_law_item"] [.ref a] = [some (.ref a), none, none, none, none, none, none, none] from rfl]
    (walk_at "rd")
    refine ⟨_, .inl hq, ?_⟩
    (walk_at "rd")
    have hn : (1 + if (ns.length : Int) < 10 then (ns.length : Int) else 10).toNat ≤ 11 := by split <;> omega
    refine ⟨by split <;> omega, by split <;> omega, fl_range (J0 K a ns) ⟨none, none, none, none, none, none, none, rfl, hq⟩ ?_ ?_⟩
    · rintro i σ H1 hi ⟨v1, v2, v3, v4, v5, v6, v7, rfl, hq1⟩
      (walk_at "rd")
      refine ⟨a, i, ns, rfl, hq1, by omega, fun p H2 np bx2 bt2 => ?_⟩
      (walk_at "rd")
      (simp only [a_later])
      (walk_at "rd")
      refine ⟨p, rfl, bx2, fun m H3 m1 m5 bx3 sx3 => ?_⟩
      (walk_at "rd")
      (simp only [a_later])
      (walk_at "rd")
      refine ⟨by omega, by omega, fun c nc => ?_⟩
      have ncp := bx3.ne nc
      refine cl_range (JC p c H3) ⟨none, [], rfl, rfl, fun _ z => absurd z (by simp), bx3.upd ncp, fun b o _ n e => by rw [upd_ne n]; exact e, upd_same⟩ ?_ ?_
      · rintro j σ H4 hj ⟨v, ws, rfl, hl, hbd, bx4, k4, e4⟩
        rw [Int.toNat_natCast] at hj
        (walk_at "rd")
        refine ⟨p, 2, rfl, bx4, by decide, by decide, fun r2 H5 r20 r21 bx5 bt5 => ?_⟩
        have e5 : H5 c = some (.lst (ws.map V.int)) := by rw [bt5 c ncp.symm]; exact e4
        (try simp only [a_tPop0, a_tCalK, g3r_is, g2r_is, g2_is, g1_is, a_tSeqL, a_tChain, a_tDict, a_tLstA, a_rMulT, a_rEqT, a_tLC2, a_tLC3, a_tInner, a_tIns, a_tRev, a_rSlA, a_rCatA, a_rCatL, a_tSeq, a_tFor, a_rIxL, a_iZip, a_tSortR, a_tSl, a_rSlL0, a_tNoPart, a_tPart, a_tApp, a_tRet, a_tRetN, a_tNext, a_tDrop, a_tAsg, a_gSub, a_gName, a_gNil, a_gCons, a_gTup0, a_rSetL, a_tIfS, a_tAnd, a_tOr, a_tNot, a_tTest, a_tB, a_tTrue, a_tIf, a_tAndV, a_tOrV, a_tNotV, a_tOp, a_tUn, a_rU, a_tVar, a_tC, a_rI0, a_rI, a_rEq, a_rNe, a_rIx0, a_rIn0, a_tCB, a_tCal, a_tCons, a_tNil, a_tTupA, a_tLst, a_tPar, a_tBits, a_tLC, a_iRng1, a_iRng2, a_iT0, a_iL0, a_tEmit, frS, scal, V.ty.injEq, tyN, subN, String.reduceEq, String.reduceBEq, Bool.true_or, Bool.false_or, Bool.or_false, Bool.true_and, Bool.false_and, Bool.and_false, or_true, true_or, beq_self_eq_true, decide_true, decide_false, List.map_cons, List.map_nil, List.length_cons, List.length_nil, List.getElem?_cons_zero, List.getElem?_cons_succ, List.getElem?_nil, List.set_cons_zero, List.set_cons_succ, Option.some.injEq, Option.bind_some, Option.bind_none, id, exists_eq_left', exists_eq_left, exists_and_left, exists_eq_right, V.int.injEq, V.bl.injEq, V.ref.injEq, List.cons.injEq, and_true, true_and, and_assoc, exists_const, atI0, atI1, atI2, ixN30, ixN31, ixN32, upd_same, upd_upd, sq_updL, sq_updT, Nat.zero_add, Nat.reduceAdd, reduceCtorEq, false_and, and_false, exists_false, false_or, or_false, List.length_map, HO.lst.injEq, HO.tup.injEq, Bool.false_eq_true, if_false, if_true, decide_eq_true_eq, ite_true, ite_false, reduceIte, Int.reduceLT, Int.reduceLE, Nat.reduceLT, Int.zero_add, Bool.not_true, Bool.not_false, e5])
        refine ⟨small1000 (by omega), ⟨_, ws ++ [r2], rfl, by rw [List.length_append, hl]; rfl, fun x hx => ?_, bx5.upd ncp, fun b o n1 n2 e => by rw [upd_ne n2, bt5 b n1]; exact k4 b o n1 n2 e, by rw [upd_same]; simp⟩⟩
        rcases List.mem_append.mp hx with z | z
        · exact hbd x z
        · have : x = r2 := by simpa using z
          omega
      · rintro σ H4 ⟨v, ss, rfl, hl, hbd, bx4, k4, e4⟩
        rw [Int.toNat_natCast] at hl
        refine ⟨_, e4, fun t H5 nt s5 e5 => ?_⟩
        have ntp : t ≠ p := by
          rintro rfl
          obtain ⟨_, _, _, z⟩ := bx4.same s5
          rw [e5] at z
          cases z
        have sx5 : SameX p H1 H5 := fun b o n e => by
          have e3 := sx3 b o n (bt2.x b o n e)
          exact s5 _ _ (k4 b o n (ne_of_none e3 nc) e3)
        have bx5 := bx4.same s5
        (walk_at "rd")
        (simp only [a_later])
        (walk_at "rd")
        refine ⟨p, 5, rfl, bx5, by decide, by decide, fun r H6 r0 r1 bx6 bt6 => ?_⟩
        obtain ⟨r', rfl⟩ := Int.eq_ofNat_of_zero_le r0
        refine ⟨_, rfl, by omega, by omega, fun d nd => ?_⟩
        have ndp := bx6.ne nd
        refine cl_range (JW p d m H6) ⟨none, [], rfl, rfl, fun _ z => absurd z (by simp), bx6.upd ndp, fun b o _ n e => by rw [upd_ne n]; exact e, upd_same⟩ ?_ ?_
        · rintro j σ H7 hj ⟨v, ts, rfl, hl', hbd', bx7, k7, e7⟩
          (walk_at "rd")
          refine ⟨p, m, rfl, bx7, m1, m5, fun u us H8 nu W bx8 sx8 e8 => ?_⟩
          have e8d : H8 d = some (.lst (ts.map fun t => V.ref t.1)) := sx8 _ _ ndp.symm e7
          have nud : u ≠ d := fun z => by rw [z, e8d] at e8; cases e8
          (try simp only [a_tPop0, a_tCalK, g3r_is, g2r_is, g2_is, g1_is, a_tSeqL, a_tChain, a_tDict, a_tLstA, a_rMulT, a_rEqT, a_tLC2, a_tLC3, a_tInner, a_tIns, a_tRev, a_rSlA, a_rCatA, a_rCatL, a_tSeq, a_tFor, a_rIxL, a_iZip, a_tSortR, a_tSl, a_rSlL0, a_tNoPart, a_tPart, a_tApp, a_tRet, a_tRetN, a_tNext, a_tDrop, a_tAsg, a_gSub, a_gName, a_gNil, a_gCons, a_gTup0, a_rSetL, a_tIfS, a_tAnd, a_tOr, a_tNot, a_tTest, a_tB, a_tTrue, a_tIf, a_tAndV, a_tOrV, a_tNotV, a_tOp, a_tUn, a_rU, a_tVar, a_tC, a_rI0, a_rI, a_rEq, a_rNe, a_rIx0, a_rIn0, a_tCB, a_tCal, a_tCons, a_tNil, a_tTupA, a_tLst, a_tPar, a_tBits, a_tLC, a_iRng1, a_iRng2, a_iT0, a_iL0, a_tEmit, frS, scal, V.ty.injEq, tyN, subN, String.reduceEq, String.reduceBEq, Bool.true_or, Bool.false_or, Bool.or_false, Bool.true_and, Bool.false_and, Bool.and_false, or_true, true_or, beq_self_eq_true, decide_true, decide_false, List.map_cons, List.map_nil, List.length_cons, List.length_nil, List.getElem?_cons_zero, List.getElem?_cons_succ, List.getElem?_nil, List.set_cons_zero, List.set_cons_succ, Option.some.injEq, Option.bind_some, Option.bind_none, id, exists_eq_left', exists_eq_left, exists_and_left, exists_eq_right, V.int.injEq, V.bl.injEq, V.ref.injEq, List.cons.injEq, and_true, true_and, and_assoc, exists_const, atI0, atI1, atI2, ixN30, ixN31, ixN32, upd_same, upd_upd, sq_updL, sq_updT, Nat.zero_add, Nat.reduceAdd, reduceCtorEq, false_and, and_false, exists_false, false_or, or_false, List.length_map, HO.lst.injEq, HO.tup.injEq, Bool.false_eq_true, if_false, if_true, decide_eq_true_eq, ite_true, ite_false, reduceIte, Int.reduceLT, Int.reduceLE, Nat.reduceLT, Int.zero_add, Bool.not_true, Bool.not_false, e8d])
          refine ⟨small1000 (by omega), ⟨_, ts ++ [(u, us)], rfl, by rw [List.length_append, hl']; rfl, fun x hx => ?_, bx8.upd ndp, fun b o n1 n2 e => by rw [upd_ne n2]; exact sx8 b o n1 (k7 b o n1 n2 e), by rw [upd_same]; simp⟩⟩
          rcases List.mem_append.mp hx with z | z
          · obtain ⟨ex, Wx⟩ := hbd' x z
            have nxp : x.1 ≠ p := fun z => by obtain ⟨_, _, _, y⟩ := bx7; rw [z, y] at ex; cases ex
            have nxd : x.1 ≠ d := fun z => by rw [z, e7] at ex; cases ex
            exact ⟨by rw [upd_ne nxd]; exact sx8 _ _ nxp ex, Wx⟩
          · have : x = (u, us) := by simpa using z
            subst this
            exact ⟨by rw [upd_ne nud]; exact e8, W⟩
        · rintro σ H7 ⟨v, ts, rfl, hl', hbd', bx7, k7, e7⟩
          refine ⟨_, e7, fun wa H8 nwa s8 e8 => ?_⟩
          have tl : ts.length = 1 + r' := by omega
          have sx8 : SameX p H5 H8 := fun b o n e => by
            have e6 := bt6.x b o n e
            exact s8 _ _ (k7 b o n (ne_of_none e6 nd) e6)
          have et8 := sx8 _ _ ntp e5
          have bx8 := bx7.same s8
          have hp := pow32 m5
          have nwp : wa ≠ p := by
            rintro rfl
            obtain ⟨_, _, _, z⟩ := bx8
            rw [e8] at z
            cases z
          have W8 : Wts H8 wa m ts := ⟨e8, by omega, by omega, fun t ht => ⟨s8 _ _ (hbd' t ht).1, (hbd' t ht).2.len⟩⟩
          (walk_at "rd")
          (simp only [a_later])
          (walk_at "rd")
          refine ⟨by decide, fun tw H9 n9 s9 e9 => ?_⟩
          have wk : ∀ y ∈ ts.map (fun t => V.ref t.1), Ok H9 y := fun y hy => by
            obtain ⟨t, ht, rfl⟩ := List.mem_map.mp hy
            obtain ⟨et, lt⟩ := hbd' t ht
            exact Ok.tup (s9 _ _ (s8 _ _ et)) (Kn.ints t.2) (by rw [List.length_map, lt.len]; omega)
          have tb := TB.all e9 (s9 _ _ et8) (Kn.ints ss) (by rw [List.length_map]; omega) (s9 _ _ e8) wk (by rw [List.length_map]; omega)
          have sb : sidesB (ss.map V.int) = true := sides_good (by omega) (by omega) hbd
          have wb : wantsB H9 (ss.map V.int).length (ts.map fun t => V.ref t.1) = true := by
            unfold wantsB
            rw [List.length_map, List.length_map, decide_eq_true (show 1 ≤ ts.length by omega), decide_eq_true (show ts.length ≤ 5 by omega), Bool.true_and, Bool.true_and, List.all_eq_true]
            intro y hy
            obtain ⟨t, ht, rfl⟩ := List.mem_map.mp hy
            obtain ⟨et, Wt⟩ := hbd' t ht
            rw [byWant_tup _ (s9 _ _ (s8 _ _ et)), hl]
            exact isWant_of m5 Wt.len Wt.zero (fun x hx => (Wt.bd x hx).1) Wt.mono
          rw [sb, wb, Bool.true_and] at tb
          refine ⟨_, _, rfl, tb, fun H10 s10 => ?_⟩
          (walk_at "rd")
          (simp only [a_later])
          (walk_at "rd")
          have s810 := s9.trans s10
          refine ⟨by decide, by decide, fl_range (J1 a p t wa (m : Int) (i : Int) H10) ⟨_, _, rfl, bx8.same s810, SameX.refl⟩ ?_ ?_⟩
          · rintro j σ H11 hj ⟨v6', v7', rfl, bx11, sx11⟩
            have nrp : ∀ t ∈ ts, t.1 ≠ p := fun t ht z => by
              obtain ⟨_, _, _, y⟩ := bx7
              have := (hbd' t ht).1
              rw [z, y] at this
              cases this
            have W11 : Wts H11 wa m ts := ⟨sx11 _ _ nwp (s810 _ _ e8), W8.one, W8.five, fun t ht => ⟨sx11 _ _ (nrp t ht) (s810 _ _ (W8.row t ht).1), (W8.row t ht).2⟩⟩
            (walk_at "rd")
            refine ⟨p, t, wa, ss, m, ts, rfl, bx11, sx11 _ _ ntp (s810 _ _ et8), by omega, by omega, m5, W11, fun x H12 ok12 bx12 sx12 => ?_⟩
            obtain ⟨b, tb12⟩ := ok12.tb
            (walk_at "rd")
            (simp only [a_later])
            (walk_at "rd")
            refine ⟨_, _, rfl, tb12, fun H13 s13 => ?_⟩
            refine ⟨_, _, rfl, tb12.same s13, fun H14 s14 => ?_⟩
            refine ⟨_, _, rfl, ?_⟩
            rw [decide_eq_true rfl]
            (walk_at "rd")
            exact ⟨_, _, rfl, (bx12.same s13).same s14, (sx11.trans sx12).trans (s13.trans s14).x⟩
          · rintro σ H11 ⟨v6', v7', rfl, bx11, sx11⟩
            exact ⟨_, _, _, _, _, _, _, rfl, hq1.keep np (fun b o n e => sx11 b o n (s810 _ _ (sx8 b o n (sx5 b o n e))))⟩
    · rintro σ H1 ⟨v1, v2, v3, v4, v5, v6, v7, rfl, hq1⟩
      (simp only [a_later])
      (walk_at "rd")
      exact ⟨rfl, fun H' => q H'⟩
end
theorem all_mk {l : PySem.W.OpenLaw} {w : World} {K : PySem.W.Frag} {h : Heap} {mg : Str → Option Value} {fa : Addr} (X : K.In h) (G : h.Ns mainGlobals mg) (hfa : mg "law" = some (.ref fa))
    {f0 : Addr} {od0 an0 : Option Addr} {sl0 : Array (Option Value)} {oc0 kV0 dc0 pm0 cd0 ct0 : Value}
    (a0 : PySem.W.nsIn K mainGlobals "has" = some (some (.ref f0))) (l0 : K.lookup f0 = some ⟨oc0, od0, .func (PySem.W.fnOf "has" "has" (defArgs s_has) (defBody s_has) (defScope s_has) .none kV0 dc0 pm0 an0 cd0 ct0), sl0⟩) (c0 : PySem.W.codeIn K cd0 "has" = true) (k0 : PySem.W.keepIn K (.ref f0) = true)
    {f1 : Addr} {od1 an1 : Option Addr} {sl1 : Array (Option Value)} {oc1 kV1 dc1 pm1 cd1 ct1 : Value}
    (a1 : PySem.W.nsIn K mainGlobals "taken_out" = some (some (.ref f1))) (l1 : K.lookup f1 = some ⟨oc1, od1, .func (PySem.W.fnOf "taken_out" "taken_out" (defArgs s_taken_out) (defBody s_taken_out) (defScope s_taken_out) .none kV1 dc1 pm1 an1 cd1 ct1), sl1⟩) (c1 : PySem.W.codeIn K cd1 "taken_out" = true) (k1 : PySem.W.keepIn K (.ref f1) = true)
    {f2 : Addr} {od2 an2 : Option Addr} {sl2 : Array (Option Value)} {oc2 kV2 dc2 pm2 cd2 ct2 : Value}
    (a2 : PySem.W.nsIn K mainGlobals "less" = some (some (.ref f2))) (l2 : K.lookup f2 = some ⟨oc2, od2, .func (PySem.W.fnOf "less" "less" (defArgs s_less) (defBody s_less) (defScope s_less) .none kV2 dc2 pm2 an2 cd2 ct2), sl2⟩) (c2 : PySem.W.codeIn K cd2 "less" = true) (k2 : PySem.W.keepIn K (.ref f2) = true)
    {f3 : Addr} {od3 an3 : Option Addr} {sl3 : Array (Option Value)} {oc3 kV3 dc3 pm3 cd3 ct3 : Value}
    (a3 : PySem.W.nsIn K mainGlobals "things_in" = some (some (.ref f3))) (l3 : K.lookup f3 = some ⟨oc3, od3, .func (PySem.W.fnOf "things_in" "things_in" (defArgs s_things_in) (defBody s_things_in) (defScope s_things_in) .none kV3 dc3 pm3 an3 cd3 ct3), sl3⟩) (c3 : PySem.W.codeIn K cd3 "things_in" = true) (k3 : PySem.W.keepIn K (.ref f3) = true)
    {f4 : Addr} {od4 an4 : Option Addr} {sl4 : Array (Option Value)} {oc4 kV4 dc4 pm4 cd4 ct4 : Value}
    (a4 : PySem.W.nsIn K mainGlobals "heap_of" = some (some (.ref f4))) (l4 : K.lookup f4 = some ⟨oc4, od4, .func (PySem.W.fnOf "heap_of" "heap_of" (defArgs s_heap_of) (defBody s_heap_of) (defScope s_heap_of) .none kV4 dc4 pm4 an4 cd4 ct4), sl4⟩) (c4 : PySem.W.codeIn K cd4 "heap_of" = true) (k4 : PySem.W.keepIn K (.ref f4) = true)
    {f5 : Addr} {od5 an5 : Option Addr} {sl5 : Array (Option Value)} {oc5 kV5 dc5 pm5 cd5 ct5 : Value}
    (a5 : PySem.W.nsIn K mainGlobals "is_within" = some (some (.ref f5))) (l5 : K.lookup f5 = some ⟨oc5, od5, .func (PySem.W.fnOf "is_within" "is_within" (defArgs s_is_within) (defBody s_is_within) (defScope s_is_within) .none kV5 dc5 pm5 an5 cd5 ct5), sl5⟩) (c5 : PySem.W.codeIn K cd5 "is_within" = true) (k5 : PySem.W.keepIn K (.ref f5) = true)
    {f6 : Addr} {od6 an6 : Option Addr} {sl6 : Array (Option Value)} {oc6 kV6 dc6 pm6 cd6 ct6 : Value}
    (a6 : PySem.W.nsIn K mainGlobals "is_whole" = some (some (.ref f6))) (l6 : K.lookup f6 = some ⟨oc6, od6, .func (PySem.W.fnOf "is_whole" "is_whole" (defArgs s_is_whole) (defBody s_is_whole) (defScope s_is_whole) .none kV6 dc6 pm6 an6 cd6 ct6), sl6⟩) (c6 : PySem.W.codeIn K cd6 "is_whole" = true) (k6 : PySem.W.keepIn K (.ref f6) = true)
    {f7 : Addr} {od7 an7 : Option Addr} {sl7 : Array (Option Value)} {oc7 kV7 dc7 pm7 cd7 ct7 : Value}
    (a7 : PySem.W.nsIn K mainGlobals "are_wholes" = some (some (.ref f7))) (l7 : K.lookup f7 = some ⟨oc7, od7, .func (PySem.W.fnOf "are_wholes" "are_wholes" (defArgs s_are_wholes) (defBody s_are_wholes) (defScope s_are_wholes) .none kV7 dc7 pm7 an7 cd7 ct7), sl7⟩) (c7 : PySem.W.codeIn K cd7 "are_wholes" = true) (k7 : PySem.W.keepIn K (.ref f7) = true)
    {f8 : Addr} {od8 an8 : Option Addr} {sl8 : Array (Option Value)} {oc8 kV8 dc8 pm8 cd8 ct8 : Value}
    (a8 : PySem.W.nsIn K mainGlobals "are_wholes_from" = some (some (.ref f8))) (l8 : K.lookup f8 = some ⟨oc8, od8, .func (PySem.W.fnOf "are_wholes_from" "are_wholes_from" (defArgs s_are_wholes_from) (defBody s_are_wholes_from) (defScope s_are_wholes_from) .none kV8 dc8 pm8 an8 cd8 ct8), sl8⟩) (c8 : PySem.W.codeIn K cd8 "are_wholes_from" = true) (k8 : PySem.W.keepIn K (.ref f8) = true)
    {f9 : Addr} {od9 an9 : Option Addr} {sl9 : Array (Option Value)} {oc9 kV9 dc9 pm9 cd9 ct9 : Value}
    (a9 : PySem.W.nsIn K mainGlobals "is_want" = some (some (.ref f9))) (l9 : K.lookup f9 = some ⟨oc9, od9, .func (PySem.W.fnOf "is_want" "is_want" (defArgs s_is_want) (defBody s_is_want) (defScope s_is_want) .none kV9 dc9 pm9 an9 cd9 ct9), sl9⟩) (c9 : PySem.W.codeIn K cd9 "is_want" = true) (k9 : PySem.W.keepIn K (.ref f9) = true)
    {f10 : Addr} {od10 an10 : Option Addr} {sl10 : Array (Option Value)} {oc10 kV10 dc10 pm10 cd10 ct10 : Value}
    (a10 : PySem.W.nsIn K mainGlobals "never_sinks" = some (some (.ref f10))) (l10 : K.lookup f10 = some ⟨oc10, od10, .func (PySem.W.fnOf "never_sinks" "never_sinks" (defArgs s_never_sinks) (defBody s_never_sinks) (defScope s_never_sinks) .none kV10 dc10 pm10 an10 cd10 ct10), sl10⟩) (c10 : PySem.W.codeIn K cd10 "never_sinks" = true) (k10 : PySem.W.keepIn K (.ref f10) = true)
    {f11 : Addr} {od11 an11 : Option Addr} {sl11 : Array (Option Value)} {oc11 kV11 dc11 pm11 cd11 ct11 : Value}
    (a11 : PySem.W.nsIn K mainGlobals "is_sides" = some (some (.ref f11))) (l11 : K.lookup f11 = some ⟨oc11, od11, .func (PySem.W.fnOf "is_sides" "is_sides" (defArgs s_is_sides) (defBody s_is_sides) (defScope s_is_sides) .none kV11 dc11 pm11 an11 cd11 ct11), sl11⟩) (c11 : PySem.W.codeIn K cd11 "is_sides" = true) (k11 : PySem.W.keepIn K (.ref f11) = true)
    {f12 : Addr} {od12 an12 : Option Addr} {sl12 : Array (Option Value)} {oc12 kV12 dc12 pm12 cd12 ct12 : Value}
    (a12 : PySem.W.nsIn K mainGlobals "is_town" = some (some (.ref f12))) (l12 : K.lookup f12 = some ⟨oc12, od12, .func (PySem.W.fnOf "is_town" "is_town" (defArgs s_is_town) (defBody s_is_town) (defScope s_is_town) .none kV12 dc12 pm12 an12 cd12 ct12), sl12⟩) (c12 : PySem.W.codeIn K cd12 "is_town" = true) (k12 : PySem.W.keepIn K (.ref f12) = true)
    {f13 : Addr} {od13 an13 : Option Addr} {sl13 : Array (Option Value)} {oc13 kV13 dc13 pm13 cd13 ct13 : Value}
    (a13 : PySem.W.nsIn K mainGlobals "_law_box" = some (some (.ref f13))) (l13 : K.lookup f13 = some ⟨oc13, od13, .func (PySem.W.fnOf "_law_box" "_law_box" (defArgs s__law_box) (defBody s__law_box) (defScope s__law_box) .none kV13 dc13 pm13 an13 cd13 ct13), sl13⟩) (c13 : PySem.W.codeIn K cd13 "_law_box" = true) (k13 : PySem.W.keepIn K (.ref f13) = true)
    {f14 : Addr} {od14 an14 : Option Addr} {sl14 : Array (Option Value)} {oc14 kV14 dc14 pm14 cd14 ct14 : Value}
    (a14 : PySem.W.nsIn K mainGlobals "_law_take" = some (some (.ref f14))) (l14 : K.lookup f14 = some ⟨oc14, od14, .func (PySem.W.fnOf "_law_take" "_law_take" (defArgs s__law_take) (defBody s__law_take) (defScope s__law_take) .none kV14 dc14 pm14 an14 cd14 ct14), sl14⟩) (c14 : PySem.W.codeIn K cd14 "_law_take" = true) (k14 : PySem.W.keepIn K (.ref f14) = true)
    {f15 : Addr} {od15 an15 : Option Addr} {sl15 : Array (Option Value)} {oc15 kV15 dc15 pm15 cd15 ct15 : Value}
    (a15 : PySem.W.nsIn K mainGlobals "_law_many" = some (some (.ref f15))) (l15 : K.lookup f15 = some ⟨oc15, od15, .func (PySem.W.fnOf "_law_many" "_law_many" (defArgs s__law_many) (defBody s__law_many) (defScope s__law_many) .none kV15 dc15 pm15 an15 cd15 ct15), sl15⟩) (c15 : PySem.W.codeIn K cd15 "_law_many" = true) (k15 : PySem.W.keepIn K (.ref f15) = true)
    {f16 : Addr} {od16 an16 : Option Addr} {sl16 : Array (Option Value)} {oc16 kV16 dc16 pm16 cd16 ct16 : Value}
    (a16 : PySem.W.nsIn K mainGlobals "_law_want" = some (some (.ref f16))) (l16 : K.lookup f16 = some ⟨oc16, od16, .func (PySem.W.fnOf "_law_want" "_law_want" (defArgs s__law_want) (defBody s__law_want) (defScope s__law_want) .none kV16 dc16 pm16 an16 cd16 ct16), sl16⟩) (c16 : PySem.W.codeIn K cd16 "_law_want" = true) (k16 : PySem.W.keepIn K (.ref f16) = true)
    {f17 : Addr} {od17 an17 : Option Addr} {sl17 : Array (Option Value)} {oc17 kV17 dc17 pm17 cd17 ct17 : Value}
    (a17 : PySem.W.nsIn K mainGlobals "_law_whole" = some (some (.ref f17))) (l17 : K.lookup f17 = some ⟨oc17, od17, .func (PySem.W.fnOf "_law_whole" "_law_whole" (defArgs s__law_whole) (defBody s__law_whole) (defScope s__law_whole) .none kV17 dc17 pm17 an17 cd17 ct17), sl17⟩) (c17 : PySem.W.codeIn K cd17 "_law_whole" = true) (k17 : PySem.W.keepIn K (.ref f17) = true)
    {f18 : Addr} {od18 an18 : Option Addr} {sl18 : Array (Option Value)} {oc18 kV18 dc18 pm18 cd18 ct18 : Value}
    (a18 : PySem.W.nsIn K mainGlobals "_law_truth" = some (some (.ref f18))) (l18 : K.lookup f18 = some ⟨oc18, od18, .func (PySem.W.fnOf "_law_truth" "_law_truth" (defArgs s__law_truth) (defBody s__law_truth) (defScope s__law_truth) .none kV18 dc18 pm18 an18 cd18 ct18), sl18⟩) (c18 : PySem.W.codeIn K cd18 "_law_truth" = true) (k18 : PySem.W.keepIn K (.ref f18) = true)
    {f19 : Addr} {od19 an19 : Option Addr} {sl19 : Array (Option Value)} {oc19 kV19 dc19 pm19 cd19 ct19 : Value}
    (a19 : PySem.W.nsIn K mainGlobals "_law_is_want" = some (some (.ref f19))) (l19 : K.lookup f19 = some ⟨oc19, od19, .func (PySem.W.fnOf "_law_is_want" "_law_is_want" (defArgs s__law_is_want) (defBody s__law_is_want) (defScope s__law_is_want) .none kV19 dc19 pm19 an19 cd19 ct19), sl19⟩) (c19 : PySem.W.codeIn K cd19 "_law_is_want" = true) (k19 : PySem.W.keepIn K (.ref f19) = true)
    {f20 : Addr} {od20 an20 : Option Addr} {sl20 : Array (Option Value)} {oc20 kV20 dc20 pm20 cd20 ct20 : Value}
    (a20 : PySem.W.nsIn K mainGlobals "_law_due" = some (some (.ref f20))) (l20 : K.lookup f20 = some ⟨oc20, od20, .func (PySem.W.fnOf "_law_due" "_law_due" (defArgs s__law_due) (defBody s__law_due) (defScope s__law_due) .none kV20 dc20 pm20 an20 cd20 ct20), sl20⟩) (c20 : PySem.W.codeIn K cd20 "_law_due" = true) (k20 : PySem.W.keepIn K (.ref f20) = true)
    {f21 : Addr} {od21 an21 : Option Addr} {sl21 : Array (Option Value)} {oc21 kV21 dc21 pm21 cd21 ct21 : Value}
    (a21 : PySem.W.nsIn K mainGlobals "_law_spoilt" = some (some (.ref f21))) (l21 : K.lookup f21 = some ⟨oc21, od21, .func (PySem.W.fnOf "_law_spoilt" "_law_spoilt" (defArgs s__law_spoilt) (defBody s__law_spoilt) (defScope s__law_spoilt) .none kV21 dc21 pm21 an21 cd21 ct21), sl21⟩) (c21 : PySem.W.codeIn K cd21 "_law_spoilt" = true) (k21 : PySem.W.keepIn K (.ref f21) = true)
    {f22 : Addr} {od22 an22 : Option Addr} {sl22 : Array (Option Value)} {oc22 kV22 dc22 pm22 cd22 ct22 : Value}
    (a22 : PySem.W.nsIn K mainGlobals "_law_named" = some (some (.ref f22))) (l22 : K.lookup f22 = some ⟨oc22, od22, .func (PySem.W.fnOf "_law_named" "_law_named" (defArgs s__law_named) (defBody s__law_named) (defScope s__law_named) .none kV22 dc22 pm22 an22 cd22 ct22), sl22⟩) (c22 : PySem.W.codeIn K cd22 "_law_named" = true) (k22 : PySem.W.keepIn K (.ref f22) = true)
    {f23 : Addr} {od23 an23 : Option Addr} {sl23 : Array (Option Value)} {oc23 kV23 dc23 pm23 cd23 ct23 : Value}
    (a23 : PySem.W.nsIn K mainGlobals "law" = some (some (.ref f23))) (l23 : K.lookup f23 = some ⟨oc23, od23, .func (PySem.W.fnOf "law" "law" (defArgs s_law) (defBody s_law) (defScope s_law) .none kV23 dc23 pm23 an23 cd23 ct23), sl23⟩) (c23 : PySem.W.codeIn K cd23 "law" = true) (k23 : PySem.W.keepIn K (.ref f23) = true)
    (z_len : PySem.W.nsIn K mainGlobals "len" = some none)
    (z_sum : PySem.W.nsIn K mainGlobals "sum" = some none)
    (z_all : PySem.W.nsIn K mainGlobals "all" = some none)
    (z_any : PySem.W.nsIn K mainGlobals "any" = some none)
    (z_isinstance : PySem.W.nsIn K mainGlobals "isinstance" = some none)
    (z_abs : PySem.W.nsIn K mainGlobals "abs" = some none)
    (z_min : PySem.W.nsIn K mainGlobals "min" = some none)
    (z_max : PySem.W.nsIn K mainGlobals "max" = some none)
    (z_range : PySem.W.nsIn K mainGlobals "range" = some none)
    (z_tuple : PySem.W.nsIn K mainGlobals "tuple" = some none)
    (z_list : PySem.W.nsIn K mainGlobals "list" = some none)
    (z_int : PySem.W.nsIn K mainGlobals "int" = some none)
    (z_bool : PySem.W.nsIn K mainGlobals "bool" = some none)
    {u_MOST_THINGS : Tok} (y_MOST_THINGS : PySem.W.nsIn K mainGlobals "MOST_THINGS" = some (some (.int 5 u_MOST_THINGS)))
    {u_MOST_HANDS : Tok} (y_MOST_HANDS : PySem.W.nsIn K mainGlobals "MOST_HANDS" = some (some (.int 5 u_MOST_HANDS)))
    : ∃ fd : FuncData, (∀ (s : Shared) (v : Value), BindsTo s fd ⟨[v], []⟩ [("_law_script", v)]) ∧ ∀ base : Heap, K.In base → base.Ns mainGlobals mg → FnOk l.prog w K mg base CX0 7 fa fd ["_law_script"] (sp_law K) := by
  have e := hfa.symm.trans (PySem.W.mg_of X G a23)
  cases e
  have T : Txt mg := ⟨PySem.W.mg_none_of X G z_len, PySem.W.mg_none_of X G z_sum, PySem.W.mg_none_of X G z_all, PySem.W.mg_none_of X G z_any, PySem.W.mg_none_of X G z_isinstance, PySem.W.mg_none_of X G z_abs, PySem.W.mg_none_of X G z_min, PySem.W.mg_none_of X G z_max, PySem.W.mg_none_of X G z_range, PySem.W.mg_none_of X G z_tuple, PySem.W.mg_none_of X G z_list, PySem.W.mg_none_of X G z_int, PySem.W.mg_none_of X G z_bool, ⟨_, PySem.W.mg_of X G y_MOST_THINGS⟩, ⟨_, PySem.W.mg_of X G y_MOST_HANDS⟩⟩
  have F_has := fun_mk (st := s_has) l0 c0 k0
  have m_has := PySem.W.mg_of X G a0
  have b_has := F_has.binds (ps := ["heap", "thing"]) fun _ _ _ _ _ _ us hl => match us, hl with | [_, _], _ => rfl
  have F_taken_out := fun_mk (st := s_taken_out) l1 c1 k1
  have m_taken_out := PySem.W.mg_of X G a1
  have b_taken_out := F_taken_out.binds (ps := ["heap", "thing"]) fun _ _ _ _ _ _ us hl => match us, hl with | [_, _], _ => rfl
  have F_less := fun_mk (st := s_less) l2 c2 k2
  have m_less := PySem.W.mg_of X G a2
  have b_less := F_less.binds (ps := ["one", "other"]) fun _ _ _ _ _ _ us hl => match us, hl with | [_, _], _ => rfl
  have F_things_in := fun_mk (st := s_things_in) l3 c3 k3
  have m_things_in := PySem.W.mg_of X G a3
  have b_things_in := F_things_in.binds (ps := ["heap"]) fun _ _ _ _ _ _ us hl => match us, hl with | [_], _ => rfl
  have F_heap_of := fun_mk (st := s_heap_of) l4 c4 k4
  have m_heap_of := PySem.W.mg_of X G a4
  have b_heap_of := F_heap_of.binds (ps := ["things"]) fun _ _ _ _ _ _ us hl => match us, hl with | [_], _ => rfl
  have F_is_within := fun_mk (st := s_is_within) l5 c5 k5
  have m_is_within := PySem.W.mg_of X G a5
  have b_is_within := F_is_within.binds (ps := ["one", "other"]) fun _ _ _ _ _ _ us hl => match us, hl with | [_, _], _ => rfl
  have F_is_whole := fun_mk (st := s_is_whole) l6 c6 k6
  have m_is_whole := PySem.W.mg_of X G a6
  have b_is_whole := F_is_whole.binds (ps := ["thing"]) fun _ _ _ _ _ _ us hl => match us, hl with | [_], _ => rfl
  have F_are_wholes := fun_mk (st := s_are_wholes) l7 c7 k7
  have m_are_wholes := PySem.W.mg_of X G a7
  have b_are_wholes := F_are_wholes.binds (ps := ["thing", "many"]) fun _ _ _ _ _ _ us hl => match us, hl with | [_, _], _ => rfl
  have F_are_wholes_from := fun_mk (st := s_are_wholes_from) l8 c8 k8
  have m_are_wholes_from := PySem.W.mg_of X G a8
  have b_are_wholes_from := F_are_wholes_from.binds (ps := ["thing", "many", "least"]) fun _ _ _ _ _ _ us hl => match us, hl with | [_, _, _], _ => rfl
  have F_is_want := fun_mk (st := s_is_want) l9 c9 k9
  have m_is_want := PySem.W.mg_of X G a9
  have b_is_want := F_is_want.binds (ps := ["thing", "many"]) fun _ _ _ _ _ _ us hl => match us, hl with | [_, _], _ => rfl
  have F_never_sinks := fun_mk (st := s_never_sinks) l10 c10 k10
  have m_never_sinks := PySem.W.mg_of X G a10
  have b_never_sinks := F_never_sinks.binds (ps := ["worths"]) fun _ _ _ _ _ _ us hl => match us, hl with | [_], _ => rfl
  have F_is_sides := fun_mk (st := s_is_sides) l11 c11 k11
  have m_is_sides := PySem.W.mg_of X G a11
  have b_is_sides := F_is_sides.binds (ps := ["thing"]) fun _ _ _ _ _ _ us hl => match us, hl with | [_], _ => rfl
  have F_is_town := fun_mk (st := s_is_town) l12 c12 k12
  have m_is_town := PySem.W.mg_of X G a12
  have b_is_town := F_is_town.binds (ps := ["thing"]) fun _ _ _ _ _ _ us hl => match us, hl with | [_], _ => rfl
  have F__law_box := fun_mk (st := s__law_box) l13 c13 k13
  have m__law_box := PySem.W.mg_of X G a13
  have b__law_box := F__law_box.binds (ps := ["_law_script", "_law_k"]) fun _ _ _ _ _ _ us hl => match us, hl with | [_, _], _ => rfl
  have F__law_take := fun_mk (st := s__law_take) l14 c14 k14
  have m__law_take := PySem.W.mg_of X G a14
  have b__law_take := F__law_take.binds (ps := ["_law_box_here", "_law_size"]) fun _ _ _ _ _ _ us hl => match us, hl with | [_, _], _ => rfl
  have F__law_many := fun_mk (st := s__law_many) l15 c15 k15
  have m__law_many := PySem.W.mg_of X G a15
  have b__law_many := F__law_many.binds (ps := ["_law_box_here"]) fun _ _ _ _ _ _ us hl => match us, hl with | [_], _ => rfl
  have F__law_want := fun_mk (st := s__law_want) l16 c16 k16
  have m__law_want := PySem.W.mg_of X G a16
  have b__law_want := F__law_want.binds (ps := ["_law_box_here", "_law_size"]) fun _ _ _ _ _ _ us hl => match us, hl with | [_, _], _ => rfl
  have F__law_whole := fun_mk (st := s__law_whole) l17 c17 k17
  have m__law_whole := PySem.W.mg_of X G a17
  have b__law_whole := F__law_whole.binds (ps := ["_law_item"]) fun _ _ _ _ _ _ us hl => match us, hl with | [_], _ => rfl
  have F__law_truth := fun_mk (st := s__law_truth) l18 c18 k18
  have m__law_truth := PySem.W.mg_of X G a18
  have b__law_truth := F__law_truth.binds (ps := ["_law_found", "_law_due_here"]) fun _ _ _ _ _ _ us hl => match us, hl with | [_, _], _ => rfl
  have F__law_is_want := fun_mk (st := s__law_is_want) l19 c19 k19
  have m__law_is_want := PySem.W.mg_of X G a19
  have b__law_is_want := F__law_is_want.binds (ps := ["_law_item", "_law_size"]) fun _ _ _ _ _ _ us hl => match us, hl with | [_, _], _ => rfl
  have F__law_due := fun_mk (st := s__law_due) l20 c20 k20
  have m__law_due := PySem.W.mg_of X G a20
  have b__law_due := F__law_due.binds (ps := ["_law_item"]) fun _ _ _ _ _ _ us hl => match us, hl with | [_], _ => rfl
  have F__law_spoilt := fun_mk (st := s__law_spoilt) l21 c21 k21
  have m__law_spoilt := PySem.W.mg_of X G a21
  have b__law_spoilt := F__law_spoilt.binds (ps := ["_law_box_here", "_law_sides", "_law_wants"]) fun _ _ _ _ _ _ us hl => match us, hl with | [_, _, _], _ => rfl
  have F__law_named := fun_mk (st := s__law_named) l22 c22 k22
  have m__law_named := PySem.W.mg_of X G a22
  have b__law_named := F__law_named.binds (ps := []) fun _ _ _ _ _ _ us hl => match us, hl with | [], _ => rfl
  have F_law := fun_mk (st := s_law) l23 c23 k23
  have m_law := PySem.W.mg_of X G a23
  have b_law := F_law.binds (ps := ["_law_script"]) fun _ _ _ _ _ _ us hl => match us, hl with | [_], _ => rfl
  refine ⟨PySem.W.fnOf "law" "law" (defArgs s_law) (defBody s_law) (defScope s_law) .none kV23 dc23 pm23 an23 cd23 ct23, fun s v => .of_eq rfl, fun base _ _ => ?_⟩
  have c_has := ok_has (P := l.prog) (w := w) (base := base) F_has m_has b_has T
  have c_take := ok_take (P := l.prog) (w := w) (base := base) F__law_take m__law_take b__law_take T
  have c_box := ok_box (P := l.prog) (w := w) (base := base) F__law_box m__law_box b__law_box T
  have fn_things := ok_things (P := l.prog) (w := w) (base := base) F_things_in T c_has
  have c_things := cal_fn (P := l.prog) (w := w) (base := base) F_things_in fn_things m_things_in b_things_in
  have ck_things := calK_of (P := l.prog) (w := w) (base := base) (ks := ["heap"]) F_things_in fn_things m_things_in (kbinds_of F_things_in g1_rel fun _ _ _ _ _ _ ws hl => match ws, hl with | [_], _ => rfl)
  have c_less := ok_less (P := l.prog) (w := w) (base := base) F_less m_less b_less T
  have c_taken := ok_taken (P := l.prog) (w := w) (base := base) F_taken_out m_taken_out b_taken_out T c_less
  have fn_within := ok_within (P := l.prog) (w := w) (base := base) F_is_within T c_less
  have ck_within := calK_of (P := l.prog) (w := w) (base := base) (ks := ["one", "other"]) F_is_within fn_within m_is_within (kbinds_of F_is_within g2_rel fun _ _ _ _ _ _ ws hl => match ws, hl with | [_, _], _ => rfl)
  have fn_hp := ok_hp (P := l.prog) (w := w) (base := base) F_heap_of T
  have ck_hp := calK_of (P := l.prog) (w := w) (base := base) (ks := ["things"]) F_heap_of fn_hp m_heap_of (kbinds_of F_heap_of g1_rel fun _ _ _ _ _ _ ws hl => match ws, hl with | [_], _ => rfl)
  have c_whole := ok_whole (P := l.prog) (w := w) (base := base) F_is_whole m_is_whole b_is_whole T
  have c_wholes := ok_wholes (P := l.prog) (w := w) (base := base) F_are_wholes m_are_wholes b_are_wholes T c_whole
  have c_from := ok_from (P := l.prog) (w := w) (base := base) F_are_wholes_from m_are_wholes_from b_are_wholes_from T c_wholes
  have fn_sides := ok_sides (P := l.prog) (w := w) (base := base) F_is_sides T c_from
  have c_sides := cal_fn (P := l.prog) (w := w) (base := base) F_is_sides fn_sides m_is_sides b_is_sides
  have ck_sides := calK_of (P := l.prog) (w := w) (base := base) (ks := ["thing"]) F_is_sides fn_sides m_is_sides (kbinds_of F_is_sides g1_rel fun _ _ _ _ _ _ ws hl => match ws, hl with | [_], _ => rfl)
  have c_sinks := ok_sinks (P := l.prog) (w := w) (base := base) F_never_sinks m_never_sinks b_never_sinks T c_things c_taken
  have fn_want := ok_want (P := l.prog) (w := w) (base := base) F_is_want T c_from c_sinks
  have c_want := cal_fn (P := l.prog) (w := w) (base := base) F_is_want fn_want m_is_want b_is_want
  have ck_want := calK_of (P := l.prog) (w := w) (base := base) (ks := ["thing", "many"]) F_is_want fn_want m_is_want (kbinds_of F_is_want g2_rel fun _ _ _ _ _ _ ws hl => match ws, hl with | [_, _], _ => rfl)
  have fn_town := ok_town (P := l.prog) (w := w) (base := base) F_is_town T c_sides c_want
  have c_town := cal_fn (P := l.prog) (w := w) (base := base) F_is_town fn_town m_is_town b_is_town
  have ck_town := calK_of (P := l.prog) (w := w) (base := base) (ks := ["thing"]) F_is_town fn_town m_is_town (kbinds_of F_is_town g1_rel fun _ _ _ _ _ _ ws hl => match ws, hl with | [_], _ => rfl)
  have c_many := ok_many (P := l.prog) (w := w) (base := base) F__law_many m__law_many b__law_many T c_take
  have c_lwant := ok_lwant (P := l.prog) (w := w) (base := base) F__law_want m__law_want b__law_want T c_take
  have c_truth := ok_truth (P := l.prog) (w := w) (base := base) F__law_truth m__law_truth b__law_truth T
  have c_lwhole := ok_lwhole (P := l.prog) (w := w) (base := base) F__law_whole m__law_whole b__law_whole T
  have c_lisw := ok_lisw (P := l.prog) (w := w) (base := base) F__law_is_want m__law_is_want b__law_is_want T c_lwhole
  have c_due := ok_due (P := l.prog) (w := w) (base := base) F__law_due m__law_due b__law_due T c_lwhole c_lisw
  have c_spoilt := ok_spoilt (P := l.prog) (w := w) (base := base) F__law_spoilt m__law_spoilt b__law_spoilt T c_take
  have c_named := ok_named (P := l.prog) (w := w) (base := base) F__law_named m__law_named b__law_named T ck_things ck_hp ck_within ck_want ck_sides ck_town
  exact ok_law (P := l.prog) (w := w) (base := base) F_law T c_box c_take c_many c_lwant c_town c_spoilt c_truth c_due c_named
theorem walk {l : PySem.W.OpenLaw} {q : Program} {loose : List Str} {XP : (Str → Option Value) → Heap → Prop} {YP : World → Heap → Prop} {d : DefRec} {K : Params → PySem.W.Frag} (hn : l.most = some 63) (hdf : d.params.defaults = [])
    (hY : ∀ (w : World) (h : Heap), YP w h → (K w.params).In h)
    (F : ∀ (w : World) (mg : Str → Option Value) (fa : Addr) (h : Heap), (K w.params).In h → h.Ns mainGlobals mg → mg d.name = some (.ref fa) →
      ∃ fd : FuncData, (∀ (s : Shared) (u : Value), BindsTo s fd ⟨[u], []⟩ [("_law_script", u)]) ∧ ∀ base : Heap, (K w.params).In base → base.Ns mainGlobals mg → FnOk l.prog w (K w.params) mg base CX0 7 fa fd ["_law_script"] (sp_law (K w.params))) :
    PySem.W.WalkO q loose XP YP l.row.toRowW d [] (fun f vs => PySem.call f vs) :=
  L2.walk_of (n := 63) (k := 7) (x := "_law_script") (CX := fun _ => CX0) (sp := fun w => sp_law (K w.params)) hn (by decide) hdf ⟨rfl, by decide, by decide⟩ hY F (fun w H a ns hl hO hS => ⟨a, ns, rfl, hS, hl, fun _ => rfl⟩) fun _ _ _ _ _ z => z
end K06
open PySem PySem.W PyProof.Rows
set_option maxRecDepth 100000 in
set_option maxHeartbeats 0 in
theorem PySem.Challenge.cw_wantprices_k06_what_towns_are_holds : PySem.Challenge.rw_wantprices_k06_what_towns_are.Holds := by
  w_on; o_law; k_head; (case hw => w_witness2)
  k_fill
  refine K06.walk (l := PySem.Challenge.rw_wantprices_k06_what_towns_are) rfl rfl (fun w h Y => PySem.W.kIn_of Y) ?F
  case F =>
    intro w mg fa h KX G hmg
    refine' K06.all_mk KX G hmg ?a0 ?l0 ?c0 ?k0 ?a1 ?l1 ?c1 ?k1 ?a2 ?l2 ?c2 ?k2 ?a3 ?l3 ?c3 ?k3 ?a4 ?l4 ?c4 ?k4 ?a5 ?l5 ?c5 ?k5 ?a6 ?l6 ?c6 ?k6 ?a7 ?l7 ?c7 ?k7 ?a8 ?l8 ?c8 ?k8 ?a9 ?l9 ?c9 ?k9 ?a10 ?l10 ?c10 ?k10 ?a11 ?l11 ?c11 ?k11 ?a12 ?l12 ?c12 ?k12 ?a13 ?l13 ?c13 ?k13 ?a14 ?l14 ?c14 ?k14 ?a15 ?l15 ?c15 ?k15 ?a16 ?l16 ?c16 ?k16 ?a17 ?l17 ?c17 ?k17 ?a18 ?l18 ?c18 ?k18 ?a19 ?l19 ?c19 ?k19 ?a20 ?l20 ?c20 ?k20 ?a21 ?l21 ?c21 ?k21 ?a22 ?l22 ?c22 ?k22 ?a23 ?l23 ?c23 ?k23 ?z_len ?z_sum ?z_all ?z_any ?z_isinstance ?z_abs ?z_min ?z_max ?z_range ?z_tuple ?z_list ?z_int ?z_bool ?y_MOST_THINGS ?y_MOST_HANDS
    (case a0 => k_is)
    (case l0 => k_is)
    (case c0 => k_is)
    (case k0 => k_is)
    (case a1 => k_is)
    (case l1 => k_is)
    (case c1 => k_is)
    (case k1 => k_is)
    (case a2 => k_is)
    (case l2 => k_is)
    (case c2 => k_is)
    (case k2 => k_is)
    (case a3 => k_is)
    (case l3 => k_is)
    (case c3 => k_is)
    (case k3 => k_is)
    (case a4 => k_is)
    (case l4 => k_is)
    (case c4 => k_is)
    (case k4 => k_is)
    (case a5 => k_is)
    (case l5 => k_is)
    (case c5 => k_is)
    (case k5 => k_is)
    (case a6 => k_is)
    (case l6 => k_is)
    (case c6 => k_is)
    (case k6 => k_is)
    (case a7 => k_is)
    (case l7 => k_is)
    (case c7 => k_is)
    (case k7 => k_is)
    (case a8 => k_is)
    (case l8 => k_is)
    (case c8 => k_is)
    (case k8 => k_is)
    (case a9 => k_is)
    (case l9 => k_is)
    (case c9 => k_is)
    (case k9 => k_is)
    (case a10 => k_is)
    (case l10 => k_is)
    (case c10 => k_is)
    (case k10 => k_is)
    (case a11 => k_is)
    (case l11 => k_is)
    (case c11 => k_is)
    (case k11 => k_is)
    (case a12 => k_is)
    (case l12 => k_is)
    (case c12 => k_is)
    (case k12 => k_is)
    (case a13 => k_is)
    (case l13 => k_is)
    (case c13 => k_is)
    (case k13 => k_is)
    (case a14 => k_is)
    (case l14 => k_is)
    (case c14 => k_is)
    (case k14 => k_is)
    (case a15 => k_is)
    (case l15 => k_is)
    (case c15 => k_is)
    (case k15 => k_is)
    (case a16 => k_is)
    (case l16 => k_is)
    (case c16 => k_is)
    (case k16 => k_is)
    (case a17 => k_is)
    (case l17 => k_is)
    (case c17 => k_is)
    (case k17 => k_is)
    (case a18 => k_is)
    (case l18 => k_is)
    (case c18 => k_is)
    (case k18 => k_is)
    (case a19 => k_is)
    (case l19 => k_is)
    (case c19 => k_is)
    (case k19 => k_is)
    (case a20 => k_is)
    (case l20 => k_is)
    (case c20 => k_is)
    (case k20 => k_is)
    (case a21 => k_is)
    (case l21 => k_is)
    (case c21 => k_is)
    (case k21 => k_is)
    (case a22 => k_is)
    (case l22 => k_is)
    (case c22 => k_is)
    (case k22 => k_is)
    (case a23 => k_is)
    (case l23 => k_is)
    (case c23 => k_is)
    (case k23 => k_is)
    (case z_len => k_is)
    (case z_sum => k_is)
    (case z_all => k_is)
    (case z_any => k_is)
    (case z_isinstance => k_is)
    (case z_abs => k_is)
    (case z_min => k_is)
    (case z_max => k_is)
    (case z_range => k_is)
    (case z_tuple => k_is)
    (case z_list => k_is)
    (case z_int => k_is)
    (case z_bool => k_is)
    (case y_MOST_THINGS => k_is)
    (case y_MOST_HANDS => k_is)
end
