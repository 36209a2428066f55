import PyProof.Rows.All
import Wide.All
import OpenK.AllK
import Wide.FinOn
import Lean
import PyProof.EqAt
import PyProof.EqKinds
import PyProof.TupleCall
import PyProof.MinMaxWalk
import PyProof.StrBlockG
import PyProof.Conv_int_bool
import PyProof.StrHeap
import PyProof.ReprHeadsTuple
import KE.KSortTup
import PyProof.TupleKey
import PyProof.SetKind
import PyProof.Rows.SetFrom
import PyProof.SetNew
import KE.KDictList
import PySem.Challenge.RW_wantprices_k53_none_of_any_kind
section
set_option Elab.async false
set_option linter.all false
set_option maxRecDepth 100000
namespace L2
open PySem PySem.Spec PyProof.Rows
noncomputable abbrev Key := Sum Int Str
noncomputable def keyIs : Key → Value → Bool
 | .inl k, v => Value.isInt k v
 | .inr x, v => Value.isStrOf x v
noncomputable def keyH (w : World) : Key → Int
 | .inl k => hashInt k
 | .inr x => hashStr w x
theorem keyIs_shape : ∀ {k : Key} {v : Value}, keyIs k v = true → (∃ i t, k = Sum.inl i ∧ v = Value.int i t) ∨ (∃ x t, k = Sum.inr x ∧ v = Value.str x t)
 | .inl i, v, h => by
  obtain ⟨t, e⟩ := Value.isInt_shape (k := i) (v := v) h
  exact .inl ⟨i, t, rfl, e⟩
 | .inr x, v, h => by
  obtain ⟨t, e⟩ := Value.isStrOf_shape (x := x) (v := v) h
  exact .inr ⟨x, t, rfl, e⟩
theorem keyIs_int (i : Int) (t : Tok) : keyIs (.inl i) (.int i t) = true := by simp [keyIs, Value.isInt]
theorem keyIs_str (x : Str) (t : Tok) : keyIs (.inr x) (.str x t) = true := by simp [keyIs, Value.isStrOf]
theorem key_ll (a b : Int) : decide ((Sum.inl a : Key) = Sum.inl b) = (a == b) := by
 by_cases e : a = b
 ·subst e; simp
 ·have h : ¬ (Sum.inl a : Key) = Sum.inl b := fun q => e (Sum.inl.inj q)
  rw [decide_eq_false h]
  exact (beq_eq_false_iff_ne.mpr e).symm
theorem key_rr (a b : Str) : decide ((Sum.inr a : Key) = Sum.inr b) = decide (a = b) := by
 by_cases e : a = b
 ·subst e; simp
 ·have h : ¬ (Sum.inr a : Key) = Sum.inr b := fun q => e (Sum.inr.inj q)
  rw [decide_eq_false h, decide_eq_false e]
theorem key_lr (a : Int) (b : Str) : decide ((Sum.inl a : Key) = Sum.inr b) = false := decide_eq_false (fun q => nomatch q)
theorem key_rl (a : Str) (b : Int) : decide ((Sum.inr a : Key) = Sum.inl b) = false := decide_eq_false (fun q => nomatch q)
noncomputable def mixKind (prog : Program) (w : World) : PySem.KeyKind prog w Key where
 is := keyIs
 hash := keyH w
 inj := fun v a b ha hb => by
  rcases keyIs_shape ha with ⟨i, t, rfl, rfl⟩ | ⟨x, t, rfl, rfl⟩
  ·rcases keyIs_shape hb with ⟨j, u, rfl, e⟩ | ⟨y, u, rfl, e⟩
   ·injection e with e1 _; rw [e1]
   ·exact nomatch e
  ·rcases keyIs_shape hb with ⟨j, u, rfl, e⟩ | ⟨y, u, rfl, e⟩
   ·exact nomatch e
   ·injection e with e1 _; rw [e1]
 byValue := fun k v h => by
  rcases keyIs_shape h with ⟨i, t, rfl, rfl⟩ | ⟨x, t, rfl, rfl⟩ <;> rfl
 pyHash := fun hv h => by
  rcases keyIs_shape hv with ⟨i, t, rfl, rfl⟩ | ⟨x, t, rfl, rfl⟩
  ·exact wpAny_pyHash_int h
  ·exact wpAny_pyHash_str h
 eqBool := fun hu hv h => by
  rcases keyIs_shape hu with ⟨i, t, rfl, rfl⟩ | ⟨x, t, rfl, rfl⟩
  ·rcases keyIs_shape hv with ⟨j, u, rfl, rfl⟩ | ⟨y, u, rfl, rfl⟩
   ·rw [key_ll] at h; exact wpAny_eqBool_int h
   ·rw [key_lr] at h; exact SeqAt.EqAt.int_str i t y u _ _ _ _ h
  ·rcases keyIs_shape hv with ⟨j, u, rfl, rfl⟩ | ⟨y, u, rfl, rfl⟩
   ·rw [key_rl] at h; exact SeqAt.EqAt.str_int x t j u _ _ _ _ h
   ·rw [key_rr] at h; exact wpAny_eqBool_str h
 «strs» := fun k x t v h => by
  rcases keyIs_shape h with ⟨i, u, rfl, e⟩ | ⟨y, u, rfl, e⟩
  ·exact nomatch e
  ·injection e with e1 _
   subst e1
   cases v <;> rfl
theorem mixKind_int (prog : Program) (w : World) (i : Int) (t : Tok) : (mixKind prog w).is (.inl i) (.int i t) = true := keyIs_int i t
theorem mixKind_str (prog : Program) (w : World) (x : Str) (t : Tok) : (mixKind prog w).is (.inr x) (.str x t) = true := keyIs_str x t
end L2
namespace L2
open PySem PySem.Spec PyProof.Rows
inductive V where
 | non | bl (b : Bool) | int (i : Int) | str (x : Str) | byt (b : Array UInt8) | flt (b : UInt64) | ref (a : Addr) | ty (n : String)
 deriving DecidableEq
noncomputable def RelV : V → Value → Prop
 | .non, u => u = Value.none
 | .bl b, u => u = Value.bool b
 | .int i, u => ∃ t, u = Value.int i t
 | .str x, u => ∃ t, u = Value.str x t
 | .byt b, u => ∃ t, u = Value.bytes b t
 | .flt b, u => ∃ t, u = Value.float b t
 | .ref a, u => u = Value.ref a
 | .ty n, u => u = Value.type n
noncomputable abbrev Vals : List V → List Value → Prop := Paired RelV
theorem Vals.length {xs : List V} {us : List Value} (r : Vals xs us) : xs.length = us.length := Paired.length r
theorem Vals.get : ∀ {xs : List V} {us : List Value} {i : Nat} {x : V}, Vals xs us → xs[i]? = some x → ∃ u, us[i]? = some u ∧ RelV x u
 | _, _, _, _, .nil, e => by simp at e
 | _, _, 0, _, .cons r _, e => by simp at e; subst e; exact ⟨_, rfl, r⟩
 | _, _, i + 1, x, .cons _ t, e => by
  obtain ⟨u, h1, h2⟩ := Vals.get (i := i) (x := x) t (by simpa using e)
  exact ⟨u, by simpa using h1, h2⟩
theorem Vals.set {x : V} {u : Value} (r : RelV x u) : ∀ {xs : List V} {us : List Value} (i : Nat), Vals xs us → Vals (xs.set i x) (us.set i u)
 | _, _, _, .nil => .nil
 | _, _, 0, .cons _ t => .cons r t
 | _, _, i + 1, .cons q t => .cons q (Vals.set r i t)
theorem Vals.append : ∀ {xs ys : List V} {us ws : List Value}, Vals xs us → Vals ys ws → Vals (xs ++ ys) (us ++ ws)
 | _, _, _, _, .nil, s => s
 | _, _, _, _, .cons r t, s => .cons r (Vals.append t s)
theorem Vals.take : ∀ {xs : List V} {us : List Value} (n : Nat), Vals xs us → Vals (xs.take n) (us.take n)
 | _, _, 0, _ => .nil
 | _, _, _ + 1, .nil => .nil
 | _, _, n + 1, .cons r t => .cons r (Vals.take n t)
theorem Vals.drop : ∀ {xs : List V} {us : List Value} (n : Nat), Vals xs us → Vals (xs.drop n) (us.drop n)
 | _, _, 0, r => r
 | _, _, _ + 1, .nil => .nil
 | _, _, n + 1, .cons _ t => Vals.drop n t
noncomputable def RelO : Option V → Option Value → Prop
 | some v, some u => RelV v u
 | none, none => True
 | _, _ => False
noncomputable def KV {κ : Type} : List (κ × V) → List (κ × Value) → Prop := Paired fun (p : κ × V) (q : κ × Value) => p.1 = q.1 ∧ RelV p.2 q.2
noncomputable def kV : Key → V
 | .inl i => .int i
 | .inr x => .str x
inductive HO where
 | lst (xs : List V)
 | tup (xs : List V)
 | dK (kvs : List (Key × V)) | dT (kvs : List (List Key × V))
 | set (S : Int → Bool) (n : Nat)
 | ins (C dx : Addr) (fs : List (Str × V))
 | own (x : Addr)
 | xd (fs : List (Str × V))
 | met (f x : Addr)
 | rng (lo hi : Int)
 | frz (o : Obj) (u : HO)
 | tbl (ps : Array Value)
 | ext (φ : Heap → Prop)
noncomputable abbrev Hp := Addr → Option HO
noncomputable def upd (H : Hp) (a : Addr) (o : HO) : Hp := fun b => if b = a then some o else H b
theorem upd_same {H : Hp} {a : Addr} {o : HO} : upd H a o a = some o := by unfold upd; rw [if_pos rfl]
theorem upd_ne {H : Hp} {a b : Addr} {o : HO} (h : b ≠ a) : upd H a o b = H b := by unfold upd; rw [if_neg h]
theorem upd_upd {H : Hp} {a : Addr} {o u : HO} : upd (upd H a o) a u = upd H a u := by
 funext b; unfold upd; split <;> rfl
theorem ne_of {H : Hp} {a b : Addr} {o u : HO} (h : H a = some o) (h' : H b = some u) (d : o ≠ u) : a ≠ b := by
 intro e; subst e; rw [h] at h'; exact d (Option.some.inj h')
theorem ne_of_none {H : Hp} {a b : Addr} {o : HO} (h : H a = some o) (h' : H b = none) : a ≠ b := by
 intro e; subst e; rw [h] at h'; cases h'
section
variable (P : Program) (w : World)
noncomputable def ObjOk (H : Hp) (h : Heap) (a : Addr) : HO → Prop
 | .lst xs => xs.length ≤ sizeLine ∧ ∃ (its : List Value) (n : Nat), Vals xs its ∧ h.get? a = some { cls := .type "list", data := .seq its.toArray n }
 | .tup xs => xs.length ≤ sizeLine ∧ ∃ its : List Value, Vals xs its ∧ IsTup h a its.toArray
 | .dK kvs => kvs.length ≤ sizeLine ∧ (a == sysModules) = false ∧ ∃ vs, KV kvs vs ∧ h.DictOf (mixKind P w) a vs
 | .dT kvs => kvs.length ≤ sizeLine ∧ (a == sysModules) = false ∧ ∃ xs : List (List Key × Addr × Value),
   Paired (fun (p : List Key × V) (q : List Key × Addr × Value) => p.1 = q.1 ∧ H q.2.1 = some (.tup (p.1.map kV)) ∧ RelV p.2 q.2.2) kvs xs ∧
   ∃ o es ep, h.get? a = some o ∧ o.ExactDict ∧ o.data = .dict es ep ∧ es.toList = xs.map (entryOfKey (tupleKind (mixKind P w))) ∧ (xs.map (·.1)).Nodup
 | .set S n => h.SetOf (intKind P w) a S n
 | .ins C dx fs => H dx = some (.own a) ∧ fs.length ≤ 1000 ∧ dx ≠ a ∧ h.get? a = some (PySem.W.instObj C dx) ∧
   ∃ mA, h.Ns1 dx mA ∧ (∀ f, RelO (fs.lookup f) (mA f)) ∧ PySem.Within mA (fs.map (·.1))
 | .own _ => ∃ o, h.get? a = some o
 | .xd fs => ∃ mA, h.Ns1 a mA ∧ ∀ f, RelO (fs.lookup f) (mA f)
 | .rng lo hi => ∃ t u v, h.get? a = some { cls := .type "range", data := .fields #[.int lo t, .int hi u, .int 1 v] }
 | .frz o u => h.get? a = some o ∧ ObjOk H h a u
 | .tbl ps => h.get? a = some { cls := .none, data := .fields ps }
 | .met f x => h.get? a = some (PySem.W.methodObj (.ref f) (.ref x))
 | .ext φ => φ h ∧ (∃ o, h.get? a = some o) ∧ ∀ h1 h2 : Heap, φ h1 → (∀ o, h1.get? a = some o → h2.get? a = some o) → φ h2
noncomputable def HOk (H : Hp) (h : Heap) : Prop := ∀ a o, H a = some o → ObjOk P w H h a o
end
section
variable {P : Program} {w : World} {H H' : Hp} {h h' : Heap} {a : Addr} {o : HO}
theorem ObjOk.lt (x : ObjOk P w H h a o) : a < h.objs.size := by
 cases o with
 | lst xs => obtain ⟨_, _, _, _, e⟩ := x; exact Heap.lt_size e
 | tup xs => obtain ⟨_, _, _, p⟩ := x; exact p.lt
 | dK kvs => obtain ⟨_, _, _, _, o, _, _, e, _⟩ := x; exact Heap.lt_size e
 | dT kvs => obtain ⟨_, _, _, _, o, _, _, e, _⟩ := x; exact Heap.lt_size e
 | set S n => obtain ⟨o, _, _, _, e, _⟩ := x; exact Heap.lt_size e
 | ins C dx fs => obtain ⟨_, _, _, e, _⟩ := x; exact Heap.lt_size e
 | own y => obtain ⟨_, e⟩ := x; exact Heap.lt_size e
 | xd fs => obtain ⟨_, ⟨_, _, _, e, _⟩, _⟩ := x; exact Heap.lt_size e
 | rng lo hi => obtain ⟨_, _, _, e⟩ := x; exact Heap.lt_size e
 | frz ob u => obtain ⟨e, _⟩ := x; exact Heap.lt_size e
 | tbl ps => exact Heap.lt_size (show h.get? a = some _ from x)
 | met f y => exact Heap.lt_size (show h.get? a = some _ from x)
 | ext φ => obtain ⟨_, ⟨_, e⟩, _⟩ := x; exact Heap.lt_size e
theorem Paired.mapP {α β : Type} {F G : α → β → Prop} : ∀ {l₁ : List α} {l₂ : List β}, Paired F l₁ l₂ → (∀ a b, F a b → G a b) → Paired G l₁ l₂
 | _, _, .nil, _ => .nil
 | _, _, .cons r t, f => .cons (f _ _ r) (Paired.mapP t f)
theorem ObjOk.stay (x : ObjOk P w H h a o) (k : ∀ b u, (b = a ∨ H b = some (.own a)) → h.get? b = some u → h'.get? b = some u)
  (ho : ∀ b, H b = some (.own a) → H' b = some (.own a)) (ht : ∀ b xs, H b = some (.tup xs) → H' b = some (.tup xs)) : ObjOk P w H' h' a o := by
 induction o with
 | lst xs => obtain ⟨z, its, n, r, e⟩ := x; exact ⟨z, its, n, r, k _ _ (.inl rfl) e⟩
 | tup xs => obtain ⟨z, its, r, ob, e, c⟩ := x; exact ⟨z, its, r, ob, k _ _ (.inl rfl) e, c⟩
 | dK kvs => obtain ⟨z, y, vs, r, ob, es, ep, e, c⟩ := x; exact ⟨z, y, vs, r, ob, es, ep, k _ _ (.inl rfl) e, c⟩
 | dT kvs =>
  obtain ⟨z, y, xs, r, ob, es, ep, e, c⟩ := x
  exact ⟨z, y, xs, Paired.mapP r fun p q z => ⟨z.1, ht _ _ z.2.1, z.2.2⟩, ob, es, ep, k _ _ (.inl rfl) e, c⟩
 | set S n => obtain ⟨ob, es, ep, t, e, c⟩ := x; exact ⟨ob, es, ep, t, k _ _ (.inl rfl) e, c⟩
 | ins C dx fs =>
  obtain ⟨d, z, ne, e, mA, ⟨od, es, ep, e2, c⟩, r⟩ := x
  exact ⟨ho _ d, z, ne, k _ _ (.inl rfl) e, mA, ⟨od, es, ep, k _ _ (.inr d) e2, c⟩, r⟩
 | own y => obtain ⟨ob, e⟩ := x; exact ⟨ob, k _ _ (.inl rfl) e⟩
 | xd fs => obtain ⟨mA, ⟨od, es, ep, e, c⟩, r⟩ := x; exact ⟨mA, ⟨od, es, ep, k _ _ (.inl rfl) e, c⟩, r⟩
 | rng lo hi => obtain ⟨t, u, v, e⟩ := x; exact ⟨t, u, v, k _ _ (.inl rfl) e⟩
 | frz ob u ih => obtain ⟨e, q⟩ := x; exact ⟨k _ _ (.inl rfl) e, ih q⟩
 | tbl ps =>
  have e : h.get? a = some { cls := .none, data := .fields ps } := x
  show h'.get? a = some { cls := .none, data := .fields ps }
  exact k a _ (.inl rfl) e
 | met f y =>
  have e : h.get? a = some (PySem.W.methodObj (.ref f) (.ref y)) := x
  show h'.get? a = some (PySem.W.methodObj (.ref f) (.ref y))
  exact k a _ (.inl rfl) e
 | ext φ => obtain ⟨p, ⟨o, e⟩, st⟩ := x; exact ⟨st _ _ p fun o q => k _ _ (.inl rfl) q, ⟨o, k _ _ (.inl rfl) e⟩, st⟩
theorem HOk.lt (x : HOk P w H h) (e : H a = some o) : a < h.objs.size := (x a o e).lt
theorem HOk.fresh (x : HOk P w H h) (e : h.objs.size ≤ a) : H a = none := by
 cases q : H a with
 | none => rfl
 | some u => exact absurd (Nat.lt_of_lt_of_le (x.lt q) e) (Nat.lt_irrefl _)
theorem HOk.kept (x : HOk P w H h) (k : ∀ b u, h.get? b = some u → h'.get? b = some u) : HOk P w H h' := fun a o e =>
 (x a o e).stay (fun b u _ q => k b u q) (fun _ q => q) fun _ _ q => q
theorem HOk.laid (x : HOk P w H h) (k : ∀ b u, h.get? b = some u → h'.get? b = some u) (hp : h.objs.size ≤ a) (new : ObjOk P w (upd H a o) h' a o) : HOk P w (upd H a o) h' := fun b u e => by
 have hn := x.fresh hp
 by_cases hb : b = a
 ·subst hb; rw [upd_same] at e; cases e; exact new
 ·rw [upd_ne hb] at e
  exact (x b u e).stay (fun c v _ q => k c v q) (fun c q => by rw [upd_ne (ne_of_none q hn)]; exact q) fun c xs q => by rw [upd_ne (ne_of_none q hn)]; exact q
end
noncomputable def Rd (H : Hp) (a : Addr) (u : HO) : Prop := H a = some u ∨ ∃ o, H a = some (.frz o u)
theorem Rd.of {H : Hp} {a : Addr} {u : HO} (h : H a = some u) : Rd H a u := .inl h
theorem Rd.ok {P : Program} {w : World} {H : Hp} {h : Heap} {a : Addr} {u : HO} (r : Rd H a u) (x : HOk P w H h) : ObjOk P w H h a u := by
 rcases r with r | ⟨o, r⟩
 ·exact x a u r
 ·obtain ⟨_, q⟩ := x a _ r
  exact q
noncomputable def Mut : Option HO → Prop
 | some (.lst _) => True
 | some (.dK _) => True
 | some (.dT _) => True
 | some (.set _ _) => True
 | some (.ins _ _ _) => True
 | some (.ext _) => True
 | _ => False
section
variable {P : Program} {w : World} {H : Hp} {h h' : Heap} {x e : Addr} {o' : HO}
theorem HOk.write (ok : HOk P w H h) (mu : Mut (H x)) (he : e = x ∨ H e = some (.own x)) (k : ∀ b u, b ≠ e → h.get? b = some u → h'.get? b = some u) (heo : ∃ u, h'.get? e = some u)
  (new : ObjOk P w (upd H x o') h' x o') : HOk P w (upd H x o') h' := fun b u q => by
 have nown : ∀ c y, H c = some (.own y) → c ≠ x := fun c y r z => by subst z; rw [r] at mu; exact mu
 have ntup : ∀ c xs, H c = some (.tup xs) → c ≠ x := fun c xs r z => by subst z; rw [r] at mu; exact mu
 by_cases hb : b = x
 ·subst hb; rw [upd_same] at q; cases q; exact new
 ·rw [upd_ne hb] at q
  by_cases hbe : b = e
  ·have q' : H b = some (.own x) := by
    rcases he with z | z
    ·exact absurd (hbe.trans z) hb
    ·rw [hbe]; exact z
   rw [q] at q'; cases q'
   obtain ⟨v, hv⟩ := heo
   exact ⟨v, by rw [hbe]; exact hv⟩
  ·refine (ok b u q).stay (fun c v hc r => k c v ?_ r) (fun c r => by rw [upd_ne (nown c b r)]; exact r) fun c xs r => by rw [upd_ne (ntup c xs r)]; exact r
   rcases hc with rfl | hc
   ·exact hbe
   ·rintro rfl
    rcases he with z | z
    ·exact nown c b hc z
    ·rw [hc] at z; cases z; exact hb rfl
end
structure Un (fs ex : List Addr) (H H' : Hp) (h h' : Heap) : Prop where
 keep : ∀ b o, h.get? b = some o → H b = none → b ∉ fs → b ∉ ex → h'.get? b = some o
 slot : ∀ b o, h.get? b = some o → H b = none → b ∈ fs → b ∉ ex → ∃ sl, h'.get? b = some { o with slots := sl }
 free : ∀ b o, h.get? b = some o → H b = none → b ∉ ex → H' b = none
 there : ∀ b o, h.get? b = some o → b ∉ ex → ∃ o', h'.get? b = some o'
 tups : ∀ b xs, H b = some (.tup xs) → H' b = some (.tup xs)
 frzs : ∀ b o u, H b = some (.frz o u) → H' b = some (.frz o u)
 tbls : ∀ b ps, H b = some (.tbl ps) → ∃ more, H' b = some (.tbl (ps ++ more))
section
variable {fs fs' ex ex' : List Addr} {H H1 H2 : Hp} {h h1 h2 h' : Heap} {a x e : Addr} {o : HO}
theorem Un.any (u : Un fs ex H H1 h h1) {b : Addr} {ob : Obj} (q : h.get? b = some ob) (n : H b = none) (hx : b ∉ ex) : ∃ sl, h1.get? b = some { ob with slots := sl } := by
 by_cases hb : b ∈ fs
 ·exact u.slot b ob q n hb hx
 ·exact ⟨ob.slots, u.keep b ob q n hb hx⟩
theorem Un.trans (a : Un fs ex H H1 h h1) (b : Un fs ex H1 H2 h1 h2) : Un fs ex H H2 h h2 where
 keep := fun c ob q n hc hx => b.keep c ob (a.keep c ob q n hc hx) (a.free c ob q n hx) hc hx
 slot := fun c ob q n hc hx => by
  obtain ⟨sl, e1⟩ := a.slot c ob q n hc hx
  obtain ⟨sl', e2⟩ := b.slot c _ e1 (a.free c ob q n hx) hc hx
  exact ⟨sl', e2⟩
 free := fun c ob q n hx => by
  obtain ⟨o', e1⟩ := a.there c ob q hx
  exact b.free c o' e1 (a.free c ob q n hx) hx
 there := fun c ob q hx => by
  obtain ⟨o', e1⟩ := a.there c ob q hx
  exact b.there c o' e1 hx
 tups := fun c xs q => b.tups c xs (a.tups c xs q)
 frzs := fun c ob xs q => b.frzs c ob xs (a.frzs c ob xs q)
 tbls := fun c ps q => by
  obtain ⟨m1, e1⟩ := a.tbls c ps q
  obtain ⟨m2, e2⟩ := b.tbls c _ e1
  exact ⟨m1 ++ m2, by rw [e2, Array.append_assoc]⟩
theorem Un.kept (k : ∀ b u, h.get? b = some u → h'.get? b = some u) : Un fs ex H H h h' :=
 ⟨fun b ob q _ _ _ => k b ob q, fun b ob q _ _ _ => ⟨ob.slots, k b ob q⟩, fun _ _ _ n _ => n, fun b ob q _ => ⟨ob, k b ob q⟩, fun _ _ q => q, fun _ _ _ q => q, fun _ ps q => ⟨#[], by rw [q]; simp⟩⟩
theorem Un.refl : Un fs ex H H h h := Un.kept fun _ _ q => q
theorem Un.laid (k : ∀ b u, h.get? b = some u → h'.get? b = some u) (hp : h.objs.size ≤ a) (hn : H a = none) : Un fs ex H (upd H a o) h h' where
 keep := fun b u q _ _ _ => k b u q
 slot := fun b u q _ _ _ => ⟨u.slots, k b u q⟩
 free := fun b u q n _ => by rw [upd_ne (Nat.ne_of_lt (Nat.lt_of_lt_of_le (Heap.lt_size q) hp))]; exact n
 there := fun b u q _ => ⟨u, k b u q⟩
 tups := fun b xs q => by rw [upd_ne (ne_of_none q hn)]; exact q
 frzs := fun b u xs q => by rw [upd_ne (ne_of_none q hn)]; exact q
 tbls := fun b ps q => ⟨#[], by rw [upd_ne (ne_of_none q hn), q]; simp⟩
theorem Un.write (mu : Mut (H x)) (he : e = x ∨ H e = some (.own x)) (k : ∀ b u, b ≠ e → h.get? b = some u → h'.get? b = some u) (heo : ∃ u, h'.get? e = some u) : Un fs ex H (upd H x o) h h' := by
 have hx : ∀ b, H b = none → b ≠ x := fun b n z => by subst z; rw [n] at mu; exact mu
 have hb : ∀ b, H b = none → b ≠ e := fun b n z => by
  subst z
  rcases he with r | r
  ·exact hx b n r
  ·rw [n] at r; cases r
 have hm : ∀ b u, H b = some u → ¬ Mut (some u) → b ≠ x := fun b u q nm z => by subst z; rw [q] at mu; exact nm mu
 refine ⟨fun b u q n _ _ => k b u (hb b n) q, fun b u q n _ _ => ⟨u.slots, k b u (hb b n) q⟩, fun b u q n _ => by rw [upd_ne (hx b n)]; exact n, fun b u q _ => ?_,
  fun b xs q => by rw [upd_ne (hm b _ q fun z => z)]; exact q, fun b u xs q => by rw [upd_ne (hm b _ q fun z => z)]; exact q, fun b ps q => ⟨#[], by rw [upd_ne (hm b _ q fun z => z), q]; simp⟩⟩
 by_cases hbe : b = e
 ·subst hbe; exact heo
 ·exact ⟨u, k b u hbe q⟩
theorem Un.mono (u : Un fs ex H H1 h h1) (hs : ∀ b ∈ fs, b ∈ fs') (hx : ∀ b ∈ ex, b ∈ ex') : Un fs' ex' H H1 h h1 :=
 ⟨fun b ob q n hb he => u.keep b ob q n (fun z => hb (hs b z)) fun z => he (hx b z), fun _ _ q n _ he => u.any q n fun z => he (hx _ z), fun b ob q n he => u.free b ob q n fun z => he (hx b z), fun b ob q he => u.there b ob q fun z => he (hx b z), u.tups, u.frzs, u.tbls⟩
end
noncomputable def trk (h : Heap) (H : Hp) : List Addr := (List.range h.objs.size).filter fun a => (H a).isSome
noncomputable def hidT (h : Heap) (H : Hp) : Heap := PySem.W.hideAll h (trk h H)
theorem hidT_size (h : Heap) (H : Hp) : (hidT h H).objs.size = h.objs.size := PySem.W.hideAll_size _ _
theorem hidT_get {h : Heap} {H : Hp} {b : Addr} {o : Obj} (e : h.get? b = some o) (n : H b = none) : (hidT h H).get? b = some o :=
 PySem.W.hideAll_get _ e fun hm => by
  have q : (H b).isSome = true := (List.mem_filter.mp hm).2
  rw [n] at q; simp at q
theorem of_hidT {h : Heap} {H : Hp} {b : Addr} {o : Obj} (e : (hidT h H).get? b = some o) : h.get? b = some o ∧ H b = none := by
 have e' : h.get? b = some o := PySem.W.of_hideAll (trk h H) e
 refine ⟨e', ?_⟩
 cases q : H b with
 | none => rfl
 | some x =>
  have hm : b ∈ trk h H := List.mem_filter.mpr ⟨List.mem_range.mpr (Heap.lt_size e'), by simp [q]⟩
  have z : (hidT h H).get? b = none := PySem.W.hideAll_none (trk h H) hm
  rw [z] at e; cases e
noncomputable def allNews (g h : Heap) (L : Addr) : List (Addr × Obj) := (List.range h.objs.size).filterMap fun a => if a = L ∨ (g.get? a).isSome = true then none else (h.get? a).map fun o => (a, o)
noncomputable def rest (g h : Heap) (L d : Addr) : List (Addr × Obj) := (allNews g h L).filter fun p => decide (p.1 ≠ d)
end L2
namespace L2
open PySem PySem.Spec PyProof.Rows
structure Mod (K : PySem.W.Frag) (mg : Str → Option Value) (base : Heap) : Prop where
 kin : K.In base
 glob : base.Ns mainGlobals mg
 blt : ∃ mb, base.Ns builtinsNs mb ∧ ∀ x : Str, x ≠ "__name__" → mb x = bootBuiltins x
 nolimit : base.NoLimit
structure Cx where
 prog : Program
 w : World
 K : PySem.W.Frag
 mg : Str → Option Value
 base : Heap
 A : Around
 N : List Str
 s₀ : Shared
 H₀ : Hp
 env : Env
 outer : List Env
 stack : List Env
 ex : List Addr
 fn : Str → Bool
 calm : Bool
 pn : List (Addr × Obj)
 xe : Value → Shared → Prop
noncomputable def frs (l : List Env) : List Addr := l.filterMap (·.frame)
noncomputable abbrev Cx.fs (X : Cx) : List Addr := frs X.outer
noncomputable def Vis (sc : Scope) (x : Str) : Prop := sc.names.lookup x = some .local ∨ sc.names.lookup x = some .cell ∨ sc.names.lookup x = some .free
noncomputable def Loc (sc : Scope) (x : Str) : Prop := sc.names.lookup x = some .local ∨ sc.names.lookup x = some .cell
noncomputable def Look (env : Env) (h : Heap) (m : Str → Option Value) (x : Str) (u : Value) : Prop :=
 (env.kindOf x = some .local ∧ m x = some u) ∨ ((env.kindOf x = some .cell ∨ env.kindOf x = some .free) ∧ ∃ c, env.cells.lookup x = some c ∧ h.IsCell c (some u))
structure Cx.Ok (X : Cx) : Prop where
 mod : Mod X.K X.mg X.base
 kind : X.env.scope.kind = .function
 glob : X.env.globals = mainGlobals
 blt : X.env.builtins = builtinsNs
 above : X.s₀.heap.objs.size ≤ X.env.locals
 inj : ∀ x y c, X.env.cells.lookup x = some c → X.env.cells.lookup y = some c → x = y
 has : ∀ x, (X.env.kindOf x = some .cell ∨ X.env.kindOf x = some .free) → ∃ c, X.env.cells.lookup x = some c
 cab : ∀ x c, X.fn x = true → X.env.cells.lookup x = some c → X.s₀.heap.objs.size ≤ c
 hd : X.calm = true → X.A.handled = none
 frames : X.A.frames = some X.stack
 stk : X.stack = X.outer ∨ (X.stack = X.env :: X.outer ∧ X.env.frame = some X.env.locals)
 exf : ∀ b ∈ X.ex, b ≠ X.env.locals ∧ ∀ x c, X.env.cells.lookup x = some c → c ≠ b
 bs : ∀ b o, X.base.get? b = some o → X.s₀.heap.get? b = some o ∧ X.H₀ b = none
 bsz : X.base.objs.size ≤ X.s₀.heap.objs.size
 noex : ∀ b o, X.base.get? b = some o → b ∉ X.ex
 exfs : ∀ b ∈ X.ex, b ∉ X.fs
 funs : X.s₀.heap.FunFrames X.base X.outer
 frf : ∀ b ∈ X.fs, X.H₀ b = none
structure Inv (X : Cx) (pins : List (Addr × Obj)) (σ : List (Option V)) (H : Hp) (s : Shared) : Prop where
 ok : X.Ok
 os : s.os = X.s₀.os
 bare : AllBare s.gens
 base : Un X.fs X.ex X.H₀ H X.s₀.heap s.heap
 loc : ∃ m, s.heap.Ns X.env.locals m ∧ ∀ (i : Nat) (x : Str) (v : V), X.N[i]? = some x → σ[i]? = some (some v) → Vis X.env.scope x → ∃ u, RelV v u ∧ Look X.env s.heap m x u
 cell : ∀ x c, X.env.cells.lookup x = some c → ∃ v, s.heap.IsCell c v
 free : H X.env.locals = none
 freeC : ∀ x c, X.env.cells.lookup x = some c → H c = none
 pin : ∀ p ∈ X.pn ++ pins, s.heap.get? p.1 = some p.2 ∧ H p.1 = none ∧ p.1 ≠ X.env.locals ∧ p.1 ∉ X.fs ∧ ∀ v, p.2.data ≠ .cell v
 hok : HOk X.prog X.w H s.heap
 len : σ.length = X.N.length
section
variable {X : Cx} {pins : List (Addr × Obj)} {σ : List (Option V)} {H H' : Hp} {s : Shared} {h' : Heap}
theorem Cx.Ok.nofr (ok : X.Ok) {b : Addr} {o : Obj} (e : X.base.get? b = some o) : b ∉ X.fs := fun hb => by
 have := (ok.funs.mem hb).1
 rw [e] at this; cases this
theorem Inv.bs (I : Inv X pins σ H s) : ∀ b o, X.base.get? b = some o → s.heap.get? b = some o ∧ H b = none := fun b o e =>
 ⟨I.base.keep b o (I.ok.bs b o e).1 (I.ok.bs b o e).2 (I.ok.nofr e) (I.ok.noex b o e), I.base.free b o (I.ok.bs b o e).1 (I.ok.bs b o e).2 (I.ok.noex b o e)⟩
theorem Inv.bk (I : Inv X pins σ H s) : ∀ b o, X.base.get? b = some o → s.heap.get? b = some o := fun b o e => (I.bs b o e).1
theorem Inv.mod (I : Inv X pins σ H s) : Mod X.K X.mg X.base := I.ok.mod
theorem Inv.kIn (I : Inv X pins σ H s) : X.K.In s.heap := I.ok.mod.kin.keeps I.bk
theorem Inv.nolimit (I : Inv X pins σ H s) : s.heap.NoLimit := I.ok.mod.nolimit.keeps I.bk
theorem Inv.fr (I : Inv X pins σ H s) : ∃ m, Fr X.base X.env.locals s.heap m :=
 let ⟨m, hn, _⟩ := I.loc
 ⟨m, hn, I.bk, Nat.le_trans I.ok.bsz I.ok.above⟩
theorem Inv.lt (I : Inv X pins σ H s) : X.env.locals < s.heap.objs.size := let ⟨_, hn, _⟩ := I.loc; hn.lt
theorem Inv.sz (I : Inv X pins σ H s) : X.s₀.heap.objs.size ≤ s.heap.objs.size := Nat.le_trans I.ok.above (Nat.le_of_lt I.lt)
theorem Inv.nofs (I : Inv X pins σ H s) {a : Addr} (h : s.heap.objs.size ≤ a) : a ∉ X.fs := fun hb => by
 obtain ⟨_, o, ho, _⟩ := I.ok.funs.mem hb
 exact absurd (Nat.lt_of_lt_of_le (Heap.lt_size ho) (Nat.le_trans I.sz h)) (Nat.lt_irrefl _)
theorem Inv.cne (I : Inv X pins σ H s) : ∀ x c, X.env.cells.lookup x = some c → c ≠ X.env.locals := fun x c e z => by
 obtain ⟨v, o, ho, hd⟩ := I.cell x c e
 obtain ⟨m, ⟨o', es, ep, ho', hd', _⟩, _⟩ := I.loc
 rw [z, ho'] at ho; cases ho; rw [hd'] at hd; cases hd
theorem Inv.funs (I : Inv X pins σ H s) : s.heap.FunFrames X.base X.outer := by
 have all : ∀ (l : List Env), (∀ b ∈ frs l, b ∈ X.fs) → X.s₀.heap.FunFrames X.base l → s.heap.FunFrames X.base l := by
  intro l
  induction l with
  | nil => intro _ _; trivial
  | cons env r ih =>
   intro hs hl
   obtain ⟨hk, ⟨L, o, hf, hn, ho, hd⟩, hr⟩ := hl
   have hL : L ∈ X.fs := hs L (by unfold frs; rw [List.filterMap_cons, hf]; exact List.mem_cons_self)
   obtain ⟨sl, e⟩ := I.base.slot L o ho (I.ok.frf L hL) hL fun z => I.ok.exfs L z hL
   exact ⟨hk, ⟨L, _, hf, hn, e, hd⟩, ih (fun b hb => hs b (by unfold frs; rw [List.filterMap_cons, hf]; exact List.mem_cons_of_mem _ hb)) hr⟩
 exact all X.outer (fun _ hb => hb) I.ok.funs
theorem Inv.stack (I : Inv X pins σ H s) : s.heap.FunFrames X.base X.stack := by
 rcases I.ok.stk with e | ⟨e, hf⟩
 ·rw [e]; exact I.funs
 ·rw [e]
  obtain ⟨m, hn, _⟩ := I.loc
  refine .cons (by rw [I.ok.kind]; decide) hf hn ?_ I.funs
  exact Heap.get?_none_of_le (Nat.le_trans I.ok.bsz I.ok.above)
theorem Inv.stkSub (I : Inv X pins σ H s) : ∀ b ∈ frs X.stack, b ∈ X.env.locals :: X.fs := fun b hb => by
 rcases I.ok.stk with e | ⟨e, hf⟩
 ·rw [e] at hb; exact List.mem_cons_of_mem _ hb
 ·rw [e] at hb
  unfold frs at hb
  rw [List.filterMap_cons, hf] at hb
  exact hb
theorem Inv.stkFree (I : Inv X pins σ H s) : ∀ b ∈ frs X.stack, H b = none := fun b hb => by
 rcases List.mem_cons.mp (I.stkSub b hb) with e | hb
 ·rw [e]; exact I.free
 ·obtain ⟨_, o, ho, _⟩ := I.ok.funs.mem hb
  exact I.base.free b o ho (I.ok.frf b hb) fun z => I.ok.exfs b z hb
theorem Inv.step {g' : Array GenState} {t' : Nat} {d' : Drawn} {ch : List Addr} (I : Inv X pins σ H s)
  (hch : ∀ b ∈ ch, (b ∈ X.ex ∨ X.s₀.heap.objs.size ≤ b) ∧ b ≠ X.env.locals ∧ (∀ x c, X.env.cells.lookup x = some c → c ≠ b) ∧ ∀ p ∈ X.pn ++ pins, p.1 ≠ b)
  (keep : ∀ b o, b ≠ X.env.locals → b ∉ X.fs → b ∉ ch → s.heap.get? b = some o → H b = none → h'.get? b = some o)
  (slot : ∀ b o, b ≠ X.env.locals → b ∈ X.fs → b ∉ ch → s.heap.get? b = some o → H b = none → ∃ sl, h'.get? b = some { o with slots := sl }) (free : ∀ b o, b ∉ ch → s.heap.get? b = some o → H b = none → H' b = none)
  (there : ∀ b o, b ∉ ch → s.heap.get? b = some o → ∃ o', h'.get? b = some o')
  (tups : ∀ b xs, H b = some (.tup xs) → H' b = some (.tup xs)) (frzs : ∀ b o u, H b = some (.frz o u) → H' b = some (.frz o u)) (tbls : ∀ b ps, H b = some (.tbl ps) → ∃ more, H' b = some (.tbl (ps ++ more)))
  (ns : ∀ m, s.heap.Ns X.env.locals m → h'.Ns X.env.locals m) (hok : HOk X.prog X.w H' h') (hg : AllBare g') :
  Inv X pins σ H' { s with heap := h', gens := g', drawn := d', toks := t' } := by
 have neL : ∀ b o, X.s₀.heap.get? b = some o → b ≠ X.env.locals := fun b o e => Nat.ne_of_lt (Nat.lt_of_lt_of_le (Heap.lt_size e) I.ok.above)
 have neC : ∀ b o, X.s₀.heap.get? b = some o → b ∉ X.ex → b ∉ ch := fun b o e hx hb => by
  rcases (hch b hb).1 with z | z
  ·exact hx z
  ·exact absurd (Nat.lt_of_lt_of_le (Heap.lt_size e) z) (Nat.lt_irrefl _)
 have cellK : ∀ x c, X.env.cells.lookup x = some c → ∀ v, s.heap.IsCell c v → h'.IsCell c v := fun x c e v ⟨o, ho, hd⟩ => by
  have nch : c ∉ ch := fun z => (hch c z).2.2.1 x c e rfl
  by_cases hc : c ∈ X.fs
  ·obtain ⟨sl, q⟩ := slot c o (I.cne x c e) hc nch ho (I.freeC x c e)
   exact ⟨_, q, hd⟩
  ·exact ⟨o, keep c o (I.cne x c e) hc nch ho (I.freeC x c e), hd⟩
 refine ⟨I.ok, I.os, hg, ⟨fun b o e n hb hx => ?_, fun b o e n hb hx => ?_, fun b o e n hx => ?_, fun b o e hx => ?_, fun b xs e => tups b xs (I.base.tups b xs e), fun b o xs e => frzs b o xs (I.base.frzs b o xs e), fun b ps e => ?_⟩, ?_, fun x c e => ?_, ?_, fun x c e => ?_, fun p hp => ?_, hok, I.len⟩
 ·exact keep b o (neL b o e) hb (neC b o e hx) (I.base.keep b o e n hb hx) (I.base.free b o e n hx)
 ·obtain ⟨sl, e1⟩ := I.base.slot b o e n hb hx
  obtain ⟨sl', e2⟩ := slot b _ (neL b o e) hb (neC b o e hx) e1 (I.base.free b o e n hx)
  exact ⟨sl', e2⟩
 ·obtain ⟨o', e1⟩ := I.base.there b o e hx
  exact free b o' (neC b o e hx) e1 (I.base.free b o e n hx)
 ·obtain ⟨o', e1⟩ := I.base.there b o e hx
  exact there b o' (neC b o e hx) e1
 ·obtain ⟨m1, e1⟩ := I.base.tbls b ps e
  obtain ⟨m2, e2⟩ := tbls b _ e1
  exact ⟨m1 ++ m2, by rw [e2, Array.append_assoc]⟩
 ·obtain ⟨m, hn, hl⟩ := I.loc
  refine ⟨m, ns m hn, fun i x v e1 e2 e3 => ?_⟩
  obtain ⟨u, r, l⟩ := hl i x v e1 e2 e3
  refine ⟨u, r, ?_⟩
  rcases l with l | ⟨k, c, e, z⟩
  ·exact .inl l
  ·exact .inr ⟨k, c, e, cellK x c e _ z⟩
 ·obtain ⟨v, z⟩ := I.cell x c e
  exact ⟨v, cellK x c e v z⟩
 ·obtain ⟨m, ⟨o, _, _, ho, _⟩, _⟩ := I.loc
  exact free _ o (fun z => (hch _ z).2.1 rfl) ho I.free
 ·obtain ⟨v, o, ho, hd⟩ := I.cell x c e
  exact free c o (fun z => (hch c z).2.2.1 x c e rfl) ho (I.freeC x c e)
 ·obtain ⟨e, n, ne, nf, d⟩ := I.pin p hp
  have nch : p.1 ∉ ch := fun z => (hch p.1 z).2.2.2 p hp rfl
  exact ⟨keep p.1 p.2 ne nf nch e n, free p.1 p.2 nch e n, ne, nf, d⟩
theorem Inv.un {t' : Nat} (I : Inv X pins σ H s) (u : Un X.fs [] H H' s.heap h') (hok : HOk X.prog X.w H' h') : Inv X pins σ H' { s with heap := h', toks := t' } := by
 obtain ⟨m, ⟨o, es, ep, ho, r⟩, _⟩ := id I.loc
 obtain ⟨sl, hL⟩ := u.any ho I.free (by simp)
 exact I.step (g' := s.gens) (d' := s.drawn) (ch := []) (fun _ z => nomatch z) (fun b o _ hb _ e n => u.keep b o e n hb (by simp)) (fun b o _ hb _ e n => u.slot b o e n hb (by simp)) (fun b o _ e n => u.free b o e n (by simp)) (fun b o _ e => u.there b o e (by simp)) u.tups u.frzs u.tbls (fun m' hm => by
  obtain ⟨o', es', ep', ho', r'⟩ := hm
  rw [ho] at ho'; cases ho'
  exact ⟨_, es', ep', hL, r'⟩) hok I.bare
theorem Inv.call {g' : Array GenState} {t' : Nat} {d' : Drawn} {ch : List Addr} (I : Inv X pins σ H s) (u : Un (frs X.stack) ch H H' s.heap h') (hok : HOk X.prog X.w H' h') (hg : AllBare g')
  (hch : ∀ b ∈ ch, (b ∈ X.ex ∨ X.s₀.heap.objs.size ≤ b) ∧ b ≠ X.env.locals ∧ (∀ x c, X.env.cells.lookup x = some c → c ≠ b) ∧ ∀ p ∈ X.pn ++ pins, p.1 ≠ b) :
  Inv X pins σ H' { s with heap := h', gens := g', drawn := d', toks := t' } := by
 obtain ⟨m, ⟨o, es, ep, ho, r⟩, _⟩ := id I.loc
 obtain ⟨sl, hL⟩ := u.any ho I.free fun z => (hch _ z).2.1 rfl
 exact I.step (ch := ch) hch (fun b o hL hb hc e n => u.keep b o e n (fun z => (List.mem_cons.mp (I.stkSub b z)).elim hL hb) hc) (fun b o _ _ hc e n => u.any e n hc) (fun b o hc e n => u.free b o e n hc) (fun b o hc e => u.there b o e hc) u.tups u.frzs u.tbls (fun m' hm => by
  obtain ⟨o', es', ep', ho', r'⟩ := hm
  rw [ho] at ho'; cases ho'
  exact ⟨_, es', ep', hL, r'⟩) hok hg
theorem Inv.turned {t' : Nat} {it : Addr} (I : Inv X pins σ H s) (k : ∀ b o, b ≠ it → s.heap.get? b = some o → h'.get? b = some o) (hn : H it = none) (hL : it ≠ X.env.locals)
  (h1 : it ∈ X.ex ∨ X.s₀.heap.objs.size ≤ it) (h2 : ∀ x c, X.env.cells.lookup x = some c → c ≠ it) (h3 : ∀ p ∈ X.pn ++ pins, p.1 ≠ it) : Inv X pins σ H { s with heap := h', toks := t' } := by
 have nit : ∀ b u, H b = some u → b ≠ it := fun b u e z => by rw [z, hn] at e; cases e
 refine I.step (g' := s.gens) (d' := s.drawn) (ch := [it]) (fun b hb => ?_) (fun b o _ _ hc e _ => k b o (fun z => hc (by simp [z])) e) (fun b o _ _ hc e _ => ⟨o.slots, k b o (fun z => hc (by simp [z])) e⟩) (fun _ _ _ _ n => n)
  (fun b o hc e => ⟨o, k b o (fun z => hc (by simp [z])) e⟩) (fun _ _ e => e) (fun _ _ _ e => e) (fun b ps e => ⟨#[], by rw [e]; simp⟩) (fun m hm => ?_) (fun b u e => ?_) I.bare
 ·have e : b = it := by simpa using hb
  subst e
  exact ⟨h1, hL, h2, h3⟩
 ·obtain ⟨o, es, ep, ho, r⟩ := hm
  exact ⟨o, es, ep, k _ o (Ne.symm hL) ho, r⟩
 ·refine (I.hok b u e).stay (fun c v hc q => k c v ?_ q) (fun _ q => q) fun _ _ q => q
  rcases hc with z | z
  ·rw [z]; exact nit b u e
  ·exact nit c _ z
theorem Inv.tok (I : Inv X pins σ H s) (t : Nat) : Inv X pins σ H { s with toks := t } := I.un (h' := s.heap) (t' := t) Un.refl I.hok
theorem Inv.kept {t' : Nat} (I : Inv X pins σ H s) (k : ∀ b u, s.heap.get? b = some u → h'.get? b = some u) : Inv X pins σ H { s with heap := h', toks := t' } := I.un (Un.kept k) (I.hok.kept k)
theorem Inv.laid {a : Addr} {o : HO} {t' : Nat} (I : Inv X pins σ H s) (k : ∀ b u, s.heap.get? b = some u → h'.get? b = some u) (hp : s.heap.objs.size ≤ a) (new : ObjOk X.prog X.w (upd H a o) h' a o) :
  Inv X pins σ (upd H a o) { s with heap := h', toks := t' } := I.un (Un.laid k hp (I.hok.fresh hp)) (I.hok.laid k hp new)
theorem Inv.write {x e : Addr} {o : HO} {t' : Nat} (I : Inv X pins σ H s) (mu : Mut (H x)) (he : e = x ∨ H e = some (.own x)) (k : ∀ b u, b ≠ e → s.heap.get? b = some u → h'.get? b = some u) (heo : ∃ u, h'.get? e = some u)
  (new : ObjOk X.prog X.w (upd H x o) h' x o) : Inv X pins σ (upd H x o) { s with heap := h', toks := t' } := I.un (Un.write mu he k heo) (I.hok.write mu he k heo new)
theorem Inv.weak {σ' : List (Option V)} (I : Inv X pins σ H s) (hl : σ'.length = σ.length) (w : ∀ (i : Nat) v, σ'[i]? = some (some v) → σ[i]? = some (some v)) : Inv X pins σ' H s :=
 ⟨I.ok, I.os, I.bare, I.base, let ⟨m, hn, hl'⟩ := I.loc; ⟨m, hn, fun i x v e1 e2 e3 => hl' i x v e1 (w i v e2) e3⟩, I.cell, I.free, I.freeC, I.pin, I.hok, hl.trans I.len⟩
theorem Inv.pins_of {pins' : List (Addr × Obj)} (I : Inv X pins σ H s) (h : ∀ p ∈ pins', s.heap.get? p.1 = some p.2 ∧ H p.1 = none ∧ p.1 ≠ X.env.locals ∧ p.1 ∉ X.fs ∧ ∀ v, p.2.data ≠ .cell v) : Inv X pins' σ H s :=
 ⟨I.ok, I.os, I.bare, I.base, I.loc, I.cell, I.free, I.freeC, fun p hp => (List.mem_append.mp hp).elim (fun z => I.pin p (List.mem_append_left _ z)) (h p), I.hok, I.len⟩
theorem nodup_ix {N : List Str} (hN : N.Nodup) {i j : Nat} {x : Str} (a : N[i]? = some x) (b : N[j]? = some x) : i = j := by
 obtain ⟨h1, e1⟩ := List.getElem?_eq_some_iff.mp a
 obtain ⟨h2, e2⟩ := List.getElem?_eq_some_iff.mp b
 exact (List.getElem_inj hN).mp (e1.trans e2.symm)
theorem store_ok2 {M : Model} {A : Around} {E : Value → Shared → Prop} {i : Nat} {x : Str} {v : V} {u : Value} {Q : Unit → Shared → Prop} (I : Inv X pins σ H s) (hN : X.N.Nodup) (hi : X.N[i]? = some x) (hx : Loc X.env.scope x) (r : RelV v u)
  (h : ∀ s', Inv X pins (σ.set i (some v)) H s' → (∃ a, Heap.SameBut a s.heap s'.heap ∧ (a = X.env.locals ∨ X.env.cells.lookup x = some a)) → Q () s') (hf : X.fn x = true ∨ X.env.scope.names.lookup x = some .local := by first | exact .inl rfl | exact .inr rfl | assumption) : wpAny M A (storeName X.env x u) Q E s := by
 obtain ⟨m, hn, hl⟩ := id I.loc
 have hcls : (X.env.scope.kind == .class || (X.env.scope.kind == .module && X.env.locals != X.env.globals)) = false := by rw [I.ok.kind]; rfl
 have hiσ : i < σ.length := by rw [I.len]; exact (List.getElem?_eq_some_iff.mp hi).1
 have cne := I.cne
 have tracked : ∀ {a : Addr} {h' : Heap}, (∃ o, s.heap.get? a = some o ∧ H a = none) → Heap.SameBut a s.heap h' → HOk X.prog X.w H h' := fun {a h'} ha hs b ob e => by
  obtain ⟨_, _, hfree⟩ := ha
  refine (I.hok b ob e).stay (fun c w' hc q => (hs.2 c ?_).trans q) (fun _ q => q) fun _ _ q => q
  rintro rfl
  rcases hc with rfl | hc
  ·rw [hfree] at e; cases e
  ·rw [hfree] at hc; cases hc
 rcases hx with hk | hk
 ·refine wpAny_storeName_local hk hn (fun h' hn' hs => ?_) hcls
  obtain ⟨oL, _, _, hoL, _⟩ := id hn
  refine h _ ⟨I.ok, I.os, I.bare, ⟨fun b o e n hb hx => ?_, fun b o e n hb hx => ?_, I.base.free, fun b o e hx => ?_, I.base.tups, I.base.frzs, I.base.tbls⟩, ⟨_, hn', fun j y v' e1 e2 e3 => ?_⟩, fun y c e => ?_, I.free, I.freeC, fun p hp => ?_, tracked ⟨oL, hoL, I.free⟩ hs, by simpa using I.len⟩ ⟨_, hs, .inl rfl⟩
  ·exact (hs.2 b (Nat.ne_of_lt (Nat.lt_of_lt_of_le (Heap.lt_size e) I.ok.above))).trans (I.base.keep b o e n hb hx)
  ·obtain ⟨sl, e1⟩ := I.base.slot b o e n hb hx
   exact ⟨sl, (hs.2 b (Nat.ne_of_lt (Nat.lt_of_lt_of_le (Heap.lt_size e) I.ok.above))).trans e1⟩
  ·obtain ⟨o', e1⟩ := I.base.there b o e hx
   exact ⟨o', (hs.2 b (Nat.ne_of_lt (Nat.lt_of_lt_of_le (Heap.lt_size e) I.ok.above))).trans e1⟩
  ·by_cases hj : j = i
   ·subst hj
    rw [hi] at e1; cases e1
    rw [List.getElem?_set_self hiσ] at e2
    cases e2
    exact ⟨u, r, .inl ⟨hk, by simp⟩⟩
   ·rw [List.getElem?_set_ne (Ne.symm hj)] at e2
    obtain ⟨u', r', q⟩ := hl j y v' e1 e2 e3
    refine ⟨u', r', ?_⟩
    rcases q with ⟨k, e⟩ | ⟨k, c, e, z⟩
    ·refine .inl ⟨k, ?_⟩
     have : y ≠ x := fun e => hj (nodup_ix hN e1 (e ▸ hi))
     simp [this, e]
    ·exact .inr ⟨k, c, e, z.sameBut hs (cne y c e)⟩
  ·obtain ⟨w', z⟩ := I.cell y c e
   exact ⟨w', z.sameBut hs (cne y c e)⟩
  ·obtain ⟨e, n, ne, nf, d⟩ := I.pin p hp
   exact ⟨(hs.2 p.1 ne).trans e, n, ne, nf, d⟩
 ·have hfn : X.fn x = true := by
   rcases hf with z | z
   ·exact z
   ·rw [z] at hk; cases hk
  obtain ⟨c, hc⟩ := I.ok.has x (.inl hk)
  obtain ⟨w', z⟩ := I.cell x c hc
  refine wpAny_storeName_cell I.ok.kind hk hc z (fun h' hc' hs => ?_)
  obtain ⟨oc, hoc, hocd⟩ := id z
  refine h { s with heap := h' } ⟨I.ok, I.os, I.bare, ⟨fun b o e n hb hx => ?_, fun b o e n hb hx => ?_, I.base.free, fun b o e hx => ?_, I.base.tups, I.base.frzs, I.base.tbls⟩, ⟨m, hn.sameBut hs (Ne.symm (cne x c hc)), fun j y v' e1 e2 e3 => ?_⟩, fun y c' e => ?_, I.free, I.freeC, fun p hp => ?_, tracked ⟨oc, hoc, I.freeC x c hc⟩ hs, by simpa using I.len⟩ ⟨c, hs, .inr hc⟩
  ·exact (hs.2 b (Nat.ne_of_lt (Nat.lt_of_lt_of_le (Heap.lt_size e) (I.ok.cab x c hfn hc)))).trans (I.base.keep b o e n hb hx)
  ·obtain ⟨sl, e1⟩ := I.base.slot b o e n hb hx
   exact ⟨sl, (hs.2 b (Nat.ne_of_lt (Nat.lt_of_lt_of_le (Heap.lt_size e) (I.ok.cab x c hfn hc)))).trans e1⟩
  ·obtain ⟨o', e1⟩ := I.base.there b o e hx
   exact ⟨o', (hs.2 b (Nat.ne_of_lt (Nat.lt_of_lt_of_le (Heap.lt_size e) (I.ok.cab x c hfn hc)))).trans e1⟩
  ·by_cases hj : j = i
   ·subst hj
    rw [hi] at e1; cases e1
    rw [List.getElem?_set_self hiσ] at e2
    cases e2
    exact ⟨u, r, .inr ⟨.inl hk, c, hc, hc'⟩⟩
   ·rw [List.getElem?_set_ne (Ne.symm hj)] at e2
    obtain ⟨u', r', q⟩ := hl j y v' e1 e2 e3
    refine ⟨u', r', ?_⟩
    rcases q with q | ⟨k, c', e, z'⟩
    ·exact .inl q
    ·refine .inr ⟨k, c', e, z'.sameBut hs ?_⟩
     rintro rfl
     exact hj (nodup_ix hN e1 (I.ok.inj _ _ _ e hc ▸ hi))
  ·by_cases hcc : c' = c
   ·subst hcc; exact ⟨_, hc'⟩
   ·obtain ⟨w2, z2⟩ := I.cell y c' e
    exact ⟨w2, z2.sameBut hs hcc⟩
  ·obtain ⟨e, n, ne, nf, d⟩ := I.pin p hp
   refine ⟨(hs.2 p.1 ?_).trans e, n, ne, nf, d⟩
   intro q
   rw [q, hoc] at e
   have q' : oc = p.2 := Option.some.inj e
   exact d w' (by rw [← q']; exact hocd)
theorem store_ok {M : Model} {A : Around} {E : Value → Shared → Prop} {i : Nat} {x : Str} {v : V} {u : Value} {Q : Unit → Shared → Prop} (I : Inv X pins σ H s) (hN : X.N.Nodup) (hi : X.N[i]? = some x) (hx : Loc X.env.scope x) (r : RelV v u)
  (h : ∀ s', Inv X pins (σ.set i (some v)) H s' → Q () s') (hf : X.fn x = true ∨ X.env.scope.names.lookup x = some .local := by first | exact .inl rfl | exact .inr rfl | assumption) : wpAny M A (storeName X.env x u) Q E s :=
 store_ok2 I hN hi hx r (fun s' I' _ => h s' I') hf
theorem Inv.call' {s' : Shared} {ch : List Addr} (I : Inv X pins σ H s) (ho : s'.os = s.os) (u : Un (frs X.stack) ch H H' s.heap s'.heap) (hok : HOk X.prog X.w H' s'.heap) (hg : AllBare s'.gens)
  (hch : ∀ b ∈ ch, (b ∈ X.ex ∨ X.s₀.heap.objs.size ≤ b) ∧ b ≠ X.env.locals ∧ (∀ x c, X.env.cells.lookup x = some c → c ≠ b) ∧ ∀ p ∈ X.pn ++ pins, p.1 ≠ b) : Inv X pins σ H' s' := by
 obtain ⟨h', g', d', t', o'⟩ := s'
 have e : o' = s.os := ho
 subst e
 exact I.call (g' := g') (t' := t') (d' := d') u hok hg hch
end
noncomputable abbrev XK := Value → Option Addr → Hp → Prop
noncomputable abbrev St := List (Option V)
noncomputable abbrev VK := V → Hp → Prop
noncomputable abbrev TE := St → Hp → VK → Prop
noncomputable abbrev TT := St → Hp → (Bool → Hp → Prop) → Prop
noncomputable abbrev TA := St → Hp → (List V → Hp → Prop) → Prop
structure Ends where
 nx : St → Hp → Prop
 rt : VK
 bk : St → Hp → Prop := fun _ _ => False
 ct : St → Hp → Prop := fun _ _ => False
noncomputable abbrev TS := Ends → St → Hp → Prop
noncomputable def EP (X : Cx) (pins : List (Addr × Obj)) (σ : St) (Q : VK) (u : Value) (s' : Shared) : Prop := ∃ v H', Inv X pins σ H' s' ∧ RelV v u ∧ Q v H'
noncomputable def TP (X : Cx) (pins : List (Addr × Obj)) (σ : St) (Q : Bool → Hp → Prop) (b : Bool) (s' : Shared) : Prop := ∃ H', Inv X pins σ H' s' ∧ Q b H'
noncomputable def AP (X : Cx) (pins : List (Addr × Obj)) (σ : St) (Q : List V → Hp → Prop) (us : List Value) (s' : Shared) : Prop := ∃ vs H', Inv X pins σ H' s' ∧ Vals vs us ∧ Q vs H'
noncomputable def SP (X : Cx) (pins : List (Addr × Obj)) (D : Ends) (f : Flow) (s' : Shared) : Prop :=
 match f with
 | .next => ∃ σ' H', Inv X pins σ' H' s' ∧ D.nx σ' H'
 | .brk => ∃ σ' H', Inv X pins σ' H' s' ∧ D.bk σ' H'
 | .cont => ∃ σ' H', Inv X pins σ' H' s' ∧ D.ct σ' H'
 | .ret u => ∃ v σ' H', Inv X pins σ' H' s' ∧ RelV v u ∧ D.rt v H'
noncomputable def PE (X : Cx) (e : Expr) (t : TE) : Prop :=
 ∀ (pins : List (Addr × Obj)) (s : Shared) (σ : St) (H : Hp) (Q : VK), Inv X pins σ H s → t σ H Q → wpAny (model X.prog X.w) X.A (eval e X.env) (EP X pins σ Q) X.xe s
noncomputable def PT (X : Cx) (e : Expr) (t : TT) : Prop :=
 ∀ (pins : List (Addr × Obj)) (s : Shared) (σ : St) (H : Hp) (Q : Bool → Hp → Prop), Inv X pins σ H s → t σ H Q → wpAny (model X.prog X.w) X.A (isTrue e X.env (eval e X.env)) (TP X pins σ Q) X.xe s
noncomputable def PW (X : Cx) (e : Expr) (t : TT) : Prop :=
 ∀ (whole : Sem Value) (pins : List (Addr × Obj)) (s : Shared) (σ : St) (H : Hp) (Q : Bool → Hp → Prop), Inv X pins σ H s → t σ H Q → wpAny (model X.prog X.w) X.A (isTrue e X.env whole) (TP X pins σ Q) X.xe s
theorem PW.pt {X : Cx} {e : Expr} {t : TT} (h : PW X e t) : PT X e t := h _
noncomputable def PA (X : Cx) (es : List Expr) (t : TA) : Prop :=
 ∀ (pos : Pos) (pins : List (Addr × Obj)) (s : Shared) (σ : St) (H : Hp) (Q : List V → Hp → Prop), Inv X pins σ H s → t σ H Q → wpAny (model X.prog X.w) X.A (spliced (backTo pos (starEach es X.env))) (AP X pins σ Q) X.xe s
noncomputable def PS (X : Cx) (st : Stmt) (t : TS) : Prop :=
 ∀ (pins : List (Addr × Obj)) (s : Shared) (σ : St) (H : Hp) (D : Ends), Inv X pins σ H s → t D σ H → wpAny (model X.prog X.w) X.A (exec st X.env) (SP X pins D) X.xe s
noncomputable def PSs (X : Cx) (st : List Stmt) (t : TS) : Prop :=
 ∀ (pins : List (Addr × Obj)) (s : Shared) (σ : St) (H : Hp) (D : Ends), Inv X pins σ H s → t D σ H → wpAny (model X.prog X.w) X.A (execs st X.env) (SP X pins D) X.xe s
theorem thn {α : Type} {t : Sem α} {Q Q' : α → Shared → Prop} {M : Model} {A : Around} {E : Value → Shared → Prop} {s : Shared} (h : wpAny M A t Q E s) (hQ : ∀ a s, Q a s → Q' a s) : wpAny M A t Q' E s := wpAny_mono h hQ fun _ _ x => x
end L2
namespace L2
open PySem PySem.Spec PyProof.Rows
section
variable {X : Cx}
noncomputable def tVar (i : Nat) : TE := fun σ H Q => ∃ v, σ[i]? = some (some v) ∧ Q v H
noncomputable def tC (v : V) : TE := fun _ H Q => Q v H
theorem pe_var {i : Nat} {x : Str} {pos : Pos} (hN : X.N[i]? = some x) (hv : Vis X.env.scope x) (hd : (x == ("__debug__" : Str)) = false := by decide) (hcd : (x == ("__classdict__" : Str)) = false := by decide) : PE X (.Name x pos) (tVar i) := by
 intro pins s σ H Q I h
 obtain ⟨v, e, h⟩ := h
 obtain ⟨m, hn, hl⟩ := I.loc
 obtain ⟨u, r, l⟩ := hl i x v hN e hv
 have fin : EP X pins σ Q u s := ⟨v, H, I, r, h⟩
 rcases l with ⟨hk, hm⟩ | ⟨hk, c, hc, hcell⟩
 ·exact wpAny_Name (wpAny_loadName_local I.ok.kind hk hn hm fin) hd
 ·rcases hk with hk | hk
  ·exact wpAny_Name (wpAny_loadName_cell I.ok.kind hk hc hcell fin) hd
  ·exact wpAny_Name (wpAny_loadName_free I.ok.kind hk hc hcell fin hcd) hd
theorem pe_int {i j pos} : PE X (.Constant (.int i) j pos) (tC (.int i)) := fun _ _ _ H _ I h => wpAny_Constant_int ⟨.int i, H, I.tok _, ⟨_, rfl⟩, h⟩
theorem pe_bl {b j pos} : PE X (.Constant (.bool b) j pos) (tC (.bl b)) := fun _ _ _ H _ I h => Constant_bool ⟨.bl b, H, I, rfl, h⟩
theorem pe_non {j pos} : PE X (.Constant .none j pos) (tC .non) := fun _ _ _ H _ I h => Constant_none ⟨.non, H, I, rfl, h⟩
theorem pe_str {x j pos} : PE X (.Constant (.str x) j pos) (tC (.str x)) := fun _ _ _ H _ I h => Calls.Constant_str ⟨.str x, H, I.tok _, ⟨_, rfl⟩, h⟩
noncomputable def Gl (X : Cx) (x : Str) : Prop := X.env.kindOf x = some .globalImplicit
theorem ld_glob {E : Value → Shared → Prop} {pins : List (Addr × Obj)} {s : Shared} {σ : St} {H : Hp} {x : Str} {u : Value} {pos : Pos} {Q : Value → Shared → Prop} (I : Inv X pins σ H s) (hg : Gl X x) (hm : X.mg x = some u) (h : Q u s)
  (hd : (x == ("__debug__" : Str)) = false := by decide) : wpAny (model X.prog X.w) X.A (eval (.Name x pos) X.env) Q E s :=
 Calls.Name_function_global I.ok.kind hg (Calls.loadGlobal_global (by rw [I.ok.glob]; exact I.mod.glob.keeps I.bk) hm h) hd
theorem ld_blt {E : Value → Shared → Prop} {pins : List (Addr × Obj)} {s : Shared} {σ : St} {H : Hp} {x : Str} {u : Value} {pos : Pos} {Q : Value → Shared → Prop} (I : Inv X pins σ H s) (hg : Gl X x) (hm : X.mg x = none) (hv : bootBuiltins x = some u) (h : Q u s)
  (hn : x ≠ "__name__" := by decide) (hd : (x == ("__debug__" : Str)) = false := by decide) : wpAny (model X.prog X.w) X.A (eval (.Name x pos) X.env) Q E s := by
 obtain ⟨mb, h1, h2⟩ := I.mod.blt
 exact Calls.Name_function_global I.ok.kind hg (Calls.loadGlobal_builtin (by rw [I.ok.glob]; exact I.mod.glob.keeps I.bk) hm (by rw [I.ok.blt]; exact h1.keeps I.bk) ((h2 x hn).trans hv) h) hd
theorem pe_bltn {x : Str} {v : V} {u : Value} {pos : Pos} (hg : Gl X x) (hm : X.mg x = none) (hv : bootBuiltins x = some u) (r : RelV v u) (hn : x ≠ "__name__" := by decide) (hd : (x == ("__debug__" : Str)) = false := by decide) : PE X (.Name x pos) (tC v) :=
 fun _ _ _ H _ I h => ld_blt I hg hm hv ⟨v, H, I, r, h⟩ hn hd
variable {a b : Expr} {ta tb : TE} {pos : Pos}
noncomputable def tB (t : TE) : TT := fun σ H Q => t σ H fun x H1 => ∃ c, x = .bl c ∧ Q c H1
theorem pt_val {e : Expr} {t : TE} (h : PE X e t) (he : ∀ whole, isTrue e X.env whole = (do let v ← whole; standAt e.pos; holding [v] (truthy v)) := by intro _; rfl) : PT X e (tB t) := by
 intro pins s σ H Q I hw
 refine isTrue_plain (thn (h pins s σ H _ I hw) fun v s1 ⟨x, H1, I1, r1, q1⟩ => ?_) (he _)
 obtain ⟨d, rfl, q⟩ := q1
 cases r1
 exact wpAny_truthy_bool ⟨H1, I1, q⟩
variable {tA tB' : TT} {rest : List Expr}
noncomputable def tAnd (t u : TT) : TT := fun σ H Q => t σ H fun c H1 => if c = true then u σ H1 Q else Q false H1
noncomputable def tOr (t u : TT) : TT := fun σ H Q => t σ H fun c H1 => if c = true then Q true H1 else u σ H1 Q
noncomputable def tNot (t : TT) : TT := fun σ H Q => t σ H fun c H1 => Q (!c) H1
theorem pw_and1 (ha : PT X a tA) : PW X (.BoolOp .And [a] pos) tA := by
 intro wh pins s σ H Q I h
 refine isTrue_and (thn (ha pins s σ H Q I h) fun c s1 e => ?_)
 cases c with
 | true => exact isTrue_and_nil e
 | false => exact e
theorem pw_or1 (ha : PT X a tA) : PW X (.BoolOp .Or [a] pos) tA := by
 intro wh pins s σ H Q I h
 refine isTrue_or (thn (ha pins s σ H Q I h) fun c s1 e => ?_)
 cases c with
 | false => exact isTrue_or_nil e
 | true => exact e
theorem pw_and (ha : PT X a tA) (hb : PW X (.BoolOp .And (b :: rest) pos) tB') : PW X (.BoolOp .And (a :: b :: rest) pos) (tAnd tA tB') := by
 intro wh pins s σ H Q I h
 refine isTrue_and (thn (ha pins s σ H _ I h) fun c s1 ⟨H1, I1, q1⟩ => ?_)
 cases c with
 | true => exact hb wh pins s1 σ H1 Q I1 q1
 | false => exact ⟨H1, I1, q1⟩
theorem pw_or (ha : PT X a tA) (hb : PW X (.BoolOp .Or (b :: rest) pos) tB') : PW X (.BoolOp .Or (a :: b :: rest) pos) (tOr tA tB') := by
 intro wh pins s σ H Q I h
 refine isTrue_or (thn (ha pins s σ H _ I h) fun c s1 ⟨H1, I1, q1⟩ => ?_)
 cases c with
 | true => exact ⟨H1, I1, q1⟩
 | false => exact hb wh pins s1 σ H1 Q I1 q1
theorem pt_not (ha : PT X a tA) : PT X (.UnaryOp .Not a pos) (tNot tA) := by
 intro pins s σ H Q I h
 exact isTrue_not (ha pins s σ H (fun c H1 => Q (!c) H1) I h)
noncomputable def tAndV (ta tb : TE) : TE := fun σ H Q => ta σ H fun x H1 => ∃ c, x = .bl c ∧ if c = true then tb σ H1 Q else Q (.bl false) H1
noncomputable def tOrV (ta tb : TE) : TE := fun σ H Q => ta σ H fun x H1 => ∃ c, x = .bl c ∧ if c = true then Q (.bl true) H1 else tb σ H1 Q
noncomputable def tNotV (ta : TE) : TE := fun σ H Q => ta σ H fun x H1 => ∃ c, x = .bl c ∧ Q (.bl (!c)) H1
theorem pe_one {op} {t : TE} (h : PE X a t) : PE X (.BoolOp op [a] pos) t := fun pins s σ H Q I hw => BoolOp_one (h pins s σ H Q I hw)
theorem pe_and (ha : PE X a ta) (hb : PE X (.BoolOp .And (b :: rest) pos) tb) : PE X (.BoolOp .And (a :: b :: rest) pos) (tAndV ta tb) := by
 intro pins s σ H Q I h
 refine BoolOp_and (thn (ha pins s σ H _ I h) fun v s1 ⟨x, H1, I1, r1, q1⟩ => ?_)
 obtain ⟨c, rfl, q1⟩ := q1
 cases r1
 refine wpAny_truthy_bool ?_
 cases c with
 | true => exact hb pins s1 σ H1 Q I1 q1
 | false => exact ⟨.bl false, H1, I1, rfl, q1⟩
theorem pe_not (ha : PE X a ta) : PE X (.UnaryOp .Not a pos) (tNotV ta) := by
 intro pins s σ H Q I h
 refine UnaryOp_ (thn (ha pins s σ H _ I h) fun v s1 ⟨x, H1, I1, r1, q1⟩ => ?_)
 obtain ⟨c, rfl, q1⟩ := q1
 cases r1
 exact not_of (wpAny_truthy_bool ⟨.bl (!c), H1, I1, rfl, q1⟩)
noncomputable def tIf (t : TT) (ta tb : TE) : TE := fun σ H Q => t σ H fun c H1 => if c = true then ta σ H1 Q else tb σ H1 Q
end
end L2
namespace L2
open PySem PySem.Spec PyProof.Rows
noncomputable def SqL (K : PySem.W.Frag) (H : Hp) (a : Addr) (xs : List V) : Prop :=
 Rd H a (.lst xs) ∨
  ∃ (o : Obj) (its : Array Value) (n : Nat), K.lookup a = some o ∧ o.cls = .type "list" ∧ o.dict = none ∧ o.data = .seq its n ∧ its.size ≤ sizeLine ∧ Vals xs its.toList
noncomputable def SqT (K : PySem.W.Frag) (H : Hp) (a : Addr) (xs : List V) : Prop :=
 Rd H a (.tup xs) ∨
  ∃ (o : Obj) (its : Array Value) (n : Nat), K.lookup a = some o ∧ o.cls = .type "tuple" ∧ o.data = .seq its n ∧ its.size ≤ sizeLine ∧ Vals xs its.toList
noncomputable def absV : Value → Option V
 | .none => some .non
 | .bool b => some (.bl b)
 | .int i _ => some (.int i)
 | .str x _ => some (.str x)
 | .bytes b _ => some (.byt b)
 | .float b _ => some (.flt b)
 | .ref a => some (.ref a)
 | .type n => some (.ty n)
 | _ => none
theorem RelV.abs {x : V} {u : Value} (r : RelV x u) : absV u = some x := by
 cases x with
 | non => cases r; rfl
 | bl _ => cases r; rfl
 | int _ => obtain ⟨t, rfl⟩ := r; rfl
 | str _ => obtain ⟨t, rfl⟩ := r; rfl
 | byt _ => obtain ⟨t, rfl⟩ := r; rfl
 | flt _ => obtain ⟨t, rfl⟩ := r; rfl
 | ref _ => cases r; rfl
 | ty _ => cases r; rfl
theorem RelV.inj {x y : V} {u : Value} (r : RelV x u) (q : RelV y u) : x = y := Option.some.inj (r.abs.symm.trans q.abs)
theorem Vals.inj : ∀ {xs ys : List V} {us : List Value}, Vals xs us → Vals ys us → xs = ys
 | _, _, _, .nil, .nil => rfl
 | _, _, _, .cons r t, .cons r' t' => by rw [r.inj r', Vals.inj t t']
section
variable {X : Cx} {pins : List (Addr × Obj)} {σ : St} {H : Hp} {s : Shared} {a : Addr} {xs ys : List V}
theorem SqL.of {K : PySem.W.Frag} (h : H a = some (.lst xs)) : SqL K H a xs := .inl (.inl h)
theorem SqT.of {K : PySem.W.Frag} (h : H a = some (.tup xs)) : SqT K H a xs := .inl (.inl h)
theorem Inv.list (I : Inv X pins σ H s) (h : SqL X.K H a xs) : ∃ its : List Value, Vals xs its ∧ PlainL s.heap a its.toArray ∧ xs.length ≤ sizeLine := by
 rcases h with h | ⟨o, its, n, hk, hc, hd, hs, hz, r⟩
 ·obtain ⟨z, its, n, r, e⟩ := h.ok I.hok
  exact ⟨its, r, ⟨_, n, e, rfl, rfl, rfl⟩, z⟩
 ·refine ⟨its.toList, r, ⟨o, n, I.kIn a o hk, hc, hd, by simpa using hs⟩, ?_⟩
  have e := r.length
  simp only [Array.length_toList] at e
  omega
theorem Inv.tuple (I : Inv X pins σ H s) (h : SqT X.K H a xs) : ∃ its : List Value, Vals xs its ∧ IsTup s.heap a its.toArray ∧ xs.length ≤ sizeLine := by
 rcases h with h | ⟨o, its, n, hk, hc, hs, hz, r⟩
 ·obtain ⟨z, its, r, p⟩ := h.ok I.hok
  exact ⟨its, r, p, z⟩
 ·refine ⟨its.toList, r, ⟨o, I.kIn a o hk, hc, n, by simpa using hs⟩, ?_⟩
  have e := r.length
  simp only [Array.length_toList] at e
  omega
theorem Inv.tuple_inj (I : Inv X pins σ H s) (h : SqT X.K H a xs) (h' : SqT X.K H a ys) : xs = ys := by
 obtain ⟨its, r, ⟨o, e, _, n, d⟩, _⟩ := I.tuple h
 obtain ⟨its', r', ⟨o', e', _, n', d'⟩, _⟩ := I.tuple h'
 rw [e] at e'; cases e'
 rw [d] at d'
 injection d' with d1 _
 have : its = its' := by simpa using congrArg Array.toList d1
 subst this
 exact r.inj r'
end
noncomputable abbrev Cx.wish (X : Cx) (E : Value → Shared → Prop) : Cx := { X with xe := E }
noncomputable abbrev Cx.nox (X : Cx) : Cx := X.wish fun _ _ => False
theorem Cx.Ok.wish {X : Cx} (ok : X.Ok) (E : Value → Shared → Prop) : (X.wish E).Ok :=
 ⟨ok.mod, ok.kind, ok.glob, ok.blt, ok.above, ok.inj, ok.has, ok.cab, ok.hd, ok.frames, ok.stk, ok.exf, ok.bs, ok.bsz, ok.noex, ok.exfs, ok.funs, ok.frf⟩
theorem Cx.Ok.unwish {X : Cx} {E : Value → Shared → Prop} (ok : (X.wish E).Ok) : X.Ok :=
 ⟨ok.mod, ok.kind, ok.glob, ok.blt, ok.above, ok.inj, ok.has, ok.cab, ok.hd, ok.frames, ok.stk, ok.exf, ok.bs, ok.bsz, ok.noex, ok.exfs, ok.funs, ok.frf⟩
section
variable {X : Cx} {pins : List (Addr × Obj)} {σ : St} {H : Hp} {s : Shared} {E : Value → Shared → Prop}
theorem Inv.wish (I : Inv X pins σ H s) (E : Value → Shared → Prop) : Inv (X.wish E) pins σ H s := ⟨I.ok.wish E, I.os, I.bare, I.base, I.loc, I.cell, I.free, I.freeC, I.pin, I.hok, I.len⟩
theorem Inv.unwish (I : Inv (X.wish E) pins σ H s) : Inv X pins σ H s := ⟨I.ok.unwish, I.os, I.bare, I.base, I.loc, I.cell, I.free, I.freeC, I.pin, I.hok, I.len⟩
theorem SP.unwish {D : Ends} {f : Flow} {s' : Shared} (h : SP (X.wish E) pins D f s') : SP X pins D f s' := by
 cases f with
 | next => obtain ⟨σ', H', I, q⟩ := h; exact ⟨σ', H', I.unwish, q⟩
 | brk => obtain ⟨σ', H', I, q⟩ := h; exact ⟨σ', H', I.unwish, q⟩
 | cont => obtain ⟨σ', H', I, q⟩ := h; exact ⟨σ', H', I.unwish, q⟩
 | ret u => obtain ⟨v, σ', H', I, r, q⟩ := h; exact ⟨v, σ', H', I.unwish, r, q⟩
theorem PE.nox {e : Expr} {t : TE} (h : PE X.nox e t) : PE X e t := fun pins s σ H Q I hw =>
 wpAny_mono (h pins s σ H Q (I.wish _) hw) (fun _ _ ⟨v, H', I', r, q⟩ => ⟨v, H', I'.unwish, r, q⟩) fun _ _ z => False.elim z
theorem PT.nox {e : Expr} {t : TT} (h : PT X.nox e t) : PT X e t := fun pins s σ H Q I hw =>
 wpAny_mono (h pins s σ H Q (I.wish _) hw) (fun _ _ ⟨H', I', q⟩ => ⟨H', I'.unwish, q⟩) fun _ _ z => False.elim z
theorem PSs.nox {st : List Stmt} {t : TS} (h : PSs X.nox st t) : PSs X st t := fun pins s σ H D I hw =>
 wpAny_mono (h pins s σ H D (I.wish _) hw) (fun _ _ q => q.unwish) fun _ _ z => False.elim z
end
section
variable {X : Cx} {st : Stmt} {rest : List Stmt} {t u : TS} {e : Expr} {te : TE} {pos : Pos}
noncomputable def tNext : TS := fun D σ H => D.nx σ H
noncomputable def tSeq (t u : TS) : TS := fun D σ H => t { D with nx := u D } σ H
theorem pss_nil : PSs X [] tNext := fun _ _ σ H _ I h => wpAny_execs_nil ⟨σ, H, I, h⟩
theorem pss_cons (h1 : PS X st t) (h2 : PSs X rest u) : PSs X (st :: rest) (tSeq t u) := by
 intro pins s σ H D I h
 refine wpAny_execs_cons (thn (h1 pins s σ H { D with nx := u D } I h) fun f s1 q => ?_)
 cases f with
 | next =>
  obtain ⟨σ', H', I', q⟩ := q
  exact h2 pins s1 σ' H' D I' q
 | ret v => exact q
 | brk => exact q
 | cont => exact q
theorem pss_one (h1 : PS X st t) : PSs X [st] t := by
 intro pins s σ H D I h
 refine wpAny_execs_cons (thn (h1 pins s σ H D I h) fun f s1 q => ?_)
 cases f with
 | next => exact wpAny_execs_nil q
 | ret v => exact q
 | brk => exact q
 | cont => exact q
theorem Inv.quiet {pins : List (Addr × Obj)} {σ : St} {H : Hp} {s : Shared} (I : Inv X pins σ H s) : interactive X.env = false := by simp [interactive, I.ok.kind]
noncomputable def tDrop (te : TE) : TS := fun D σ H => te σ H fun _ H1 => D.nx σ H1
theorem ps_expr (he : PE X e te) (hs : swapsWith e none pos.line X.env = pure false := by rfl) : PS X (.Expr e pos) (tDrop te) := by
 intro pins s σ H D I h
 exact wpAny_Expr_any (thn (he pins s σ H _ I h) fun v s1 ⟨x, H1, I1, r1, q1⟩ => ⟨σ, H1, I1, q1⟩) I.quiet hs
noncomputable def tRet (te : TE) : TS := fun D σ H => te σ H D.rt
theorem ps_ret (he : PE X e te) : PS X (.Return (some e) pos) (tRet te) := by
 intro pins s σ H D I h
 exact wpAny_Return_some (thn (he pins s σ H _ I h) fun v s1 ⟨x, H1, I1, r1, q1⟩ => ⟨x, σ, H1, I1, r1, q1⟩)
noncomputable def tRetN : TS := fun D _ H => D.rt .non H
noncomputable def tIfS (c : TT) (t u : TS) : TS := fun D σ H => c σ H fun b H1 => if b = true then t D σ H1 else u D σ H1
theorem ps_if {c : Expr} {a b : List Stmt} {tc : TT} (hc : PT X c tc) (ha : PSs X a t) (hb : PSs X b u) : PS X (.If c a b pos) (tIfS tc t u) := by
 intro pins s σ H D I h
 refine wpAny_If (thn (hc pins s σ H _ I h) fun d s1 ⟨H1, I1, q1⟩ => ?_)
 cases d with
 | true => exact ha pins s1 σ H1 D I1 q1
 | false => exact hb pins s1 σ H1 D I1 q1
noncomputable def tNever : TS := fun _ _ _ => False
end
noncomputable abbrev TG := V → St → Hp → (St → Hp → Prop) → Prop
noncomputable abbrev TGs := List V → St → Hp → (St → Hp → Prop) → Prop
noncomputable def PG (X : Cx) (target : Expr) (t : TG) : Prop :=
 ∀ (pins : List (Addr × Obj)) (s : Shared) (σ : St) (H : Hp) (v : V) (u : Value) (Q : St → Hp → Prop), Inv X pins σ H s → RelV v u → t v σ H Q →
  wpAny (model X.prog X.w) X.A (assign target X.env u) (fun _ s' => ∃ σ' H', Inv X pins σ' H' s' ∧ Q σ' H') X.xe s
noncomputable def PGs (X : Cx) (ts : List Expr) (t : TGs) : Prop :=
 ∀ (pins : List (Addr × Obj)) (s : Shared) (σ : St) (H : Hp) (vs : List V) (us : List Value) (Q : St → Hp → Prop), Inv X pins σ H s → Vals vs us → t vs σ H Q →
  wpAny (model X.prog X.w) X.A (assignInOrder ((assignEach ts X.env).map (·.2)) us) (fun _ s' => ∃ σ' H', Inv X pins σ' H' s' ∧ Q σ' H') X.xe s
noncomputable abbrev TSet := V → V → V → Hp → (Hp → Prop) → Prop
noncomputable def PSet (X : Cx) (t : TSet) : Prop :=
 ∀ (pins : List (Addr × Obj)) (s : Shared) (σ : St) (H : Hp) (o i v : V) (ov iv u : Value) (Q : Hp → Prop), Inv X pins σ H s → RelV o ov → RelV i iv → RelV v u → t o i v H Q →
  wpAny (model X.prog X.w) X.A (setItem ov iv u) (fun _ s' => ∃ H', Inv X pins σ H' s' ∧ Q H') X.xe s
noncomputable abbrev TIp := V → V → Hp → VK → Prop
noncomputable def PIp (X : Cx) (op : Operator) (t : TIp) : Prop :=
 ∀ (pins : List (Addr × Obj)) (s : Shared) (σ : St) (H : Hp) (x y : V) (v u : Value) (Q : VK), Inv X pins σ H s → RelV x v → RelV y u → t x y H Q →
  wpAny (model X.prog X.w) X.A (inplaceOp op v u) (EP X pins σ Q) X.xe s
section
variable {X : Cx} {pos : Pos}
noncomputable def gName (i : Nat) : TG := fun v σ H Q => Q (σ.set i (some v)) H
theorem pg_name {i : Nat} {x : Str} (hN : X.N.Nodup) (hi : X.N[i]? = some x) (hx : Loc X.env.scope x) (hf : X.fn x = true ∨ X.env.scope.names.lookup x = some .local := by first | exact .inl rfl | exact .inr rfl | assumption) : PG X (.Name x pos) (gName i) := by
 intro pins s σ H v u Q I r h
 exact wpAny_assign_Name (store_ok I hN hi hx r (fun s' I' => ⟨_, H, I', h⟩) hf)
noncomputable def gNil : TGs := fun vs σ H Q => vs = [] ∧ Q σ H
noncomputable def gCons (t : TG) (u : TGs) : TGs := fun vs σ H Q => ∃ v r, vs = v :: r ∧ t v σ H fun σ' H' => u r σ' H' Q
theorem pgs_nil : PGs X [] gNil := by
 intro pins s σ H vs us Q I r h
 obtain ⟨e, h⟩ := h
 subst e
 cases r
 exact assignInOrder_nil ⟨σ, H, I, h⟩
theorem pgs_cons {e : Expr} {es : List Expr} {t : TG} {u : TGs} (h1 : PG X e t) (h2 : PGs X es u)
  (hs : (assignEach (e :: es) X.env).map (·.2) = assign e X.env :: (assignEach es X.env).map (·.2) := by rfl) : PGs X (e :: es) (gCons t u) := by
 intro pins s σ H vs us Q I r h
 obtain ⟨v, vr, e1, h⟩ := h
 subst e1
 cases r with
 | cons r rr =>
  rw [hs]
  refine assignInOrder_cons (thn (h1 pins s σ H _ _ _ I r h) fun _ s1 ⟨σ1, H1, I1, q1⟩ => ?_)
  exact h2 pins s1 σ1 H1 _ _ Q I1 rr q1
noncomputable def gTup (K : PySem.W.Frag) (n : Nat) (t : TGs) : TG := fun v σ H Q => ∃ a xs, v = .ref a ∧ SqT K H a xs ∧ xs.length = n ∧ t xs σ H Q
theorem pg_tup {es : List Expr} {k : Nat} {t : TGs} {n : Nat} (hc : X.calm = true) (h : PGs X es t)
  (hn : (assignEach es X.env).length = n := by rfl) (hst : (assignEach es X.env).findIdx? (·.1) = none := by rfl) : PG X (.Tuple es k pos) (gTup X.K n t) := by
 intro pins s σ H v u Q I r hw
 obtain ⟨a, xs, e1, hq, hl, hw⟩ := hw
 subst e1
 cases r
 obtain ⟨its, rv, ht, hz⟩ := I.tuple hq
 refine assign_Tuple_tuple (I.ok.hd hc) ht (by simp [hn, ← hl, rv.length]) hst fun h' hx => ?_
 have I1 : Inv X pins σ H { s with heap := h' } := I.kept (t' := s.toks) fun b o e => hx b o (Nat.ne_of_lt (Heap.lt_size e)) e
 exact h pins _ σ H xs _ Q I1 (by simpa using rv) hw
noncomputable def gSub (to ti : TE) (t : TSet) : TG := fun v σ H Q => to σ H fun o H1 => ti σ H1 fun i H2 => t o i v H2 fun H3 => Q σ H3
theorem pg_sub {o i : Expr} {to ti : TE} {t : TSet} (ho : PE X o to) (hi : PE X i ti) (hs : PSet X t)
  (ha : ∀ v, assign (.Subscript o i pos) X.env v = (do
   let ov ← holding [v] (eval o X.env)
   let iv ← holding [v, ov] (eval i X.env)
   standAt pos
   holding [v, ov, iv] (setItem ov iv v)
   release [v, ov, iv] []) := by intro _; rfl) : PG X (.Subscript o i pos) (gSub to ti t) := by
 intro pins s σ H v u Q I r h
 rw [ha]
 refine wpAny_bind (wpAny_holding (thn (ho pins s σ H _ I h) fun ov s1 ⟨x, H1, I1, r1, q1⟩ => ?_))
 refine wpAny_bind (wpAny_holding (thn (hi pins s1 σ H1 _ I1 q1) fun iv s2 ⟨y, H2, I2, r2, q2⟩ => ?_))
 refine wpAny_bind (wpAny_standAt (wpAny_bind (wpAny_holding (thn (hs pins s2 σ H2 x y v ov iv u _ I2 r1 r2 r q2) fun _ s3 ⟨H3, I3, q3⟩ => ?_))))
 exact wpAny_release ⟨σ, H3, I3, q3⟩
noncomputable def tAsg (te : TE) (g : TG) : TS := fun D σ H => te σ H fun x H1 => g x σ H1 D.nx
theorem ps_asg {tg e : Expr} {te : TE} {g : TG} (he : PE X e te) (hg : PG X tg g) (hs : swapsWithSole [tg] e pos.line X.env = pure false := by rfl) (hw : swappedStores [tg] e X.env = pure none := by rfl)
  (h1 : (assignEach [tg] X.env).map (·.2) = [assign tg X.env] := by rfl) : PS X (.Assign [tg] e pos) (tAsg te g) := by
 intro pins s σ H D I h
 refine wpAny_Assign_stores (thn (he pins s σ H _ I h) fun v s1 ⟨x, H1, I1, r1, q1⟩ => ?_) hs hw
 rw [h1]
 exact thn (hg pins s1 σ H1 x v _ I1 r1 q1) fun _ s2 q => q
theorem ps_set {i : Nat} {x : Str} {e : Expr} {te : TE} {pos' : Pos} (hN : X.N.Nodup) (hi : X.N[i]? = some x) (hx : Loc X.env.scope x) (he : PE X e te) (hs : swapsWith e (some (.Name x pos')) pos.line X.env = pure false := by rfl) (hf : X.fn x = true ∨ X.env.scope.names.lookup x = some .local := by first | exact .inl rfl | exact .inr rfl | assumption) :
  PS X (.Assign [.Name x pos'] e pos) (tAsg te (gName i)) := by
 intro pins s σ H D I h
 refine wpAny_Assign_Name (thn (he pins s σ H _ I h) fun v s1 ⟨y, H1, I1, r1, q1⟩ => ?_) hs
 exact store_ok I1 hN hi hx r1 (fun s2 I2 => ⟨_, H1, I2, q1⟩) hf
noncomputable def tPar (i j : Nat) (ta : TA) : TS := fun D σ H => ta σ H fun vs H1 => ∃ v w, vs = [v, w] ∧ D.nx ((σ.set i (some v)).set j (some w)) H1
noncomputable def tAug (i : Nat) (te : TE) (ti : TIp) : TS := fun D σ H => ∃ x, σ[i]? = some (some x) ∧ te σ H fun y H1 => ti x y H1 fun z H2 => D.nx (σ.set i (some z)) H2
noncomputable def tAugS (to ti te : TE) (tget : V → V → Hp → VK → Prop) (tip : TIp) (tset : TSet) : TS := fun D σ H => to σ H fun o H1 => ti σ H1 fun i H2 => tget o i H2 fun x H3 => te σ H3 fun y H4 => tip x y H4 fun z H5 => tset o i z H5 fun H6 => D.nx σ H6
noncomputable def PGet (X : Cx) (t : V → V → Hp → VK → Prop) : Prop :=
 ∀ (pins : List (Addr × Obj)) (s : Shared) (σ : St) (H : Hp) (o i : V) (ov iv : Value) (Q : VK), Inv X pins σ H s → RelV o ov → RelV i iv → t o i H Q →
  wpAny (model X.prog X.w) X.A (getItem ov iv) (EP X pins σ Q) X.xe s
theorem ps_augS {o i e : Expr} {to ti te : TE} {tget : V → V → Hp → VK → Prop} {tip : TIp} {tset : TSet} {op : Operator} {tpos : Pos} (ho : PE X o to) (hi : PE X i ti) (hg : PGet X tget) (he : PE X e te) (hp : PIp X op tip) (hs : PSet X tset)
  (ha : ∀ ov iv new, augStore i ov iv new = (do holding [new, ov, iv] (setItem ov iv new); release [new, ov, iv] []; pure .next) := by intros; rfl) : PS X (.AugAssign (.Subscript o i tpos) op e pos) (tAugS to ti te tget tip tset) := by
 intro pins s σ H D I h
 refine wpAny_AugAssign_SubscriptAny (thn (ho pins s σ H _ I h) fun ov s1 ⟨x1, H1, I1, r1, q1⟩ => ?_) ha
 refine thn (hi pins s1 σ H1 _ I1 q1) fun iv s2 ⟨x2, H2, I2, r2, q2⟩ => ?_
 refine thn (hg pins s2 σ H2 x1 x2 ov iv _ I2 r1 r2 q2) fun old s3 ⟨x3, H3, I3, r3, q3⟩ => ?_
 refine thn (he pins s3 σ H3 _ I3 q3) fun v s4 ⟨x4, H4, I4, r4, q4⟩ => ?_
 refine thn (hp pins s4 σ H4 x3 x4 old v _ I4 r3 r4 q4) fun new s5 ⟨x5, H5, I5, r5, q5⟩ => ?_
 exact thn (hs pins s5 σ H5 x1 x2 x5 ov iv new _ I5 r1 r2 r5 q5) fun _ s6 ⟨H6, I6, q6⟩ => ⟨σ, H6, I6, q6⟩
noncomputable def ipI (f : Int → Int → Int) : TIp := fun x y H Q => ∃ i j, x = .int i ∧ y = .int j ∧ Q (.int (f i j)) H
theorem ip_add : PIp X .Add (ipI fun i j => i + j) := by
 intro pins s σ H x y v u Q I r1 r2 h
 obtain ⟨i, j, e1, e2, q⟩ := h
 subst e1; subst e2
 obtain ⟨t, rfl⟩ := r1
 obtain ⟨t', rfl⟩ := r2
 exact iadd_int ⟨.int _, H, I.tok _, ⟨_, rfl⟩, q⟩
theorem ip_sub : PIp X .Sub (ipI fun i j => i - j) := by
 intro pins s σ H x y v u Q I r1 r2 h
 obtain ⟨i, j, e1, e2, q⟩ := h
 subst e1; subst e2
 obtain ⟨t, rfl⟩ := r1
 obtain ⟨t', rfl⟩ := r2
 exact isub_int ⟨.int _, H, I.tok _, ⟨_, rfl⟩, q⟩
end
section
variable {X : Cx} {pos : Pos}
end
structure It where
 go : Nat → Hp → Prop
 yld : Nat → Hp → V → Hp → Prop
 stop : Nat → Hp → Prop
noncomputable def FpOk (X : Cx) (pins : List (Addr × Obj)) (H : Hp) (b : Addr) : Prop :=
 H b = none ∧ b ≠ X.env.locals ∧ b ∉ X.fs ∧ (b ∈ X.ex ∨ X.s₀.heap.objs.size ≤ b) ∧ (∀ x c, X.env.cells.lookup x = some c → c ≠ b) ∧ ∀ p ∈ X.pn ++ pins, p.1 ≠ b
theorem Inv.fpOk {X : Cx} {pins : List (Addr × Obj)} {σ : St} {H H' : Hp} {s : Shared} {b : Addr} (I : Inv X pins σ H s) (hb : s.heap.objs.size ≤ b) (hn : H' b = none) : FpOk X pins H' b := by
 refine ⟨hn, Nat.ne_of_gt (Nat.lt_of_lt_of_le I.lt hb), I.nofs hb, .inr (Nat.le_trans I.sz hb), fun x c e z => ?_, fun p hp z => ?_⟩
 ·obtain ⟨v, q⟩ := I.cell x c e
  exact absurd (Nat.lt_of_lt_of_le q.lt (by rw [z]; exact hb)) (Nat.lt_irrefl _)
 ·exact absurd (Nat.lt_of_lt_of_le (Heap.lt_size (I.pin p hp).1) (by rw [z]; exact hb)) (Nat.lt_irrefl _)
structure Turn (P : Program) (w : World) (K : PySem.W.Frag) (tg : Expr) (J : It) (fp : List Addr) (it : Addr) (tn : Nat → Heap → Prop) : Prop where
 mem : it ∈ fp
 obj : ∀ i h, tn i h → ∀ b ∈ fp, ∃ o, h.get? b = some o ∧ ∀ v, o.data ≠ .cell v
 keep : ∀ i h h', tn i h → (∀ b ∈ fp, ∀ o, h.get? b = some o → h'.get? b = some o) → tn i h'
 item : ∀ (X : Cx), X.prog = P → X.w = w → X.K = K → X.calm = true → ∀ (i : Nat) (pins : List (Addr × Obj)) (s : Shared) (σ : St) (H : Hp) (E : Value → Shared → Prop), Inv X pins σ H s → (∀ b ∈ fp, FpOk X pins H b) → tn i s.heap → J.go i H →
  wpAny (model P w) X.A (pyNext (.ref it)) (fun r s1 => ∃ u, r = some u ∧
   wpAny (model P w) X.A (letOwnedTupleGo tg (.ref it) u) (fun _ s2 => ∃ x H', Inv X pins σ H' s2 ∧ RelV x u ∧ J.yld i H x H' ∧ tn (i + 1) s2.heap ∧ ∀ b ∈ fp, H' b = none) E s1) E s
 done : ∀ (X : Cx), X.prog = P → X.w = w → X.K = K → X.calm = true → ∀ (i : Nat) (pins : List (Addr × Obj)) (s : Shared) (σ : St) (H : Hp) (E : Value → Shared → Prop), Inv X pins σ H s → (∀ b ∈ fp, FpOk X pins H b) → tn i s.heap → J.stop i H →
  wpAny (model P w) X.A (pyNext (.ref it)) (fun r s1 => r = none ∧ Inv X pins σ H s1) E s
 self : ∀ (A : Around) (i : Nat) (s : Shared) (Q : Value → Shared → Prop) (E : Value → Shared → Prop), tn i s.heap → Q (.ref it) s → wpAny (model P w) A (pyIter (.ref it)) Q E s
noncomputable abbrev TI := St → Hp → (It → Hp → Prop) → Prop
noncomputable def PIE (X : Cx) (pins : List (Addr × Obj)) (σ : St) (tg : Expr) (R : It → Hp → Prop) (itv : Value) (s2 : Shared) : Prop :=
 ∃ (it : Addr) (fp : List Addr) (tn : Nat → Heap → Prop) (J : It) (H' : Hp), itv = .ref it ∧ Inv X pins σ H' s2 ∧ Turn X.prog X.w X.K tg J fp it tn ∧ tn 0 s2.heap ∧ (∀ b ∈ fp, FpOk X pins H' b) ∧ R J H'
noncomputable def PI (X : Cx) (tg iter : Expr) (wi : TI) : Prop :=
 ∀ (pins : List (Addr × Obj)) (s : Shared) (σ : St) (H : Hp) (R : It → Hp → Prop), Inv X pins σ H s → wi σ H R →
  wpAny (model X.prog X.w) X.A (eval iter X.env) (fun v s1 => wpAny (model X.prog X.w) X.A (pyIter v) (PIE X pins σ tg R) X.xe s1) X.xe s
theorem go_of {M : Model} {A : Around} {E : Value → Shared → Prop} {s : Shared} {tg : Expr} {it : Addr} {u : Value} {o : Obj} {n : String} {vs : Array Value} {Q : Unit → Shared → Prop} (ho : s.heap.get? it = some o) (hc : o.cls = .type n) (hd : o.data = .fields vs)
    (hn : ["enumerate", "zip", "dict_itemiterator", "dict_reverseitemiterator", "odict_iterator", "itertools.zip_longest", "itertools.pairwise"].contains n = false) (hQ : Q () s) : wpAny M A (letOwnedTupleGo tg (.ref it) u) Q E s := by
  unfold letOwnedTupleGo
  cases tg <;> first
    | exact wpAny_pure hQ
    | (cases u <;> first
        | exact wpAny_pure hQ
        | (refine wpAny_bind (wpAny_load ho ?_)
           rw [hc, hd]
           show wpAny M A (if (["enumerate", "zip", "dict_itemiterator", "dict_reverseitemiterator", "odict_iterator", "itertools.zip_longest", "itertools.pairwise"].contains n && vs[0]? == some (rawInt _)) = true then _ else _) Q E s
           rw [if_neg (by intro h; rw [hn, Bool.false_and] at h; cases h)]
           exact wpAny_pure hQ))
noncomputable def Itt (K : PySem.W.Frag) (a : Addr) : It :=
 ⟨fun i H => ∃ xs x, SqT K H a xs ∧ xs[i]? = some x, fun i H x H' => H' = H ∧ ∀ xs, SqT K H a xs → xs[i]? = some x, fun i H => ∃ xs, SqT K H a xs ∧ xs.length ≤ i⟩
noncomputable def Itr (lo : Int) (n : Nat) : It := ⟨fun i _ => i < n, fun i H x H' => H' = H ∧ x = .int (lo + i), fun i _ => n ≤ i⟩
theorem turn_tuple {P : Program} {w : World} {K : PySem.W.Frag} {tg : Expr} (a it : Addr) : Turn P w K tg (Itt K a) [it] it (fun i h => h.IsTupleIter it a i) where
 mem := by simp
 obj := fun i h st b hb => by
  have e : b = it := by simpa using hb
  subst e
  obtain ⟨o, e, c, d⟩ := st
  exact ⟨o, e, fun v z => by rw [d] at z; cases z⟩
 keep := fun i h h' st k => st.at fun o e => k it (by simp) o e
 item := by
  intro X hP hw hK hc i pins s σ H E I hf st hg
  subst hP hw hK
  obtain ⟨xs, x, hq, hx⟩ := hg
  obtain ⟨its, rv, p, hz⟩ := I.tuple hq
  obtain ⟨u, hu, ru⟩ := rv.get hx
  obtain ⟨f0, f1, f2, f3, f4, f5⟩ := hf it (by simp)
  refine wpAny_pyNext_tuple_item st (show s.heap.IsTuple a its.toArray from p) (x := u) (by simpa using hu) fun h' st' sb => ?_
  have I1 : Inv X pins σ H { s with heap := h' } := I.turned (t' := s.toks) (fun b o hb e => (sb.2 b hb).trans e) f0 f1 f3 f4 f5
  obtain ⟨o, e, c, d⟩ := id st'
  exact ⟨u, rfl, go_of (s := { s with heap := h' }) e c d (by decide) ⟨x, H, I1, ru, ⟨rfl, fun ys hy => by rw [I.tuple_inj hy hq]; exact hx⟩, st', fun b hb => (hf b hb).1⟩⟩
 done := by
  intro X hP hw hK hc i pins s σ H E I hf st hg
  subst hP hw hK
  obtain ⟨xs, hq, hx⟩ := hg
  obtain ⟨its, rv, p, hz⟩ := I.tuple hq
  obtain ⟨f0, f1, f2, f3, f4, f5⟩ := hf it (by simp)
  have hl := rv.length
  exact wpAny_pyNext_tuple_end (I.ok.hd hc) st (show s.heap.IsTuple a its.toArray from p) (by simp; omega) fun h' eb => ⟨rfl, I.turned (t' := s.toks) (fun b o hb e => eb b o hb e) f0 f1 f3 f4 f5⟩
 self := fun _ _ _ _ _ st h => wpAny_pyIter_tupleiter st h
theorem turn_range {P : Program} {w : World} {K : PySem.W.Frag} {tg : Expr} (it : Addr) (lo : Int) (n : Nat) : Turn P w K tg (Itr lo n) [it] it (fun i h => IsRangeIter h it (lo + (i : Nat) * 1) ((n : Int) - (i : Nat)) 1) where
 mem := by simp
 obj := fun i h st b hb => by
  have e : b = it := by simpa using hb
  subst e
  exact ⟨_, st, fun v z => by
   have z' : Data.fields _ = Data.cell v := z
   cases z'⟩
 keep := fun i h h' st k => k it (by simp) _ st
 item := by
  intro X hP hw hK hc i pins s σ H E I hf st hg
  subst hP hw hK
  obtain ⟨f0, f1, f2, f3, f4, f5⟩ := hf it (by simp)
  have W := Walks.range (prog := X.prog) (w := X.w) (I.ok.hd hc) it lo 1 n
  refine W.item i s _ _ hg st fun v h' tk hv st' kk => ?_
  obtain ⟨t, rfl⟩ := hv
  have I1 : Inv X pins σ H { s with heap := h', toks := tk } := I.turned (fun b o hb e => kk b o (by simpa using hb) e) f0 f1 f3 f4 f5
  refine ⟨_, rfl, go_of (s := { s with heap := h', toks := tk }) (n := "range_iterator") st' rfl rfl (by decide) ⟨.int (lo + i), H, I1, ⟨t, ?_⟩, ⟨rfl, rfl⟩, st', fun b hb => (hf b hb).1⟩⟩
  rw [Int.mul_one]
 done := by
  intro X hP hw hK hc i pins s σ H E I hf st hg
  subst hP hw hK
  obtain ⟨f0, f1, f2, f3, f4, f5⟩ := hf it (by simp)
  exact wpAny_pyNext_range_end (I.ok.hd hc) st (by have : n ≤ i := hg; omega) fun h' eb => ⟨rfl, I.turned (t' := s.toks) (fun b o hb e => eb b o hb e) f0 f1 f3 f4 f5⟩
 self := fun _ _ _ _ _ st h => wpAny_pyIter_rangeiter st h
end L2
namespace L2
open PySem PySem.Spec PyProof.Rows
section
variable {X : Cx} {tg : Expr}
theorem range_it {pins : List (Addr × Obj)} {σ : St} {H : Hp} {s : Shared} {R : It → Hp → Prop} {E : Value → Shared → Prop} {lo hi : Int} {t u v : Tok} {tk : Nat} (I : Inv X pins σ H s) (h1 : -(2 ^ 62) ≤ lo) (h2 : lo < 2 ^ 62) (h3 : -(2 ^ 62) ≤ hi) (h4 : hi < 2 ^ 62)
  (q : R (Itr lo (hi - lo).toNat) H) : wpAny (model X.prog X.w) X.A (pyIter (.ref s.heap.objs.size)) (PIE X pins σ tg R) E { s with heap := s.heap.push { cls := .type "range", data := .fields #[.int lo t, .int hi u, .int 1 v] }, toks := tk } := by
 refine wpAny_pyIter_range (IsRange.new ..) (small_one h1 h2 h3 h4) ?_
 have I1 : Inv X pins σ H { s with heap := s.heap.push { cls := .type "range", data := .fields #[.int lo t, .int hi u, .int 1 v] }, toks := tk } := I.kept fun b o e => Heap.get?_push_of_some _ e
 refine ⟨(s.heap.push { cls := .type "range", data := .fields #[.int lo t, .int hi u, .int 1 v] }).objs.size, [(s.heap.push { cls := .type "range", data := .fields #[.int lo t, .int hi u, .int 1 v] }).objs.size], _, _, H, rfl,
  I1.kept (t' := tk) fun b o e => Heap.get?_push_of_some _ e, turn_range _ lo (hi - lo).toNat, ?_, fun b hb => ?_, q⟩
 ·have e1 : lo + ((0 : Nat) : Int) * 1 = lo := by simp
  have e2 : (((hi - lo).toNat : Nat) : Int) - ((0 : Nat) : Int) = Builtin.Range.rangeSize lo hi 1 := by rw [rangeSize_one]; split <;> omega
  show IsRangeIter _ _ (lo + ((0 : Nat) : Int) * 1) ((((hi - lo).toNat : Nat) : Int) - ((0 : Nat) : Int)) 1
  rw [e1, e2]
  exact Heap.get?_push_size _ rfl
 ·have e : b = (s.heap.push { cls := .type "range", data := .fields #[.int lo t, .int hi u, .int 1 v] }).objs.size := by simpa using hb
  subst e
  exact I1.fpOk (Nat.le_refl _) (I1.hok.fresh (Nat.le_refl _))
noncomputable def iRng1 (ta : TA) : TI := fun σ H R => ta σ H fun vs H1 => ∃ j : Int, vs = [.int j] ∧ -(2 ^ 62) ≤ j ∧ j < 2 ^ 62 ∧ R (Itr 0 j.toNat) H1
noncomputable def iRng2 (ta : TA) : TI := fun σ H R => ta σ H fun vs H1 => ∃ i j : Int, vs = [.int i, .int j] ∧ (-(2 ^ 62) ≤ i ∧ i < 2 ^ 62 ∧ -(2 ^ 62) ≤ j ∧ j < 2 ^ 62) ∧ R (Itr i (j - i).toNat) H1
theorem pi_range1 {a : Expr} {ta : TA} {p pos : Pos} (hg : Gl X "range") (hm : X.mg "range" = none) (ha : PA X [a] ta) (hs : starEach [a] X.env = [(false, eval a X.env)] := by rfl) : PI X tg (.Call (.Name "range" p) [a] [] pos) (iRng1 ta) := by
 intro pins s σ H R I h
 refine Call_ (ld_blt I hg hm boot_range (PyProof.Rows.callWith_type1 (thn (ha pos pins s σ H _ I h) fun us s1 ⟨vs, H1, I1, r1, q1⟩ => ?_) hs rfl))
 obtain ⟨j, e, q1, q2, q⟩ := q1
 subst e
 cases r1 with
 | cons r rr =>
  cases rr
  obtain ⟨t, rfl⟩ := r
  exact call_range_1 (range_it I1 (by omega) (by omega) q1 q2 (by simpa using q))
noncomputable def tFor (wi : TI) (g : TG) (tb : TS) : TS := fun D σ H => wi σ H fun J H1 => ∃ W : Nat → Nat → St → Hp → Prop, (∃ m, W 0 m σ H1) ∧ ∀ i m σ H, W i m σ H →
 (J.stop i H ∧ D.nx σ H) ∨ (J.go i H ∧ ∃ N : St → Hp → Prop, (∀ σ' H', N σ' H' → ∃ m', m' < m ∧ W (i + 1) m' σ' H') ∧ ∀ x H', J.yld i H x H' → g x σ H' fun σ2 H2 => tb { D with nx := N, ct := N, bk := D.nx } σ2 H2)
noncomputable def pinsAt (fp : List Addr) (h : Heap) : List (Addr × Obj) := fp.filterMap fun b => (h.get? b).map fun o => (b, o)
theorem mem_pinsAt {fp : List Addr} {h : Heap} {b : Addr} {o : Obj} (hb : b ∈ fp) (e : h.get? b = some o) : (b, o) ∈ pinsAt fp h := List.mem_filterMap.mpr ⟨b, hb, by rw [e]; rfl⟩
theorem of_pinsAt {fp : List Addr} {h : Heap} {p : Addr × Obj} (hp : p ∈ pinsAt fp h) : p.1 ∈ fp ∧ h.get? p.1 = some p.2 := by
 obtain ⟨b, hb, e⟩ := List.mem_filterMap.mp hp
 cases q : h.get? b with
 | none => rw [q] at e; cases e
 | some o =>
  rw [q] at e
  have e' : (b, o) = p := Option.some.inj e
  subst e'
  exact ⟨hb, q⟩
theorem Inv.pinned {pins : List (Addr × Obj)} {σ : St} {H : Hp} {s : Shared} {fp : List Addr} (I : Inv X pins σ H s) (hf : ∀ b ∈ fp, FpOk X pins H b) (ho : ∀ b ∈ fp, ∃ o, s.heap.get? b = some o ∧ ∀ v, o.data ≠ .cell v) : Inv X (pins ++ pinsAt fp s.heap) σ H s :=
 I.pins_of fun p hp => (List.mem_append.mp hp).elim (fun z => I.pin p (List.mem_append_right _ z)) fun z => by
  obtain ⟨hb, e⟩ := of_pinsAt z
  obtain ⟨f0, f1, f2, _⟩ := hf p.1 hb
  obtain ⟨o, e', d⟩ := ho p.1 hb
  rw [e] at e'; cases e'
  exact ⟨e, f0, f1, f2, d⟩
theorem Inv.unpinned {pins pl : List (Addr × Obj)} {σ : St} {H : Hp} {s : Shared} (I : Inv X (pins ++ pl) σ H s) : Inv X pins σ H s := I.pins_of fun p hp => I.pin p (List.mem_append_right _ (List.mem_append_left _ hp))
theorem ps_for {iter : Expr} {body : List Stmt} {wi : TI} {g : TG} {tb : TS} {pos : Pos} (hp : PassesOwn (model X.prog X.w) X.A X.env X.xe) (hc : X.calm = true) (hi : PI X tg iter wi) (hg : PG X tg g) (hb : PSs X body tb)
  (hs : ∀ x, foldedSetIterable iter X.env x = pure x := by intro _; rfl) : PS X (.For tg iter body [] pos) (tFor wi g tb) := by
 intro pins s σ H D I h
 refine wpAny_For (thn (hi pins s σ H _ I h) fun v s1 h1 => thn h1 fun itv s2 h2 => ?_) hs
 obtain ⟨it, fp, tn, J, H2, e, I2, T, st2, f2, W, ⟨m0, w0⟩, turn⟩ := h2
 subst e
 have stat : ∀ {H' : Hp}, (∀ b ∈ fp, H' b = none) → ∀ b ∈ fp, FpOk X pins H' b := fun hn b hb => ⟨hn b hb, (f2 b hb).2⟩
 refine codeAny_forLoop_any (fun n s' => ∃ i σ' H', Inv X pins σ' H' s' ∧ tn i s'.heap ∧ (∀ b ∈ fp, H' b = none) ∧ W i n σ' H') ?_ m0 ⟨0, σ, H2, I2, st2, fun b hb => (f2 b hb).1, w0⟩
 rintro n s3 ⟨i, σ3, H3, I3, st3, fr3, w3⟩
 rcases turn i n σ3 H3 w3 with ⟨stop, qn⟩ | ⟨go, N, hN, step⟩
 ·refine wpAny_passesOwn hp (thn (T.done X rfl rfl rfl hc i pins s3 σ3 H3 X.xe I3 (stat fr3) st3 stop) fun r s4 ⟨hr, I4⟩ => ?_)
  subst hr
  exact wpAny_execs_nil ⟨σ3, H3, I4, qn⟩
 ·refine wpAny_passesOwn hp (thn (T.item X rfl rfl rfl hc i pins s3 σ3 H3 X.xe I3 (stat fr3) st3 go) fun r s4 ⟨u, hr, h4⟩ => ?_)
  subst hr
  refine wpAny_passesOwn hp (thn h4 fun _ s5 ⟨x, H5, I5, r5, y5, st5, fr5⟩ => ?_)
  have I5' := I5.pinned (stat fr5) (T.obj _ _ st5)
  refine wpAny_passesOwn hp (thn (hg _ s5 σ3 H5 x u _ I5' r5 (step x H5 y5)) fun _ s6 ⟨σ6, H6, I6, q6⟩ => ?_)
  refine wpAny_passesOwn hp (thn (hb _ s6 σ6 H6 _ I6 q6) fun f s7 q7 => ?_)
  have again : ∀ {σ7 : St} {H7 : Hp}, Inv X (pins ++ pinsAt fp s5.heap) σ7 H7 s7 → N σ7 H7 → ∃ m, m < n ∧ ∃ i σ' H', Inv X pins σ' H' s7 ∧ tn i s7.heap ∧ (∀ b ∈ fp, H' b = none) ∧ W i m σ' H' := fun {σ7 H7} I7 n7 => by
   obtain ⟨m', hm, w7⟩ := hN σ7 H7 n7
   refine ⟨m', hm, i + 1, σ7, H7, I7.unpinned, T.keep _ _ _ st5 fun b hb o e => (I7.pin (b, o) (List.mem_append_right _ (List.mem_append_right _ (mem_pinsAt hb e)))).1, fun b hb => ?_, w7⟩
   obtain ⟨o, e, d⟩ := T.obj _ _ st5 b hb
   exact (I7.pin (b, o) (List.mem_append_right _ (List.mem_append_right _ (mem_pinsAt hb e)))).2.1
  cases f with
  | next => obtain ⟨σ7, H7, I7, n7⟩ := q7; exact again I7 n7
  | cont => obtain ⟨σ7, H7, I7, n7⟩ := q7; exact again I7 n7
  | brk => obtain ⟨σ7, H7, I7, q7⟩ := q7; exact ⟨σ7, H7, I7.unpinned, q7⟩
  | ret v => obtain ⟨x7, σ7, H7, I7, r7, q7⟩ := q7; exact ⟨x7, σ7, H7, I7.unpinned, r7, q7⟩
end
theorem for_range {lo : Int} {n : Nat} {g : TG} {tb : TS} {D : Ends} {σ : St} {H : Hp} (Pv : Nat → St → Hp → Prop) (h0 : Pv 0 σ H)
  (hs : ∀ i σ H, i < n → Pv i σ H → g (.int (lo + i)) σ H fun σ2 H2 => tb { D with nx := Pv (i + 1), ct := Pv (i + 1), bk := D.nx } σ2 H2) (hd : ∀ σ H, Pv n σ H → D.nx σ H) :
  ∃ W : Nat → Nat → St → Hp → Prop, (∃ m, W 0 m σ H) ∧ ∀ i m σ H, W i m σ H →
   ((Itr lo n).stop i H ∧ D.nx σ H) ∨ ((Itr lo n).go i H ∧ ∃ N : St → Hp → Prop, (∀ σ' H', N σ' H' → ∃ m', m' < m ∧ W (i + 1) m' σ' H') ∧ ∀ x H', (Itr lo n).yld i H x H' → g x σ H' fun σ2 H2 => tb { D with nx := N, ct := N, bk := D.nx } σ2 H2) := by
 refine ⟨fun i m σ H => m = n - i ∧ i ≤ n ∧ Pv i σ H, ⟨n, by simp, Nat.zero_le _, h0⟩, ?_⟩
 rintro i m σ H ⟨rfl, hi, p⟩
 by_cases hlt : i < n
 ·refine .inr ⟨hlt, Pv (i + 1), fun σ' H' p' => ⟨n - (i + 1), by omega, rfl, hlt, p'⟩, fun x H' y => ?_⟩
  obtain ⟨e, y⟩ := y
  subst e y
  exact hs i σ _ hlt p
 ·have e : i = n := by omega
  subst e
  exact .inl ⟨Nat.le_refl _, hd σ H p⟩
end L2
namespace L2
open PySem PySem.Spec PyProof.Rows
noncomputable abbrev R2 := V → V → Hp → VK → Prop
noncomputable def OpR (X : Cx) (f : Value → Value → Sem Value) (r : R2) : Prop :=
 ∀ (pins : List (Addr × Obj)) (s : Shared) (σ : St) (H : Hp) (x y : V) (v u : Value) (Q : VK), Inv X pins σ H s → RelV x v → RelV y u → r x y H Q →
  wpAny (model X.prog X.w) X.A (f v u) (EP X pins σ Q) X.xe s
noncomputable def UnR (X : Cx) (f : Value → Sem Value) (r : V → Hp → VK → Prop) : Prop :=
 ∀ (pins : List (Addr × Obj)) (s : Shared) (σ : St) (H : Hp) (x : V) (v : Value) (Q : VK), Inv X pins σ H s → RelV x v → r x H Q →
  wpAny (model X.prog X.w) X.A (f v) (EP X pins σ Q) X.xe s
noncomputable def CallR (X : Cx) (f : Value) (r : List V → Hp → VK → Prop) : Prop :=
 ∀ (pins : List (Addr × Obj)) (s : Shared) (σ : St) (H : Hp) (xs : List V) (us : List Value) (Q : VK), Inv X pins σ H s → Vals xs us → r xs H Q →
  wpAny (model X.prog X.w) X.A (call f us) (EP X pins σ Q) X.xe s
noncomputable def tOp (r : R2) (ta tb : TE) : TE := fun σ H Q => ta σ H fun x H1 => tb σ H1 fun y H2 => r x y H2 Q
noncomputable def tUn (r : V → Hp → VK → Prop) (ta : TE) : TE := fun σ H Q => ta σ H fun x H1 => r x H1 Q
noncomputable def rI (C : Int → Int → Prop) (g : Int → Int → V) : R2 := fun x y H Q => ∃ i j, x = .int i ∧ y = .int j ∧ C i j ∧ Q (g i j) H
noncomputable def rI0 (g : Int → Int → V) : R2 := fun x y H Q => ∃ i j, x = .int i ∧ y = .int j ∧ Q (g i j) H
noncomputable def rU (g : Int → V) : V → Hp → VK → Prop := fun x H Q => ∃ i, x = .int i ∧ Q (g i) H
section
variable {X : Cx} {a b c : Expr} {ta tb tc : TE} {pos : Pos}
theorem binT (ha : PE X a ta) (hb : PE X b tb) {pins : List (Addr × Obj)} {s : Shared} {σ : St} {H : Hp} {R : V → V → Hp → Prop} (I : Inv X pins σ H s)
  (h : ta σ H fun x H1 => tb σ H1 fun y H2 => R x y H2) {Q : Value → Shared → Prop} {f : Value → Value → Sem Value}
  (hf : ∀ v u s2 x y H2, Inv X pins σ H2 s2 → RelV x v → RelV y u → R x y H2 → wpAny (model X.prog X.w) X.A (f v u) Q X.xe s2) :
  wpAny (model X.prog X.w) X.A (eval a X.env) (fun v s₁ => wpAny (model X.prog X.w) X.A (eval b X.env) (fun u s₂ => wpAny (model X.prog X.w) X.A (f v u) Q X.xe s₂) X.xe s₁) X.xe s := by
 refine thn (ha pins s σ H _ I h) fun v s1 ⟨x, H1, I1, r1, q1⟩ => ?_
 refine thn (hb pins s1 σ H1 _ I1 q1) fun u s2 ⟨y, H2, I2, r2, q2⟩ => ?_
 exact hf v u s2 x y H2 I2 r1 r2 q2
theorem pe_op {op : Operator} {r : R2} (ho : OpR X (binaryOp op) r) (ha : PE X a ta) (hb : PE X b tb) : PE X (.BinOp a op b pos) (tOp r ta tb) := by
 intro pins s σ H Q I h
 exact wpAny_BinOp (binT ha hb I h fun v u s2 x y H2 I2 rx ry q => ho pins s2 σ H2 x y v u Q I2 rx ry q)
theorem pe_un {op : UnaryOp} {r : V → Hp → VK → Prop} (ho : UnR X (unaryOp op) r) (ha : PE X a ta) : PE X (.UnaryOp op a pos) (tUn r ta) := by
 intro pins s σ H Q I h
 exact UnaryOp_ (thn (ha pins s σ H _ I h) fun v s1 ⟨x, H1, I1, r1, q1⟩ => ho pins s1 σ H1 x v Q I1 r1 q1)
theorem opI {f : Value → Value → Sem Value} {C : Int → Int → Prop} {g : Int → Int → Int}
  (rule : ∀ (i j : Int) (t u : Tok) (s : Shared) (Q : Value → Shared → Prop) (E : Value → Shared → Prop), C i j → Q (.int (g i j) s.toks) { s with toks := s.toks + 1 } → wpAny (model X.prog X.w) X.A (f (.int i t) (.int j u)) Q E s) :
  OpR X f (rI C fun i j => .int (g i j)) := by
 intro pins s σ H x y v u Q I rx ry h
 obtain ⟨i, j, rfl, rfl, hc, q⟩ := h
 obtain ⟨t, rfl⟩ := rx
 obtain ⟨t', rfl⟩ := ry
 exact rule i j t t' s _ _ hc ⟨.int (g i j), H, I.tok _, ⟨_, rfl⟩, q⟩
theorem opI0 {f : Value → Value → Sem Value} {g : Int → Int → Int}
  (rule : ∀ (i j : Int) (t u : Tok) (s : Shared) (Q : Value → Shared → Prop) (E : Value → Shared → Prop), Q (.int (g i j) s.toks) { s with toks := s.toks + 1 } → wpAny (model X.prog X.w) X.A (f (.int i t) (.int j u)) Q E s) :
  OpR X f (rI0 fun i j => .int (g i j)) := by
 intro pins s σ H x y v u Q I rx ry h
 obtain ⟨i, j, rfl, rfl, q⟩ := h
 obtain ⟨t, rfl⟩ := rx
 obtain ⟨t', rfl⟩ := ry
 exact rule i j t t' s _ _ ⟨.int (g i j), H, I.tok _, ⟨_, rfl⟩, q⟩
theorem opB0 {f : Value → Value → Sem Value} {g : Int → Int → Bool}
  (rule : ∀ (i j : Int) (t u : Tok) (s : Shared) (Q : Value → Shared → Prop) (E : Value → Shared → Prop), Q (.bool (g i j)) s → wpAny (model X.prog X.w) X.A (f (.int i t) (.int j u)) Q E s) :
  OpR X f (rI0 fun i j => .bl (g i j)) := by
 intro pins s σ H x y v u Q I rx ry h
 obtain ⟨i, j, rfl, rfl, q⟩ := h
 obtain ⟨t, rfl⟩ := rx
 obtain ⟨t', rfl⟩ := ry
 exact rule i j t t' s _ _ ⟨.bl (g i j), H, I, rfl, q⟩
noncomputable def CDiv (i j : Int) : Prop := 0 < j ∧ j < 1073741824
noncomputable def CPow (i j : Int) : Prop := 0 ≤ j ∧ j ≤ 1000000 ∧ i.natAbs < 2 ^ 64
noncomputable def CMul (i j : Int) : Prop := (-(2 ^ 64) < i ∧ i < 2 ^ 64) ∨ (-(2 ^ 64) < j ∧ j < 2 ^ 64)
theorem CMul.ok {i j : Int} (h : CMul i j) : IntMulOk i j := by
 rcases h with ⟨h1, h2⟩ | ⟨h1, h2⟩
 ·exact .of_left (intBits_le_64 h1 h2)
 ·exact .of_right (intBits_le_64 h1 h2)
theorem two_pow_nn (k : Nat) : (0 : Int) ≤ 2 ^ k := by
 rw [two_pow_cast]
 exact Int.natCast_nonneg _
theorem op_add : OpR X (binaryOp .Add) (rI0 fun i j => .int (i + j)) := opI0 fun _ _ _ _ _ _ _ q => add_int q
theorem op_sub : OpR X (binaryOp .Sub) (rI0 fun i j => .int (i - j)) := opI0 fun _ _ _ _ _ _ _ q => sub_int q
theorem op_mul : OpR X (binaryOp .Mult) (rI CMul fun i j => .int (i * j)) := opI fun _ _ _ _ _ _ _ hc q => mul_int q hc.ok
theorem op_fdiv : OpR X (binaryOp .FloorDiv) (rI CDiv fun i j => .int (i / j)) := opI fun i j _ _ _ _ _ hc q => by
 have h1 : (0 : Int) < j := hc.1
 have h2 : j < 1073741824 := hc.2
 exact floordiv_int (by omega) (by rw [Int.fdiv_eq_ediv_of_nonneg i (by omega)]; exact q) (.inl (PyProof.noPylong_small (by omega)))
theorem op_mod : OpR X (binaryOp .Mod) (rI (fun _ j => 0 < j) fun i j => .int (i % j)) := opI fun i j _ _ _ _ _ hc q => by
 have h1 : (0 : Int) < j := hc
 exact mod_int' (by omega) (by rw [Int.fmod_eq_emod_of_nonneg i (by omega)]; exact q)
theorem op_pow : OpR X (binaryOp .Pow) (rI CPow fun i j => .int (i ^ j.toNat)) := opI fun _ _ _ _ _ _ _ hc q => pow_int_small hc.1 hc.2.1 hc.2.2 q
theorem op_shl : OpR X (binaryOp .LShift) (rI CPow fun i j => .int (i * 2 ^ j.toNat)) := opI fun _ _ _ _ _ _ _ hc q => lshift_int_small hc.1 hc.2.1 hc.2.2 q
theorem op_shr : OpR X (binaryOp .RShift) (rI (fun _ j => 0 ≤ j) fun i j => .int (i / 2 ^ j.toNat)) := opI fun i j _ _ _ _ _ hc q =>
 rshift_int hc (by rw [Int.fdiv_eq_ediv_of_nonneg i (two_pow_nn _)]; exact q)
theorem op_and : OpR X (binaryOp .BitAnd) (rI0 fun i j => .int (Builtin.bitAnd i j)) := opI0 fun _ _ _ _ _ _ _ q => and_int q
theorem unI {f : Value → Sem Value} {g : Int → Int}
  (rule : ∀ (i : Int) (t : Tok) (s : Shared) (Q : Value → Shared → Prop) (E : Value → Shared → Prop), Q (.int (g i) s.toks) { s with toks := s.toks + 1 } → wpAny (model X.prog X.w) X.A (f (.int i t)) Q E s) :
  UnR X f (rU fun i => .int (g i)) := by
 intro pins s σ H x v Q I rx h
 obtain ⟨i, rfl, q⟩ := h
 obtain ⟨t, rfl⟩ := rx
 exact rule i t s _ _ ⟨.int (g i), H, I.tok _, ⟨_, rfl⟩, q⟩
theorem un_neg : UnR X (unaryOp .USub) (rU fun i => .int (-i)) := unI fun _ _ _ _ _ q => neg_int q
end
noncomputable def scal : V → V → Bool
 | .non, .non => true | .non, .int _ => true | .int _, .non => true | .non, .bl _ => true | .bl _, .non => true | .non, .str _ => true | .str _, .non => true
 | .int _, .int _ => true | .bl _, .bl _ => true | .str _, .str _ => true | .byt _, .byt _ => true
 | .int _, .str _ => true | .str _, .int _ => true | .bl _, .str _ => true | .str _, .bl _ => true
 | _, _ => false
noncomputable def rEq : R2 := fun x y H Q => scal x y = true ∧ Q (.bl (decide (x = y))) H
noncomputable def rNe : R2 := fun x y H Q => scal x y = true ∧ Q (.bl (!decide (x = y))) H
theorem dec_int {i j : Int} : decide (V.int i = V.int j) = (i == j) := by
 rw [Bool.eq_iff_iff]
 simp
theorem dec_bl {i j : Bool} : decide (V.bl i = V.bl j) = (i == j) := by
 rw [Bool.eq_iff_iff]
 simp
theorem dec_str {i j : Str} : decide (V.str i = V.str j) = (i == j) := by
 rw [Bool.eq_iff_iff]
 simp
theorem dec_byt {i j : Array UInt8} : decide (V.byt i = V.byt j) = (i.toList == j.toList) := by
 rw [Bool.eq_iff_iff]
 cases i
 cases j
 simp
section
variable {X : Cx} {a b c : Expr} {ta tb tc : TE} {pos : Pos}
theorem fin_bl {pins : List (Addr × Obj)} {σ : St} {H : Hp} {s : Shared} {Q : VK} {k k' : Bool} (I : Inv X pins σ H s) (q : Q (.bl k) H) (e : k = k') : EP X pins σ Q (.bool k') s := by
 subst e
 exact ⟨.bl k, H, I, rfl, q⟩
theorem op_eq : OpR X (compareOp .Eq) rEq := by
 intro pins s σ H x y v u Q I rx ry h
 obtain ⟨hs, q⟩ := h
 cases x with
 | non =>
  cases rx
  cases y with
  | non => cases ry; exact PySem.EqNone.eq_none_none (fin_bl I q (by simp))
  | bl j => cases ry; exact PySem.EqNone.eq_none_bool (fin_bl I q (by simp))
  | int j => obtain ⟨t', rfl⟩ := ry; exact PySem.EqNone.eq_none_int (fin_bl I q (by simp))
  | str j => obtain ⟨t', rfl⟩ := ry; exact PySem.EqNone.eq_none_str (fin_bl I q (by simp))
  | _ => exact absurd (show false = true from hs) Bool.false_ne_true
 | bl i =>
  cases rx
  cases y with
  | non => cases ry; exact PySem.EqNone.eq_bool_none (fin_bl I q (by simp))
  | bl j => cases ry; exact eq_bool (fin_bl I q dec_bl)
  | str j => obtain ⟨t', rfl⟩ := ry; exact PySem.EqMixed.eq_bool_str (fin_bl I q (by simp))
  | _ => exact absurd (show false = true from hs) Bool.false_ne_true
 | int i =>
  obtain ⟨t, rfl⟩ := rx
  cases y with
  | non => cases ry; exact PySem.EqNone.eq_int_none (fin_bl I q (by simp))
  | int j => obtain ⟨t', rfl⟩ := ry; exact eq_int (fin_bl I q dec_int)
  | str j => obtain ⟨t', rfl⟩ := ry; exact PySem.EqMixed.eq_int_str (fin_bl I q (by simp))
  | _ => exact absurd (show false = true from hs) Bool.false_ne_true
 | str i =>
  obtain ⟨t, rfl⟩ := rx
  cases y with
  | non => cases ry; exact PySem.EqNone.eq_str_none (fin_bl I q (by simp))
  | bl j => cases ry; exact PySem.EqMixed.eq_str_bool (fin_bl I q (by simp))
  | int j => obtain ⟨t', rfl⟩ := ry; exact PySem.EqMixed.eq_str_int (fin_bl I q (by simp))
  | str j => obtain ⟨t', rfl⟩ := ry; exact eq_str (fin_bl I q dec_str)
  | _ => exact absurd (show false = true from hs) Bool.false_ne_true
 | byt i =>
  obtain ⟨t, rfl⟩ := rx
  cases y with
  | byt j => obtain ⟨t', rfl⟩ := ry; exact PySem.W.eq_bytes (fin_bl I q dec_byt)
  | _ => exact absurd (show false = true from hs) Bool.false_ne_true
 | _ => cases y <;> exact absurd (show false = true from hs) Bool.false_ne_true
theorem op_ne : OpR X (compareOp .NotEq) rNe := by
 intro pins s σ H x y v u Q I rx ry h
 obtain ⟨hs, q⟩ := h
 cases x with
 | non =>
  cases rx
  cases y with
  | non => cases ry; exact PySem.EqNone.ne_none_none (fin_bl I q (by simp))
  | bl j => cases ry; exact PySem.EqNone.ne_none_bool (fin_bl I q (by simp))
  | int j => obtain ⟨t', rfl⟩ := ry; exact PySem.EqNone.ne_none_int (fin_bl I q (by simp))
  | str j => obtain ⟨t', rfl⟩ := ry; exact PySem.EqNone.ne_none_str (fin_bl I q (by simp))
  | _ => exact absurd (show false = true from hs) Bool.false_ne_true
 | bl i =>
  cases rx
  cases y with
  | non => cases ry; exact PySem.EqNone.ne_bool_none (fin_bl I q (by simp))
  | bl j => cases ry; exact ne_bool (fin_bl I q (congrArg not dec_bl))
  | str j => obtain ⟨t', rfl⟩ := ry; exact PySem.EqMixed.ne_bool_str (fin_bl I q (by simp))
  | _ => exact absurd (show false = true from hs) Bool.false_ne_true
 | int i =>
  obtain ⟨t, rfl⟩ := rx
  cases y with
  | non => cases ry; exact PySem.EqNone.ne_int_none (fin_bl I q (by simp))
  | int j => obtain ⟨t', rfl⟩ := ry; exact ne_int (fin_bl I q (congrArg not dec_int))
  | str j => obtain ⟨t', rfl⟩ := ry; exact PySem.EqMixed.ne_int_str (fin_bl I q (by simp))
  | _ => exact absurd (show false = true from hs) Bool.false_ne_true
 | str i =>
  obtain ⟨t, rfl⟩ := rx
  cases y with
  | non => cases ry; exact PySem.EqNone.ne_str_none (fin_bl I q (by simp))
  | bl j => cases ry; exact PySem.EqMixed.ne_str_bool (fin_bl I q (by simp))
  | int j => obtain ⟨t', rfl⟩ := ry; exact PySem.EqMixed.ne_str_int (fin_bl I q (by simp))
  | str j => obtain ⟨t', rfl⟩ := ry; exact ne_str (fin_bl I q (congrArg not dec_str))
  | _ => exact absurd (show false = true from hs) Bool.false_ne_true
 | byt i =>
  obtain ⟨t, rfl⟩ := rx
  cases y with
  | byt j => obtain ⟨t', rfl⟩ := ry; exact PySem.W.ne_bytes (fin_bl I q (congrArg not dec_byt))
  | _ => exact absurd (show false = true from hs) Bool.false_ne_true
 | _ => cases y <;> exact absurd (show false = true from hs) Bool.false_ne_true
theorem op_lt : OpR X (compareOp .Lt) (rI0 fun i j => .bl (decide (i < j))) := opB0 fun _ _ _ _ _ _ _ q => lt_int q
theorem op_le : OpR X (compareOp .LtE) (rI0 fun i j => .bl (decide (i ≤ j))) := opB0 fun _ _ _ _ _ _ _ q => le_int q
theorem op_gt : OpR X (compareOp .Gt) (rI0 fun i j => .bl (decide (j < i))) := opB0 fun _ _ _ _ _ _ _ q => gt_int q
theorem op_ge : OpR X (compareOp .GtE) (rI0 fun i j => .bl (decide (j ≤ i))) := opB0 fun _ _ _ _ _ _ _ q => ge_int q
theorem nomark (b : Expr) {op : CmpOp} (h : op ≠ .In := by decide) (h2 : op ≠ .NotIn := by decide) : behindInMarks op b = false := by
 have e1 : (op == CmpOp.In) = false := by cases op <;> first | rfl | exact absurd rfl h
 have e2 : (op == CmpOp.NotIn) = false := by cases op <;> first | rfl | exact absurd rfl h2
 cases b <;> simp [behindInMarks, e1, e2]
theorem pe_cmpR {op : CmpOp} {r : R2} (ho : OpR X (compareOp op) r) (ha : PE X a ta) (hb : PE X b tb) (hm : behindInMarks op b = false) : PE X (.Compare a [op] [b] pos) (tOp r ta tb) := by
 intro pins s σ H Q I h
 exact wpAny_Compare1 (binT ha hb I h fun v u s2 x y H2 I2 rx ry q => ho pins s2 σ H2 x y v u Q I2 rx ry q) hm
noncomputable def tTest (t : TE) : TT := fun σ H Q => t σ H fun x H' => ∃ k, x = .bl k ∧ Q k H'
theorem pt_cmpR {op : CmpOp} {r : R2} (ho : OpR X (compareOp op) r) (ha : PE X a ta) (hb : PE X b tb) (hm : behindInMarks op b = false) : PT X (.Compare a [op] [b] pos) (tTest (tOp r ta tb)) := by
 intro pins s σ H Q I h
 refine wpAny_isTrue_Compare1 (thn (ha pins s σ H _ I h) fun v s1 ⟨x, H1, I1, r1, q1⟩ => thn (hb pins s1 σ H1 _ I1 q1) fun u s2 ⟨y, H2, I2, r2, q2⟩ =>
  thn (ho pins s2 σ H2 x y v u _ I2 r1 r2 q2) fun c s3 ⟨z, H3, I3, r3, k, e, q3⟩ => ?_) hm
 subst e
 cases r3
 exact wpAny_truthy_bool ⟨H3, I3, q3⟩
noncomputable def tChain (r r' : R2) (ta tb tc : TE) : TE := fun σ H Q => ta σ H fun x H1 => tb σ H1 fun y H2 => r x y H2 fun z H3 => ∃ k, z = .bl k ∧
 (if k = true then tc σ H3 fun w' H4 => r' y w' H4 Q else Q (.bl false) H3)
theorem pe_chain {op op' : CmpOp} {r r' : R2} (ho : OpR X (compareOp op) r) (ho' : OpR X (compareOp op') r') (ha : PE X a ta) (hb : PE X b tb) (hc : PE X c tc)
  (hm : lastMarks [op, op'] [b, c] = false := by with_unfolding_all rfl) : PE X (.Compare a [op, op'] [b, c] pos) (tChain r r' ta tb tc) := by
 intro pins s σ H Q I h
 refine Compare_chain (thn (ha pins s σ H _ I h) fun v s1 ⟨x, H1, I1, r1, q1⟩ => chain_link (thn (hb pins s1 σ H1 _ I1 q1) fun u s2 ⟨y, H2, I2, r2, q2⟩ =>
  thn (ho pins s2 σ H2 x y v u _ I2 r1 r2 q2) fun d s3 ⟨z, H3, I3, r3, k, e, q3⟩ => ?_)) hm
 subst e
 cases r3
 refine wpAny_truthy_bool ?_
 cases k with
 | false => exact ite_ff ⟨.bl false, H3, I3, rfl, q3⟩
 | true => exact ite_tt (chain_last (thn (hc pins s3 σ H3 _ I3 q3) fun w' s4 ⟨z', H4, I4, r4, q4⟩ => ho' pins s4 σ H4 y z' u w' Q I4 r2 r4 q4))
theorem line63 : (sizeLine : Nat) < 2 ^ 63 := by rw [sizeLine_eq]; decide
theorem vals1 {x : V} {us : List Value} (r : Vals [x] us) : ∃ u, us = [u] ∧ RelV x u := by
 cases r with
 | cons r1 r2 => cases r2; exact ⟨_, rfl, r1⟩
theorem call_int1 : CallR X (.type "int") (fun xs H Q => (∃ i, xs = [.int i] ∧ Q (.int i) H) ∨ ∃ k, xs = [.bl k] ∧ Q (.int (if k then 1 else 0)) H) := by
 intro pins s σ H xs us Q I r h
 rcases h with ⟨i, rfl, q⟩ | ⟨k, rfl, q⟩
 ·obtain ⟨u, rfl, t, rfl⟩ := vals1 r
  exact call_int_int ⟨.int i, H, I, ⟨_, rfl⟩, q⟩
 ·obtain ⟨u, rfl, r1⟩ := vals1 r
  cases r1
  exact call_int_bool ⟨.int (if k then 1 else 0), H, I.tok _, ⟨_, rfl⟩, q⟩
end
end L2
namespace L2
open PySem PySem.Spec PyProof.Rows
structure ObjM (h : Heap) (x dx C : Addr) (mA : Str → Option Value) : Prop where
 obj : h.get? x = some (PySem.W.instObj C dx)
 ns : h.Ns1 dx mA
 ne : dx ≠ x
theorem lookIn_ns {h : Heap} {dx : Addr} {mA : Str → Option Value} (n : h.Ns1 dx mA) : ∃ od, h.get? dx = some od ∧ ∀ name, PySem.W.lookIn name od = some (mA name) := by
 obtain ⟨o, es, ep, ho, hd, hk, _, hm⟩ := n
 refine ⟨o, ho, fun name => ?_⟩
 have e := hm name
 unfold nsFind findBy at e
 rw [← Array.find?_toList] at e
 unfold PySem.W.lookIn
 rw [hd]
 dsimp only
 split
 ·rename_i y q
  rw [q] at e
  exact congrArg some e
 ·rename_i q
  rw [q] at e
  have a : es.toList.any (·.refKey) = false := by
   rw [List.any_eq_false]
   intro y hy
   obtain ⟨z, t, hkey⟩ := hk y (Array.mem_toList_iff.mp hy)
   simp [DictEntry.refKey, hkey]
  have a' : ¬ es.toList.any (·.refKey) = true := by rw [a]; exact Bool.false_ne_true
  rw [if_neg a']
  exact congrArg some e
theorem ObjM.look {h : Heap} {x dx C : Addr} {mA : Str → Option Value} (I : ObjM h x dx C mA) : ∃ od, PySem.W.InstAt h x (PySem.W.instObj C dx) C (some od) ∧ ∀ name, PySem.W.lookIn name od = some (mA name) :=
 let ⟨od, ho, hl⟩ := lookIn_ns I.ns
 ⟨od, ⟨I.obj, rfl, rfl, ho⟩, hl⟩
section
variable {prog : Program} {w : World} {A : Around} {E : Value → Shared → Prop} {s : Shared} {K : PySem.W.Frag} {x dx C f : Addr} {mA : Str → Option Value} {name : Str} {v : Value}
end
theorem RelO.some_of {v : V} {o : Option Value} (r : RelO (some v) o) : ∃ u, o = some u ∧ RelV v u := by
 cases o with
 | none => exact (show False from r).elim
 | some u => exact ⟨u, rfl, r⟩
section
variable {P : Program} {w : World} {H H' : Hp} {h h' : Heap} {a C dx : Addr} {fs fs' : List (Str × V)}
theorem ins_get (hok : HOk P w H h) (e : H a = some (.ins C dx fs)) : ∃ mA, ObjM h a dx C mA ∧ (∀ f, RelO (fs.lookup f) (mA f)) ∧ PySem.Within mA (fs.map (·.1)) ∧ fs.length ≤ 1000 ∧ H dx = some (.own a) := by
 obtain ⟨d, z, ne, ob, mA, n, r, q⟩ := (show ObjOk P w H h a (.ins C dx fs) from hok a _ e)
 exact ⟨mA, ⟨ob, n, ne⟩, r, q, z, d⟩
end
structure Cls (K : PySem.W.Frag) (C : Addr) : Prop where
 pg : PySem.W.plainGet K C Str.empty = true
 hd : PySem.W.hasDictIn K C = true
 po : PySem.W.plainOver K C = true
 sa : PySem.W.findIn K (.ref C) "__setattr__" = some (some (.builtin "object.__setattr__"))
theorem Cls.get {K : PySem.W.Frag} {C : Addr} (c : Cls K C) (f : Str) : PySem.W.plainGet K C f = true := c.pg
structure Con (K : PySem.W.Frag) (C : Addr) (f : Str) (v : V) (u : Value) : Prop where
 at_ : PySem.W.findIn K (.ref C) f = some (some u)
 rel : RelV v u
 get : PySem.W.specialIn K u "__get__" = some none
 cp : PySem.W.copiedNames.contains f = false
structure Meth (K : PySem.W.Frag) (C : Addr) (m : Str) (f : Addr) : Prop where
 at_ : PySem.W.findIn K (.ref C) m = some (some (.ref f))
 fn : PySem.W.isFn K (.ref f) = true
 kp : PySem.W.keepIn K (.ref f) = true
section
variable {X : Cx} {pins : List (Addr × Obj)} {σ : St} {H : Hp} {s : Shared} {a C dx : Addr} {fs : List (Str × V)} {f : Str} {v : V} {A : Around} {E : Value → Shared → Prop}
theorem Inv.made (I : Inv X pins σ H s) : Inv X pins σ (upd (upd H s.heap.objs.size (.own (s.heap.objs.size + 1))) (s.heap.objs.size + 1) (.ins C s.heap.objs.size []))
  { s with heap := (s.heap.push PySem.W.emptyDict).push (PySem.W.instObj C s.heap.objs.size) } := by
 have e1 : (s.heap.push PySem.W.emptyDict).get? s.heap.objs.size = some PySem.W.emptyDict := Heap.get?_push_size s.heap rfl
 have e2 : ((s.heap.push PySem.W.emptyDict).push (PySem.W.instObj C s.heap.objs.size)).get? (s.heap.objs.size + 1) = some (PySem.W.instObj C s.heap.objs.size) := by
  have := Heap.get?_push_size (s.heap.push PySem.W.emptyDict) (o := PySem.W.instObj C s.heap.objs.size) rfl
  rwa [Heap.size_push] at this
 have e3 : (s.heap.push PySem.W.emptyDict).Ns s.heap.objs.size (fun _ => none) := ⟨PySem.W.emptyDict, #[], _, e1, rfl, (fun e he => absurd he (by simp)), fun _ => rfl⟩
 have I1 := I.laid (a := s.heap.objs.size) (o := .own (s.heap.objs.size + 1)) (h' := s.heap.push PySem.W.emptyDict) (t' := s.toks) (fun b u q => Heap.get?_push_of_some _ q) (Nat.le_refl _) ⟨_, e1⟩
 refine I1.laid (a := s.heap.objs.size + 1) (o := .ins C s.heap.objs.size []) (t' := s.toks) (fun b u q => Heap.get?_push_of_some _ q) (Nat.le_of_eq (Heap.size_push _ _)) ?_
 have ne : s.heap.objs.size ≠ s.heap.objs.size + 1 := Nat.ne_of_lt (Nat.lt_succ_self _)
 refine ⟨by rw [upd_ne ne, upd_same], Nat.zero_le _, ne, e2, fun _ => none, (Heap.Ns1.of_empty e3).at fun o q => Heap.get?_push_of_some _ q, fun _ => True.intro, fun y hy => absurd rfl hy⟩
end
section
variable {X : Cx} {o e value : Expr} {f : Str} {pos pos' tpos : Pos} {ta tv : TE}
end
section
variable {X : Cx} {pins : List (Addr × Obj)} {σ : St} {H : Hp} {s : Shared} {A : Around} {E : Value → Shared → Prop} {Q : Value → Shared → Prop} {c : Value} {b : Bool}
inductive TyOf (K : PySem.W.Frag) (H : Hp) : V → Value → Prop where
 | non : TyOf K H .non (.type "NoneType")
 | bl (x : Bool) : TyOf K H (.bl x) (.type "bool")
 | int (i : Int) : TyOf K H (.int i) (.type "int")
 | str (x : Str) : TyOf K H (.str x) (.type "str")
 | flt (x : UInt64) : TyOf K H (.flt x) (.type "float")
 | lst {a : Addr} {xs : List V} (e : H a = some (.lst xs)) : TyOf K H (.ref a) (.type "list")
 | frz {a : Addr} {o : Obj} {xs : List V} (e : H a = some (.frz o (.lst xs))) : TyOf K H (.ref a) (.type "list")
 | tup {a : Addr} {xs : List V} (e : H a = some (.tup xs)) : TyOf K H (.ref a) (.type "tuple")
 | dK {a : Addr} {kvs : List (Key × V)} (e : H a = some (.dK kvs)) : TyOf K H (.ref a) (.type "dict")
 | dT {a : Addr} {kvs : List (List Key × V)} (e : H a = some (.dT kvs)) : TyOf K H (.ref a) (.type "dict")
 | ins {a C dx : Addr} {fs : List (Str × V)} (e : H a = some (.ins C dx fs)) (cl : Cls K C) (ha : PySem.W.findIn K (.ref C) "__class__" = some (some (.builtin "object.__class__")))
   (hn : PySem.W.specialIn K (.builtin "object.__class__") "__get__" = some (some (.builtin "getset_descriptor.__get__"))) (htk : PySem.W.takesIn K (.builtin "object.__class__") = some true)
   (hm : PySem.W.mroIn K C (.type "object") = some true) : TyOf K H (.ref a) (.ref C)
theorem isinst_ok {x : V} {u t : Value} (I : Inv X pins σ H s) (rx : RelV x u) (ty : TyOf X.K H x t) (e : PySem.W.kitOne X.K t c = some b) (h : ∀ tk, Q (.bool b) { s with toks := tk }) :
  wpAny (model X.prog X.w) A (call (.builtin "isinstance") [u, c]) Q E s := by
 cases ty with
 | non => cases (show u = Value.none from rx); exact PySem.W.kia_one PySem.W.kitx_none I.kIn True.intro e (fun z => nomatch z) h
 | bl y => cases (show u = Value.bool y from rx); exact PySem.W.kia_one PySem.W.kitx_bool I.kIn True.intro e (fun z => nomatch z) h
 | int i => obtain ⟨t, q⟩ := (show ∃ t, u = Value.int i t from rx); cases q; exact PySem.W.kia_one PySem.W.kitx_int I.kIn True.intro e (fun z => nomatch z) h
 | str y => obtain ⟨t, q⟩ := (show ∃ t, u = Value.str y t from rx); cases q; exact PySem.W.kia_one PySem.W.kitx_str I.kIn True.intro e (fun z => nomatch z) h
 | flt y => obtain ⟨t, q⟩ := (show ∃ t, u = Value.float y t from rx); cases q; exact PySem.W.kia_one PySem.W.kitx_float I.kIn True.intro e (fun z => nomatch z) h
 | @lst a xs ea =>
  cases (show u = Value.ref a from rx)
  obtain ⟨_, _, n, _, h1⟩ := (show ObjOk X.prog X.w H s.heap a (.lst xs) from I.hok a _ ea)
  exact PySem.W.kia_one PySem.W.kitx_list I.kIn ⟨_, h1, rfl⟩ e (fun z => nomatch z) h
 | @frz a ob xs ea =>
  cases (show u = Value.ref a from rx)
  obtain ⟨_, _, _, n, _, h1⟩ := (show ObjOk X.prog X.w H s.heap a (.frz ob (.lst xs)) from I.hok a _ ea)
  exact PySem.W.kia_one PySem.W.kitx_list I.kIn ⟨_, h1, rfl⟩ e (fun z => nomatch z) h
 | @tup a xs ea =>
  cases (show u = Value.ref a from rx)
  obtain ⟨_, _, _, p⟩ := (show ObjOk X.prog X.w H s.heap a (.tup xs) from I.hok a _ ea)
  obtain ⟨o, h1, h2, _⟩ := p
  exact PySem.W.kia_one PySem.W.kitx_tuple I.kIn ⟨o, h1, h2⟩ e (fun z => nomatch z) h
 | @dK a kvs ea =>
  cases (show u = Value.ref a from rx)
  obtain ⟨_, _, vs, _, p⟩ := (show ObjOk X.prog X.w H s.heap a (.dK kvs) from I.hok a _ ea)
  obtain ⟨o, es, ep, h1, h2, _⟩ := p
  exact PySem.W.kia_one PySem.W.kitx_dict I.kIn ⟨o, h1, h2.1⟩ e (fun z => nomatch z) h
 | @dT a kvs ea =>
  cases (show u = Value.ref a from rx)
  obtain ⟨_, _, xs, _, o, es, ep, h1, h2, _⟩ := (show ObjOk X.prog X.w H s.heap a (.dT kvs) from I.hok a _ ea)
  exact PySem.W.kia_one PySem.W.kitx_dict I.kIn ⟨o, h1, h2.1⟩ e (fun z => nomatch z) h
 | @ins a C dx fs ea cl ha hn htk hm =>
  cases (show u = Value.ref a from rx)
  obtain ⟨mA, O, _⟩ := ins_get I.hok ea
  obtain ⟨od, J, _⟩ := O.look
  exact PySem.W.kia_one (PySem.W.kitx_own (cl.get _) cl.hd ha hn htk hm) I.kIn J e (fun z => nomatch z) h
end
end L2
namespace L2
open PySem PySem.Spec PyProof.Rows
structure Room (k : Nat) (A : Around) : Prop where
 hd : A.handled = none
 dp : A.depth + 3 * k + 5 < recursionLimit
 un : A.units + 16 * k + 200 < cLine
 gd : A.guards = some []
theorem Room.mono {j k : Nat} {A : Around} (r : Room k A) (h : j ≤ k) : Room j A := ⟨r.hd, by have := r.dp; omega, by have := r.un; omega, by first | exact r.gd | (simp [Around.under, Code.guards, Code.isGuard, guardIds]; exact r.gd)⟩
theorem Room.deeper {k : Nat} {A : Around} (r : Room (k + 1) A) (env : Env) : Room k (A.deeper env) :=
 ⟨r.hd, by have := r.dp; show A.depth + 1 + 3 * k + 5 < _; omega, by have := r.un; show A.units + 3 + 16 * k + 200 < _; omega, by first | exact r.gd | (simp [Around.under, Code.guards, Code.isGuard, guardIds]; exact r.gd)⟩
theorem Room.in1 {k : Nat} {A : Around} (r : Room (k + 1) A) : Room k A.in1 :=
 ⟨r.hd, by have := r.dp; show A.depth + 3 * k + 5 < _; omega, by have := r.un; show A.units + 1 + 16 * k + 200 < _; omega, by first | exact r.gd | (simp [Around.under, Code.guards, Code.isGuard, guardIds]; exact r.gd)⟩
theorem Room.depth {k : Nat} {A : Around} (r : Room k A) : A.depth < recursionLimit := by have := r.dp; omega
theorem Room.units {k : Nat} {A : Around} (r : Room k A) : A.units + 64 < cLine := by have := r.un; omega
noncomputable def tNil : TA := fun _ H Q => Q [] H
noncomputable def tCons (ta : TE) (tr : TA) : TA := fun σ H Q => ta σ H fun x H1 => tr σ H1 fun xs H2 => Q (x :: xs) H2
section
variable {X : Cx} {e : Expr} {es : List Expr} {te : TE} {t : TA} {pos : Pos}
theorem pa_nil : PA X [] tNil := fun _ _ _ _ H Q I h => Calls.spliced_nil ⟨[], H, I, .nil, h⟩
theorem pa_cons (ha : PE X e te) (hr : PA X es t) (hs : starEach (e :: es) X.env = (false, eval e X.env) :: starEach es X.env := by rfl) : PA X (e :: es) (tCons te t) := by
 intro pos pins s σ H Q I h
 rw [hs]
 show wpAny _ _ (spliced ((false, eval e X.env) :: backTo pos (starEach es X.env))) _ _ s
 refine Calls.spliced_cons (thn (ha pins s σ H _ I h) fun u s1 ⟨x, H1, I1, r1, q1⟩ => ?_)
 exact thn (hr pos pins s1 σ H1 _ I1 q1) fun us s2 ⟨xs, H2, I2, r2, q2⟩ => ⟨x :: xs, H2, I2, .cons r1 r2, q2⟩
noncomputable def tLst (t : TA) : TE := fun σ H Q => t σ H fun xs H1 => xs.length ≤ sizeLine ∧ ∀ p, H1 p = none → Q (.ref p) (upd H1 p (.lst xs))
end
noncomputable abbrev Sp := List V → Hp → VK → XK → Prop
noncomputable abbrev CXT := List Env → Hp → Shared → XK → Value → Shared → Prop
structure Env0 (P : Program) (w : World) (K : PySem.W.Frag) (mg : Str → Option Value) (base : Heap) (A : Around) (outer : List Env) (s : Shared) (H : Hp) : Prop where
 frames : A.frames = some outer
 mod : Mod K mg base
 bs : ∀ b o, base.get? b = some o → s.heap.get? b = some o ∧ H b = none
 bsz : base.objs.size ≤ s.heap.objs.size
 funs : s.heap.FunFrames base outer
 frf : ∀ b ∈ frs outer, H b = none
 hok : HOk P w H s.heap
 bare : AllBare s.gens
noncomputable def CE (outer : List Env) (P : Program) (w : World) (H : Hp) (s : Shared) (Q : VK) (u : Value) (s' : Shared) : Prop :=
 ∃ v H', s'.os = s.os ∧ AllBare s'.gens ∧ Un (frs outer) [] H H' s.heap s'.heap ∧ HOk P w H' s'.heap ∧ RelV v u ∧ Q v H'
noncomputable def CR (CX : CXT) (outer : List Env) (P : Program) (w : World) (H : Hp) (s : Shared) (Q : VK) (E : XK) (r : Result) (s' : Shared) : Prop :=
 match r with
 | .ok (.ret u) => CE outer P w H s Q u s'
 | .ok _ => False
 | .error e => CX outer H s E e s'
structure FnOk (P : Program) (w : World) (K : PySem.W.Frag) (mg : Str → Option Value) (base : Heap) (CX : CXT) (k : Nat) (f : Addr) (fd : FuncData) (ps : List Str) (sp : Sp) : Prop where
 len : ∀ vs H Q E, sp vs H Q E → vs.length = ps.length
 run : ∀ (A : Around) (outer : List Env) (s : Shared) (H : Hp) (args : Args) (us : List Value) (vs : List V) (Q : VK) (E : XK), Room k A → Env0 P w K mg base A outer s H → BindsTo s fd args (ps.zip us) → Vals vs us → sp vs H Q E →
  codeAny (model P w) A (.call (.ref f) args) (CR CX outer P w H s Q E) s
theorem FnOk.mono {P : Program} {w : World} {K : PySem.W.Frag} {mg : Str → Option Value} {base : Heap} {CX : CXT} {j k : Nat} {f : Addr} {fd : FuncData} {ps : List Str} {sp : Sp} (F : FnOk P w K mg base CX j f fd ps sp) (h : j ≤ k) :
  FnOk P w K mg base CX k f fd ps sp := ⟨F.len, fun A outer s H args us vs Q E hr => F.run A outer s H args us vs Q E (hr.mono h)⟩
theorem FnOk.imp {P : Program} {w : World} {K : PySem.W.Frag} {mg : Str → Option Value} {base : Heap} {CX : CXT} {k : Nat} {f : Addr} {fd : FuncData} {ps : List Str} {sp sp' : Sp} (F : FnOk P w K mg base CX k f fd ps sp)
  (h : ∀ vs H Q E, sp' vs H Q E → sp vs H Q E) : FnOk P w K mg base CX k f fd ps sp' :=
 ⟨fun vs H Q E q => F.len vs H Q E (h _ _ _ _ q), fun A outer s H args us vs Q E hr he hb hv hs => F.run A outer s H args us vs Q E hr he hb hv (h _ _ _ _ hs)⟩
theorem Env0.in1 {P : Program} {w : World} {K : PySem.W.Frag} {mg : Str → Option Value} {base : Heap} {A : Around} {outer : List Env} {s : Shared} {H : Hp} (e : Env0 P w K mg base A outer s H) :
  Env0 P w K mg base A.in1 outer s H := ⟨e.frames, e.mod, e.bs, e.bsz, e.funs, e.frf, e.hok, e.bare⟩
section
variable {X : Cx} {pins : List (Addr × Obj)} {σ : St} {H : Hp} {s s' : Shared}
theorem Inv.env0 (I : Inv X pins σ H s) : Env0 X.prog X.w X.K X.mg X.base X.A X.stack s H :=
 ⟨I.ok.frames, I.ok.mod, I.bs, Nat.le_trans I.ok.bsz I.sz, I.stack, I.stkFree, I.hok, I.bare⟩
theorem Inv.after {Q : VK} {u : Value} (I : Inv X pins σ H s) (h : CE X.stack X.prog X.w H s Q u s') : EP X pins σ Q u s' := by
 obtain ⟨v, H', os, bare, un, hok, r, q⟩ := h
 obtain ⟨hh, g, d, t, os'⟩ := s'
 obtain rfl : os' = s.os := os
 exact ⟨v, H', I.call (h' := hh) (g' := g) (d' := d) (t' := t) (ch := []) un hok bare (fun b z => absurd z (by simp)), r, q⟩
end
noncomputable def tCall (sp : Sp) (dvs : List V) (E : XK) (t : TA) : TE := fun σ H Q => t σ H fun vs H1 => sp (vs ++ dvs) H1 Q E
noncomputable def Binds (K : PySem.W.Frag) (fd : FuncData) (ps : List Str) (ds : List Value) : Prop :=
 ∀ (s : Shared) (us : List Value), K.In s.heap → (us ++ ds).length = ps.length → BindsTo s fd ⟨us, []⟩ (ps.zip (us ++ ds))
theorem Binds.all {K : PySem.W.Frag} {fd : FuncData} {ps : List Str} (h : ∀ us : List Value, us.length = ps.length → bindArgs fd ⟨us, []⟩ = pure (ps.zip us)) : Binds K fd ps [] := fun s us _ hl => by
 rw [List.append_nil] at hl ⊢
 exact .of_eq (h us hl)
noncomputable def Passes (CX : CXT) (X : Cx) (E : XK) : Prop := ∀ (pins : List (Addr × Obj)) (σ : St) (H : Hp) (s : Shared) (e : Value) (s' : Shared), Inv X pins σ H s → CX X.stack H s E e s' → X.xe e s'
section
variable {X : Cx} {CX : CXT} {k : Nat} {f C : Addr} {fd : FuncData} {ps : List Str} {sp : Sp} {dvs : List V} {ds : List Value} {E : XK} {x m : Str} {p pos apos : Pos} {e o : Expr} {es : List Expr} {ta : TE} {t : TA}
theorem run_fn {pins : List (Addr × Obj)} {σ : St} {H : Hp} {s : Shared} {Q : VK} {us : List Value} {vs : List V} (F : FnOk X.prog X.w X.K X.mg X.base CX k f fd ps sp) (hr : Room k X.A) (hb : Binds X.K fd ps ds) (hd : Vals dvs ds) (hx : Passes CX X E)
  (I : Inv X pins σ H s) (r : Vals vs us) (h : sp (vs ++ dvs) H Q E) : wpAny (model X.prog X.w) X.A (call (.ref f) us) (EP X pins σ Q) X.xe s := by
 have r2 : Vals (vs ++ dvs) (us ++ ds) := r.append hd
 have hl : (us ++ ds).length = ps.length := by rw [← r2.length]; exact F.len _ _ _ _ h
 refine wpAny_call (codeAny_mono (F.run X.A X.stack s H ⟨us, []⟩ (us ++ ds) (vs ++ dvs) Q E hr I.env0 (hb s us I.kIn hl) r2 h) fun r s' hq => ?_)
 cases r with
 | error e => exact hx pins σ H s e s' I hq
 | ok fl =>
  cases fl with
  | ret u => exact I.after hq
  | next => exact False.elim hq
  | brk => exact False.elim hq
  | cont => exact False.elim hq
theorem pe_call (F : FnOk X.prog X.w X.K X.mg X.base CX k f fd ps sp) (hr : Room k X.A) (hg : Gl X x) (hm : X.mg x = some (.ref f)) (hk : PySem.W.keepIn X.K (.ref f) = true) (hb : Binds X.K fd ps ds) (hd : Vals dvs ds) (hx : Passes CX X E)
  (ha : PA X (e :: es) t) (hdb : (x == ("__debug__" : Str)) = false := by decide) (he : starEach (e :: es) X.env = (false, eval e X.env) :: starEach es X.env := by rfl) (hpl : (backTo pos (starEach es X.env)).any (·.1) = false := by rfl) :
  PE X (.Call (.Name x p) (e :: es) [] pos) (tCall sp dvs E t) := by
 intro pins s σ H Q I h
 refine wpAny_Call_Name_kw (ld_glob I hg hm ?_ hdb)
 refine PySem.W.callWith_K (h₀ := X.base) I.ok.mod.kin hk (thn (ha pos pins s σ H _ I h) fun us s1 ⟨vs, H1, I1, r, q⟩ => ⟨I1.kIn, ?_⟩) he hpl
 exact run_fn F hr hb hd hx I1 r q
structure Mk (K : PySem.W.Frag) (C f : Addr) : Prop where
 makes : PySem.W.makesIn K C = true
 init : PySem.W.findIn K (.ref C) "__init__" = some (some (.ref f))
 fn : PySem.W.isFn K (.ref f) = true
 kp : PySem.W.keepIn K (.ref C) = true
end
section
variable {X : Cx} {CX : CXT} {k : Nat} {f C : Addr} {fd : FuncData} {ps ks : List Str} {sp : Sp} {E : XK} {x m : Str} {p pos apos kpos : Pos} {e o : Expr} {es : List Expr} {kws : List Keyword} {te ta : TE} {t tk : TA} {nm : Option Str}
structure KBinds (K : PySem.W.Frag) (fd : FuncData) (ps ks : List Str) (g : List Value → List Value → List Value) (gV : List V → List V → List V) : Prop where
 to : ∀ (s : Shared) (us ws : List Value), K.In s.heap → (g us ws).length = ps.length → BindsTo s fd ⟨us, ks.zip ws⟩ (ps.zip (g us ws))
 rel : ∀ {vs : List V} {us : List Value} {zs : List V} {ws : List Value}, Vals vs us → Vals zs ws → Vals (gV vs zs) (g us ws)
variable {g : List Value → List Value → List Value} {gV : List V → List V → List V}
end
structure FnScope (N P : List Str) (sc : Scope) : Prop where
 kind : sc.kind = .function
 co : sc.isCoroutine = false
 gen : sc.isGenerator = false
 nd : N.Nodup
 pre : N.take P.length = P
 par : ∀ x ∈ P, sc.names.lookup x = some .local ∨ sc.names.lookup x = some .cell
 nofree : ∀ y ∈ sc.names, y.2 ≠ .free
theorem bindL_out {kindOf : Str → Option NameKind} {x : Str} : ∀ {binds : List (Str × Value)} {m : Str → Option Value}, (∀ v, (x, v) ∉ binds) → bindL kindOf binds m x = m x
 | [], _, _ => rfl
 | (n, v) :: r, m, h => by
  unfold bindL
  rw [bindL_out fun w hw => h w (List.mem_cons_of_mem _ hw)]
  split
  ·have : x ≠ n := by rintro rfl; exact h v List.mem_cons_self
   simp [this]
  ·rfl
theorem bindC_out {kindOf : Str → Option NameKind} {x : Str} : ∀ {binds : List (Str × Value)} {m : Str → Option Value}, (∀ v, (x, v) ∉ binds) → bindC kindOf binds m x = m x
 | [], _, _ => rfl
 | (n, v) :: r, m, h => by
  unfold bindC
  rw [bindC_out fun w hw => h w (List.mem_cons_of_mem _ hw)]
  split
  ·rfl
  ·have : x ≠ n := by rintro rfl; exact h v List.mem_cons_self
   simp [this]
theorem bindL_get {kindOf : Str → Option NameKind} {x : Str} {v : Value} : ∀ {P : List Str} {vs : List Value} {i : Nat} {m : Str → Option Value}, P.Nodup → P[i]? = some x → vs[i]? = some v → kindOf x = some .local →
  bindL kindOf (P.zip vs) m x = some v
 | [], _, _, _, _, h, _, _ => by simp at h
 | _ :: _, [], _, _, _, _, h, _ => by simp at h
 | p :: P, w :: vs, 0, m, nd, h1, h2, hk => by
  simp at h1 h2; subst h1; subst h2
  show bindL kindOf ((p, w) :: P.zip vs) m p = _
  unfold bindL
  rw [bindL_out fun v hv => (List.nodup_cons.mp nd).1 (List.of_mem_zip hv).1, if_pos hk]
  simp
 | p :: P, w :: vs, i + 1, m, nd, h1, h2, hk => by
  show bindL kindOf ((p, w) :: P.zip vs) m x = _
  unfold bindL
  exact bindL_get (i := i) (List.nodup_cons.mp nd).2 (by simpa using h1) (by simpa using h2) hk
theorem bindC_get {kindOf : Str → Option NameKind} {x : Str} {v : Value} : ∀ {P : List Str} {vs : List Value} {i : Nat} {m : Str → Option Value}, P.Nodup → P[i]? = some x → vs[i]? = some v → kindOf x ≠ some .local →
  bindC kindOf (P.zip vs) m x = some v
 | [], _, _, _, _, h, _, _ => by simp at h
 | _ :: _, [], _, _, _, _, h, _ => by simp at h
 | p :: P, w :: vs, 0, m, nd, h1, h2, hk => by
  simp at h1 h2; subst h1; subst h2
  show bindC kindOf ((p, w) :: P.zip vs) m p = _
  unfold bindC
  rw [bindC_out fun v hv => (List.nodup_cons.mp nd).1 (List.of_mem_zip hv).1, if_neg hk]
  simp
 | p :: P, w :: vs, i + 1, m, nd, h1, h2, hk => by
  show bindC kindOf ((p, w) :: P.zip vs) m x = _
  unfold bindC
  exact bindC_get (i := i) (List.nodup_cons.mp nd).2 (by simpa using h1) (by simpa using h2) hk
noncomputable def start (N : List Str) (vs : List V) : St := vs.map some ++ List.replicate (N.length - vs.length) none
noncomputable def cxOf (CX : CXT) (P : Program) (w : World) (K : PySem.W.Frag) (mg : Str → Option Value) (base : Heap) (N : List Str) (qual : Str) (scope : Scope) (f : Addr) (cd : Value) (A : Around) (outer : List Env) (s : Shared) (H : Hp) (E : XK) : Cx where
 prog := P
 w := w
 K := K
 mg := mg
 base := base
 A := A.deeper (envOfC qual scope s.heap.objs.size f cd)
 N := N
 s₀ := s
 H₀ := H
 env := envOfC qual scope s.heap.objs.size f cd
 outer := outer
 stack := envOfC qual scope s.heap.objs.size f cd :: outer
 ex := []
 calm := true
 fn := fun _ => true
 pn := []
 xe := fun e s' => wpAny (model P w) (A.deeper (envOfC qual scope s.heap.objs.size f cd)) (leaving (envOfC qual scope s.heap.objs.size f cd) e) (fun _ s'' => CX outer H s E e s'') (fun e' s'' => CX outer H s E e' s'') s'
theorem cell_has {sc : Scope} {n : Nat} {x : Str} (h : sc.names.lookup x = some .cell) : ∃ c, (cellsFrom n sc.names []).lookup x = some c := by
 have q := PySem.W.cellsFrom_some sc.names n [] (.inl h)
 exact Option.isSome_iff_exists.mp q
theorem inv_start {CX : CXT} {P : Program} {w : World} {K : PySem.W.Frag} {mg : Str → Option Value} {base : Heap} {N ps : List Str} {qual : Str} {scope : Scope} {f : Addr} {cd : Value} {A : Around} {outer : List Env} {s s1 : Shared} {H : Hp} {E : XK} {us : List Value} {vs : List V}
  (S : FnScope N ps scope) (hd : A.handled = none) (e0 : Env0 P w K mg base A outer s H) (hl : vs.length = ps.length) (r : Vals vs us)
  (x : InCallC s s.heap.objs.size (bindL (envOfC qual scope s.heap.objs.size f cd).kindOf (ps.zip us) fun _ => none) (cellsFrom (s.heap.objs.size + 1) scope.names []) (bindC (envOfC qual scope s.heap.objs.size f cd).kindOf (ps.zip us) fun _ => none) s1) :
  Inv (cxOf CX P w K mg base N qual scope f cd A outer s H E) [] (start N vs) H s1 := by
 have hpl : ps.length ≤ N.length := by have := congrArg List.length S.pre; rw [List.length_take] at this; omega
 obtain ⟨h1, tk, rfl, hk⟩ := x.done
 have noA : ∀ b : Addr, b ∉ (cxOf CX P w K mg base N qual scope f cd A outer s H E).ex := fun b z => absurd (show b ∈ ([] : List Addr) from z) (by simp)
 refine ⟨⟨e0.mod, S.kind, rfl, rfl, Nat.le_refl _, fun y z c h1 h2 => ?_, fun y hy => ?_, fun y c _ h => ?_, fun _ => hd, Around.frames_deeper e0.frames, .inr ⟨rfl, rfl⟩, fun b z => absurd z (noA b), e0.bs, e0.bsz, fun b _ _ => noA b, fun b z => absurd z (noA b), e0.funs, e0.frf⟩,
  rfl, e0.bare, Un.kept hk, ⟨_, x.toInCall.ns, fun i y v h1 h2 h3 => ?_⟩, fun y c h => ⟨_, x.cell y c h⟩, e0.hok.fresh (Nat.le_refl _), fun y c h => ?_, fun p hp => absurd (show p ∈ ([] : List (Addr × Obj)) from hp) (by simp), e0.hok.kept hk, ?_⟩
 ·exact name_of_addr x.apart (PySem.mem_of_lookup h1) (PySem.mem_of_lookup h2)
 ·have hy : scope.names.lookup y = some .cell ∨ scope.names.lookup y = some .free := hy
  rcases hy with hy | hy
  ·exact cell_has hy
  ·exact absurd rfl (S.nofree _ (PySem.mem_of_lookup hy))
 ·exact Nat.le_of_lt (x.above y c (PySem.mem_of_lookup h))
 ·have hi : i < vs.length := by
   unfold start at h2
   by_cases hi : i < vs.length
   ·exact hi
   ·rw [List.getElem?_append_right (by simpa using hi)] at h2
    rw [List.getElem?_replicate] at h2
    split at h2 <;> cases h2
  have ha : vs[i]? = some v := by
   unfold start at h2
   rw [List.getElem?_append_left (by simpa using hi), List.getElem?_map] at h2
   cases e : vs[i]? with
   | none => rw [e] at h2; cases h2
   | some a => rw [e] at h2; cases h2; rfl
  obtain ⟨u, hu, rv⟩ := r.get ha
  have hp : ps[i]? = some y := by
   rw [← S.pre, List.getElem?_take_of_lt (by omega)]; exact h1
  have ndP : ps.Nodup := by rw [← S.pre]; exact S.nd.sublist (List.take_sublist _ _)
  refine ⟨u, rv, ?_⟩
  rcases S.par y (List.mem_of_getElem? hp) with k | k
  ·exact .inl ⟨k, bindL_get ndP hp hu k⟩
  ·obtain ⟨c, e⟩ := cell_has (n := s.heap.objs.size + 1) k
   refine .inr ⟨.inl k, c, e, ?_⟩
   have q := x.cell y c e
   rw [bindC_get ndP hp hu (by show scope.names.lookup y ≠ _; rw [k]; decide)] at q
   exact q
 ·exact e0.hok.fresh (Nat.le_of_lt (x.above y c (PySem.mem_of_lookup h)))
 ·unfold start
  show _ = N.length
  rw [List.length_append, List.length_map, List.length_replicate]
  omega
theorem fn_of {CX : CXT} {P : Program} {w : World} {K : PySem.W.Frag} {mg : Str → Option Value} {base : Heap} {k : Nat} {f : Addr} {name qual : Str} {params : Arguments} {body : List Stmt} {scope : Scope} {dV kV doc pm cdv ct oc : Value} {an od : Option Addr}
  {osl : Array (Option Value)} {N ps : List Str} {sp : Sp} (lk : K.lookup f = some ⟨oc, od, .func (PySem.W.fnOf name qual params body scope dV kV doc pm an cdv ct), osl⟩) (hcd : PySem.W.codeIn K cdv qual = true) (S : FnScope N ps scope)
  (len : ∀ vs H Q E, sp vs H Q E → vs.length = ps.length)
  (hbody : ∀ (A : Around) (outer : List Env) (s : Shared) (H : Hp) (vs : List V) (Q : VK) (E : XK), Room k (A.deeper (envOfC qual scope s.heap.objs.size f cdv)) → sp vs H Q E →
   ∃ t, PSs (cxOf CX P w K mg base N qual scope f cdv A outer s H E) body t ∧ t { nx := fun _ H' => Q .non H', rt := Q } (start N vs) H) :
  FnOk P w K mg base CX (k + 1) f (PySem.W.fnOf name qual params body scope dV kV doc pm an cdv ct) ps sp := by
 refine ⟨len, fun A outer s H args us vs Q E hr e0 hb r hsp => ?_⟩
 have hl := len _ _ _ _ hsp
 have KX : K.In s.heap := e0.mod.kin.keeps fun b o e => (e0.bs b o e).1
 have lim : s.heap.NoLimit := e0.mod.nolimit.keeps fun b o e => (e0.bs b o e).1
 have hkind : ∀ y ∈ ps.zip us, scope.names.lookup y.1 = some .local ∨ (scope.names.lookup y.1 = some .cell ∧ ((cellsFrom (s.heap.objs.size + 1) scope.names []).lookup y.1).isSome = true) := fun ⟨n, v⟩ hy => by
  rcases S.par n (List.of_mem_zip hy).1 with q | q
  ·exact .inl q
  ·exact .inr ⟨q, PySem.W.cellsFrom_some _ _ _ (.inl q)⟩
 refine codeAny_call_function hr.depth (KX _ _ lk) rfl S.co S.gen rfl (PySem.W.codeRec_of KX hcd) (hb _ _ _ _ ?_)
 refine wpAny_newFunctionEnv_cells S.kind hkind fun env he s1 x => ?_
 subst he
 refine ⟨lim.keeps x.toInCall.keep, codeAny_func ?_⟩
 obtain ⟨t, ht, hq⟩ := hbody A outer s H vs Q E (hr.deeper _) hsp
 have I : Inv (cxOf CX P w K mg base N qual scope f cdv A outer s H E) [] (start N vs) H s1 := inv_start S hr.hd e0 hl r x
 refine wpAny_mono (ht [] s1 (start N vs) H _ I hq) (fun fl s' hs => ?_) fun e s' hs => hs
 have fin : ∀ {σ' : St} {H' : Hp} {v : V} {u : Value}, Inv (cxOf CX P w K mg base N qual scope f cdv A outer s H E) [] σ' H' s' → RelV v u → Q v H' → CE outer P w H s Q u s' :=
  fun {σ' H' v u} J rv q => ⟨v, H', J.os, J.bare, J.base, J.hok, rv, q⟩
 cases fl with
 | ret u =>
  obtain ⟨v, σ', H', J, rv, q⟩ := hs
  exact fin J rv q
 | next =>
  obtain ⟨σ', H', J, q⟩ := hs
  exact fin (v := V.non) (u := Value.none) J rfl q
 | brk =>
  obtain ⟨_, _, _, q⟩ := hs
  exact False.elim q
 | cont =>
  obtain ⟨_, _, _, q⟩ := hs
  exact False.elim q
end L2
namespace L2
open PySem PySem.Spec PyProof.Rows
section
variable {X : Cx} {x : Str} {p pos : Pos} {e : Expr} {es : List Expr} {t : TA} {id T : String} {r : List V → Hp → VK → Prop}
noncomputable def tCB (r : List V → Hp → VK → Prop) (t : TA) : TE := fun σ H Q => t σ H fun vs H1 => r vs H1 Q
theorem pe_callB (hc : CallR X (.builtin id) r) (hg : Gl X x) (hm : X.mg x = none) (hv : bootBuiltins x = some (.builtin id)) (ha : PA X (e :: es) t) (hn : x ≠ "__name__" := by decide) (hdb : (x == ("__debug__" : Str)) = false := by decide)
  (he : starEach (e :: es) X.env = (false, eval e X.env) :: starEach es X.env := by rfl) (hpl : (backTo pos (starEach es X.env)).any (·.1) = false := by rfl) : PE X (.Call (.Name x p) (e :: es) [] pos) (tCB r t) := by
 intro pins s σ H Q I h
 refine wpAny_Call_Name_kw (ld_blt I hg hm hv ?_ hn hdb)
 exact PyProof.Rows.callWith_builtin1 (thn (ha pos pins s σ H _ I h) fun us s1 ⟨vs, H1, I1, r1, q1⟩ => hc pins s1 σ H1 vs us Q I1 r1 q1) he hpl
theorem pe_callTy (hc : CallR X (.type T) r) (hg : Gl X x) (hm : X.mg x = none) (hv : bootBuiltins x = some (.type T)) (ha : PA X (e :: es) t) (hn : x ≠ "__name__" := by decide) (hdb : (x == ("__debug__" : Str)) = false := by decide)
  (he : starEach (e :: es) X.env = (false, eval e X.env) :: starEach es X.env := by rfl) (hpl : (backTo pos (starEach es X.env)).any (·.1) = false := by rfl) : PE X (.Call (.Name x p) (e :: es) [] pos) (tCB r t) := by
 intro pins s σ H Q I h
 refine wpAny_Call_Name_kw (ld_blt I hg hm hv ?_ hn hdb)
 exact PyProof.Rows.callWith_type1 (thn (ha pos pins s σ H _ I h) fun us s1 ⟨vs, H1, I1, r1, q1⟩ => hc pins s1 σ H1 vs us Q I1 r1 q1) he hpl
end
end L2
namespace HT
open PySem PyProof.Rows
noncomputable def lexLt : List Int → List Int → Bool
 | [], [] => false
 | [], _ :: _ => true
 | _ :: _, [] => false
 | x :: xs, y :: ys => if x = y then lexLt xs ys else decide (x < y)
theorem lexLt_cons (x y : Int) (xs ys : List Int) : lexLt (x :: xs) (y :: ys) = if x = y then lexLt xs ys else decide (x < y) := rfl
theorem lexLt_nil_nil : lexLt [] [] = false := rfl
section
open PySem.SeqAt
open PySem.AutoSeq1 (wpAny_loadPart')
open PySem.MeetsSeq PySem.MeetsSeq2 PySem.MeetsSeq3
end
section
variable {prog : Program} {w : World} {A : Around} {E : Value → Shared → Prop} {s : Shared}
theorem cat_tup {t b : Addr} {vs ws : List Value} {Q : Value → Shared → Prop} (ht : IsTup s.heap t vs.toArray) (hb : IsTup s.heap b ws.toArray) (hv : vs ≠ [])
  (h1 : ws = [] → Q (.ref t) s) (h2 : ws ≠ [] → Q (.ref s.heap.objs.size) { s with heap := s.heap.push { cls := .type "tuple", data := .seq (vs ++ ws).toArray } })
  (hsz : vs.length + ws.length ≤ sizeLine) : wpAny (model prog w) A (binaryOp .Add (.ref t) (.ref b)) Q E s := by
 obtain ⟨⟨cls, dd, data, sl⟩, ho, hc, n, hd⟩ := id ht
 obtain ⟨⟨cls2, dd2, data2, sl2⟩, ho2, hc2, n2, hd2⟩ := id hb
 simp only at hc hd hc2 hd2
 subst hc hd hc2 hd2
 have e : vs.toArray ++ ws.toArray = (vs ++ ws).toArray := by simp
 by_cases hw : ws = []
 ·exact concat_meets ⟨_, ho, rfl⟩ ⟨_, ho2, rfl⟩ noFill_tuple_add seq_tuple_add PySem.F.slot_tuple_add PySem.F.entry_tuple_add (PySem.F.args_tuple_add_2 _ _)
   (tuple_addW1 t b vs.toArray ws.toArray n n2 dd dd2 sl sl2 (by simpa using hv) (by simp [hw])) ⟨ho, ho2, h1 hw⟩
 ·refine concat_meets ⟨_, ho, rfl⟩ ⟨_, ho2, rfl⟩ noFill_tuple_add seq_tuple_add PySem.F.slot_tuple_add PySem.F.entry_tuple_add (PySem.F.args_tuple_add_2 _ _)
   (tuple_addW2 t b vs.toArray ws.toArray n n2 dd dd2 sl sl2 (by simpa using hv) (by simpa using hw) (by rw [List.size_toArray, List.size_toArray]; exact hsz)) ⟨ho, ho2, ?_⟩
  rw [e]
  exact h2 hw
noncomputable def sIx (n d : Nat) : Option Int → Nat
 | none => d
 | some v => if v < 0 then (v + (n : Int)).toNat else min v.toNat n
theorem sIx_le (n d : Nat) (hd : d ≤ n) (o : Option Int) : sIx n d o ≤ n := by
 cases o with
 | none => exact hd
 | some v =>
  show (if v < 0 then (v + (n : Int)).toNat else min v.toNat n) ≤ n
  by_cases hv : v < 0
  ·rw [if_pos hv]; omega
  ·rw [if_neg hv]; exact Nat.min_le_right _ _
theorem clip_eq (v : Int) (n d : Nat) : (if v < 0 then max (v + (n : Int)) 0 else min v (n : Int)) = ((sIx n d (some v) : Nat) : Int) := by
 show (if v < 0 then max (v + (n : Int)) 0 else min v (n : Int)) = (((if v < 0 then (v + (n : Int)).toNat else min v.toNat n) : Nat) : Int)
 by_cases hv : v < 0
 ·simp only [if_pos hv]; omega
 ·simp only [if_neg hv]; omega
theorem adjust_gen (lo hi : Option Int) (n : Nat) : Builtin.Slice.sliceAdjust lo hi 1 (n : Int) = (((sIx n 0 lo : Nat) : Int), ((sIx n n hi : Nat) : Int)) := by
 have h1 : ¬ ((1 : Int) < 0) := by omega
 unfold Builtin.Slice.sliceAdjust
 simp only [h1, if_false]
 refine Prod.ext ?_ ?_
 ·cases lo with
  | none => rfl
  | some v => exact clip_eq v n 0
 ·cases hi with
  | none => rfl
  | some v => exact clip_eq v n n
theorem places_gen (i j : Nat) : Builtin.Slice.slicePlaces (i : Int) (j : Int) 1 = j - i := by
 unfold Builtin.Slice.slicePlaces
 have h1 : (1 : Int) > 0 := by omega
 simp only [h1, if_true, Int.ediv_one]
 split <;> omega
theorem slicePart_ {v : Value} {o : Option Int} {Q : Option Int → Shared → Prop} (p : IsPart v o) (h : Q o s) : wpAny (model prog w) A (Builtin.Slice.slicePartIndex v) Q E s := by
 cases p with
 | none => exact slicePart_none h
 | int i t => exact slicePart_int h
theorem sliceApplied_gen {sl : Addr} {vl vu : Value} {lo hi : Option Int} {n : Nat} {Q : Int × Int × Nat → Shared → Prop} (hs : s.heap.IsSliceOf sl vl vu .none) (pl : IsPart vl lo) (pu : IsPart vu hi)
  (h : Q (((sIx n 0 lo : Nat) : Int), 1, sIx n n hi - sIx n 0 lo) s) : wpAny (model prog w) A (Builtin.Slice.sliceApplied (.ref sl) (pure (n : Int))) Q E s := by
 obtain ⟨os, hos, hcs, hds⟩ := id hs
 unfold Builtin.Slice.sliceApplied Builtin.Slice.sliceFields
 refine wpAny_bind (wpAny_bind (wpAny_field hos hds (x := vl) rfl (wpAny_bind (wpAny_field hos hds (x := vu) rfl (wpAny_bind (wpAny_field hos hds (x := .none) rfl (wpAny_pure ?_)))))))
 refine wpAny_bind (slicePart_none ?_)
 show wpAny _ _ (if ((1 : Int) == 0) = true then _ else _) _ _ s
 rw [if_neg (by decide)]
 refine wpAny_bind (slicePart_ pl (wpAny_bind (slicePart_ pu (wpAny_bind (wpAny_pure ?_)))))
 show wpAny _ _ (match Builtin.Slice.sliceAdjust lo hi 1 (n : Int) with | (lo, hi) => pure (lo, (1 : Int), Builtin.Slice.slicePlaces lo hi 1)) _ _ s
 rw [adjust_gen lo hi n]
 show wpAny _ _ (pure (((sIx n 0 lo : Nat) : Int), (1 : Int), Builtin.Slice.slicePlaces ((sIx n 0 lo : Nat) : Int) ((sIx n n hi : Nat) : Int) 1)) _ _ s
 rw [places_gen]
 exact wpAny_pure h
theorem pick_gen (xs : Array Value) (i k : Nat) : ((List.range k).filterMap fun (m : Nat) => xs[((i : Int) + (m : Int) * 1).toNat]?).toArray = ((xs.toList.drop i).take k).toArray := by
 have e : (fun (m : Nat) => xs[((i : Int) + (m : Int) * 1).toNat]?) = fun m => xs[i + m]? := by
  funext m
  have : ((i : Int) + (m : Int) * 1).toNat = i + m := by omega
  rw [this]
 rw [e]
 have := pick_run xs i k
 rw [List.filterMap_map] at this
 have e2 : ((fun x => xs[x]?) ∘ fun x => i + x) = fun m => xs[i + m]? := rfl
 rw [e2] at this
 rw [this]
theorem getItem_tuple_cut {t sl : Addr} {items : Array Value} {vl vu : Value} {lo hi : Option Int} {Q : Value → Shared → Prop} (ht : IsTup s.heap t items) (hs : s.heap.IsSliceOf sl vl vu .none) (pl : IsPart vl lo) (pu : IsPart vu hi)
  (hw : ¬ (sIx items.size 0 lo = 0 ∧ sIx items.size items.size hi = items.size))
  (h : Q (.ref s.heap.objs.size) { s with heap := s.heap.push { cls := .type "tuple", data := .seq ((items.toList.drop (sIx items.size 0 lo)).take (sIx items.size items.size hi - sIx items.size 0 lo)).toArray } })
  (hsz : items.size ≤ sizeLine) : wpAny (model prog w) A (getItem (.ref t) (.ref sl)) Q E s := by
 have htake : sizeOk (.seq ((items.toList.drop (sIx items.size 0 lo)).take (sIx items.size items.size hi - sIx items.size 0 lo)).toArray) := by
  show ((items.toList.drop (sIx items.size 0 lo)).take (sIx items.size items.size hi - sIx items.size 0 lo)).toArray.size ≤ sizeLine
  rw [List.size_toArray, List.length_take, List.length_drop, Array.length_toList]
  omega
 have hj : sIx items.size items.size hi ≤ items.size := sIx_le _ _ (Nat.le_refl _) hi
 obtain ⟨os, hos, hcs, hds⟩ := id hs
 have hTs : s.TypeIs (.ref sl) "slice" := ⟨os, hos, hcs⟩
 unfold getItem
 try with_reducible refine wpAny_holding ?_
 first | refine wpAny_bind (wpAny_pure ?_) | skip
 refine wpAny_bind (wpAny_sequenceKey ht.typeIs (by decide) ?_)
 refine wpAny_bind (wpAny_callSpecial?_slot (name := Str.ofString "__getitem__") ht.typeIs PyProof.Rows.slot_tuple_getitem
  (wpAny_call_entry PyProof.Rows.slot_tuple_getitem ht.typeIs entry_tuple_getitem ?_ (args_tuple_getitem _ _)))
 show wpAny _ _ (Builtin.Tuple.tupleItemsOf (.ref t) >>= _) _ _ s
 refine wpAny_bind (tupleItemsOf_ ht ?_)
 refine wpAny_bind (wpAny_typeOf hTs ?_)
 rw [if_pos (by decide)]
 refine wpAny_bind (sliceApplied_gen hs pl pu ?_)
 have hno : ¬ ((((sIx items.size 0 lo : Nat) : Int) == 0 && (1 : Int) == 1 && (sIx items.size items.size hi - sIx items.size 0 lo) == items.size) = true) := by
  intro q
  rw [Bool.and_eq_true, Bool.and_eq_true] at q
  have q1 : ((sIx items.size 0 lo : Nat) : Int) = 0 := eq_of_beq q.1.1
  have q2 : sIx items.size items.size hi - sIx items.size 0 lo = items.size := eq_of_beq q.2
  exact hw ⟨by omega, by omega⟩
 show wpAny _ _ (if (((sIx items.size 0 lo : Nat) : Int) == 0 && (1 : Int) == 1 && (sIx items.size items.size hi - sIx items.size 0 lo) == items.size) = true then _ else _) _ _ s
 rw [if_neg hno, pick_gen]
 first
  | exact wpAny_bind (m := Builtin.Tuple.tupleExact _) (wpAny_newObj_type (wpAny_pure ⟨_, rfl, wpAny_pure h⟩) htake)
  | exact wpAny_bind (m := Builtin.Tuple.tupleExact _) (wpAny_newObj_type (wpAny_bind (wpAny_pure (wpAny_pure ⟨_, rfl, wpAny_pure h⟩))) htake)
  | exact wpAny_bind (wpAny_bind (m := Builtin.Tuple.tupleExact _) (wpAny_newObj_type (wpAny_pure (wpAny_pure ⟨_, rfl, wpAny_pure h⟩)) htake))
  | exact wpAny_bind (wpAny_bind (m := Builtin.Tuple.tupleExact _) (wpAny_newObj_type (wpAny_pure ⟨_, rfl, wpAny_pure h⟩) htake))
end
end HT
namespace L2
open PySem PySem.Spec PyProof.Rows
noncomputable abbrev TO := St → Hp → (Option Int → Hp → Prop) → Prop
noncomputable def PO (X : Cx) (e : Option Expr) (t : TO) : Prop :=
 ∀ (pins : List (Addr × Obj)) (s : Shared) (σ : St) (H : Hp) (Q : Option Int → Hp → Prop), Inv X pins σ H s → t σ H Q →
  wpAny (model X.prog X.w) X.A (evalPart e X.env) (fun u s' => ∃ o H', Inv X pins σ H' s' ∧ IsPart u o ∧ Q o H') X.xe s
noncomputable def tNoPart : TO := fun _ H Q => Q none H
noncomputable def tPart (t : TE) : TO := fun σ H Q => t σ H fun x H1 => ∃ i, x = .int i ∧ Q (some i) H1
theorem intsAre_of {ns : List Int} : ∀ {us : List Value}, Vals (ns.map V.int) us → IntsAre us ns := by
 induction ns with
 | nil => intro us r; rw [List.map_nil] at r; cases r; exact .nil
 | cons n ns ih =>
  intro us r
  rw [List.map_cons] at r
  cases r with
  | cons r1 r2 =>
   obtain ⟨t, e⟩ := r1
   subst e
   exact .cons n t (ih r2)
section
variable {X : Cx} {e : Expr} {te : TE} {lo hi : Option Expr} {tl th : TO} {pos p2 : Pos}
theorem po_none : PO X none tNoPart := by
 intro pins s σ H Q I h
 rw [evalPart_none]
 exact wpAny_pure ⟨none, H, I, .none, h⟩
theorem po_some (h : PE X e te) : PO X (some e) (tPart te) := by
 intro pins s σ H Q I hw
 rw [evalPart_some]
 refine thn (h pins s σ H _ I hw) fun u s1 ⟨x, H1, I1, r1, q1⟩ => ?_
 obtain ⟨i, rfl, q⟩ := q1
 obtain ⟨t, rfl⟩ := r1
 exact ⟨some i, H1, I1, .int i t, q⟩
noncomputable def SlR (X : Cx) (r : V → Option Int → Option Int → Hp → VK → Prop) : Prop :=
 ∀ (pins : List (Addr × Obj)) (s : Shared) (σ : St) (H : Hp) (x : V) (v vl vu : Value) (lo hi : Option Int) (sl : Addr) (Q : VK), Inv X pins σ H s → RelV x v → s.heap.IsSliceOf sl vl vu .none → IsPart vl lo → IsPart vu hi → r x lo hi H Q →
  ∃ T id, typeLookup (.type T) "__getitem__" = pure (some (.builtin id)) ∧ s.TypeIs v T ∧ wpAny (model X.prog X.w) X.A (getItem v (.ref sl)) (EP X pins σ Q) X.xe s
noncomputable def tSl (r : V → Option Int → Option Int → Hp → VK → Prop) (te : TE) (tl th : TO) : TE := fun σ H Q => te σ H fun x H1 => tl σ H1 fun l H2 => th σ H2 fun u H3 => r x l u H3 Q
theorem pe_slice {r : V → Option Int → Option Int → Hp → VK → Prop} (hr : SlR X r) (he : PE X e te) (hl : PO X lo tl) (hu : PO X hi th) : PE X (.Subscript e (.Slice lo hi none p2) pos) (tSl r te tl th) := by
 intro pins s σ H Q I h
 refine Subscript_ (thn (he pins s σ H _ I h) fun v s1 ⟨x, H1, I1, r1, q1⟩ => ?_)
 refine wpAny_Slice (thn (hl pins s1 σ H1 _ I1 q1) fun vl s2 ⟨l, H2, I2, pl, q2⟩ => thn (hu pins s2 σ H2 _ I2 q2) fun vu s3 ⟨u, H3, I3, pu, q3⟩ => ?_)
 rw [evalPart_none]
 refine wpAny_pure ?_
 have I4 : Inv X pins σ H3 { s3 with heap := s3.heap.push { cls := .type "slice", data := .fields #[vl, vu, .none] } } := I3.kept (t' := s3.toks) fun b ob q => Heap.get?_push_of_some _ q
 obtain ⟨T, id, hT, ht, hg⟩ := hr pins { s3 with heap := s3.heap.push { cls := .type "slice", data := .fields #[vl, vu, .none] } } σ H3 x v vl vu l u s3.heap.objs.size Q I4 r1 (Heap.IsSliceOf.new ..) pl pu q3
 show wpAny (model X.prog X.w) X.A (subscriptTail e (.Slice lo hi none p2) v (.ref s3.heap.objs.size)) (EP X pins σ Q) X.xe { s3 with heap := s3.heap.push { cls := .type "slice", data := .fields #[vl, vu, .none] } }
 exact tail_any (ops := [.ref s3.heap.objs.size, v]) ht hT hg (by with_unfolding_all rfl)
noncomputable def cutV (xs : List V) (lo hi : Option Int) : List V := (xs.drop (HT.sIx xs.length 0 lo)).take (HT.sIx xs.length xs.length hi - HT.sIx xs.length 0 lo)
theorem cutV_length (xs : List V) (lo hi : Option Int) : (cutV xs lo hi).length ≤ xs.length := by
 unfold cutV
 rw [List.length_take, List.length_drop]
 omega
noncomputable def rSlT (K : PySem.W.Frag) : V → Option Int → Option Int → Hp → VK → Prop := fun x lo hi H Q => ∃ a xs, x = .ref a ∧ SqT K H a xs ∧
 ¬ (HT.sIx xs.length 0 lo = 0 ∧ HT.sIx xs.length xs.length hi = xs.length) ∧ ∀ p, H p = none → Q (.ref p) (upd H p (.tup (cutV xs lo hi)))
theorem sl_tup : SlR X (rSlT X.K) := by
 intro pins s σ H x v vl vu lo hi sl Q I rx hs pl pu h
 obtain ⟨a, xs, rfl, hx, hw, q⟩ := h
 cases rx
 obtain ⟨its, r, ht, hz⟩ := I.tuple hx
 have hlen : its.toArray.size = xs.length := by rw [List.size_toArray]; exact r.length.symm
 refine ⟨"tuple", _, PyProof.Rows.slot_tuple_getitem.lookup, ht.typeIs, ?_⟩
 refine HT.getItem_tuple_cut ht hs pl pu (by rw [hlen]; exact hw) ?_ (by rw [hlen]; exact hz)
 rw [hlen]
 refine ⟨.ref s.heap.objs.size, _, I.laid (t' := s.toks) (o := .tup (cutV xs lo hi)) (fun b ob q => Heap.get?_push_of_some _ q) (Nat.le_refl _) ?_, rfl, q _ (I.hok.fresh (Nat.le_refl _))⟩
 exact ⟨Nat.le_trans (cutV_length xs lo hi) hz, _, (r.drop (HT.sIx xs.length 0 lo)).take (HT.sIx xs.length xs.length hi - HT.sIx xs.length 0 lo), IsTup.new _ _⟩
noncomputable def rCatT (K : PySem.W.Frag) : R2 := fun x y H Q => ∃ a b xs ys, x = .ref a ∧ y = .ref b ∧ SqT K H a xs ∧ SqT K H b ys ∧ xs ≠ [] ∧ xs.length + ys.length ≤ sizeLine ∧
 (ys = [] → Q (.ref a) H) ∧ (ys ≠ [] → ∀ p, H p = none → Q (.ref p) (upd H p (.tup (xs ++ ys))))
theorem Vals.nil_iff {xs : List V} {us : List Value} (r : Vals xs us) : us = [] ↔ xs = [] := by
 cases r with
 | nil => simp
 | cons _ _ => simp
theorem op_catT : OpR X (binaryOp .Add) (rCatT X.K) := by
 intro pins s σ H x y v u Q I rx ry h
 obtain ⟨a, b, xs, ys, rfl, rfl, ha, hb, hx, hz, q1, q2⟩ := h
 cases rx
 cases ry
 obtain ⟨its, r1, p1, _⟩ := I.tuple ha
 obtain ⟨its2, r2, p2, _⟩ := I.tuple hb
 refine HT.cat_tup p1 p2 (fun z => hx (r1.nil_iff.mp z)) (fun z => ⟨.ref a, H, I, rfl, q1 (r2.nil_iff.mp z)⟩) (fun z => ?_) (by rw [← r1.length, ← r2.length]; exact hz)
 refine ⟨.ref s.heap.objs.size, _, I.laid (t' := s.toks) (o := .tup (xs ++ ys)) (fun b ob q => Heap.get?_push_of_some _ q) (Nat.le_refl _) ?_, rfl, q2 (fun w => z (r2.nil_iff.mpr w)) _ (I.hok.fresh (Nat.le_refl _))⟩
 exact ⟨by rw [List.length_append]; exact hz, _, r1.append r2, IsTup.new _ _⟩
end
end L2
namespace L2
open PySem PySem.Spec PyProof.Rows
noncomputable def ixN (n : Nat) (i : Int) : Option Nat := if 0 ≤ i then (if i < n then some i.toNat else none) else if -(n : Int) ≤ i then some (i + n).toNat else none
noncomputable def atI {α : Type} (xs : List α) (i : Int) : Option α := (ixN xs.length i).bind fun j => xs[j]?
theorem ixN_seq {n : Nat} {i : Int} {j : Nat} (h : ixN n i = some j) : seqIndex? i n = some j ∧ j < n ∧ -(n : Int) ≤ i ∧ i < n := by
 unfold ixN at h
 by_cases h0 : 0 ≤ i
 ·rw [if_pos h0] at h
  by_cases h1 : i < n
  ·rw [if_pos h1] at h
   have e : i.toNat = j := Option.some.inj h
   exact ⟨by rw [seqIndex_of h0 h1, e], by omega, by omega, h1⟩
  ·rw [if_neg h1] at h; cases h
 ·rw [if_neg h0] at h
  by_cases h1 : -(n : Int) ≤ i
  ·rw [if_pos h1] at h
   have e : (i + n).toNat = j := Option.some.inj h
   exact ⟨by rw [seqIndex_neg (by omega) h1, e], by omega, h1, by omega⟩
  ·rw [if_neg h1] at h; cases h
theorem atI_get {α : Type} {xs : List α} {i : Int} {v : α} (h : atI xs i = some v) : ∃ j, seqIndex? i xs.length = some j ∧ xs[j]? = some v ∧ j < xs.length ∧ -(xs.length : Int) ≤ i ∧ i < xs.length := by
 unfold atI at h
 cases e : ixN xs.length i with
 | none => rw [e] at h; cases h
 | some j =>
  rw [e] at h
  obtain ⟨h1, h2, h3, h4⟩ := ixN_seq e
  exact ⟨j, h1, h, h2, h3, h4⟩
theorem atI_nat {α : Type} {xs : List α} {j : Nat} {v : α} (h : xs[j]? = some v) : atI xs (j : Int) = some v := by
 have hj : j < xs.length := (List.getElem?_eq_some_iff.mp h).1
 have e : ixN xs.length (j : Int) = some j := by
  unfold ixN
  rw [if_pos (by omega), if_pos (by omega)]; simp
 unfold atI; rw [e]; exact h
theorem atI_last {α : Type} (xs : List α) (v : α) : atI (xs ++ [v]) (-1) = some v := by
 have hl : (xs ++ [v]).length = xs.length + 1 := by simp
 have e : ixN (xs ++ [v]).length (-1) = some xs.length := by
  unfold ixN
  rw [hl, if_neg (by decide), if_pos (by omega)]
  congr 1
  omega
 unfold atI
 rw [e]
 show (xs ++ [v])[xs.length]? = some v
 simp
noncomputable def PlainIx (b : Expr) : Prop := ∀ o i, subscripted b false o i = operate [o, i] (getItem o i)
noncomputable def IxR (X : Cx) (r : R2) : Prop :=
 ∀ (value slice : Expr) (pins : List (Addr × Obj)) (s : Shared) (σ : St) (H : Hp) (x y : V) (v u : Value) (Q : VK), Inv X pins σ H s → RelV x v → RelV y u → r x y H Q →
  subscripted slice false v u = operate [v, u] (getItem v u) → wpAny (model X.prog X.w) X.A (subscriptTail value slice v u) (EP X pins σ Q) X.xe s
section
variable {X : Cx} {a b : Expr} {ta tb : TE} {pos : Pos}
theorem pe_ix {r : R2} (hr : IxR X r) (ha : PE X a ta) (hb : PE X b tb) (hs : PlainIx b) : PE X (.Subscript a b pos) (tOp r ta tb) := by
 intro pins s σ H Q I h
 exact Subscript_ (binT ha hb I h fun v u s2 x y H2 I2 rx ry q => hr a b pins s2 σ H2 x y v u Q I2 rx ry q (hs _ _))
noncomputable def rIxL (K : PySem.W.Frag) : R2 := fun x y H Q => ∃ p xs i v, x = .ref p ∧ y = .int i ∧ SqL K H p xs ∧ atI xs i = some v ∧ Q v H
noncomputable def rIxT (K : PySem.W.Frag) : R2 := fun x y H Q => ∃ p xs i v, x = .ref p ∧ y = .int i ∧ SqT K H p xs ∧ atI xs i = some v ∧ Q v H
theorem ix_list : IxR X (rIxL X.K) := by
 intro value slice pins s σ H x y v u Q I rx ry h hs
 obtain ⟨p, xs, i, z, rfl, rfl, hq, he, q⟩ := h
 cases rx
 obtain ⟨t, rfl⟩ := ry
 obtain ⟨its, r, pl, hz⟩ := I.list hq
 obtain ⟨j, h1, h2, h3, h4, h5⟩ := atI_get he
 obtain ⟨w, ew, rw'⟩ := r.get h2
 have hl := r.length
 have hn := line63
 have fin : EP X pins σ Q w s := ⟨z, H, I, rw', q⟩
 by_cases h0 : 0 ≤ i
 ·have hj : i.toNat = j := by
   rw [seqIndex_of h0 h5] at h1
   exact Option.some.inj h1
  exact item_listR pl.isList h0 (by omega) (by rw [hj]; simpa using ew) fin hs
 ·have hj : (i + (its.toArray.size : Int)).toNat = j := by
   rw [seqIndex_neg (by omega) h4] at h1
   rw [List.size_toArray, ← hl]
   exact Option.some.inj h1
  exact subscriptTail_builtinR (x := w) pl.isList.typeIs slot_list_getitem.lookup
   (wpAny_getItem_list_neg (Q := fun r s' => r = w ∧ EP X pins σ Q r s') pl.isList (by omega) (by rw [List.size_toArray] <;> omega) (by omega) (by rw [hj]; simpa using ew) ⟨rfl, fin⟩) hs
theorem ix_tup : IxR X (rIxT X.K) := by
 intro value slice pins s σ H x y v u Q I rx ry h hs
 obtain ⟨p, xs, i, z, rfl, rfl, hq, he, q⟩ := h
 cases rx
 obtain ⟨t, rfl⟩ := ry
 obtain ⟨its, r, pl, hz⟩ := I.tuple hq
 obtain ⟨j, h1, h2, h3, h4, h5⟩ := atI_get he
 obtain ⟨w, ew, rw'⟩ := r.get h2
 have hl := r.length
 have hn := line63
 have fin : EP X pins σ Q w s := ⟨z, H, I, rw', q⟩
 exact subscriptTail_builtinR (x := w) pl.typeIs slot_tuple_getitem.lookup
  (getItem_tuple (j := j) (Q := fun r s' => r = w ∧ EP X pins σ Q r s') pl (by omega) (by omega) (by rw [List.size_toArray, ← hl]; exact h1) (by simpa using ew) ⟨rfl, fin⟩) hs
theorem Inv.lst {pins : List (Addr × Obj)} {σ : St} {H : Hp} {s : Shared} {p : Addr} {xs : List V} (I : Inv X pins σ H s) (h : H p = some (.lst xs)) :
  ∃ (its : List Value) (n : Nat), Vals xs its ∧ s.heap.get? p = some { cls := .type "list", data := .seq its.toArray n } ∧ xs.length ≤ sizeLine := by
 obtain ⟨z, its, n, r, e⟩ := I.hok p _ h
 exact ⟨its, n, r, e, z⟩
noncomputable def rSetL : V → V → V → Hp → (Hp → Prop) → Prop := fun o i v H Q => ∃ p xs k j, o = .ref p ∧ i = .int k ∧ H p = some (.lst xs) ∧ ixN xs.length k = some j ∧ Q (upd H p (.lst (xs.set j v)))
noncomputable def flatV : V → Bool
 | .non => true
 | .bl _ => true
 | .int _ => true
 | .str _ => true
 | _ => false
noncomputable def eqV : V → V → Bool
 | .non, .non => true
 | .bl a, .bl b => a == b
 | .bl a, .int b => (if a then 1 else 0) == b
 | .int a, .bl b => a == (if b then 1 else 0)
 | .int a, .int b => a == b
 | .str a, .str b => a == b
 | _, _ => false
theorem eqAt_V {A : Around} {s : Shared} {y x : V} {u v : Value} (ry : RelV y u) (rx : RelV x v) (fy : flatV y = true) (fx : flatV x = true) : SeqAt.EqAt A s u v (eqV y x) := by
 cases y with
 | non =>
  cases ry
  cases x with
  | non => cases rx; exact SeqAt.EqAt.same _
  | bl b => cases rx; exact SeqAt.EqAt.none_bool b
  | int b => obtain ⟨t, rfl⟩ := rx; exact SeqAt.EqAt.none_int b t
  | str b => obtain ⟨t, rfl⟩ := rx; exact SeqAt.EqAt.none_str b t
  | _ => exact absurd (show false = true from fx) Bool.false_ne_true
 | bl a =>
  cases ry
  cases x with
  | non => cases rx; exact SeqAt.EqAt.bool_none a
  | bl b => cases rx; exact SeqAt.EqAt.bool_bool a b
  | int b => obtain ⟨t, rfl⟩ := rx; exact SeqAt.EqAt.bool_int a b t
  | str b => obtain ⟨t, rfl⟩ := rx; exact SeqAt.EqAt.bool_str a b t
  | _ => exact absurd (show false = true from fx) Bool.false_ne_true
 | int a =>
  obtain ⟨t', rfl⟩ := ry
  cases x with
  | non => cases rx; exact SeqAt.EqAt.int_none a t'
  | bl b => cases rx; exact SeqAt.EqAt.int_bool a t' b
  | int b => obtain ⟨t, rfl⟩ := rx; exact SeqAt.EqAt.int_int a t' b t
  | str b => obtain ⟨t, rfl⟩ := rx; exact SeqAt.EqAt.int_str a t' b t
  | _ => exact absurd (show false = true from fx) Bool.false_ne_true
 | str a =>
  obtain ⟨t', rfl⟩ := ry
  cases x with
  | non => cases rx; exact SeqAt.EqAt.str_none a t'
  | bl b => cases rx; exact SeqAt.EqAt.str_bool a t' b
  | int b => obtain ⟨t, rfl⟩ := rx; exact SeqAt.EqAt.str_int a t' b t
  | str b => obtain ⟨t, rfl⟩ := rx; exact SeqAt.EqAt.str_str a t' b t
  | _ => exact absurd (show false = true from fx) Bool.false_ne_true
 | _ => exact absurd (show false = true from fy) Bool.false_ne_true
noncomputable def inV (x : V) (xs : List V) : Bool := xs.any fun y => eqV y x
theorem call_len_seq : CallR X (.builtin "len") (fun xs H Q => ∃ p ys, xs = [.ref p] ∧ (SqL X.K H p ys ∨ SqT X.K H p ys) ∧ Q (.int ys.length) H) := by
 intro pins s σ H xs us Q I r h
 obtain ⟨p, ys, rfl, hq, q⟩ := h
 obtain ⟨u, rfl, rx⟩ := vals1 r
 cases rx
 have hn := line63
 rcases hq with hq | hq
 ·obtain ⟨its, r', pl, hz⟩ := I.list hq
  have hlen := r'.length
  exact Calls.call_len_list pl.isList (by simp only [List.size_toArray] <;> omega) ⟨.int ys.length, H, I.tok _, ⟨s.toks + 1, by rw [List.size_toArray, hlen]⟩, q⟩
 ·obtain ⟨its, r', pl, hz⟩ := I.tuple hq
  have hlen := r'.length
  exact len_tuple pl (by simp only [List.size_toArray] <;> omega) ⟨.int ys.length, H, I.tok _, ⟨s.toks + 1, by rw [List.size_toArray, hlen]⟩, q⟩
theorem call_list_of : CallR X (.type "list") (fun xs H Q => ∃ p ys, xs = [.ref p] ∧ (SqL X.K H p ys ∨ SqT X.K H p ys) ∧ ∀ l, H l = none → Q (.ref l) (upd H l (.lst ys))) := by
 intro pins s σ H xs us Q I r h
 obtain ⟨p, ys, rfl, hq, q⟩ := h
 obtain ⟨u, rfl, rx⟩ := vals1 r
 cases rx
 have fin : ∀ (its : List Value), Vals ys its → ys.length ≤ sizeLine → ∀ (h' : Heap) (c' : Nat), (∀ b o', s.heap.get? b = some o' → h'.get? b = some o') →
   h'.get? s.heap.objs.size = some { cls := .type "list", dict := none, data := .seq its.toArray c', slots := #[] } → EP X pins σ Q (.ref s.heap.objs.size) { s with heap := h' } := fun its r' hz h' c' kp e =>
  ⟨.ref s.heap.objs.size, _, I.laid (t' := s.toks) kp (Nat.le_refl _) (show ObjOk X.prog X.w _ h' _ (.lst ys) from ⟨hz, its, c', r', e⟩), rfl, q _ (I.hok.fresh (Nat.le_refl _))⟩
 rcases hq with hq | hq
 ·obtain ⟨its, r', pl, hz⟩ := I.list hq
  have hlen := r'.length
  obtain ⟨o, ho, hc, n, hd⟩ := pl.isList
  exact call_list_seq p (.inl rfl) ho hc hd (fun h' c' kp e => fin its r' hz h' c' kp e) (by simp only [List.size_toArray] <;> omega)
 ·obtain ⟨its, r', pl, hz⟩ := I.tuple hq
  have hlen := r'.length
  obtain ⟨o, ho, hc, n, hd⟩ := pl
  exact call_list_seq p (.inr rfl) ho hc hd (fun h' c' kp e => fin its r' hz h' c' kp e) (by simp only [List.size_toArray] <;> omega)
theorem call_tuple_of : CallR X (.type "tuple") (fun xs H Q => ∃ p ys, xs = [.ref p] ∧ ((SqL X.K H p ys ∧ ∀ l, H l = none → Q (.ref l) (upd H l (.tup ys))) ∨ (SqT X.K H p ys ∧ Q (.ref p) H))) := by
 intro pins s σ H xs us Q I r h
 obtain ⟨p, ys, rfl, h⟩ := h
 obtain ⟨u, rfl, rx⟩ := vals1 r
 cases rx
 rcases h with ⟨hq, q⟩ | ⟨hq, q⟩
 ·obtain ⟨its, r', pl, hz⟩ := I.list hq
  have hlen := r'.length
  refine call_tuple_list pl.isList (fun h' kp => ?_) (by simp only [List.size_toArray] <;> omega)
  have I1 : Inv X pins σ H { s with heap := h' } := I.kept (t' := s.toks) kp
  have I2 : Inv X pins σ (upd H h'.objs.size (.tup ys)) { s with heap := h'.push { cls := .type "tuple", data := .seq its.toArray } } :=
   I1.laid (t' := s.toks) (fun b o e => Heap.get?_push_of_some _ e) (Nat.le_refl _) (show ObjOk X.prog X.w _ _ _ (.tup ys) from ⟨hz, its, r', IsTup.new _ _⟩)
  exact ⟨.ref h'.objs.size, _, I2, rfl, q _ (I1.hok.fresh (Nat.le_refl _))⟩
 ·obtain ⟨its, r', pl, hz⟩ := I.tuple hq
  exact call_tuple_same pl ⟨.ref p, H, I, rfl, q⟩
noncomputable def tyV (K : PySem.W.Frag) (T : String) (x : V) (H : Hp) : Prop := match x with
 | .str _ => T = "str"
 | .int _ => T = "int"
 | .ref p => (T = "list" ∧ ∃ xs, SqL K H p xs) ∨ (T = "tuple" ∧ ∃ o, K.lookup p = some o ∧ o.cls = .type "tuple" ∧ o.dict = none) ∨
   (T = "dict" ∧ ((∃ kvs, H p = some (.dK kvs)) ∨ ∃ kvs, H p = some (.dT kvs))) ∨ (T = "set" ∧ ∃ S n, H p = some (.set S n))
 | _ => False
theorem tyV_is {pins : List (Addr × Obj)} {σ : St} {H : Hp} {s : Shared} {T : String} {x : V} {v : Value} (I : Inv X pins σ H s) (r : RelV x v) (ty : tyV X.K T x H) :
  s.TypeIs v T ∧ ∀ a, v = .ref a → ∃ ob, s.heap.get? a = some ob ∧ ob.dict = none := by
 cases x with
 | str z =>
  obtain ⟨t, rfl⟩ := r
  cases (show T = "str" from ty)
  exact ⟨typeIs_str s z t, fun _ e => nomatch e⟩
 | int i =>
  obtain ⟨t, rfl⟩ := r
  cases (show T = "int" from ty)
  exact ⟨typeIs_int s i t, fun _ e => nomatch e⟩
 | ref p =>
  cases r
  rcases ty with ⟨rfl, xs, hq⟩ | ⟨rfl, o, hk, hc, hd⟩ | ⟨rfl, hk⟩ | ⟨rfl, S, n, hk⟩
  ·obtain ⟨its, _, pl, _⟩ := I.list hq
   refine ⟨pl.isList.typeIs, fun a e => ?_⟩
   cases e
   obtain ⟨o, n, e, c, hd, _⟩ := pl
   exact ⟨o, e, hd⟩
  ·refine ⟨⟨o, I.kIn p o hk, hc⟩, fun a e => ?_⟩
   cases e
   exact ⟨o, I.kIn _ o hk, hd⟩
  ·have z : ∃ o, s.heap.get? p = some o ∧ o.ExactDict := by
    rcases hk with ⟨kvs, hk⟩ | ⟨kvs, hk⟩
    ·obtain ⟨_, _, _, _, o, _, _, e, ex, _⟩ := I.hok p _ hk
     exact ⟨o, e, ex⟩
    ·obtain ⟨_, _, _, _, o, _, _, e, ex, _⟩ := I.hok p _ hk
     exact ⟨o, e, ex⟩
   obtain ⟨o, e, ex⟩ := z
   refine ⟨⟨o, e, ex.1⟩, fun a e2 => ?_⟩
   cases e2
   exact ⟨o, e, ex.2.1⟩
  ·obtain ⟨o, _, _, _, e, ex, _⟩ := I.hok p _ hk
   refine ⟨⟨o, e, ex.1⟩, fun a e2 => ?_⟩
   cases e2
   exact ⟨o, e, ex.2.1⟩
 | _ => exact False.elim ty
variable {o e : Expr} {es : List Expr} {to : TE} {t : TA} {name : Str} {apos cpos : Pos} {T id : String} {r : V → List V → Hp → VK → Prop}
end
end L2
namespace L2
open PySem PySem.Spec PyProof.Rows
noncomputable def MtM (X : Cx) (id : String) (r : V → List V → Hp → VK → Prop) : Prop :=
 ∀ (pins : List (Addr × Obj)) (s : Shared) (σ : St) (H : Hp) (x : V) (xs : List V) (v : Value) (us : List Value) (Q : VK), Inv X pins σ H s → RelV x v → Vals xs us → r x xs H Q →
  wpAny (model X.prog X.w) X.A (call (.builtin id) (v :: us)) (EP X pins σ Q) X.xe s
theorem Vals.one {x : V} {us : List Value} (h : Vals [x] us) : ∃ u, us = [u] ∧ RelV x u := by
 cases h with
 | cons r t => cases t; exact ⟨_, rfl, r⟩
theorem Vals.two {x y : V} {us : List Value} (h : Vals [x, y] us) : ∃ u v, us = [u, v] ∧ RelV x u ∧ RelV y v := by
 cases h with
 | cons r t =>
  cases t with
  | cons q z => cases z; exact ⟨_, _, rfl, r, q⟩
theorem Vals.zero : ∀ {us : List Value}, Vals [] us → us = []
 | _, .nil => rfl
theorem Vals.dropLast {xs : List V} {us : List Value} (h : Vals xs us) : Vals xs.dropLast us.dropLast := by
 induction h with
 | nil => exact .nil
 | cons r t ih =>
  cases t with
  | nil => exact .nil
  | cons q t' => exact .cons r ih
theorem Vals.eraseIdx : ∀ {xs : List V} {us : List Value} (i : Nat), Vals xs us → Vals (xs.eraseIdx i) (us.eraseIdx i)
 | _, _, _, .nil => .nil
 | _, _, 0, .cons _ t => t
 | _, _, i + 1, .cons r t => .cons r (Vals.eraseIdx i t)
theorem Vals.reverse {xs : List V} {us : List Value} (h : Vals xs us) : Vals xs.reverse us.reverse := by
 induction h with
 | nil => exact .nil
 | cons r t ih => rw [List.reverse_cons, List.reverse_cons]; exact Vals.append ih (.cons r .nil)
theorem Vals.rep {xs : List V} {us : List Value} (h : Vals xs us) : ∀ k : Nat, Vals (List.replicate k xs).flatten (List.replicate k us).flatten
 | 0 => .nil
 | k + 1 => by
  rw [List.replicate_succ, List.replicate_succ, List.flatten_cons, List.flatten_cons]
  exact Vals.append h (Vals.rep h k)
theorem foldl_rep (its : List Value) : ∀ (k : Nat) (acc : List Value),
  List.foldl (fun x1 x2 => x1 ++ x2) acc.toArray (List.replicate k its.toArray) = (acc ++ (List.replicate k its).flatten).toArray
 | 0, acc => by simp
 | k + 1, acc => by
  have e : acc.toArray ++ its.toArray = (acc ++ its).toArray := by simp
  have e2 : (acc ++ its) ++ (List.replicate k its).flatten = acc ++ (List.replicate (k + 1) its).flatten := by
   rw [List.replicate_succ, List.flatten_cons, List.append_assoc]
  rw [← e2, ← foldl_rep its k (acc ++ its), ← e, List.replicate_succ, List.foldl_cons]
section
variable {X : Cx} {pins : List (Addr × Obj)} {σ : St} {H : Hp} {s : Shared} {l b : Addr} {xs ys zs : List V}
theorem Inv.lset {its its' : List Value} {n : Nat} {f : Array Value → Array Value} {t' : Nat} (I : Inv X pins σ H s) (hH : H l = some (.lst xs))
  (e : s.heap.get? l = some { cls := .type "list", data := .seq its.toArray n }) (hf : f its.toArray = its'.toArray) (hv : Vals ys its') (hz : ys.length ≤ sizeLine) :
  Inv X pins σ (upd H l (.lst ys)) { s with heap := s.heap.update l (Obj.mapSeq f), toks := t' } := by
 have q := PySem.IsL.update e f
 rw [hf] at q
 refine I.write (x := l) (e := l) (by rw [hH]; exact trivial) (.inl rfl) (fun b' u hb hu => (Heap.get?_update_other s.heap (Obj.mapSeq f) (Ne.symm hb)).trans hu) ⟨_, q⟩ ?_
 exact ⟨hz, its', _, hv, q⟩
theorem Inv.lnew {its : List Value} {t' : Nat} (I : Inv X pins σ H s) (hv : Vals ys its) (hz : ys.length ≤ sizeLine) :
  Inv X pins σ (upd H s.heap.objs.size (.lst ys)) { s with heap := s.heap.push { cls := .type "list", data := .seq its.toArray }, toks := t' } :=
 I.laid (fun _ _ q => Heap.get?_push_of_some _ q) (Nat.le_refl _) ⟨hz, its, 0, hv, Heap.get?_push_size _ rfl⟩
theorem Inv.fresh (I : Inv X pins σ H s) : H s.heap.objs.size = none := I.hok.fresh (Nat.le_refl _)
theorem Inv.lstM (I : Inv X pins σ H s) (hH : H l = some (.lst xs)) : xs.length ≤ sizeLine ∧ ∃ (its : List Value) (n : Nat), Vals xs its ∧ xs.length = its.length ∧ s.heap.get? l = some { cls := .type "list", data := .seq its.toArray n } := by
 obtain ⟨z, its, n, r, e⟩ := I.hok l _ hH
 exact ⟨z, its, n, r, r.length, e⟩
end
section
variable {X : Cx}
noncomputable def rAppend : V → List V → Hp → VK → Prop := fun x vs H Q => ∃ l xs y, x = .ref l ∧ vs = [y] ∧ H l = some (.lst xs) ∧ xs.length < sizeLine ∧ Q .non (upd H l (.lst (xs ++ [y])))
theorem mt_append : MtM X "list.append" rAppend := by
 intro pins s σ H x vs v us Q I rx rv h
 obtain ⟨l, xs, y, rfl, rfl, hH, hz, q⟩ := h
 cases rx
 obtain ⟨u, rfl, ru⟩ := rv.one
 obtain ⟨z, its, n, r, hl, e⟩ := I.lstM hH
 refine call_meets F.slot_list_append ⟨_, e, rfl⟩ F.entry_list_append (F.args_list_append_2 _ _) (PySem.list_append l its.toArray n u (by rw [List.size_toArray]; omega)) ⟨e, ?_⟩
 refine ⟨.non, _, I.lset (its' := its ++ [u]) hH e (by simp) (r.append (.cons ru .nil)) ?_, rfl, q⟩
 rw [List.length_append, List.length_singleton]
 omega
noncomputable def rCat : R2 := fun x y H Q => ∃ l b xs zs, x = .ref l ∧ y = .ref b ∧ H l = some (.lst xs) ∧ H b = some (.lst zs) ∧ xs.length + zs.length ≤ sizeLine ∧ ∀ p, H p = none → Q (.ref p) (upd H p (.lst (xs ++ zs)))
theorem op_cat : OpR X (binaryOp .Add) rCat := by
 intro pins s σ H x y v u Q I rx ry h
 obtain ⟨l, b, xs, zs, rfl, rfl, hH, hB, hz, q⟩ := h
 cases rx
 cases ry
 obtain ⟨z, its, n, r, hl, e⟩ := I.lstM hH
 obtain ⟨z2, its2, n2, r2, hl2, e2⟩ := I.lstM hB
 refine PySem.P.add_list e e2 ?_ (by rw [List.size_toArray, List.size_toArray]; omega)
 have ea : its.toArray ++ its2.toArray = (its ++ its2).toArray := by simp
 rw [ea]
 exact ⟨.ref _, _, I.lnew (t' := s.toks) (r.append r2) (by rw [List.length_append]; omega), rfl, q _ I.fresh⟩
theorem len_rep {α : Type} (xs : List α) (k : Nat) : (List.replicate k xs).flatten.length = k * xs.length := by
 induction k with
 | zero => simp
 | succ k ih => rw [List.replicate_succ, List.flatten_cons, List.length_append, ih, Nat.succ_mul, Nat.add_comm]
end
section
variable {prog : Program} {w : World} {A : Around} {E : Value → Shared → Prop} {s : Shared}
end
section
variable {X : Cx}
end
end L2
namespace Att
open PySem PySem.W PySem.Calls PyProof.Rows
theorem ints_of_wellAll {P : Params} {h : Heap} : ∀ (ns : List Int) (vs : List Value), WellAll P h vs (ns.map WData.int) → IntsAre vs ns := by
 intro ns
 induction ns with
 | nil =>
  intro vs w
  rw [List.map_nil] at w
  cases w
  exact .nil
 | cons n ns ih =>
  intro vs w
  rw [List.map_cons] at w
  cases w with
  | cons a b =>
   cases a
   exact .cons _ _ (ih _ b)
theorem script_of {l : OpenLaw} {n : Nat} (hn : l.most = some n) {P : Params} {h : Heap} {args : List WData} {vals : List Value}
  (hpre : l.row.toRowW.claim.pre args = true) (hwl : WellAll P h vals args) :
  ∃ a vs ns, vals = [Value.ref a] ∧ args = [WData.list (ns.map WData.int)] ∧ h.get? a = some { cls := .type "list", data := .seq vs.toArray } ∧ IntsAre vs ns ∧ ns.length ≤ n := by
 have hsh : WShape.hasAll [] args [.list .int] = true := (pre_splitW hpre).1
 have hc : l.pre.holds [] { args := args } = true := (pre_splitW hpre).2
 obtain ⟨d, r, rfl, h1, h2⟩ := hasAllW_cons hsh
 obtain rfl := hasAllW_nil h2
 obtain ⟨xs, rfl, h3⟩ := hasW_list h1
 obtain ⟨ns, rfl⟩ := items_int h3
 have hlen : ns.length ≤ n := by
  unfold OpenLaw.pre at hc
  have h4 : (WTm.not (.lt (.lit (.int (n : Int))) (.len (.arg 0)))).holds [] { args := [.list (ns.map .int)] } = true := by
   have h4 := (holds_andW hc).1
   rw [hn] at h4
   exact h4
  have h5 := condW_of h4 (w_not (w_lt w_lit (w_len_list (w_arg rfl))))
  rw [List.length_map] at h5
  refine Nat.le_of_not_lt fun q => ?_
  have q' : (n : Int) < ((ns.length : Nat) : Int) := by omega
  first
   | (rw [decide_eq_true q'] at h5; exact absurd h5 (by decide))
   | (simp at h5; omega)
 cases hwl with
 | cons w1 w2 =>
  cases w2
  cases w1 with
  | list ho hall => exact ⟨_, _, ns, rfl, rfl, ho, ints_of_wellAll ns _ hall, hlen⟩
theorem post_true (l : OpenLaw) (args : List WData) : l.row.toRowW.claim.post args (.bool true) args = true :=
 postW_of (r := l.row.toRowW) (X := (true == true))
  (show WShape.has [] (.bool true) .bool = true by first | rfl | decide | simp [WShape.has, WShape.arms, WShape.armsAll])
  (show (WTm.eq .res (.lit (.bool true))).value [] { args := args, res := some (.bool true), after := args } = some (.bool (true == true)) from w_eq_bool (w_res rfl) w_lit) rfl
theorem attach_call {l : OpenLaw} {n : Nat} {q : Program} {loose : List Str} {XP : (Str → Option Value) → Heap → Prop} {YP : World → Heap → Prop} {d : DefRec}
  (hn : l.most = some n) (hdf : d.params.defaults = [])
  (call : ∀ (w : World) (s₀ s₁ : Shared) (mg mb : Str → Option Value) (fa : Addr) (o : Obj) (pm cd doc : Value) (a : Addr) (vs : List Value) (ns : List Int),
   Ground q loose [] XP w s₀ mg mb s₁.heap → YP w s₁.heap →
   s₁.heap.get? fa = some o → o.data = .func (docDef d.name d.params d.body d.scope pm cd doc) → s₁.heap.CodeRec cd d.name → mg d.name = some (.ref fa) →
   s₁.heap.get? a = some { cls := .type "list", data := .seq vs.toArray } → IntsAre vs ns → ns.length ≤ n → s₁.gens = #[] →
   codeAny (model l.prog w) callerA (.call (.ref fa) ⟨[.ref a], []⟩) (fun r s' => r = .ok (.ret (.bool true)) ∧ OldK s₁.heap s'.heap ∧ s'.os = s₁.os ∧ AllBare s'.gens) s₁) :
  WalkO q loose XP YP l.row.toRowW d [] (fun f vs => PySem.call f vs) := by
 intro w s₀ s₁ mg mb G Y fa o pm cd doc dV kV ho hd hcd hD hmg hg args vals as hpre hlay hrd hwl hlo
 obtain rfl : dV = .none := Dflts.none hD hdf
 obtain rfl : kV = .none := Dflts.noKw hD
 obtain ⟨a, vs, ns, rfl, rfl, hobj, hints, hlen⟩ := script_of hn hpre hwl
 refine enter_call (codeAny_mono (call w s₀ s₁ mg mb fa o pm cd doc a vs ns G Y ho (fd_plain hd) hcd hmg hobj hints hlen hg) fun r s' hq => ?_)
 obtain ⟨rfl, h2, h3, h4⟩ := hq
 exact ⟨.inl ⟨.bool true, .bool true, [], rfl, fun _ => rfl, .bool true, post_true l _, fun _ => ⟨List.Pairwise.nil, fun _ hm => (nomatch hm)⟩⟩, h2, h3, h4⟩
section
variable {prog : Program} {w : World} {A : Around} {E : Value → Shared → Prop} {s : Shared} {K : Frag}
end
end Att
namespace L2
open PySem PySem.Spec PyProof.Rows
theorem vals_ints : ∀ {vs : List Value} {ns : List Int}, IntsAre vs ns → Vals (ns.map V.int) vs
 | _, _, .nil => .nil
 | _, _, .cons n t h => .cons ⟨t, rfl⟩ (vals_ints h)
noncomputable def Only (H : Hp) : Prop := ∀ b, H b = none ∨ ∃ o xs, H b = some (.frz o (.lst xs))
theorem law_call {P : Program} {w : World} {K : PySem.W.Frag} {mg mb : Str → Option Value} {CX : CXT} {k : Nat} {fa a : Addr} {fd : FuncData} {x : Str} {sp : Sp} {s₁ : Shared} {vs : List Value} {ns : List Int}
  (KX : K.In s₁.heap) (hns : s₁.heap.Ns mainGlobals mg) (hb : s₁.heap.Ns builtinsNs mb) (hbb : ∀ x : Str, x ≠ "__name__" → mb x = bootBuiltins x) (hlim : s₁.heap.NoLimit) (hg : s₁.gens = #[])
  (ha : s₁.heap.get? a = some { cls := .type "list", data := .seq vs.toArray }) (hi : IntsAre vs ns) (hl : ns.length ≤ sizeLine) (hr : Room k callerA)
  (F : ∀ base : Heap, K.In base → base.Ns mainGlobals mg → FnOk P w K mg base CX k fa fd [x] sp) (hbind : ∀ (s : Shared) (u : Value), BindsTo s fd ⟨[u], []⟩ [(x, u)])
  (hsp : ∀ H : Hp, Only H → SqL K H a (ns.map V.int) → sp [.ref a] H (fun v _ => v = .bl true) fun _ _ _ => False)
  (hCX : ∀ H e s', CX [] H s₁ (fun _ _ _ => False) e s' → False) :
  codeAny (model P w) callerA (.call (.ref fa) ⟨[.ref a], []⟩) (fun r s' => r = .ok (.ret (.bool true)) ∧ OldK s₁.heap s'.heap ∧ s'.os = s₁.os ∧ AllBare s'.gens) s₁ := by
 have rv := vals_ints hi
 have lenV := hi.length
 have core : ∀ H : Hp, Only H → SqL K H a (ns.map V.int) → HOk P w H s₁.heap → (∀ b, H b ≠ none → b = a) → (H a ≠ none → K.lookup a = none) →
   codeAny (model P w) callerA (.call (.ref fa) ⟨[.ref a], []⟩) (fun r s' => r = .ok (.ret (.bool true)) ∧ OldK s₁.heap s'.heap ∧ s'.os = s₁.os ∧ AllBare s'.gens) s₁ := by
  intro H hO hS hok hA hK
  have base_of : ∀ {b : Addr} {o : Obj}, s₁.heap.get? b = some o → H b = none → (hidT s₁.heap H).get? b = some o := fun e n => hidT_get e n
  have noA : ∀ {b : Addr} {o : Obj} {es : Array DictEntry} {ep : Nat}, s₁.heap.get? b = some o → o.data = .dict es ep → H b = none := fun {b o es ep} e d => by
   cases q : H b with
   | none => rfl
   | some u =>
    have e' : b = a := hA b (by rw [q]; simp)
    subst e'
    rw [ha] at e; cases e
    have d' : Data.seq vs.toArray _ = Data.dict es ep := d
    cases d'
  have nsK : ∀ {b : Addr} {m : Str → Option Value}, s₁.heap.Ns b m → (hidT s₁.heap H).Ns b m := fun {b m} ⟨o, es, ep, e, d, r⟩ => ⟨o, es, ep, base_of e (noA e d), d, r⟩
  have hKb : K.In (hidT s₁.heap H) := fun b o e => base_of (KX b o e) (by
   cases q : H b with
   | none => rfl
   | some u =>
    have e' : b = a := hA b (by rw [q]; simp)
    subst e'
    rw [hK (by rw [q]; simp)] at e; cases e)
  have hM : Mod K mg (hidT s₁.heap H) := ⟨hKb, nsK hns, ⟨mb, nsK hb, hbb⟩, let ⟨mc, h1, h2⟩ := hlim; ⟨mc, nsK h1, h2⟩⟩
  have e0 : Env0 P w K mg (hidT s₁.heap H) callerA [] s₁ H := ⟨rfl, hM, fun b o e => of_hidT e, Nat.le_of_eq (hidT_size _ _), trivial, fun b hb => absurd (show b ∈ ([] : List Addr) from hb) (by simp), hok, .of_eq hg⟩
  refine codeAny_mono ((F _ hKb (nsK hns)).run callerA [] s₁ H ⟨[.ref a], []⟩ [.ref a] [.ref a] _ _ hr e0 (hbind s₁ (.ref a)) (.cons rfl .nil) (hsp H hO hS)) fun r s' h => ?_
  cases r with
  | error e => exact (hCX H e s' h).elim
  | ok fl =>
   cases fl with
   | next => exact False.elim h
   | brk => exact False.elim h
   | cont => exact False.elim h
   | ret u =>
    obtain ⟨v, H', os, bare, un, hok', r', q⟩ := h
    have q' : v = .bl true := q
    subst q'
    obtain rfl : u = Value.bool true := r'
    refine ⟨rfl, OldK.of_keep fun b o e => ?_, os, bare⟩
    cases q : H b with
    | none => exact un.keep b o e q (by intro z; exact absurd (show b ∈ ([] : List Addr) from z) (by simp)) (by simp)
    | some u =>
     rcases hO b with z | ⟨ob, xs, z⟩
     ·rw [q] at z; cases z
     ·have z2 := un.frzs b ob _ z
      obtain ⟨e1, _⟩ := hok b _ z
      obtain ⟨e2, _⟩ := hok' b _ z2
      rw [e] at e1; cases e1
      exact e2
 cases hk : K.lookup a with
 | some o =>
  have e := KX a o hk
  rw [ha] at e
  cases e
  refine core (fun _ => none) (fun _ => .inl rfl) (.inr ⟨_, vs.toArray, _, hk, rfl, rfl, rfl, by rw [List.size_toArray, lenV]; exact hl, by simpa using rv⟩) (fun b u z => by have z' : (none : Option HO) = some u := z; cases z') (fun b z => absurd rfl z) fun z => absurd rfl z
 | none =>
  refine core (fun b => if b = a then some (.frz { cls := .type "list", data := .seq vs.toArray } (.lst (ns.map V.int))) else none) (fun b => ?_) (.inl (.inr ⟨{ cls := .type "list", data := .seq vs.toArray }, if_pos rfl⟩)) (fun b u z => ?_) (fun b z => ?_) fun _ => hk
  ·by_cases hb : b = a
   ·exact .inr ⟨_, _, if_pos hb⟩
   ·exact .inl (if_neg hb)
  ·by_cases hb : b = a
   ·have z' := (if_pos hb).symm.trans z
    cases z'
    subst hb
    exact ⟨ha, by rw [List.length_map]; exact hl, vs, _, rv, ha⟩
   ·have z' := (if_neg hb).symm.trans z
    cases z'
  ·by_cases hb : b = a
   ·exact hb
   ·exact absurd (if_neg hb) z
end L2
namespace L2
open PySem PySem.Spec PyProof.Rows
theorem walk_of {l : PySem.W.OpenLaw} {n k : Nat} {q : Program} {loose : List Str} {XP : (Str → Option Value) → Heap → Prop} {YP : World → Heap → Prop} {d : DefRec} {K : Params → PySem.W.Frag} {CX : World → CXT} {sp : World → Sp} {x : Str}
  (hn : l.most = some n) (hn2 : n ≤ sizeLine) (hdf : d.params.defaults = []) (hr : Room k callerA)
  (hY : ∀ (w : World) (h : Heap), YP w h → (K w.params).In h)
  (F : ∀ (w : World) (mg : Str → Option Value) (fa : Addr) (h : Heap), (K w.params).In h → h.Ns mainGlobals mg → mg d.name = some (.ref fa) →
   ∃ fd : FuncData, (∀ (s : Shared) (u : Value), BindsTo s fd ⟨[u], []⟩ [(x, u)]) ∧
    ∀ base : Heap, (K w.params).In base → base.Ns mainGlobals mg → FnOk l.prog w (K w.params) mg base (CX w) k fa fd [x] (sp w))
  (hsp : ∀ (w : World) (H : Hp) (a : Addr) (ns : List Int), ns.length ≤ n → Only H → SqL (K w.params) H a (ns.map V.int) → sp w [.ref a] H (fun v _ => v = .bl true) fun _ _ _ => False)
  (hCX : ∀ (w : World) (H : Hp) (s : Shared) (e : Value) (s' : Shared), CX w [] H s (fun _ _ _ => False) e s' → False) :
  PySem.W.WalkO q loose XP YP l.row.toRowW d [] (fun f vs => PySem.call f vs) := by
 refine Att.attach_call hn hdf fun w s₀ s₁ mg mb fa o pm cd doc a vs ns G Y ho hd hcd hmg hobj hints hlen hg => ?_
 have KX := hY w _ Y
 obtain ⟨fd, hb, hF⟩ := F w mg fa _ KX G.T.g hmg
 exact law_call KX G.T.g G.T.b G.T.builtins G.T.nolimit hg hobj hints (Nat.le_trans hlen hn2) hr hF hb (fun H hO hS => hsp w H a ns hlen hO hS) fun H e s' => hCX w H s₁ e s'
end L2
namespace L2
open PySem PySem.Spec PyProof.Rows
noncomputable def defArgs (s : Stmt) : Arguments := match s with
 | .FunctionDef _ a _ _ _ _ _ _ _ _ => a
 | _ => { posonlyargs := [], args := [], vararg := none, kwonlyargs := [], kw_defaults := [], kwarg := none, defaults := [] }
noncomputable def defBody (s : Stmt) : List Stmt := match s with
 | .FunctionDef _ _ b _ _ _ _ _ _ _ => b
 | _ => []
noncomputable def defScope (s : Stmt) : Scope := match s with
 | .FunctionDef _ _ _ _ _ _ sc _ _ _ => sc
 | _ => { kind := .function, names := [], isGenerator := false, isCoroutine := false }
noncomputable abbrev CX0 : CXT := fun _ _ _ _ _ _ => False
noncomputable abbrev E0 : XK := fun _ _ _ => False
theorem pass0 {X : Cx} : Passes CX0 X E0 := fun _ _ _ _ _ _ _ h => h.elim
structure Fun (K : PySem.W.Frag) (x qual : Str) (st : Stmt) (f : Addr) (fd : FuncData) : Prop where
 ex : ∃ (oc : Value) (od : Option Addr) (kV doc pm : Value) (an : Option Addr) (cdv ct : Value) (osl : Array (Option Value)),
  fd = PySem.W.fnOf x qual (defArgs st) (defBody st) (defScope st) .none kV doc pm an cdv ct ∧ K.lookup f = some ⟨oc, od, .func fd, osl⟩ ∧ PySem.W.codeIn K cdv qual = true
 kp : PySem.W.keepIn K (.ref f) = true
section
variable {P : Program} {w : World} {K : PySem.W.Frag} {mg : Str → Option Value} {base : Heap}
theorem Fun.ok {x qual : Str} {st : Stmt} {f : Addr} {fd : FuncData} {N ps : List Str} {k : Nat} {sp : Sp} (F : Fun K x qual st f fd) (S : FnScope N ps (defScope st)) (len : ∀ vs H Q E, sp vs H Q E → vs.length = ps.length)
  (hbody : ∀ (cdv : Value) (A : Around) (outer : List Env) (s : Shared) (H : Hp) (vs : List V) (Q : VK) (E : XK), Room k (A.deeper (envOfC qual (defScope st) s.heap.objs.size f cdv)) → sp vs H Q E →
   ∃ t, PSs (cxOf CX0 P w K mg base N qual (defScope st) f cdv A outer s H E).nox (defBody st) t ∧ t { nx := fun _ H' => Q .non H', rt := Q } (start N vs) H) : FnOk P w K mg base CX0 (k + 1) f fd ps sp := by
 obtain ⟨oc, od, kV, doc, pm, an, cdv, ct, osl, rfl, lk, hcd⟩ := F.ex
 refine fn_of lk hcd S len fun A outer s H vs Q E hr hsp => ?_
 obtain ⟨t, h, q⟩ := hbody cdv A outer s H vs Q E hr hsp
 exact ⟨t, h.nox, q⟩
theorem Fun.binds {x qual : Str} {st : Stmt} {f : Addr} {fd : FuncData} {ps : List Str} (F : Fun K x qual st f fd)
  (h : ∀ (kV doc pm : Value) (an : Option Addr) (cdv ct : Value) (us : List Value), us.length = ps.length → bindArgs (PySem.W.fnOf x qual (defArgs st) (defBody st) (defScope st) .none kV doc pm an cdv ct) ⟨us, []⟩ = pure (ps.zip us)) : Binds K fd ps [] := by
 obtain ⟨oc, od, kV, doc, pm, an, cdv, ct, osl, rfl, lk, hcd⟩ := F.ex
 exact .all (h kV doc pm an cdv ct)
theorem fun_mk {x qual : Str} {st : Stmt} {f : Addr} {oc : Value} {od an : Option Addr} {osl : Array (Option Value)} {kV doc pm cdv ct : Value} (l : K.lookup f = some ⟨oc, od, .func (PySem.W.fnOf x qual (defArgs st) (defBody st) (defScope st) .none kV doc pm an cdv ct), osl⟩)
  (c : PySem.W.codeIn K cdv qual = true) (k : PySem.W.keepIn K (.ref f) = true) : Fun K x qual st f (PySem.W.fnOf x qual (defArgs st) (defBody st) (defScope st) .none kV doc pm an cdv ct) := ⟨⟨oc, od, kV, doc, pm, an, cdv, ct, osl, rfl, l, c⟩, k⟩
end
theorem hu_of {A : Around} {k : Nat} (hr : Room k A) : A.units + 1 < cLine := Nat.lt_of_le_of_lt (Nat.add_le_add_left (by decide : 1 ≤ 64) _) hr.units
theorem small1000 {n : Nat} (h : n ≤ 1000) : n < sizeLine := Nat.lt_of_le_of_lt h (by decide)
section
variable {X : Cx}
theorem pv (i : Nat) {x : Str} {pos : Pos} (hN : X.N[i]? = some x := by rfl) (hv : Vis X.env.scope x := by first | exact Or.inl rfl | exact Or.inr (Or.inl rfl) | exact Or.inr (Or.inr rfl)) (hd : (x == ("__debug__" : Str)) = false := by decide)
  (hcd : (x == ("__classdict__" : Str)) = false := by decide) : PE X (.Name x pos) (tVar i) := pe_var hN hv hd hcd
end
noncomputable def Same (H H' : Hp) : Prop := ∀ b o, H b = some o → H' b = some o
theorem Same.refl (H : Hp) : Same H H := fun _ _ h => h
theorem Same.trans {H H1 H2 : Hp} (a : Same H H1) (b : Same H1 H2) : Same H H2 := fun c o h => b c o (a c o h)
theorem Same.free {H H' : Hp} (e : Same H H') {l : Addr} (h : H' l = Option.none) : H l = Option.none := by
 cases q : H l with
 | none => rfl
 | some o =>
  rw [e l o q] at h
  cases h
theorem Same.seq {K : PySem.W.Frag} {H H' : Hp} {a : Addr} {xs : List V} (e : Same H H') (h : SqL K H a xs) : SqL K H' a xs := by
 rcases h with (h | ⟨o, h⟩) | h
 ·exact .inl (.inl (e _ _ h))
 ·exact .inl (.inr ⟨o, e _ _ h⟩)
 ·exact .inr h
end L2
end
section
set_option Elab.async false
set_option linter.all false
set_option maxRecDepth 100000
namespace L2
open PySem PySem.Spec PyProof.Rows
noncomputable def clos : List (Str × NameKind) → List (Str × Addr) → List (Str × Addr) → Option (List (Str × Addr))
 | [], _, acc => some acc
 | (n, k) :: r, cs, acc => if k == .free then (match cs.lookup n with | some c => clos r cs ((n, c) :: acc) | none => none) else clos r cs acc
theorem clos_run {env : Env} : ∀ (names : List (Str × NameKind)) (acc cl : List (Str × Addr)), clos names env.cells acc = some cl →
  (forIn names acc fun (x : Str × NameKind) (cs : List (Str × Addr)) => (if (x.2 == NameKind.free) = true then (do let c ← cellOf env x.1; pure (ForInStep.yield ((x.1, c) :: cs))) else pure (ForInStep.yield cs) : Sem (ForInStep (List (Str × Addr))))) = (pure cl : Sem _)
 | [], acc, cl, h => by
  have e : acc = cl := Option.some.inj h
  subst e; rfl
 | (n, k) :: r, acc, cl, h => by
  unfold clos at h
  rw [List.forIn_cons]
  cases hk : k == NameKind.free with
  | false =>
   rw [hk] at h
   have ih := clos_run (env := env) r acc cl (by simpa using h)
   simp only [hk, Bool.false_eq_true, if_false, pure_bind]
   exact ih
  | true =>
   rw [hk] at h
   simp only [if_true] at h
   cases hc : env.cells.lookup n with
   | none => rw [hc] at h; cases h
   | some c =>
    rw [hc] at h
    have ih := clos_run (env := env) r ((n, c) :: acc) cl h
    have e : cellOf env n = pure c := by unfold cellOf; rw [hc]
    simp only [hk, if_true, e, pure_bind]
    exact ih
theorem closureFor_clos {scope : Scope} {env : Env} {cl : List (Str × Addr)} (h : clos scope.names env.cells [] = some cl) : closureFor scope env = pure cl := by
 have q := clos_run scope.names [] cl h
 unfold closureFor
 show (do let r ← _; pure r) = _
 refine Eq.trans ?_ (congrArg (fun z => z >>= fun r => pure r) q) |>.trans ?_
 ·rfl
 ·rfl
theorem clos_sub {cs : List (Str × Addr)} : ∀ (names : List (Str × NameKind)) (acc cl : List (Str × Addr)), clos names cs acc = some cl → (∀ n c, (n, c) ∈ acc → cs.lookup n = some c) → ∀ n c, (n, c) ∈ cl → cs.lookup n = some c
 | [], acc, cl, h, ha, n, c, hm => by
  have e : acc = cl := Option.some.inj h
  subst e; exact ha n c hm
 | (n0, k) :: r, acc, cl, h, ha, n, c, hm => by
  unfold clos at h
  split at h
  ·split at h
   ·rename_i c0 hc
    refine clos_sub r _ cl h (fun n' c' h' => ?_) n c hm
    rcases List.mem_cons.mp h' with e | h'
    ·cases e; exact hc
    ·exact ha n' c' h'
   ·cases h
  ·exact clos_sub r acc cl h ha n c hm
theorem clos_mono {cs : List (Str × Addr)} : ∀ (names : List (Str × NameKind)) (acc cl : List (Str × Addr)), clos names cs acc = some cl → ∀ p ∈ acc, p ∈ cl
 | [], acc, cl, h, p, hp => by
  have e : acc = cl := Option.some.inj h
  subst e; exact hp
 | (n0, k) :: r, acc, cl, h, p, hp => by
  unfold clos at h
  split at h
  ·split at h
   ·exact clos_mono r _ cl h p (List.mem_cons_of_mem _ hp)
   ·cases h
  ·exact clos_mono r acc cl h p hp
theorem clos_has {cs : List (Str × Addr)} : ∀ (names : List (Str × NameKind)) (acc cl : List (Str × Addr)), clos names cs acc = some cl → ∀ n, (n, NameKind.free) ∈ names → ∃ c, (n, c) ∈ cl
 | (n0, k) :: r, acc, cl, h, n, hn => by
  unfold clos at h
  rcases List.mem_cons.mp hn with e | hn
  ·cases e
   simp only [beq_self_eq_true, if_true] at h
   split at h
   ·rename_i c0 hc
    exact ⟨c0, clos_mono r _ cl h _ List.mem_cons_self⟩
   ·cases h
  ·split at h
   ·split at h
    ·exact clos_has r _ cl h n hn
    ·cases h
   ·exact clos_has r acc cl h n hn
theorem lookup_of_mem {β : Type} : ∀ {l : List (Str × β)} {n : Str} {c : β}, (n, c) ∈ l → ∃ c', l.lookup n = some c'
 | (m, d) :: r, n, c, h => by
  rw [List.lookup_cons]
  cases e : n == m with
  | true => exact ⟨d, rfl⟩
  | false =>
   rcases List.mem_cons.mp h with q | q
   ·cases q; simp at e
   ·exact lookup_of_mem q
theorem clos_lookup {cs cl : List (Str × Addr)} {names : List (Str × NameKind)} (h : clos names cs [] = some cl) {x : Str} {c : Addr} (q : cl.lookup x = some c) : cs.lookup x = some c :=
 clos_sub names [] cl h (fun _ _ z => absurd z (by simp)) x c (PySem.mem_of_lookup q)
theorem relabel_free {env : Env} : ∀ {names : List (Str × NameKind)} {x : Str}, (∀ y ∈ names, y.2 ≠ NameKind.cell) →
    ((names.map fun (n, k) => if (k == NameKind.free && env.scope.kind == .function && env.kindOf n == some .cell) then (n, NameKind.cell) else (n, k)).lookup x = some .cell ∨
     (names.map fun (n, k) => if (k == NameKind.free && env.scope.kind == .function && env.kindOf n == some .cell) then (n, NameKind.cell) else (n, k)).lookup x = some .free) → (x, NameKind.free) ∈ names
  | [], x, _, h => by simp at h
  | (n, k) :: r, x, hc, h => by
    have ih := @relabel_free env r x (fun y hy => hc y (List.mem_cons_of_mem _ hy))
    rw [List.map_cons] at h
    cases hx : x == n with
    | true =>
      have e : x = n := by simpa using hx
      subst e
      by_cases hk : k = NameKind.free
      · subst hk; exact List.mem_cons_self
      · have hb : (k == NameKind.free) = false := by simpa using hk
        simp only [hb, Bool.false_and, Bool.false_eq_true, if_false, List.lookup_cons, beq_self_eq_true] at h
        rcases h with h | h
        · exact absurd (Option.some.inj h) (hc (x, k) List.mem_cons_self)
        · exact absurd (Option.some.inj h) hk
    | false =>
      refine List.mem_cons_of_mem _ (ih ?_)
      by_cases hcnd : (k == NameKind.free && env.scope.kind == .function && env.kindOf n == some .cell) = true
      · simp only [hcnd, if_true, List.lookup_cons, hx] at h; exact h
      · simp only [hcnd, if_false, List.lookup_cons, hx, Bool.false_eq_true] at h; exact h
theorem relabel_free' {sc : Scope} {env : Env} {x : Str} (hc : ∀ y ∈ sc.names, y.2 ≠ NameKind.cell) (h : (relabel sc env).names.lookup x = some .cell ∨ (relabel sc env).names.lookup x = some .free) : (x, NameKind.free) ∈ sc.names := relabel_free hc h
noncomputable def cxc (X : Cx) (N : List Str) (sc : Scope) (cl : List (Str × Addr)) (s : Shared) (H : Hp) (ex : List Addr) : Cx where
 prog := X.prog
 w := X.w
 K := X.K
 mg := X.mg
 base := X.base
 A := X.A
 N := N
 s₀ := s
 H₀ := H
 env := compEnvC sc cl s.heap.objs.size X.env
 outer := X.stack
 stack := X.stack
 ex := ex
 fn := fun _ => false
 calm := X.calm
 pn := []
 xe := fun _ _ => False
noncomputable def frS (fr : List (Option Nat)) (σ : St) : St := fr.map fun o => o.bind fun j => (σ[j]?).bind id
noncomputable def PIfs (X : Cx) (ifs : List Expr) (t : TT) : Prop :=
 ∀ (pins : List (Addr × Obj)) (s : Shared) (σ : St) (H : Hp) (Q : Bool → Hp → Prop), Inv X pins σ H s → t σ H Q →
  wpAny (model X.prog X.w) X.A (forIn ifs true fun c r => if r = true then do let ok ← isTrue c X.env (eval c X.env); pure (ForInStep.yield ok) else pure (ForInStep.yield r)) (TP X pins σ Q) X.xe s
noncomputable def tTrue : TT := fun _ H Q => Q true H
theorem pif_nil {X : Cx} : PIfs X [] tTrue := fun _ _ _ _ _ I h => wpAny_tests_nil ⟨_, I, h⟩
theorem pif_one {X : Cx} {c : Expr} {t : TT} (h : PT X c t) : PIfs X [c] t := fun pins s σ H Q I q => wpAny_tests_one (h pins s σ H Q I q)
noncomputable abbrev TB := St → Hp → (St → Hp → Prop) → Prop
noncomputable def PB (X : Cx) (body : Sem Unit) (t : TB) : Prop :=
 ∀ (pins : List (Addr × Obj)) (s : Shared) (σ : St) (H : Hp) (N : St → Hp → Prop), Inv X pins σ H s → t σ H N →
  wpAny (model X.prog X.w) X.A body (fun _ s' => ∃ σ' H', Inv X pins σ' H' s' ∧ N σ' H') X.xe s
noncomputable def tEmit (p : Addr) (te : TE) : TB := fun σ H N => te σ H fun y H1 => ∃ ys, H1 p = some (.lst ys) ∧ ys.length < sizeLine ∧ N σ (upd H1 p (.lst (ys ++ [y])))
theorem pb_emit {X : Cx} {elt : Expr} {te : TE} {p : Addr} (h : PE X elt te) : PB X (do let _ ← call (.builtin "list.append") [.ref p, ← eval elt X.env]) (tEmit p te) := by
 intro pins s σ H N I q
 refine wpAny_bind (thn (h pins s σ H _ I q) fun u s1 ⟨y, H1, I1, r, ys, hp, hz, n⟩ => ?_)
 refine wpAny_bind (thn (mt_append (X := X) pins s1 σ H1 (.ref p) [y] (.ref p) [u] (fun _ H2 => N σ H2) I1 rfl (.cons r .nil) ⟨p, ys, y, rfl, rfl, hp, hz, n⟩) fun _ s2 ⟨_, H2, I2, _, n2⟩ => wpAny_pure ⟨σ, H2, I2, n2⟩)
noncomputable def tCL (J : It) (g : TG) (tc : TT) (tb : TB) : (St → Hp → Prop) → St → Hp → Prop := fun D σ H => ∃ W : Nat → Nat → St → Hp → Prop, (∃ m, W 0 m σ H) ∧ ∀ i m σ H, W i m σ H →
 (J.stop i H ∧ D σ H) ∨ (J.go i H ∧ ∃ N : St → Hp → Prop, (∀ σ' H', N σ' H' → ∃ m', m' < m ∧ W (i + 1) m' σ' H') ∧ ∀ x H', J.yld i H x H' → g x σ H' fun σ2 H2 => tc σ2 H2 fun b H3 => if b = true then tb σ2 H3 N else N σ2 H3)
theorem comp_loop {X : Cx} {e tg : Expr} {d : Nat} {ip : Pos} {ifs : List Expr} {body : Sem Unit} {acc : Value} {it : Addr} {fp : List Addr} {tn : Nat → Heap → Prop} {J : It} {g : TG} {tc : TT} {tb : TB} {D : St → Hp → Prop} {pins : List (Addr × Obj)} {σ : St} {H : Hp} {s : Shared}
  (hc : X.calm = true) (hx : X.xe = fun _ _ => False)
  (heq : compTurn e d (.ref it) acc X.env = (do
   standAt ip
   match ← pyNext (.ref it) with
   | none => pure (.done .next)
   | some v =>
    letOwnedTupleGo tg (.ref it) v
    assign tg X.env v
    let mut ok := true
    for c in ifs do
     if ok then ok ← isTrue c X.env (eval c X.env)
    if ok then body
    again (.compLoop e d (.ref it) acc X.env)))
  (hfrm : (Code.compLoop e d (.ref it) acc X.env).isFrame = false) (hund : X.A.under (Code.compLoop e d (.ref it) acc X.env) = X.A) (hq : (Code.compLoop e d (.ref it) acc X.env).quiet = true)
  (T : Turn X.prog X.w X.K tg J fp it tn) (hg : PG X tg g) (hi : PIfs X ifs tc) (hb : PB X body tb)
  (I : Inv X pins σ H s) (st : tn 0 s.heap) (f : ∀ b ∈ fp, FpOk X pins H b) (h : tCL J g tc tb D σ H) :
  codeAny (model X.prog X.w) X.A (.compLoop e d (.ref it) acc X.env) (fun r s' => r = .ok .next ∧ ∃ σ' H', Inv X pins σ' H' s' ∧ D σ' H') s := by
 obtain ⟨W, ⟨m0, w0⟩, turn⟩ := h
 have stat : ∀ {H' : Hp}, (∀ b ∈ fp, H' b = none) → ∀ b ∈ fp, FpOk X pins H' b := fun hn b hb => ⟨hn b hb, (f b hb).2⟩
 refine codeAny_loop hq (fun n s' => ∃ i σ' H', Inv X pins σ' H' s' ∧ tn i s'.heap ∧ (∀ b ∈ fp, H' b = none) ∧ W i n σ' H') ?_ m0 ⟨0, σ, H, I, st, fun b hb => (f b hb).1, w0⟩
 rintro n s3 ⟨i, σ3, H3, I3, st3, fr3, w3⟩
 rw [hund]
 show wpAny _ X.A (if (Code.compLoop e d (.ref it) acc X.env).isFrame then _ else (compTurn e d (.ref it) acc X.env).onRaise (fun x => do noteFrame x X.env; theTreesLotGoes x)) _ _ s3
 rw [hfrm]
 show wpAny _ X.A ((compTurn e d (.ref it) acc X.env).onRaise (fun x => do noteFrame x X.env; theTreesLotGoes x)) _ _ s3
 refine wpAny_noted ?_
 rw [heq]
 have no : ∀ {α : Type} {t : Sem α} {Q : α → Shared → Prop} {E : Value → Shared → Prop} {s : Shared}, wpAny (model X.prog X.w) X.A t Q X.xe s → wpAny (model X.prog X.w) X.A t Q E s := fun h => wpAny_mono h (fun _ _ q => q) fun _ _ z => by rw [hx] at z; exact z.elim
 refine wpAny_bind (wpAny_standAt (wpAny_bind ?_))
 rcases turn i n σ3 H3 w3 with ⟨stop, qn⟩ | ⟨go, N, hN, step⟩
 ·refine thn (T.done X rfl rfl rfl hc i pins s3 σ3 H3 _ I3 (stat fr3) st3 stop) fun r s4 ⟨hr, I4⟩ => ?_
  subst hr
  exact wpAny_pure ⟨rfl, σ3, H3, I4, qn⟩
 ·refine thn (T.item X rfl rfl rfl hc i pins s3 σ3 H3 _ I3 (stat fr3) st3 go) fun r s4 ⟨u, hr, h4⟩ => ?_
  subst hr
  refine wpAny_bind (thn h4 fun _ s5 ⟨x, H5, I5, r5, y5, st5, fr5⟩ => ?_)
  have I5' := I5.pinned (stat fr5) (T.obj _ _ st5)
  have again : ∀ {s7 : Shared} {σ7 : St} {H7 : Hp}, Inv X (pins ++ pinsAt fp s5.heap) σ7 H7 s7 → N σ7 H7 → ∃ m, m < n ∧ ∃ i σ' H', Inv X pins σ' H' s7 ∧ tn i s7.heap ∧ (∀ b ∈ fp, H' b = none) ∧ W i m σ' H' := fun {s7 σ7 H7} I7 n7 => by
   obtain ⟨m', hm, w7⟩ := hN σ7 H7 n7
   refine ⟨m', hm, i + 1, σ7, H7, I7.unpinned, T.keep _ _ _ st5 fun b hb o e => (I7.pin (b, o) (List.mem_append_right _ (List.mem_append_right _ (mem_pinsAt hb e)))).1, fun b hb => ?_, w7⟩
   obtain ⟨o, e, d⟩ := T.obj _ _ st5 b hb
   exact (I7.pin (b, o) (List.mem_append_right _ (List.mem_append_right _ (mem_pinsAt hb e)))).2.1
  refine wpAny_bind (no (thn (hg _ s5 σ3 H5 x u _ I5' r5 (step x H5 y5)) fun _ s6 ⟨σ6, H6, I6, q6⟩ => ?_))
  refine wpAny_bind (no (thn (hi _ s6 σ6 H6 _ I6 q6) fun ok s7 ⟨H7, I7, q7⟩ => ?_))
  cases ok with
  | false => exact wpAny_pure ⟨rfl, again I7 q7⟩
  | true =>
   refine wpAny_bind (no (thn (hb _ s7 σ6 H7 _ I7 q7) fun _ s8 ⟨σ8, H8, I8, n8⟩ => ?_))
   exact wpAny_pure ⟨rfl, again I8 n8⟩
end L2
end
section
set_option Elab.async false
set_option linter.all false
set_option maxRecDepth 100000
namespace L2
open PySem PySem.Spec PyProof.Rows
theorem lookup_relabel_free {env : Env} : ∀ {names : List (Str × NameKind)} {x : Str}, names.lookup x = some .free →
    ((names.map fun (n, k) => if (k == NameKind.free && env.scope.kind == .function && env.kindOf n == some .cell) then (n, NameKind.cell) else (n, k)).lookup x = some .cell ∨
     (names.map fun (n, k) => if (k == NameKind.free && env.scope.kind == .function && env.kindOf n == some .cell) then (n, NameKind.cell) else (n, k)).lookup x = some .free)
  | [], _, h => by simp at h
  | (n, k) :: r, x, h => by
    have ih := @lookup_relabel_free env r x
    rw [List.map_cons]
    cases hx : x == n with
    | true =>
      simp only [List.lookup_cons, hx] at h
      cases h
      by_cases hc : (NameKind.free == NameKind.free && env.scope.kind == .function && env.kindOf n == some .cell) = true
      · left; simp only [hc, if_true, List.lookup_cons, hx]
      · right; simp only [hc, if_false, List.lookup_cons, hx, Bool.false_eq_true]
    | false =>
      simp only [List.lookup_cons, hx] at h
      by_cases hc : (k == NameKind.free && env.scope.kind == .function && env.kindOf n == some .cell) = true
      · simp only [hc, if_true, List.lookup_cons, hx]; exact ih h
      · simp only [hc, if_false, List.lookup_cons, hx, Bool.false_eq_true]; exact ih h
structure CScope (X : Cx) (N : List Str) (fr : List (Option Nat)) (sc : Scope) : Prop where
 kind : sc.kind = .function
 nocell : ∀ y ∈ sc.names, y.2 ≠ NameKind.cell
 loc : ∀ y ∈ sc.names, y.2 = .local → sc.names.lookup y.1 = some .local
 len : fr.length = N.length
 fr : ∀ (i j : Nat), fr[i]? = some (some j) → ∃ x, N[i]? = some x ∧ X.N[j]? = some x ∧ sc.names.lookup x = some .free ∧ (X.env.kindOf x = some .cell ∨ X.env.kindOf x = some .free)
noncomputable def okFr (XN : List Str) (XS names : List (Str × NameKind)) : List Str → List (Option Nat) → Bool
 | [], [] => true
 | x :: N, o :: fr => (match o with
  | none => true
  | some j => XN[j]? == some x && names.lookup x == some .free && (XS.lookup x == some .cell || XS.lookup x == some .free)) && okFr XN XS names N fr
 | _, _ => false
theorem okFr_len {XN : List Str} {XS names : List (Str × NameKind)} : ∀ {N : List Str} {fr : List (Option Nat)}, okFr XN XS names N fr = true → fr.length = N.length
 | [], [], _ => rfl
 | x :: N, o :: fr, h => by
  unfold okFr at h
  rw [Bool.and_eq_true] at h
  rw [List.length_cons, List.length_cons, okFr_len h.2]
 | [], _ :: _, h => by cases h
 | _ :: _, [], h => by cases h
theorem okFr_get {XN : List Str} {XS names : List (Str × NameKind)} : ∀ {N : List Str} {fr : List (Option Nat)} {i j : Nat}, okFr XN XS names N fr = true → fr[i]? = some (some j) → ∃ x, N[i]? = some x ∧ XN[j]? = some x ∧ names.lookup x = some .free ∧ (XS.lookup x = some .cell ∨ XS.lookup x = some .free)
 | [], [], _, _, _, e => by simp at e
 | x :: N, o :: fr, 0, j, h, e => by
  unfold okFr at h
  rw [Bool.and_eq_true] at h
  simp at e
  subst e
  have h1 := h.1
  simp only [Bool.and_eq_true, Bool.or_eq_true, beq_iff_eq] at h1
  exact ⟨x, rfl, h1.1.1, h1.1.2, h1.2⟩
 | x :: N, o :: fr, i + 1, j, h, e => by
  unfold okFr at h
  rw [Bool.and_eq_true] at h
  obtain ⟨y, q⟩ := okFr_get (i := i) (j := j) h.2 (by simpa using e)
  exact ⟨y, by simpa using q.1, q.2⟩
 | [], _ :: _, _, _, h, _ => by cases h
 | _ :: _, [], _, _, h, _ => by cases h
noncomputable def okLoc (names : List (Str × NameKind)) : Bool := names.all fun y => !(y.2 == .cell) && (!(y.2 == .local) || names.lookup y.1 == some .local)
theorem CScope.of {X : Cx} {N : List Str} {fr : List (Option Nat)} {sc : Scope} (h1 : sc.kind = .function) (h2 : okLoc sc.names = true) (h3 : okFr X.N X.env.scope.names sc.names N fr = true) : CScope X N fr sc := by
 have h2' := List.all_eq_true.mp h2
 refine ⟨h1, fun y hy e => ?_, fun y hy e => ?_, okFr_len h3, fun i j e => okFr_get h3 e⟩
 ·have q := h2' y hy
  rw [e] at q
  simp at q
 ·have q := h2' y hy
  rw [e] at q
  simpa using q
theorem frS_get {fr : List (Option Nat)} {σ : St} {i : Nat} {v : V} (h : (frS fr σ)[i]? = some (some v)) : ∃ j, fr[i]? = some (some j) ∧ σ[j]? = some (some v) := by
 unfold frS at h
 rw [List.getElem?_map] at h
 cases e : fr[i]? with
 | none => rw [e] at h; cases h
 | some o =>
  rw [e] at h
  cases o with
  | none => cases h
  | some j =>
   refine ⟨j, rfl, ?_⟩
   have h' : (σ[j]?).bind id = some v := Option.some.inj h
   cases q : σ[j]? with
   | none => rw [q] at h'; cases h'
   | some o => rw [q] at h'; exact congrArg some h'
section
variable {X : Cx} {pins : List (Addr × Obj)} {σ : St} {H H' : Hp} {s : Shared}
theorem Inv.block {N : List Str} {fr : List (Option Nat)} {sc : Scope} {cl : List (Str × Addr)} {ex : List Addr} {h1 : Heap} {tk : Nat} (I : Inv X pins σ H s) (S : CScope X N fr sc) (hcl : clos sc.names X.env.cells [] = some cl)
  (hex : ∀ b ∈ ex, FpOk X pins H b ∧ b < s.heap.objs.size) (hns : h1.Ns s.heap.objs.size (fun _ => none)) (hk : ∀ b u, s.heap.get? b = some u → h1.get? b = some u) :
  Inv (cxc X N sc cl s H ex) [] (frS fr σ) H { s with heap := h1, toks := tk } := by
 have hfree : H s.heap.objs.size = none := I.hok.fresh (Nat.le_refl _)
 have cne : ∀ x c, cl.lookup x = some c → c ≠ s.heap.objs.size := fun x c e z => by
  obtain ⟨v, q⟩ := I.cell x c (clos_lookup hcl e)
  exact absurd q.lt (by rw [z]; exact Nat.lt_irrefl _)
 refine ⟨⟨I.ok.mod, S.kind, I.ok.glob, I.ok.blt, Nat.le_refl _, fun x y c h1 h2 => I.ok.inj x y c (clos_lookup hcl h1) (clos_lookup hcl h2), fun x hx => ?_, fun x c z => absurd (show false = true from z) (by decide), I.ok.hd, I.ok.frames, Or.inl rfl, fun b hb => ?_, I.bs, Nat.le_trans I.ok.bsz I.sz, fun b o e hb => ?_, fun b hb hf => ?_, I.stack, I.stkFree⟩,
  rfl, I.bare, Un.kept hk, ⟨_, hns, fun i x v h1 h2 h3 => ?_⟩, fun x c e => ?_, hfree, fun x c e => I.freeC x c (clos_lookup hcl e), fun p hp => absurd (show p ∈ ([] : List (Addr × Obj)) from hp) (by simp), I.hok.kept hk, ?_⟩
 ·have hx' : (relabel sc X.env).names.lookup x = some .cell ∨ (relabel sc X.env).names.lookup x = some .free := hx
  obtain ⟨c, hc⟩ := clos_has sc.names [] cl hcl x (relabel_free' S.nocell hx')
  exact lookup_of_mem hc
 ·obtain ⟨⟨f0, f1, f2, f3, f4, f5⟩, lt⟩ := hex b hb
  exact ⟨Nat.ne_of_lt lt, fun x c e => f4 x c (clos_lookup hcl e)⟩
 ·obtain ⟨⟨f0, f1, f2, f3, f4, f5⟩, lt⟩ := hex b hb
  rcases f3 with f3 | f3
  ·exact I.ok.noex b o e f3
  ·exact absurd (Nat.lt_of_lt_of_le (Heap.lt_size e) I.ok.bsz) (Nat.not_lt.mpr f3)
 ·obtain ⟨⟨f0, f1, f2, f3, f4, f5⟩, lt⟩ := hex b hb
  rcases List.mem_cons.mp (I.stkSub b hf) with e | e
  ·exact f1 e
  ·exact f2 e
 ·obtain ⟨j, hj, hv⟩ := frS_get h2
  obtain ⟨x', e1, e2, e3, e4⟩ := S.fr i j hj
  have hN : N[i]? = some x := h1
  rw [hN] at e1
  cases e1
  obtain ⟨c, hc⟩ := clos_has sc.names [] cl hcl x (PySem.mem_of_lookup e3)
  obtain ⟨c', hc'⟩ := lookup_of_mem hc
  have hcX := clos_lookup hcl hc'
  obtain ⟨m, hn, hl⟩ := I.loc
  have kc : (relabel sc X.env).names.lookup x = some .cell ∨ (relabel sc X.env).names.lookup x = some .free := lookup_relabel_free e3
  have vis : Vis X.env.scope x ∧ (X.env.kindOf x ≠ some .local) := by
   rcases e4 with q | q
   ·exact ⟨.inr (.inl q), by rw [q]; decide⟩
   ·exact ⟨.inr (.inr q), by rw [q]; decide⟩
  obtain ⟨u, r, l⟩ := hl j x v e2 hv vis.1
  refine ⟨u, r, .inr ⟨kc, c', hc', ?_⟩⟩
  rcases l with ⟨q, _⟩ | ⟨_, d, hd, hcell⟩
  ·exact absurd q vis.2
  ·rw [hcX] at hd
   cases hd
   exact hcell.keeps hk
 ·obtain ⟨v, q⟩ := I.cell x c (clos_lookup hcl e)
  exact ⟨v, q.keeps hk⟩
 ·show (frS fr σ).length = N.length
  unfold frS
  rw [List.length_map]; exact S.len
end
end L2
end
section
set_option Elab.async false
set_option linter.all false
set_option maxRecDepth 100000
namespace L2
open PySem PySem.Spec PyProof.Rows
section
variable {X : Cx} {pins : List (Addr × Obj)} {σ : St} {H H' : Hp} {s : Shared}
theorem Inv.unblock {N : List Str} {sc : Scope} {cl : List (Str × Addr)} {ex : List Addr} {pins' : List (Addr × Obj)} {σ' : St} {s' : Shared} {h' : Heap} (I : Inv X pins σ H s) (J : Inv (cxc X N sc cl s H ex) pins' σ' H' s')
  (hex : ∀ b ∈ ex, FpOk X pins H b) (sb : Heap.SameBut s.heap.objs.size s'.heap h') : Inv X pins σ H' { s' with heap := h' } := by
 have free : H' s.heap.objs.size = none := J.free
 have eq : ∀ b, b ≠ s.heap.objs.size → h'.get? b = s'.heap.get? b := sb.2
 have ne : ∀ b o, s.heap.get? b = some o → b ≠ s.heap.objs.size := fun b o e => Nat.ne_of_lt (Heap.lt_size e)
 have B : Un (frs X.stack) ex H H' s.heap s'.heap := J.base
 refine I.call' (s' := { s' with heap := h' }) (ch := ex) J.os ⟨fun b o q n hb hx => (eq b (ne b o q)).trans (B.keep b o q n hb hx), fun b o q n hb hx => ?_, B.free, fun b o q hx => ?_, B.tups, B.frzs, B.tbls⟩ (fun a o e => ?_) J.bare (fun b hb => ?_)
 ·obtain ⟨sl, e⟩ := B.slot b o q n hb hx
  exact ⟨sl, (eq b (ne b o q)).trans e⟩
 ·obtain ⟨o', e⟩ := B.there b o q hx
  exact ⟨o', (eq b (ne b o q)).trans e⟩
 ·refine (J.hok a o e).stay (fun b u hb q => ?_) (fun _ q => q) fun _ _ q => q
  refine (eq b ?_).trans q
  rcases hb with rfl | hb
  ·exact ne_of_none e free
  ·exact ne_of_none hb free
 ·obtain ⟨f0, f1, f2, f3, f4, f5⟩ := hex b hb
  exact ⟨f3, f1, f4, f5⟩
end
section
variable {X : Cx}
noncomputable def tLC (fr : List (Option Nat)) (wi : TI) (g : TG) (tc : TT) (te : TE) : TE := fun σ H Q => wi σ H fun J H1 => ∀ p, H1 p = none → tCL J g tc (tEmit p te) (fun _ H2 => Q (.ref p) H2) (frS fr σ) (upd H1 p (.lst []))
theorem lc_entry {N : List Str} {fr : List (Option Nat)} {e tg iter : Expr} {ifs : List Expr} {gs : List Comprehension} {sc : Scope} {ip : Pos} {cl : List (Str × Addr)} {wi : TI} {D : It → Addr → St → Hp → Prop} {pins : List (Addr × Obj)} {σ : St} {H : Hp} {s : Shared} {Q : VK}
  (he : clausesOf e = ⟨tg, iter, ifs, 0⟩ :: gs) (hi : PI X tg iter wi) (S : CScope X N fr sc) (hcl : clos sc.names X.env.cells [] = some cl) (I : Inv X pins σ H s)
  (h : wi σ H fun J H1 => ∀ p, H1 p = none → D J p (frS fr σ) (upd H1 p (.lst [])))
  (loop : ∀ (it p : Addr) (fp : List Addr) (tn : Nat → Heap → Prop) (J : It) (s1 s2 : Shared) (H1 : Hp) (σ1 : St), Turn X.prog X.w X.K tg J fp it tn → Inv (cxc X N sc cl s1 H1 fp) [] σ1 H1 s2 → tn 0 s2.heap → (∀ b ∈ fp, FpOk (cxc X N sc cl s1 H1 fp) [] H1 b) → D J p σ1 H1 →
   codeAny (model X.prog X.w) X.A (.compStart e 0 (.ref it) (.ref p) (compEnvC sc cl s1.heap.objs.size X.env)) (fun r s' => r = .ok .next ∧ ∃ σ' H', Inv (cxc X N sc cl s1 H1 fp) [] σ' H' s' ∧ Q (.ref p) H') s2)
  (hs : ∀ x, foldedSetIterable iter X.env x = pure x) :
  wpAny (model X.prog X.w) X.A (comprehension e sc X.env ip (newList []) false (eval iter X.env)) (EP X pins σ Q) X.xe s := by
 refine wpAny_comprehension_free (use := none) he hs (closureFor_clos hcl) S.kind S.loc ?_
 refine thn (hi pins s σ H _ I h) fun v s1 h1 => thn h1 fun itv s2 ⟨it, fp, tn, J, H2, e2, I2, T, st2, f2, q⟩ => ?_
 subst e2
 refine wpAny_newObj_type ?_
 have hp : H2 s2.heap.objs.size = none := I2.hok.fresh (Nat.le_refl _)
 have I3 : Inv X pins σ (upd H2 s2.heap.objs.size (.lst [])) { s2 with heap := s2.heap.push { cls := .type "list", data := .seq ([] : List Value).toArray }, toks := s2.toks } := I2.lnew (its := []) (ys := []) .nil (Nat.zero_le _)
 have lt2 : ∀ b ∈ fp, b < s2.heap.objs.size := fun b hb => let ⟨o, e, _⟩ := T.obj 0 _ st2 b hb; Heap.lt_size e
 have f3 : ∀ b ∈ fp, FpOk X pins (upd H2 s2.heap.objs.size (.lst [])) b := fun b hb => ⟨by rw [upd_ne (Nat.ne_of_lt (lt2 b hb))]; exact (f2 b hb).1, (f2 b hb).2⟩
 have st3 : tn 0 (s2.heap.push { cls := .type "list", data := .seq ([] : List Value).toArray }) := T.keep _ _ _ st2 fun b _ o e => Heap.get?_push_of_some _ e
 refine wpAny_newFunctionEnv S.nocell (by intro y hy; simp at hy) (fun h₁ hns₁ hsb₁ => ?_) S.kind
 generalize hs3 : ({ s2 with heap := s2.heap.push { cls := .type "list", data := .seq ([] : List Value).toArray } } : Shared) = s3 at hns₁ hsb₁ ⊢
 have I3' : Inv X pins σ (upd H2 s2.heap.objs.size (.lst [])) s3 := by rw [← hs3]; exact I3
 have st3' : tn 0 s3.heap := by rw [← hs3]; exact st3
 have lt3 : ∀ b ∈ fp, b < s3.heap.objs.size := fun b hb => let ⟨o, e, _⟩ := T.obj 0 _ st3' b hb; Heap.lt_size e
 have hk : ∀ b u, s3.heap.get? b = some u → h₁.get? b = some u := fun b u e => hsb₁.extBut b u (Nat.ne_of_lt (Heap.lt_size e)) (Heap.get?_push_of_some _ e)
 have hns : h₁.Ns s3.heap.objs.size (fun _ => none) := by simpa using hns₁
 have B := I3'.block (N := N) (fr := fr) (sc := sc) (cl := cl) (ex := fp) (h1 := h₁) (tk := s3.toks + ([] : List (Str × Value)).length) S hcl (fun b hb => ⟨f3 b hb, lt3 b hb⟩) hns hk
 have stB : tn 0 h₁ := T.keep _ _ _ st3' fun b _ o e => hk b o e
 refine codeAny_mono (loop it s2.heap.objs.size fp tn J s3 _ (upd H2 s2.heap.objs.size (.lst [])) (frS fr σ) T B stB (fun b hb => ?_) (q _ hp)) fun r s' hr => ?_
 ·obtain ⟨f0, f1, f2', f3', f4, f5⟩ := f3 b hb
  refine ⟨f0, Nat.ne_of_lt (lt3 b hb), fun z => ?_, .inl hb, fun x c e => f4 x c (clos_lookup hcl e), fun p hp' => absurd (show p ∈ ([] : List (Addr × Obj)) from hp') (by simp)⟩
  rcases List.mem_cons.mp (I3'.stkSub b z) with e | e
  ·exact f1 e
  ·exact f2' e
 ·obtain ⟨rfl, σ', H', J', q'⟩ := hr
  obtain ⟨m, hn, _⟩ := J'.loc
  exact ⟨m, hn, fun h' sb => ⟨.ref s2.heap.objs.size, H', I3'.unblock J' f3 sb, rfl, q'⟩⟩
theorem pe_lc {N : List Str} {fr : List (Option Nat)} {tg iter elt : Expr} {ifs : List Expr} {sc : Scope} {pos : Pos} {cl : List (Str × Addr)} {wi : TI} {g : TG} {tc : TT} {te : TE} (hc : X.calm = true) (hi : PI X tg iter wi) (S : CScope X N fr sc) (hcl : clos sc.names X.env.cells [] = some cl)
  (hb : ∀ s H ex, PG (cxc X N sc cl s H ex) tg g ∧ PIfs (cxc X N sc cl s H ex) ifs tc ∧ PE (cxc X N sc cl s H ex) elt te) (hs : ∀ x, foldedSetIterable iter X.env x = pure x := by intro _; rfl) :
  PE X (.ListComp elt [⟨tg, iter, ifs, 0⟩] sc pos) (tLC fr wi g tc te) := by
 intro pins s σ H Q I h
 rw [eval_ListComp]
 refine lc_entry (D := fun J p σ H => tCL J g tc (tEmit p te) (fun _ H2 => Q (.ref p) H2) σ H) rfl hi S hcl I h (fun it p fp tn J s1 s2 H1 σ1 T B st f d => ?_) hs
 obtain ⟨hg, hifs, helt⟩ := hb s1 H1 fp
 have L := comp_loop (X := cxc X N sc cl s1 H1 fp) (e := .ListComp elt [⟨tg, iter, ifs, 0⟩] sc pos) (d := 0) (acc := .ref p) (D := fun _ H2 => Q (.ref p) H2) (s := s2) hc rfl (compTurn_list elt tg iter ifs sc pos (.ref it) (.ref p) _) rfl rfl rfl T hg hifs (pb_emit helt) B st f d
 exact codeAny_compStart_list L (T.self X.A 0 s2 _ _ st L)
end
end L2
end
section
set_option Elab.async false
set_option linter.all false
set_option maxRecDepth 100000
namespace L2
open PySem PySem.Spec PyProof.Rows
noncomputable def sq (H : Hp) (a : Addr) : Option (List V) := match H a with
 | some (.lst xs) => some xs
 | some (.tup xs) => some xs
 | some (.frz _ (.lst xs)) => some xs
 | some (.frz _ (.tup xs)) => some xs
 | _ => none
theorem sq_lst {H : Hp} {a : Addr} {xs : List V} (h : H a = some (.lst xs)) : sq H a = some xs := by unfold sq; rw [h]
theorem sq_tup {H : Hp} {a : Addr} {xs : List V} (h : H a = some (.tup xs)) : sq H a = some xs := by unfold sq; rw [h]
theorem sq_updL {H : Hp} {a : Addr} {xs : List V} : sq (upd H a (.lst xs)) a = some xs := sq_lst upd_same
theorem sq_updT {H : Hp} {a : Addr} {xs : List V} : sq (upd H a (.tup xs)) a = some xs := sq_tup upd_same
theorem sq_rd {H : Hp} {a : Addr} {xs : List V} (h : sq H a = some xs) : Rd H a (.lst xs) ∨ Rd H a (.tup xs) := by
 unfold sq at h
 cases e : H a with
 | none => rw [e] at h; cases h
 | some o =>
  rw [e] at h
  cases o with
  | lst ys => cases h; exact .inl (.inl e)
  | tup ys => cases h; exact .inr (.inl e)
  | frz ob u =>
   cases u with
   | lst ys => cases h; exact .inl (.inr ⟨ob, e⟩)
   | tup ys => cases h; exact .inr (.inr ⟨ob, e⟩)
   | _ => cases h
  | _ => cases h
theorem sq_seq {K : PySem.W.Frag} {H : Hp} {a : Addr} {xs : List V} (h : sq H a = some xs) : SqL K H a xs ∨ SqT K H a xs := by
 rcases sq_rd h with h | h
 ·exact .inl (.inl h)
 ·exact .inr (.inl h)
section
variable {X : Cx}
noncomputable def rIx0 : R2 := fun x y H Q => ∃ p xs i v, x = .ref p ∧ y = .int i ∧ sq H p = some xs ∧ atI xs i = some v ∧ Q v H
theorem ix0 : IxR X rIx0 := by
 intro value slice pins s σ H x y v u Q I rx ry h hs
 obtain ⟨p, xs, i, z, e1, e2, hq, ha, q⟩ := h
 rcases sq_seq (K := X.K) hq with k | k
 ·exact ix_list value slice pins s σ H x y v u Q I rx ry ⟨p, xs, i, z, e1, e2, k, ha, q⟩ hs
 ·exact ix_tup value slice pins s σ H x y v u Q I rx ry ⟨p, xs, i, z, e1, e2, k, ha, q⟩ hs
theorem len0 : CallR X (.builtin "len") (fun xs H Q => ∃ p ys, xs = [.ref p] ∧ sq H p = some ys ∧ Q (.int ys.length) H) := by
 intro pins s σ H xs us Q I r h
 obtain ⟨p, ys, e, hq, q⟩ := h
 exact call_len_seq pins s σ H xs us Q I r ⟨p, ys, e, sq_seq hq, q⟩
theorem tupL0 : CallR X (.type "tuple") (fun xs H Q => ∃ p ys, xs = [.ref p] ∧ H p = some (.lst ys) ∧ ∀ l, H l = none → Q (.ref l) (upd H l (.tup ys))) := by
 intro pins s σ H xs us Q I r h
 obtain ⟨p, ys, e, hq, q⟩ := h
 exact call_tuple_of pins s σ H xs us Q I r ⟨p, ys, e, .inl ⟨SqL.of hq, q⟩⟩
theorem list0 : CallR X (.type "list") (fun xs H Q => ∃ p ys, xs = [.ref p] ∧ sq H p = some ys ∧ ∀ l, H l = none → Q (.ref l) (upd H l (.lst ys))) := by
 intro pins s σ H xs us Q I r h
 obtain ⟨p, ys, e, hq, q⟩ := h
 exact call_list_of pins s σ H xs us Q I r ⟨p, ys, e, sq_seq hq, q⟩
noncomputable def rIn0 (neg : Bool) : R2 := fun x y H Q => ∃ p xs, y = .ref p ∧ sq H p = some xs ∧ flatV x = true ∧ xs.all flatV = true ∧ Q (.bl (if neg then !inV x xs else inV x xs)) H
noncomputable def gTup0 (n : Nat) (t : TGs) : TG := fun v σ H Q => ∃ a xs, v = .ref a ∧ H a = some (.tup xs) ∧ xs.length = n ∧ t xs σ H Q
theorem pg_tup0 {es : List Expr} {k : Nat} {t : TGs} {n : Nat} {pos : Pos} (hc : X.calm = true) (h : PGs X es t)
  (hn : (assignEach es X.env).length = n := by rfl) (hst : (assignEach es X.env).findIdx? (·.1) = none := by rfl) : PG X (.Tuple es k pos) (gTup0 n t) := by
 intro pins s σ H v u Q I r hw
 obtain ⟨a, xs, e1, hq, hl, hw⟩ := hw
 exact pg_tup hc h hn hst pins s σ H v u Q I r ⟨a, xs, e1, SqT.of hq, hl, hw⟩
theorem PG.mono {tg : Expr} {g g' : TG} (h : PG X tg g) (m : ∀ v σ H Q, g' v σ H Q → g v σ H Q) : PG X tg g' := fun pins s σ H v u Q I r q => h pins s σ H v u Q I r (m _ _ _ _ q)
noncomputable def ItS (f : Hp → Prop) (xs : List V) : It := ⟨fun i H => f H ∧ i < xs.length, fun i H x H' => H' = H ∧ xs[i]? = some x, fun i H => f H ∧ xs.length ≤ i⟩
theorem Turn.weak {P : Program} {w : World} {K : PySem.W.Frag} {tg : Expr} {J J' : It} {fp : List Addr} {it : Addr} {tn : Nat → Heap → Prop} (T : Turn P w K tg J fp it tn) (hg : ∀ i H, J'.go i H → J.go i H) (hs : ∀ i H, J'.stop i H → J.stop i H)
  (hy : ∀ i H x H', J'.go i H → J.yld i H x H' → J'.yld i H x H') : Turn P w K tg J' fp it tn where
 mem := T.mem
 obj := T.obj
 keep := T.keep
 item := fun X h1 h2 h3 hc i pins s σ H E I f st go => thn (T.item X h1 h2 h3 hc i pins s σ H E I f st (hg i H go)) fun r s1 ⟨u, e, q⟩ => ⟨u, e, thn q fun _ s2 ⟨x, H', I2, r2, y, t, n⟩ => ⟨x, H', I2, r2, hy i H x H' go y, t, n⟩⟩
 done := fun X h1 h2 h3 hc i pins s σ H E I f st go => T.done X h1 h2 h3 hc i pins s σ H E I f st (hs i H go)
 self := T.self
theorem PI.weak {tg iter : Expr} {wi wi' : TI} (h : PI X tg iter wi) (m : ∀ σ H R, wi' σ H R → wi σ H fun J H1 => ∃ J', R J' H1 ∧ (∀ i H, J'.go i H → J.go i H) ∧ (∀ i H, J'.stop i H → J.stop i H) ∧ (∀ i H x H', J'.go i H → J.yld i H x H' → J'.yld i H x H')) : PI X tg iter wi' := by
 intro pins s σ H R I q
 refine thn (h pins s σ H _ I (m σ H R q)) fun v s1 h1 => thn h1 fun itv s2 ⟨it, fp, tn, J, H', e, I2, T, st, f, J', r, a, b, c⟩ => ?_
 exact ⟨it, fp, tn, J', H', e, I2, T.weak a b c, st, f, r⟩
noncomputable def iT0 (tl : TE) : TI := fun σ H R => tl σ H fun x H1 => ∃ a xs, x = .ref a ∧ H1 a = some (.tup xs) ∧ R (ItS (fun H => H a = some (.tup xs)) xs) H1
noncomputable def iL0 (tl : TE) : TI := fun σ H R => tl σ H fun x H1 => ∃ a xs, x = .ref a ∧ H1 a = some (.lst xs) ∧ R (ItS (fun H => H a = some (.lst xs)) xs) H1
theorem getlen {xs : List V} {i : Nat} (h : i < xs.length) : ∃ x, xs[i]? = some x := ⟨xs[i], by simp [h]⟩
theorem pi_t0 {tg l : Expr} {tl : TE} (hl : PE X l tl) : PI X tg l (iT0 tl) := by
 intro pins s σ H R I h
 refine thn (hl pins s σ H _ I h) fun v s1 ⟨x, H1, I1, r1, q1⟩ => ?_
 obtain ⟨a, xs, e, hq, q⟩ := q1
 subst e
 cases r1
 obtain ⟨its, rv, p, hz⟩ := I1.tuple (SqT.of hq)
 refine wpAny_pyIter_tuple (show s1.heap.IsTuple a its.toArray from p) ?_
 refine ⟨s1.heap.objs.size, [s1.heap.objs.size], _, _, H1, rfl, I1.kept (t' := s1.toks) fun b o e => Heap.get?_push_of_some _ e, (turn_tuple a _).weak (J' := ItS (fun H => H a = some (.tup xs)) xs) (fun i H ⟨k, hi⟩ => ?_) (fun i H ⟨k, hi⟩ => ⟨xs, SqT.of k, hi⟩) (fun i H x H' ⟨k, hi⟩ ⟨y1, y2⟩ => ⟨y1, y2 xs (SqT.of k)⟩), ⟨_, Heap.get?_push_size _ rfl, rfl, rfl⟩, fun b hb => ?_, q⟩
 ·obtain ⟨x, hx⟩ := getlen hi
  exact ⟨xs, x, SqT.of k, hx⟩
 ·have e : b = s1.heap.objs.size := by simpa using hb
  subst e
  exact I1.fpOk (Nat.le_refl _) (I1.hok.fresh (Nat.le_refl _))
noncomputable def Cal (P : Program) (w : World) (K : PySem.W.Frag) (mg : Str → Option Value) (base : Heap) (x : Str) (ps : List Str) (k : Nat) (sp : Sp) : Prop :=
 ∃ f fd, FnOk P w K mg base CX0 k f fd ps sp ∧ mg x = some (.ref f) ∧ PySem.W.keepIn K (.ref f) = true ∧ Binds K fd ps []
theorem Cal.imp {P : Program} {w : World} {K : PySem.W.Frag} {mg : Str → Option Value} {base : Heap} {x : Str} {ps : List Str} {k : Nat} {sp sp' : Sp} (c : Cal P w K mg base x ps k sp) (h : ∀ vs H Q E, sp' vs H Q E → sp vs H Q E) : Cal P w K mg base x ps k sp' :=
 let ⟨f, fd, F, r⟩ := c; ⟨f, fd, F.imp h, r⟩
theorem Cal.mono {P : Program} {w : World} {K : PySem.W.Frag} {mg : Str → Option Value} {base : Heap} {x : Str} {ps : List Str} {j k : Nat} {sp : Sp} (c : Cal P w K mg base x ps j sp) (h : j ≤ k) : Cal P w K mg base x ps k sp :=
 let ⟨f, fd, F, r⟩ := c; ⟨f, fd, F.mono h, r⟩
noncomputable def tCal (sp : Sp) (t : TA) : TE := fun σ H Q => t σ H fun vs H1 => sp vs H1 Q E0
theorem pe_cal {k j : Nat} {x : Str} {ps : List Str} {sp : Sp} {t : TA} {e : Expr} {es : List Expr} {p pos : Pos} (c : Cal X.prog X.w X.K X.mg X.base x ps k sp) (hr : Room j X.A) (ha : PA X (e :: es) t) (hg : Gl X x := by rfl) (hk : k ≤ j := by decide)
  (hdb : (x == ("__debug__" : Str)) = false := by decide) (he : starEach (e :: es) X.env = (false, eval e X.env) :: starEach es X.env := by rfl) (hpl : (backTo pos (starEach es X.env)).any (·.1) = false := by rfl) :
  PE X (.Call (.Name x p) (e :: es) [] pos) (tCal sp t) := by
 obtain ⟨f, fd, F, hm, kp, hb⟩ := c
 intro pins s σ H Q I h
 refine pe_call (E := E0) (dvs := []) F (hr.mono hk) hg hm kp hb .nil pass0 ha hdb he hpl pins s σ H Q I ?_
 show t σ H fun vs H1 => sp (vs ++ []) H1 Q E0
 have h' : t σ H fun vs H1 => sp vs H1 Q E0 := h
 simpa using h'
theorem cal_of {P : Program} {w : World} {K : PySem.W.Frag} {mg : Str → Option Value} {base : Heap} {x : Str} {st : Stmt} {f : Addr} {fd : FuncData} {N ps : List Str} {k : Nat} {sp : Sp} (F : Fun K x x st f fd) (hm : mg x = some (.ref f)) (hb : Binds K fd ps [])
  (S : FnScope N ps (defScope st)) (len : ∀ vs H Q E, sp vs H Q E → vs.length = ps.length)
  (hbody : ∀ (cdv : Value) (A : Around) (outer : List Env) (s : Shared) (H : Hp) (vs : List V) (Q : VK) (E : XK), Room k (A.deeper (envOfC x (defScope st) s.heap.objs.size f cdv)) → sp vs H Q E →
   ∃ t, PSs (cxOf CX0 P w K mg base N x (defScope st) f cdv A outer s H E).nox (defBody st) t ∧ t { nx := fun _ H' => Q .non H', rt := Q } (start N vs) H) : Cal P w K mg base x ps (k + 1) sp :=
 ⟨f, fd, F.ok S len hbody, hm, F.kp, hb⟩
noncomputable def tBits (to : TE) : TE := fun σ H Q => to σ H fun x H1 => ∃ i, x = .int i ∧ Q (.int (Builtin.Int.intBits i : Nat)) H1
theorem isnot_bl : OpR X (compareOp .IsNot) (fun x y H Q => ∃ a b, x = .bl a ∧ y = .bl b ∧ Q (.bl (a != b)) H) := by
 intro pins s σ H x y v u Q I rx ry h
 obtain ⟨a, b, rfl, rfl, q⟩ := h
 cases rx
 cases ry
 exact isnot_bool ⟨.bl (a != b), H, I, rfl, q⟩
section
variable {pins : List (Addr × Obj)} {σ : St} {H : Hp} {s : Shared}
theorem Inv.walk {p : Addr} {xs : List V} {E : Value → Shared → Prop} {R : Value → Shared → Prop} (I : Inv X pins σ H s) (hc : X.calm = true) (hq : sq H p = some xs)
  (h : ∀ (it : Addr) (its : List Value) (s2 : Shared) (St : Nat → Heap → Prop) (fp : List Addr), Vals xs its → Walks X.prog X.w X.A.in1 it fp [it] its.length (fun i v => its[i]? = some v) St → St 0 s2.heap → (∀ b ∈ fp, b < s2.heap.objs.size) → s2.heap.objs.size = it + 1 →
   (∀ h' tk, (∀ b o, b ∉ [it] → s2.heap.get? b = some o → h'.get? b = some o) → Inv X pins σ H { s2 with heap := h', toks := tk }) → R (.ref it) s2) :
  wpAny (model X.prog X.w) X.A.in1 (pyIter (.ref p)) R E s := by
 have hd : X.A.in1.handled = none := I.ok.hd hc
 have key : ∀ (ob : Obj), Inv X pins σ H { s with heap := s.heap.push ob } ∧ ∀ h' tk, (∀ b o, b ∉ [s.heap.objs.size] → (s.heap.push ob).get? b = some o → h'.get? b = some o) → Inv X pins σ H { s with heap := h', toks := tk } := fun ob => by
  refine ⟨I.kept (t' := s.toks) fun b o e => Heap.get?_push_of_some _ e, fun h' tk k => I.kept fun b o e => k b o (fun z => ?_) (Heap.get?_push_of_some _ e)⟩
  have e' : b = s.heap.objs.size := by simpa using z
  exact Nat.lt_irrefl _ (e' ▸ Heap.lt_size e)
 rcases sq_seq (K := X.K) hq with k | k
 ·obtain ⟨its, rv, pl, hz⟩ := I.list k
  have ne : p ≠ s.heap.objs.size := Nat.ne_of_lt (let ⟨_, e, _⟩ := pl.isList; Heap.lt_size e)
  refine wpAny_pyIter_list pl.isList ?_
  refine h s.heap.objs.size its _ (fun i h => h.IsListIter s.heap.objs.size p i ∧ h.IsList p its.toArray) [s.heap.objs.size, p] rv (by simpa using Walks.list hd s.heap.objs.size p ne its.toArray) ⟨⟨_, Heap.get?_push_size _ rfl, rfl, rfl⟩, pl.isList.at fun o e => Heap.get?_push_of_some _ e⟩ (fun b hb => ?_) (Heap.size_push ..) (key _).2
  rw [Heap.size_push]
  rcases List.mem_cons.mp hb with rfl | hb
  ·exact Nat.lt_succ_self _
  ·have e : b = p := by simpa using hb
   subst e
   exact Nat.lt_succ_of_lt (let ⟨_, e, _⟩ := pl.isList; Heap.lt_size e)
 ·obtain ⟨its, rv, pl, hz⟩ := I.tuple k
  have lt : p < s.heap.objs.size := pl.lt
  have ne : p ≠ s.heap.objs.size := Nat.ne_of_lt lt
  refine wpAny_pyIter_tuple (show s.heap.IsTuple p its.toArray from pl) ?_
  refine h s.heap.objs.size its _ (fun i h => h.IsTupleIter s.heap.objs.size p i ∧ h.IsTuple p its.toArray) [s.heap.objs.size, p] rv (by simpa using Walks.tuple hd s.heap.objs.size p ne its.toArray) ⟨⟨_, Heap.get?_push_size _ rfl, rfl, rfl⟩, (show s.heap.IsTuple p its.toArray from pl).at fun o e => Heap.get?_push_of_some _ e⟩ (fun b hb => ?_) (Heap.size_push ..) (key _).2
  rw [Heap.size_push]
  rcases List.mem_cons.mp hb with rfl | hb
  ·exact Nat.lt_succ_self _
  ·have e : b = p := by simpa using hb
   subst e
   exact Nat.lt_succ_of_lt lt
end
theorem preSum_eq (ns : List Int) : ∀ n, n ≤ ns.length → preSum (fun i => ns.getD i 0) n = (ns.take n).sum
 | 0, _ => rfl
 | n + 1, h => by
  show preSum (fun i => ns.getD i 0) n + ns.getD n 0 = _
  rw [preSum_eq ns n (by omega), List.take_add_one, List.getElem?_eq_getElem (by omega), List.sum_append]
  simp [List.getD_eq_getElem?_getD, List.getElem?_eq_getElem (show n < ns.length by omega)]
theorem vals_int_get {ns : List Int} {its : List Value} (r : Vals (ns.map V.int) its) {i : Nat} {v : Value} (h : its[i]? = some v) : ∃ t, v = .int (ns.getD i 0) t := by
 have hl := r.length
 rw [List.length_map] at hl
 have hi : i < ns.length := by rw [hl]; exact (List.getElem?_eq_some_iff.mp h).1
 obtain ⟨u, hu, t, rfl⟩ := r.get (i := i) (x := V.int ns[i]) (by simp [hi])
 rw [h] at hu
 cases hu
 exact ⟨t, by simp [List.getD_eq_getElem?_getD, hi]⟩
noncomputable def sumFits (ns : List Int) : Prop := (∀ n ∈ ns, -(2 ^ 62) ≤ n ∧ n < 2 ^ 62) ∧ ∀ j, j ≤ ns.length → InLong (ns.take j).sum
theorem sum0 (hc : X.calm = true) : CallR X (.builtin "sum") (fun xs H Q => ∃ (p : Addr) (ns : List Int), xs = [.ref p] ∧ sq H p = some (ns.map V.int) ∧ sumFits ns ∧ Q (.int ns.sum) H) := by
 intro pins s σ H xs us Q I r h
 obtain ⟨p, ns, rfl, hq, fit, q⟩ := h
 obtain ⟨u, rfl, ru⟩ := r.one
 cases ru
 refine call_sum_walk (I.walk hc hq fun it its s2 St fp rv W st hfp hsz J => ?_)
 have hl := rv.length
 rw [List.length_map] at hl
 refine ⟨it, fp, [it], its.length, _, St, fun i => ns.getD i 0, rfl, W, st, hfp, fun i v hv => vals_int_get rv hv, fun j hj => ⟨?_, ?_⟩, fun h' tk t' k => ⟨.int ns.sum, H, J h' tk k, ?_, q⟩⟩
 ·have hj' : j < ns.length := by omega
  have e : ns.getD j 0 = ns[j] := by simp [List.getD_eq_getElem?_getD, hj']
  show InLong (ns.getD j 0)
  rw [e]
  obtain ⟨a, b⟩ := fit.1 ns[j] (List.getElem_mem hj')
  exact ⟨by omega, by omega⟩
 ·rw [preSum_eq ns (j + 1) (by omega)]
  exact fit.2 (j + 1) (by omega)
 ·rw [← hl, preSum_eq ns _ (Nat.le_refl _), List.take_length]
  exact ⟨_, rfl⟩
theorem vals_bl_get {bs : List Bool} {its : List Value} (r : Vals (bs.map V.bl) its) {i : Nat} {v : Value} (h : its[i]? = some v) : v = .bool (bs.getD i true) := by
 have hl := r.length
 rw [List.length_map] at hl
 have hi : i < bs.length := by rw [hl]; exact (List.getElem?_eq_some_iff.mp h).1
 obtain ⟨u, hu, e⟩ := r.get (i := i) (x := V.bl bs[i]) (by simp [hi])
 rw [h] at hu
 cases hu
 rw [show v = Value.bool bs[i] from e]
 simp [List.getD_eq_getElem?_getD, hi]
theorem truth_bl {bs : List Bool} {its : List Value} (r : Vals (bs.map V.bl) its) (A : Around) : TruthOf X.prog X.w A (fun i v => its[i]? = some v) (fun i => bs.getD i true) := fun i v s Q E h q => by
 rw [vals_bl_get r h]
 exact wpAny_truthy_bool q
theorem range_all (bs : List Bool) : (List.range bs.length).all (fun i => bs.getD i true) = bs.all id := by
 rw [Bool.eq_iff_iff, List.all_eq_true, List.all_eq_true]
 constructor
 ·intro h b hb
  obtain ⟨i, hi, rfl⟩ := List.mem_iff_getElem.mp hb
  have := h i (List.mem_range.mpr hi)
  simpa [List.getD_eq_getElem?_getD, hi] using this
 ·intro h i hi
  have hi' := List.mem_range.mp hi
  have := h bs[i] (List.getElem_mem hi')
  simpa [List.getD_eq_getElem?_getD, hi'] using this
theorem all0 (hc : X.calm = true) : CallR X (.builtin "all") (fun xs H Q => ∃ (p : Addr) (bs : List Bool), xs = [.ref p] ∧ sq H p = some (bs.map V.bl) ∧ Q (.bl (bs.all id)) H) := by
 intro pins s σ H xs us Q I r h
 obtain ⟨p, bs, rfl, hq, q⟩ := h
 obtain ⟨u, rfl, ru⟩ := r.one
 cases ru
 refine call_all_walk (I.walk hc hq fun it its s2 St fp rv W st hfp hsz J => ?_)
 have hl := rv.length
 rw [List.length_map] at hl
 refine ⟨it, fp, [it], its.length, _, St, fun i => bs.getD i true, rfl, W, st, truth_bl rv _, fun h' tk k => ⟨.bl (bs.all id), H, J h' tk k, ?_, q⟩⟩
 rw [← hl, range_all]
 exact rfl
noncomputable def tyN (H : Hp) : V → Option String
 | .non => some "NoneType"
 | .bl _ => some "bool"
 | .int _ => some "int"
 | .str _ => some "str"
 | .ref a => match H a with
  | some (.lst _) => some "list"
  | some (.tup _) => some "tuple"
  | some (.dK _) => some "dict"
  | _ => none
 | _ => none
noncomputable def subN (t T : String) : Bool := t == T || (t == "bool" && T == "int")
theorem tyN_of {K : PySem.W.Frag} {H : Hp} {x : V} {t : String} (h : tyN H x = some t) : TyOf K H x (.type t) ∧ (t = "NoneType" ∨ t = "bool" ∨ t = "int" ∨ t = "str" ∨ t = "list" ∨ t = "tuple" ∨ t = "dict") := by
 cases x with
 | non => cases h; exact ⟨.non, by simp⟩
 | bl b => cases h; exact ⟨.bl b, by simp⟩
 | int i => cases h; exact ⟨.int i, by simp⟩
 | str i => cases h; exact ⟨.str i, by simp⟩
 | ref a =>
  cases e : H a with
  | none => simp [tyN, e] at h
  | some o =>
   cases o with
   | lst xs => simp [tyN, e] at h; subst h; exact ⟨.lst e, by simp⟩
   | tup xs => simp [tyN, e] at h; subst h; exact ⟨.tup e, by simp⟩
   | dK xs => simp [tyN, e] at h; subst h; exact ⟨.dK e, by simp⟩
   | _ => simp [tyN, e] at h
 | _ => cases h
theorem kit_of {K : PySem.W.Frag} {t T : String} (h : t = "NoneType" ∨ t = "bool" ∨ t = "int" ∨ t = "str" ∨ t = "list" ∨ t = "tuple" ∨ t = "dict") (hT : T = "int" ∨ T = "bool" ∨ T = "tuple" ∨ T = "str" ∨ T = "list") : PySem.W.kitOne K (.type t) (.type T) = some (subN t T) := by
 rcases h with rfl | rfl | rfl | rfl | rfl | rfl | rfl <;> rcases hT with rfl | rfl | rfl | rfl | rfl <;> rfl
theorem isi0 : CallR X (.builtin "isinstance") (fun xs H Q => ∃ x T t, xs = [x, .ty T] ∧ tyN H x = some t ∧ (T = "int" ∨ T = "bool" ∨ T = "tuple" ∨ T = "str" ∨ T = "list") ∧ Q (.bl (subN t T)) H) := by
 intro pins s σ H xs us Q I r h
 obtain ⟨x, T, t, rfl, ht, hT, q⟩ := h
 obtain ⟨u, v, rfl, ru, rv⟩ := r.two
 cases (show v = Value.type T from rv)
 obtain ⟨ty, ht'⟩ := tyN_of (K := X.K) ht
 exact isinst_ok I ru ty (kit_of ht' hT) fun tk => ⟨.bl (subN t T), H, I.tok tk, rfl, q⟩
end
end L2
end
section
set_option Elab.async false
set_option linter.all false
set_option maxRecDepth 100000
namespace L2
open PySem PySem.Spec PyProof.Rows
theorem bt_len : bootBuiltins "len" = some (.builtin "len") := by decide +kernel
theorem bt_sum : bootBuiltins "sum" = some (.builtin "sum") := by decide +kernel
theorem bt_all : bootBuiltins "all" = some (.builtin "all") := by decide +kernel
theorem bt_isinstance : bootBuiltins "isinstance" = some (.builtin "isinstance") := by decide +kernel
theorem bt_max : bootBuiltins "max" = some (.builtin "max") := by decide +kernel
theorem bt_sorted : bootBuiltins "sorted" = some (.builtin "sorted") := by decide +kernel
theorem bt_tuple : bootBuiltins "tuple" = some (.type "tuple") := by decide +kernel
theorem bt_list : bootBuiltins "list" = some (.type "list") := by decide +kernel
theorem bt_int : bootBuiltins "int" = some (.type "int") := by decide +kernel
theorem bt_bool : bootBuiltins "bool" = some (.type "bool") := by decide +kernel
theorem bt_str : bootBuiltins "str" = some (.type "str") := by decide +kernel
theorem for_seq {f : Hp → Prop} {xs : List V} {g : TG} {tb : TS} {D : Ends} {σ : St} {H : Hp} (Pv : Nat → St → Hp → Prop) (h0 : Pv 0 σ H) (hl : ∀ i σ H, i ≤ xs.length → Pv i σ H → f H)
  (hs : ∀ i x σ H, xs[i]? = some x → Pv i σ H → g x σ H fun σ2 H2 => tb { D with nx := Pv (i + 1), ct := Pv (i + 1), bk := D.nx } σ2 H2) (hd : ∀ σ H, Pv xs.length σ H → D.nx σ H) :
  ∃ W : Nat → Nat → St → Hp → Prop, (∃ m, W 0 m σ H) ∧ ∀ i m σ H, W i m σ H →
   ((ItS f xs).stop i H ∧ D.nx σ H) ∨ ((ItS f xs).go i H ∧ ∃ N : St → Hp → Prop, (∀ σ' H', N σ' H' → ∃ m', m' < m ∧ W (i + 1) m' σ' H') ∧ ∀ x H', (ItS f xs).yld i H x H' → g x σ H' fun σ2 H2 => tb { D with nx := N, ct := N, bk := D.nx } σ2 H2) := by
 refine ⟨fun i m σ H => m = xs.length - i ∧ i ≤ xs.length ∧ Pv i σ H, ⟨xs.length, by simp, Nat.zero_le _, h0⟩, ?_⟩
 rintro i m σ H ⟨rfl, hi, p⟩
 have q := hl i σ H hi p
 by_cases hlt : i < xs.length
 ·refine .inr ⟨⟨q, hlt⟩, Pv (i + 1), fun σ' H' p' => ⟨xs.length - (i + 1), by omega, rfl, hlt, p'⟩, fun x H' y => ?_⟩
  obtain ⟨e, y⟩ := y
  subst e
  exact hs i x σ _ y p
 ·have e : i = xs.length := by omega
  subst e
  exact .inl ⟨⟨q, Nat.le_refl _⟩, hd σ H p⟩
theorem cl_seq {f : Hp → Prop} {xs : List V} {g : TG} {tc : TT} {tb : TB} {D : St → Hp → Prop} {σ : St} {H : Hp} (Pv : Nat → St → Hp → Prop) (h0 : Pv 0 σ H) (hl : ∀ i σ H, i ≤ xs.length → Pv i σ H → f H)
  (hs : ∀ i x σ H, xs[i]? = some x → Pv i σ H → g x σ H fun σ2 H2 => tc σ2 H2 fun b H3 => if b = true then tb σ2 H3 (Pv (i + 1)) else Pv (i + 1) σ2 H3) (hd : ∀ σ H, Pv xs.length σ H → D σ H) : tCL (ItS f xs) g tc tb D σ H := by
 refine ⟨fun i m σ H => m = xs.length - i ∧ i ≤ xs.length ∧ Pv i σ H, ⟨xs.length, by simp, Nat.zero_le _, h0⟩, ?_⟩
 rintro i m σ H ⟨rfl, hi, p⟩
 have q := hl i σ H hi p
 by_cases hlt : i < xs.length
 ·refine .inr ⟨⟨q, hlt⟩, Pv (i + 1), fun σ' H' p' => ⟨xs.length - (i + 1), by omega, rfl, hlt, p'⟩, fun x H' y => ?_⟩
  obtain ⟨e, y⟩ := y
  subst e
  exact hs i x σ _ y p
 ·have e : i = xs.length := by omega
  subst e
  exact .inl ⟨⟨q, Nat.le_refl _⟩, hd σ H p⟩
theorem cl_range {lo : Int} {n : Nat} {g : TG} {tc : TT} {tb : TB} {D : St → Hp → Prop} {σ : St} {H : Hp} (Pv : Nat → St → Hp → Prop) (h0 : Pv 0 σ H)
  (hs : ∀ i σ H, i < n → Pv i σ H → g (.int (lo + i)) σ H fun σ2 H2 => tc σ2 H2 fun b H3 => if b = true then tb σ2 H3 (Pv (i + 1)) else Pv (i + 1) σ2 H3) (hd : ∀ σ H, Pv n σ H → D σ H) : tCL (Itr lo n) g tc tb D σ H := by
 refine ⟨fun i m σ H => m = n - i ∧ i ≤ n ∧ Pv i σ H, ⟨n, by simp, Nat.zero_le _, h0⟩, ?_⟩
 rintro i m σ H ⟨rfl, hi, p⟩
 by_cases hlt : i < n
 ·refine .inr ⟨hlt, Pv (i + 1), fun σ' H' p' => ⟨n - (i + 1), by omega, rfl, hlt, p'⟩, fun x H' y => ?_⟩
  obtain ⟨e, y⟩ := y
  subst e y
  exact hs i σ _ hlt p
 ·have e : i = n := by omega
  subst e
  exact .inl ⟨Nat.le_refl _, hd σ H p⟩
noncomputable def Box (H : Hp) (p : Addr) : Prop := ∃ g m c : Int, H p = some (.lst [.int g, .int m, .int c])
noncomputable def But (p : Addr) (H H' : Hp) : Prop := ∀ b, b ≠ p → H' b = H b
theorem But.refl {p : Addr} {H : Hp} : But p H H := fun _ _ => rfl
theorem But.trans {p : Addr} {H H1 H2 : Hp} (a : But p H H1) (b : But p H1 H2) : But p H H2 := fun c h => (b c h).trans (a c h)
theorem But.upd {p : Addr} {H : Hp} {o : HO} : But p H (upd H p o) := fun _ h => upd_ne h
theorem But.sq {p a : Addr} {H H' : Hp} (h : But p H H') (n : a ≠ p) : sq H' a = sq H a := by unfold L2.sq; rw [h a n]
noncomputable def Scr (K : PySem.W.Frag) (a : Addr) (ns : List Int) (H : Hp) : Prop := SqL K H a (ns.map V.int)
theorem same_upd {H : Hp} {p : Addr} {o : HO} (n : H p = none) : Same H (upd H p o) := fun b u e => by rw [upd_ne (ne_of_none e n)]; exact e
section
variable {X : Cx}
noncomputable def tTupA (t : TA) : TE := fun σ H Q => t σ H fun xs H1 => xs.length ≤ sizeLine ∧ ∀ (p : Addr) (H2 : Hp), H1 p = none → Same H1 H2 → H2 p = some (.tup xs) → Q (.ref p) H2
theorem pe_tupA {es : List Expr} {t : TA} {x1} {pos : Pos} (h : PA X es t) : PE X (.Tuple es x1 pos) (tTupA t) := by
 intro pins s σ H Q I hq
 refine Tuple_ (thn (h pos pins s σ H _ I hq) fun us s1 ⟨xs, H1, I1, r, z, q⟩ => ?_)
 have hf : H1 s1.heap.objs.size = none := I1.hok.fresh (Nat.le_refl _)
 refine wpAny_newObj_type ?_ (by show us.toArray.size ≤ sizeLine; rw [List.size_toArray, ← r.length]; exact z)
 refine ⟨.ref s1.heap.objs.size, upd H1 s1.heap.objs.size (.tup xs), I1.laid (t' := s1.toks) (fun b u e => Heap.get?_push_of_some _ e) (Nat.le_refl _) ?_, rfl, q _ _ hf (same_upd hf) upd_same⟩
 exact ⟨z, us, r, IsTup.new s1.heap _⟩
theorem tupA0 : CallR X (.type "tuple") (fun xs H Q => ∃ p ys, xs = [.ref p] ∧ H p = some (.lst ys) ∧ ∀ (l : Addr) (H2 : Hp), H l = none → Same H H2 → H2 l = some (.tup ys) → Q (.ref l) H2) := by
 intro pins s σ H xs us Q I r h
 obtain ⟨p, ys, e, hq, q⟩ := h
 exact tupL0 pins s σ H xs us Q I r ⟨p, ys, e, hq, fun l n => q l _ n (same_upd n) upd_same⟩
theorem a_tTupA {t : TA} {σ : St} {H : Hp} {Q : VK} : tTupA t σ H Q = t σ H fun xs H1 => xs.length ≤ sizeLine ∧ ∀ (p : Addr) (H2 : Hp), H1 p = none → Same H1 H2 → H2 p = some (.tup xs) → Q (.ref p) H2 := rfl
end
section
variable {D : Ends} {σ : St} {H : Hp} {Q : VK} {QB : Bool → Hp → Prop} {QA : List V → Hp → Prop} {QG : St → Hp → Prop} {R : It → Hp → Prop}
theorem a_tSeq {t u : TS} : tSeq t u D σ H = t { D with nx := u D } σ H := rfl
theorem a_tRet {te : TE} : tRet te D σ H = te σ H D.rt := rfl
theorem a_tRetN : tRetN D σ H = D.rt .non H := rfl
theorem a_tNext : tNext D σ H = D.nx σ H := rfl
theorem a_tDrop {te : TE} : tDrop te D σ H = te σ H fun _ H1 => D.nx σ H1 := rfl
theorem a_tAsg {te : TE} {g : TG} : tAsg te g D σ H = te σ H fun x H1 => g x σ H1 D.nx := rfl
theorem a_tIfS {c : TT} {t u : TS} : tIfS c t u D σ H = c σ H fun b H1 => if b = true then t D σ H1 else u D σ H1 := rfl
theorem a_tPar {i j : Nat} {ta : TA} : tPar i j ta D σ H = ta σ H fun vs H1 => ∃ v w, vs = [v, w] ∧ D.nx ((σ.set i (some v)).set j (some w)) H1 := rfl
theorem a_gName {i : Nat} {v : V} : gName i v σ H QG = QG (σ.set i (some v)) H := rfl
theorem a_gNil {vs : List V} : gNil vs σ H QG = (vs = [] ∧ QG σ H) := rfl
theorem a_gCons {t : TG} {u : TGs} {vs : List V} : gCons t u vs σ H QG = ∃ v r, vs = v :: r ∧ t v σ H fun σ' H' => u r σ' H' QG := rfl
theorem a_gTup0 {n : Nat} {t : TGs} {v : V} : gTup0 n t v σ H QG = ∃ a xs, v = .ref a ∧ H a = some (.tup xs) ∧ xs.length = n ∧ t xs σ H QG := rfl
theorem a_gSub {to ti : TE} {t : TSet} {v : V} : gSub to ti t v σ H QG = to σ H fun o H1 => ti σ H1 fun i H2 => t o i v H2 fun H3 => QG σ H3 := rfl
theorem a_rSetL {o i v : V} {q : Hp → Prop} : rSetL o i v H q = ∃ p xs k j, o = .ref p ∧ i = .int k ∧ H p = some (.lst xs) ∧ ixN xs.length k = some j ∧ q (upd H p (.lst (xs.set j v))) := rfl
theorem a_tAnd {t u : TT} : tAnd t u σ H QB = t σ H fun c H1 => if c = true then u σ H1 QB else QB false H1 := rfl
theorem a_tOr {t u : TT} : tOr t u σ H QB = t σ H fun c H1 => if c = true then QB true H1 else u σ H1 QB := rfl
theorem a_tNot {t : TT} : tNot t σ H QB = t σ H fun c H1 => QB (!c) H1 := rfl
theorem a_tTest {t : TE} : tTest t σ H QB = t σ H fun x H' => ∃ k, x = .bl k ∧ QB k H' := rfl
theorem a_tB {t : TE} : tB t σ H QB = t σ H fun x H1 => ∃ c, x = .bl c ∧ QB c H1 := rfl
theorem a_tTrue : tTrue σ H QB = QB true H := rfl
theorem a_tIf {t : TT} {ta tb : TE} : tIf t ta tb σ H Q = t σ H fun c H1 => if c = true then ta σ H1 Q else tb σ H1 Q := rfl
theorem a_tAndV {ta tb : TE} : tAndV ta tb σ H Q = ta σ H fun x H1 => ∃ c, x = .bl c ∧ if c = true then tb σ H1 Q else Q (.bl false) H1 := rfl
theorem a_tOrV {ta tb : TE} : tOrV ta tb σ H Q = ta σ H fun x H1 => ∃ c, x = .bl c ∧ if c = true then Q (.bl true) H1 else tb σ H1 Q := rfl
theorem a_tNotV {ta : TE} : tNotV ta σ H Q = ta σ H fun x H1 => ∃ c, x = .bl c ∧ Q (.bl (!c)) H1 := rfl
theorem a_tOp {r : R2} {ta tb : TE} : tOp r ta tb σ H Q = ta σ H fun x H1 => tb σ H1 fun y H2 => r x y H2 Q := rfl
theorem a_tUn {r : V → Hp → VK → Prop} {ta : TE} : tUn r ta σ H Q = ta σ H fun x H1 => r x H1 Q := rfl
theorem a_rU {g : Int → V} {x : V} : rU g x H Q = ∃ i, x = .int i ∧ Q (g i) H := rfl
theorem a_tVar {i : Nat} : tVar i σ H Q = ∃ v, σ[i]? = some (some v) ∧ Q v H := rfl
theorem a_tC {v : V} : tC v σ H Q = Q v H := rfl
theorem a_rI0 {g : Int → Int → V} {x y : V} : rI0 g x y H Q = ∃ i j, x = .int i ∧ y = .int j ∧ Q (g i j) H := rfl
theorem a_rI {C : Int → Int → Prop} {g : Int → Int → V} {x y : V} : rI C g x y H Q = ∃ i j, x = .int i ∧ y = .int j ∧ C i j ∧ Q (g i j) H := rfl
theorem a_rEq {x y : V} : rEq x y H Q = (scal x y = true ∧ Q (.bl (decide (x = y))) H) := rfl
theorem a_rNe {x y : V} : rNe x y H Q = (scal x y = true ∧ Q (.bl (!decide (x = y))) H) := rfl
theorem a_rIx0 {x y : V} : rIx0 x y H Q = ∃ p xs i v, x = .ref p ∧ y = .int i ∧ sq H p = some xs ∧ atI xs i = some v ∧ Q v H := rfl
theorem a_rIn0 {neg : Bool} {x y : V} : rIn0 neg x y H Q = ∃ p xs, y = .ref p ∧ sq H p = some xs ∧ flatV x = true ∧ xs.all flatV = true ∧ Q (.bl (if neg then !inV x xs else inV x xs)) H := rfl
theorem a_tCB {r : List V → Hp → VK → Prop} {t : TA} : tCB r t σ H Q = t σ H fun vs H1 => r vs H1 Q := rfl
theorem a_tCal {sp : Sp} {t : TA} : tCal sp t σ H Q = t σ H fun vs H1 => sp vs H1 Q E0 := rfl
theorem a_tCons {ta : TE} {tr : TA} : tCons ta tr σ H QA = ta σ H fun x H1 => tr σ H1 fun xs H2 => QA (x :: xs) H2 := rfl
theorem a_tNil : tNil σ H QA = QA [] H := rfl
theorem a_tLst {t : TA} : tLst t σ H Q = t σ H fun xs H1 => xs.length ≤ sizeLine ∧ ∀ p, H1 p = none → Q (.ref p) (upd H1 p (.lst xs)) := rfl
theorem a_tBits {to : TE} : tBits to σ H Q = to σ H fun x H1 => ∃ i, x = .int i ∧ Q (.int (Builtin.Int.intBits i : Nat)) H1 := rfl
theorem a_tLC {fr : List (Option Nat)} {wi : TI} {g : TG} {tc : TT} {te : TE} : tLC fr wi g tc te σ H Q = wi σ H fun J H1 => ∀ p, H1 p = none → tCL J g tc (tEmit p te) (fun _ H2 => Q (.ref p) H2) (frS fr σ) (upd H1 p (.lst [])) := rfl
theorem a_iRng1 {ta : TA} : iRng1 ta σ H R = ta σ H fun vs H1 => ∃ j : Int, vs = [.int j] ∧ -(2 ^ 62) ≤ j ∧ j < 2 ^ 62 ∧ R (Itr 0 j.toNat) H1 := rfl
theorem a_iRng2 {ta : TA} : iRng2 ta σ H R = ta σ H fun vs H1 => ∃ i j : Int, vs = [.int i, .int j] ∧ (-(2 ^ 62) ≤ i ∧ i < 2 ^ 62 ∧ -(2 ^ 62) ≤ j ∧ j < 2 ^ 62) ∧ R (Itr i (j - i).toNat) H1 := rfl
theorem a_iT0 {tl : TE} : iT0 tl σ H R = tl σ H fun x H1 => ∃ a xs, x = .ref a ∧ H1 a = some (.tup xs) ∧ R (ItS (fun H => H a = some (.tup xs)) xs) H1 := rfl
theorem a_iL0 {tl : TE} : iL0 tl σ H R = tl σ H fun x H1 => ∃ a xs, x = .ref a ∧ H1 a = some (.lst xs) ∧ R (ItS (fun H => H a = some (.lst xs)) xs) H1 := rfl
theorem a_tEmit {p : Addr} {te : TE} : tEmit p te σ H QG = te σ H fun y H1 => ∃ ys, H1 p = some (.lst ys) ∧ ys.length < sizeLine ∧ QG σ (upd H1 p (.lst (ys ++ [y]))) := rfl
end
noncomputable def FL (J : It) (g : TG) (tb : TS) (D : Ends) (σ : St) (H1 : Hp) : Prop := ∃ W : Nat → Nat → St → Hp → Prop, (∃ m, W 0 m σ H1) ∧ ∀ i m σ H, W i m σ H →
 (J.stop i H ∧ D.nx σ H) ∨ (J.go i H ∧ ∃ N : St → Hp → Prop, (∀ σ' H', N σ' H' → ∃ m', m' < m ∧ W (i + 1) m' σ' H') ∧ ∀ x H', J.yld i H x H' → g x σ H' fun σ2 H2 => tb { D with nx := N, ct := N, bk := D.nx } σ2 H2)
theorem a_tFor {wi : TI} {g : TG} {tb : TS} {D : Ends} {σ : St} {H : Hp} : tFor wi g tb D σ H = wi σ H fun J H1 => FL J g tb D σ H1 := rfl
theorem fl_seq {f : Hp → Prop} {xs : List V} {g : TG} {tb : TS} {D : Ends} {σ : St} {H : Hp} (Pv : Nat → St → Hp → Prop) (h0 : Pv 0 σ H) (hl : ∀ i σ H, i ≤ xs.length → Pv i σ H → f H)
  (hs : ∀ i x σ H, xs[i]? = some x → Pv i σ H → g x σ H fun σ2 H2 => tb { D with nx := Pv (i + 1), ct := Pv (i + 1), bk := D.nx } σ2 H2) (hd : ∀ σ H, Pv xs.length σ H → D.nx σ H) : FL (ItS f xs) g tb D σ H := for_seq Pv h0 hl hs hd
theorem fl_range {lo : Int} {n : Nat} {g : TG} {tb : TS} {D : Ends} {σ : St} {H : Hp} (Pv : Nat → St → Hp → Prop) (h0 : Pv 0 σ H)
  (hs : ∀ i σ H, i < n → Pv i σ H → g (.int (lo + i)) σ H fun σ2 H2 => tb { D with nx := Pv (i + 1), ct := Pv (i + 1), bk := D.nx } σ2 H2) (hd : ∀ σ H, Pv n σ H → D.nx σ H) : FL (Itr lo n) g tb D σ H := for_range Pv h0 hs hd
noncomputable def SameX (c : Addr) (H H' : Hp) : Prop := ∀ b o, b ≠ c → H b = some o → H' b = some o
theorem SameX.refl {c : Addr} {H : Hp} : SameX c H H := fun _ _ _ h => h
theorem SameX.trans {c : Addr} {H H1 H2 : Hp} (a : SameX c H H1) (b : SameX c H1 H2) : SameX c H H2 := fun d o n h => b d o n (a d o n h)
theorem SameX.upd {c : Addr} {H : Hp} {o : HO} : SameX c H (upd H c o) := fun b u n h => by rw [upd_ne n]; exact h
theorem Same.x {c : Addr} {H H' : Hp} (h : Same H H') : SameX c H H' := fun b o _ e => h b o e
theorem SameX.same {c : Addr} {H H' : Hp} (h : SameX c H H') (n : H c = none) : Same H H' := fun b o e => h b o (ne_of_none e n) e
theorem But.x {p : Addr} {H H' : Hp} (h : But p H H') : SameX p H H' := fun b o n e => by rw [h b n]; exact e
theorem Same.sq {H H' : Hp} (h : Same H H') {a : Addr} {xs : List V} (e : L2.sq H a = some xs) : L2.sq H' a = some xs := by
 unfold L2.sq at e ⊢
 cases q : H a with
 | none => rw [q] at e; cases e
 | some o => rw [q] at e; rw [h a o q]; exact e
theorem SameX.sq {c : Addr} {H H' : Hp} (h : SameX c H H') {a : Addr} {xs : List V} (n : a ≠ c) (e : L2.sq H a = some xs) : L2.sq H' a = some xs := by
 unfold L2.sq at e ⊢
 cases q : H a with
 | none => rw [q] at e; cases e
 | some o => rw [q] at e; rw [h a o n q]; exact e
theorem Scr.keep {K : PySem.W.Frag} {a p : Addr} {ns : List Int} {H H' : Hp} (h : Scr K a ns H) (n : H p = none) (s : SameX p H H') : Scr K a ns H' := Same.seq (s.same n) h
theorem a_rIxL {K : PySem.W.Frag} {x y : V} {H : Hp} {Q : VK} : rIxL K x y H Q = ∃ p xs i v, x = .ref p ∧ y = .int i ∧ SqL K H p xs ∧ atI xs i = some v ∧ Q v H := rfl
theorem sum_bound {b : Int} : ∀ {ns : List Int}, (∀ n ∈ ns, -b ≤ n ∧ n ≤ b) → -(b * (ns.length : Int)) ≤ ns.sum ∧ ns.sum ≤ b * (ns.length : Int)
 | [], _ => by simp
 | n :: ns, h => by
  have h1 := h n List.mem_cons_self
  have h2 := sum_bound (ns := ns) fun m hm => h m (List.mem_cons_of_mem _ hm)
  rw [List.sum_cons, List.length_cons, Int.natCast_add, Int.mul_add]
  simp only [Int.natCast_one, Int.mul_one]
  omega
theorem sumFits_of {ns : List Int} (h : ∀ n ∈ ns, -(2 ^ 40) ≤ n ∧ n ≤ 2 ^ 40) (hl : ns.length ≤ 1000) : sumFits ns := by
 refine ⟨fun n hn => ⟨by have := (h n hn).1; omega, by have := (h n hn).2; omega⟩, fun j hj => ?_⟩
 have q := sum_bound (b := 2 ^ 40) (ns := ns.take j) fun n hn => h n (List.mem_of_mem_take hn)
 have e : (ns.take j).length ≤ 1000 := by rw [List.length_take]; omega
 have e' : (2 : Int) ^ 40 * ((ns.take j).length : Int) ≤ 2 ^ 40 * 1000 := Int.mul_le_mul_of_nonneg_left (by omega) (by decide)
 constructor
 ·have : (2 : Int) ^ 40 * 1000 < 2 ^ 63 := by decide
  omega
 ·have : (2 : Int) ^ 40 * 1000 < 2 ^ 63 := by decide
  omega
theorem ixN30 : ixN 3 0 = some 0 := rfl
theorem ixN31 : ixN 3 1 = some 1 := rfl
theorem ixN32 : ixN 3 2 = some 2 := rfl
theorem atI0 {α : Type} (a : α) (l : List α) : atI (a :: l) 0 = some a := atI_nat (j := 0) (xs := a :: l) rfl
theorem atI1 {α : Type} (a b : α) (l : List α) : atI (a :: b :: l) 1 = some b := atI_nat (j := 1) (xs := a :: b :: l) rfl
theorem atI2 {α : Type} (a b c : α) (l : List α) : atI (a :: b :: c :: l) 2 = some c := atI_nat (j := 2) (xs := a :: b :: c :: l) rfl
end L2
end
section
set_option Elab.async false
set_option linter.all false
set_option maxRecDepth 100000
namespace L2
open PySem PySem.Spec PyProof.Rows
noncomputable def SeqOf (h : Heap) (c : String) (l : Addr) (xs : Array Value) : Prop := (c = "list_iterator" ∧ h.IsList l xs) ∨ (c = "tuple_iterator" ∧ h.IsTuple l xs)
noncomputable def Src (h : Heap) (c : String) (it l : Addr) (xs : Array Value) (k : Nat) : Prop := (c = "list_iterator" ∧ h.IsListIter it l k ∧ h.IsList l xs) ∨ (c = "tuple_iterator" ∧ h.IsTupleIter it l k ∧ h.IsTuple l xs)
theorem SeqOf.at {h h' : Heap} {c : String} {l : Addr} {xs : Array Value} (x : SeqOf h c l xs) (k : ∀ o, h.get? l = some o → h'.get? l = some o) : SeqOf h' c l xs := by
 rcases x with ⟨e, x⟩ | ⟨e, x⟩
 ·exact .inl ⟨e, x.at k⟩
 ·exact .inr ⟨e, x.at k⟩
theorem SeqOf.lt {h : Heap} {c : String} {l : Addr} {xs : Array Value} (x : SeqOf h c l xs) : l < h.objs.size := by
 rcases x with ⟨_, o, e, _⟩ | ⟨_, o, e, _⟩ <;> exact Heap.lt_size e
theorem Src.at {h h' : Heap} {c : String} {it l : Addr} {xs : Array Value} {k : Nat} (x : Src h c it l xs k) (k1 : ∀ o, h.get? it = some o → h'.get? it = some o) (k2 : ∀ o, h.get? l = some o → h'.get? l = some o) : Src h' c it l xs k := by
 rcases x with ⟨e, ⟨o, a, r⟩, y⟩ | ⟨e, ⟨o, a, r⟩, y⟩
 ·exact .inl ⟨e, ⟨o, k1 o a, r⟩, y.at k2⟩
 ·exact .inr ⟨e, ⟨o, k1 o a, r⟩, y.at k2⟩
theorem Src.ext {h h' : Heap} {c : String} {it l b : Addr} {xs : Array Value} {k : Nat} (x : Src h c it l xs k) (hs : Heap.SameBut b h h') (n1 : it ≠ b) (n2 : l ≠ b) : Src h' c it l xs k :=
 x.at (fun o e => hs.extBut _ _ n1 e) fun o e => hs.extBut _ _ n2 e
section
variable {prog : Program} {w : World} {A : Around} {E : Value → Shared → Prop} {s : Shared}
structure Zs (h : Heap) (z TI TO i1 i2 : Addr) (c1 c2 : String) (l1 l2 : Addr) (xs ys : Array Value) (k : Nat) : Prop where
 zip : IsZip h z TI TO .none
 ti : IsPair h TI (.ref i1) (.ref i2)
 to : ∃ a b, IsPair h TO a b
 s1 : Src h c1 i1 l1 xs k
 s2 : Src h c2 i2 l2 ys k
end
end L2
end
section
set_option Elab.async false
set_option linter.all false
set_option maxRecDepth 100000
namespace L2
open PySem PySem.Spec PyProof.Rows
section
variable {prog : Program} {w : World} {A : Around} {E : Value → Shared → Prop} {s : Shared}
end
end L2
end
section
set_option Elab.async false
set_option linter.all false
set_option maxRecDepth 100000
namespace L2
open PySem PySem.Spec PyProof.Rows
theorem Inv.turnedN {X : Cx} {pins : List (Addr × Obj)} {σ : St} {H : Hp} {s : Shared} {fp : List Addr} {h' : Heap} {t' : Nat} (I : Inv X pins σ H s) (f : ∀ b ∈ fp, FpOk X pins H b)
  (k : ∀ c o, c ∉ fp → s.heap.get? c = some o → h'.get? c = some o) : Inv X pins σ H { s with heap := h', toks := t' } := by
 have nfp : ∀ a o, H a = some o → a ∉ fp := fun a o e hb => by have := (f a hb).1; rw [e] at this; cases this
 refine I.call' (s' := { s with heap := h', toks := t' }) (ch := fp) rfl ⟨fun b o q n _ hx => k b o hx q, fun b o q n _ hx => ⟨o.slots, k b o hx q⟩, fun b o q n _ => n, fun b o q hx => ⟨o, k b o hx q⟩, fun b ys q => q, fun b o ys q => q, fun b ps q => ⟨#[], by rw [q]; simp⟩⟩ (fun a o e => ?_) I.bare (fun b hb => ?_)
 ·refine (I.hok a o e).stay (fun b u hb q => k b u ?_ q) (fun b q => q) fun b ys q => q
  rcases hb with rfl | hb
  ·exact nfp b o e
  ·exact nfp b _ hb
 ·obtain ⟨f0, f1, f2, f3, f4, f5⟩ := f b hb
  exact ⟨f3, f1, f4, f5⟩
noncomputable def SqC (H : Hp) (c : String) (a : Addr) (xs : List V) : Prop := (c = "list_iterator" ∧ H a = some (.lst xs)) ∨ (c = "tuple_iterator" ∧ H a = some (.tup xs))
noncomputable def Itz (c1 c2 : String) (a b : Addr) (xs ys : List V) : It :=
 ⟨fun i H => SqC H c1 a xs ∧ SqC H c2 b ys ∧ i < xs.length ∧ i < ys.length, fun i H x H' => ∃ T u v, x = .ref T ∧ H T = none ∧ H' = upd H T (.tup [u, v]) ∧ xs[i]? = some u ∧ ys[i]? = some v, fun i H => SqC H c1 a xs ∧ SqC H c2 b ys ∧ (xs.length ≤ i ∨ ys.length ≤ i)⟩
structure Zt (h : Heap) (z TI TO i1 i2 : Addr) (c1 c2 : String) (l1 l2 : Addr) (k : Nat) : Prop where
 zip : IsZip h z TI TO .none
 ti : IsPair h TI (.ref i1) (.ref i2)
 to : ∃ a b, IsPair h TO a b
 s1 : (c1 = "list_iterator" ∧ h.IsListIter i1 l1 k) ∨ (c1 = "tuple_iterator" ∧ h.IsTupleIter i1 l1 k)
 s2 : (c2 = "list_iterator" ∧ h.IsListIter i2 l2 k) ∨ (c2 = "tuple_iterator" ∧ h.IsTupleIter i2 l2 k)
end L2
end
section
set_option Elab.async false
set_option linter.all false
set_option maxRecDepth 100000
namespace L2
open PySem PySem.Spec PyProof.Rows
section
variable {X : Cx}
noncomputable def iZip (ta : TA) : TI := fun σ H R => ta σ H fun vs H1 => ∃ a b c1 c2 xs ys, vs = [.ref a, .ref b] ∧ SqC H1 c1 a xs ∧ SqC H1 c2 b ys ∧ R (Itz c1 c2 a b xs ys) H1
theorem a_iZip {ta : TA} {σ : St} {H : Hp} {R : It → Hp → Prop} : iZip ta σ H R = ta σ H fun vs H1 => ∃ a b c1 c2 xs ys, vs = [.ref a, .ref b] ∧ SqC H1 c1 a xs ∧ SqC H1 c2 b ys ∧ R (Itz c1 c2 a b xs ys) H1 := rfl
end
section
variable {X : Cx}
noncomputable def tSortR (ta : TA) (tk : TA) : TE := fun σ H Q => ta σ H fun vs H1 => tk σ H1 fun zs H2 => ∃ (p : Addr) (ns : List Int) (b : Bool), vs = [.ref p] ∧ zs = [.bl b] ∧ H2 p = some (.lst (ns.map V.int)) ∧ ns.length < 64 ∧
 ∀ (l : Addr) (ms : List Int), H2 l = none → ms.Perm ns → Ordered b ms → Q (.ref l) (upd H2 l (.lst (ms.map V.int)))
theorem a_tSortR {ta tk : TA} {σ : St} {H : Hp} {Q : VK} : tSortR ta tk σ H Q = ta σ H fun vs H1 => tk σ H1 fun zs H2 => ∃ (p : Addr) (ns : List Int) (b : Bool), vs = [.ref p] ∧ zs = [.bl b] ∧ H2 p = some (.lst (ns.map V.int)) ∧ ns.length < 64 ∧
 ∀ (l : Addr) (ms : List Int), H2 l = none → ms.Perm ns → Ordered b ms → Q (.ref l) (upd H2 l (.lst (ms.map V.int))) := rfl
noncomputable def rSlL0 : V → Option Int → Option Int → Hp → VK → Prop := fun x lo hi H Q => ∃ a xs, x = .ref a ∧ H a = some (.lst xs) ∧ ∀ p, H p = none → Q (.ref p) (upd H p (.lst (cutV xs lo hi)))
theorem a_tSl {r : V → Option Int → Option Int → Hp → VK → Prop} {te : TE} {tl th : TO} {σ : St} {H : Hp} {Q : VK} : tSl r te tl th σ H Q = te σ H fun x H1 => tl σ H1 fun l H2 => th σ H2 fun u H3 => r x l u H3 Q := rfl
theorem a_rSlL0 {x : V} {lo hi : Option Int} {H : Hp} {Q : VK} : rSlL0 x lo hi H Q = ∃ a xs, x = .ref a ∧ H a = some (.lst xs) ∧ ∀ p, H p = none → Q (.ref p) (upd H p (.lst (cutV xs lo hi))) := rfl
theorem a_tNoPart {σ : St} {H : Hp} {q : Option Int → Hp → Prop} : tNoPart σ H q = q none H := rfl
theorem a_tPart {t : TE} {σ : St} {H : Hp} {q : Option Int → Hp → Prop} : tPart t σ H q = t σ H fun x H1 => ∃ i, x = .int i ∧ q (some i) H1 := rfl
noncomputable def tApp (to : TE) (t : TA) : TE := fun σ H Q => to σ H fun x H1 => ∃ l xs0, x = .ref l ∧ H1 l = some (.lst xs0) ∧ t σ H1 fun vs H2 => ∃ xs y, vs = [y] ∧ H2 l = some (.lst xs) ∧ xs.length < sizeLine ∧ Q .non (upd H2 l (.lst (xs ++ [y])))
theorem pe_append {o e : Expr} {to : TE} {t : TA} {apos cpos : Pos} (ho : PE X o to) (ha : PA X [e] t) (hbase : attributeBase o "append" X.env (eval o X.env) = eval o X.env := by rfl)
  (hfew : ((backTo cpos (starEach [e] X.env)).all (fun x => !x.1) && (backToKw cpos (keywordEach [] X.env)).all (fun x => x.1.isSome) && decide ([e].length + ([] : List Keyword).length + (if ([] : List Keyword).isEmpty then 0 else 1) < 30)) = true := by rfl)
  (hline : (apos.endLine == cpos.line) = true := by rfl) (hs : starEach [e] X.env = (false, eval e X.env) :: starEach [] X.env := by rfl) : PE X (.Call (.Attribute o "append" apos) [e] [] cpos) (tApp to t) := by
 intro pins s σ H Q I h
 refine wpAny_Call_method_late hbase hfew hline rfl (thn (ho pins s σ H _ I h) fun v s1 ⟨x, H1, I1, r1, q1⟩ => ?_)
 obtain ⟨l, xs0, rfl, hl, q1⟩ := q1
 have ty : tyV X.K "list" (.ref l) H1 := .inl ⟨rfl, _, SqL.of hl⟩
 obtain ⟨h1, h2⟩ := tyV_is I1 r1 ty
 refine ⟨"list", "list.append", PySem.F.plainAttrs_list, PySem.F.slot_list_append, PySem.F.type_list_append, h1, h2, ?_⟩
 have hA := ha cpos pins s1 σ H1 _ I1 q1
 rw [hs] at hA ⊢
 refine Calls.callWith_builtin (by rfl) (Calls.evalArgs_plain ?_)
 exact thn hA fun us s2 ⟨vs, H2, I2, r2, xs, y, e, k, z, q⟩ => mt_append pins s2 σ H2 (.ref l) vs v us Q I2 r1 r2 ⟨l, xs, y, rfl, e, k, z, q⟩
theorem a_tApp {to : TE} {t : TA} {σ : St} {H : Hp} {Q : VK} : tApp to t σ H Q = to σ H fun x H1 => ∃ l xs0, x = .ref l ∧ H1 l = some (.lst xs0) ∧ t σ H1 fun vs H2 => ∃ xs y, vs = [y] ∧ H2 l = some (.lst xs) ∧ xs.length < sizeLine ∧ Q .non (upd H2 l (.lst (xs ++ [y]))) := rfl
end
end L2
end
section
set_option Elab.async false
set_option linter.all false
set_option maxRecDepth 100000
namespace L2
open PySem PySem.Spec PyProof.Rows
section
variable {X : Cx}
noncomputable def insV (xs : List V) (i : Nat) (y : V) : List V := xs.take i ++ y :: xs.drop i
noncomputable def tIns (to : TE) (t : TA) : TE := fun σ H Q => to σ H fun x H1 => ∃ l xs0, x = .ref l ∧ H1 l = some (.lst xs0) ∧ t σ H1 fun vs H2 => ∃ xs y, ∃ i : Nat, vs = [.int (i : Int), y] ∧ H2 l = some (.lst xs) ∧ i ≤ xs.length ∧ xs.length < sizeLine ∧ Q .non (upd H2 l (.lst (insV xs i y)))
theorem a_tIns {to : TE} {t : TA} {σ : St} {H : Hp} {Q : VK} : tIns to t σ H Q = to σ H fun x H1 => ∃ l xs0, x = .ref l ∧ H1 l = some (.lst xs0) ∧ t σ H1 fun vs H2 => ∃ xs y, ∃ i : Nat, vs = [.int (i : Int), y] ∧ H2 l = some (.lst xs) ∧ i ≤ xs.length ∧ xs.length < sizeLine ∧ Q .non (upd H2 l (.lst (insV xs i y))) := rfl
theorem max_gen (hc : X.calm = true) {pins : List (Addr × Obj)} {σ : St} {H : Hp} {s : Shared} {p : Addr} {ns : List Int} {Q : VK} (I : Inv X pins σ H s) (hq : sq H p = some (ns.map V.int)) (hne : ns ≠ [])
  (q : ∀ m, m ∈ ns → (∀ x ∈ ns, x ≤ m) → Q (.int m) H) : wpAny (model X.prog X.w) X.A (call (.builtin "max") [.ref p]) (EP X pins σ Q) X.xe s := by
 have hp : 0 < ns.length := List.length_pos_iff.mpr hne
 refine call_max_walk (I.walk hc hq fun it its s2 St fp rv W st hfp hsz J => ?_)
 have hl := rv.length
 rw [List.length_map] at hl
 refine ⟨it, fp, [it], its.length, _, St, _, rfl, W, st, hfp, by omega, CmpOf.ints_gt (fun i => ns.getD i 0) fun i v hv => vals_int_get rv hv, fun v h' tk hv k => ?_⟩
 obtain ⟨a1, a2⟩ := argBest_gt (fun i => ns.getD i 0) (its.length - 1)
 obtain ⟨t, rfl⟩ := vals_int_get rv hv
 generalize argBest (fun i j => decide (ns.getD i 0 > ns.getD j 0)) (its.length - 1) = j at a1 a2 hv ⊢
 have hj : j < ns.length := by omega
 have e : ns.getD j 0 = ns[j] := by simp [List.getD_eq_getElem?_getD, hj]
 refine ⟨.int ns[j], H, J h' tk k, ⟨t, by rw [e]⟩, q _ (List.getElem_mem hj) fun x hx => ?_⟩
 obtain ⟨i, hi, rfl⟩ := List.mem_iff_getElem.mp hx
 have := a2 i (by omega)
 simp only [List.getD_eq_getElem?_getD, List.getElem?_eq_getElem hi, List.getElem?_eq_getElem hj, Option.getD_some] at this
 exact this
theorem max0 (hc : X.calm = true) : CallR X (.builtin "max") (fun xs H Q => ∃ (p : Addr) (ns : List Int), xs = [.ref p] ∧ sq H p = some (ns.map V.int) ∧ ns ≠ [] ∧ ∀ m, m ∈ ns → (∀ x ∈ ns, x ≤ m) → Q (.int m) H) := by
 intro pins s σ H xs us Q I r h
 obtain ⟨p, ns, rfl, hq, hne, q⟩ := h
 obtain ⟨u, rfl, ru⟩ := r.one
 cases ru
 exact max_gen hc I hq hne q
noncomputable def rCatA : R2 := fun x y H Q => ∃ a b xs ys, x = .ref a ∧ y = .ref b ∧ H a = some (.tup xs) ∧ H b = some (.tup ys) ∧ xs.length + ys.length ≤ sizeLine ∧ ∀ (p : Addr) (H' : Hp), Same H H' → H' p = some (.tup (xs ++ ys)) → Q (.ref p) H'
theorem catA0 : OpR X (binaryOp .Add) rCatA := by
 intro pins s σ H x y v u Q I rx ry h
 obtain ⟨a, b, xs, ys, rfl, rfl, ha, hb, hz, q⟩ := h
 by_cases hx : xs = []
 ·cases rx
  cases ry
  obtain ⟨its, r1, p1, _⟩ := I.tuple (SqT.of ha)
  obtain ⟨its2, r2, p2, _⟩ := I.tuple (SqT.of hb)
  have e1 : its = [] := r1.nil_iff.mpr hx
  obtain ⟨⟨c1, d1, da1, sl1⟩, o1, k1, n1, g1⟩ := id p1
  obtain ⟨⟨c2, d2, da2, sl2⟩, o2, k2, n2, g2⟩ := id p2
  simp only at k1 g1 k2 g2
  subst k1 g1 k2 g2
  refine concat_meets ⟨_, o1, rfl⟩ ⟨_, o2, rfl⟩ noFill_tuple_add seq_tuple_add F.slot_tuple_add F.entry_tuple_add (F.args_tuple_add_2 _ _) (tuple_addW0 a b its.toArray its2.toArray n1 n2 d1 d2 sl1 sl2 (by simp [e1])) ⟨o1, o2, ?_⟩
  subst hx
  exact ⟨.ref b, H, I, rfl, q b H (Same.refl H) hb⟩
 ·refine op_catT pins s σ H (.ref a) (.ref b) v u Q I rx ry ⟨a, b, xs, ys, rfl, rfl, SqT.of ha, SqT.of hb, hx, hz, fun e => ?_, fun _ p np => q p _ (same_upd np) upd_same⟩
  subst e
  exact q a H (Same.refl H) (by rw [List.append_nil]; exact ha)
theorem a_rCatA {x y : V} {H : Hp} {Q : VK} : rCatA x y H Q = ∃ a b xs ys, x = .ref a ∧ y = .ref b ∧ H a = some (.tup xs) ∧ H b = some (.tup ys) ∧ xs.length + ys.length ≤ sizeLine ∧ ∀ (p : Addr) (H' : Hp), Same H H' → H' p = some (.tup (xs ++ ys)) → Q (.ref p) H' := rfl
noncomputable def rCatL : R2 := fun x y H Q => ∃ l b xs zs, x = .ref l ∧ y = .ref b ∧ H l = some (.lst xs) ∧ H b = some (.lst zs) ∧ xs.length + zs.length ≤ sizeLine ∧ ∀ (p : Addr) (H' : Hp), H p = none → Same H H' → H' p = some (.lst (xs ++ zs)) → Q (.ref p) H'
theorem catL0 : OpR X (binaryOp .Add) rCatL := fun pins s σ H x y v u Q I rx ry h => by
 obtain ⟨l, b, xs, zs, e1, e2, h1, h2, hz, q⟩ := h
 exact op_cat pins s σ H x y v u Q I rx ry ⟨l, b, xs, zs, e1, e2, h1, h2, hz, fun p np => q p _ np (same_upd np) upd_same⟩
theorem a_rCatL {x y : V} {H : Hp} {Q : VK} : rCatL x y H Q = ∃ l b xs zs, x = .ref l ∧ y = .ref b ∧ H l = some (.lst xs) ∧ H b = some (.lst zs) ∧ xs.length + zs.length ≤ sizeLine ∧ ∀ (p : Addr) (H' : Hp), H p = none → Same H H' → H' p = some (.lst (xs ++ zs)) → Q (.ref p) H' := rfl
end
end L2
end
section
set_option Elab.async false
set_option linter.all false
set_option maxRecDepth 100000
namespace L2
open PySem PySem.Spec PyProof.Rows
section
variable {prog : Program} {w : World} {A : Around} {E : Value → Shared → Prop} {s : Shared}
theorem tup_whole {t sl : Addr} {items : Array Value} {vl vu : Value} {lo hi : Option Int} {Q : Value → Shared → Prop} (ht : IsTup s.heap t items) (hs : s.heap.IsSliceOf sl vl vu .none) (pl : IsPart vl lo) (pu : IsPart vu hi)
  (hw : HT.sIx items.size 0 lo = 0 ∧ HT.sIx items.size items.size hi = items.size) (h : Q (.ref t) s) : wpAny (model prog w) A (getItem (.ref t) (.ref sl)) Q E s := by
 obtain ⟨os, hos, hcs, hds⟩ := id hs
 have kind : s.TypeIs (.ref sl) "slice" := ⟨os, hos, hcs⟩
 unfold getItem
 try with_reducible refine wpAny_holding ?_
 first | refine wpAny_bind (wpAny_pure ?_) | skip
 refine wpAny_bind (wpAny_sequenceKey ht.typeIs (by decide) ?_)
 refine wpAny_bind (wpAny_callSpecial?_slot (name := Str.ofString "__getitem__") ht.typeIs slot_tuple_getitem (wpAny_call_entry slot_tuple_getitem ht.typeIs entry_tuple_getitem ?_ (args_tuple_getitem _ _)))
 show wpAny _ _ (Builtin.Tuple.tupleItemsOf (.ref t) >>= _) _ _ s
 refine wpAny_bind (tupleItemsOf_ ht (wpAny_bind (wpAny_typeOf kind ?_)))
 rw [if_pos (by decide)]
 refine wpAny_bind (HT.sliceApplied_gen hs pl pu ?_)
 rw [hw.1, hw.2]
 have yes : ((((0 : Nat) : Int) == 0 && (1 : Int) == 1 && (items.size - 0) == items.size) = true) := by simp
 show wpAny _ _ (if ((((0 : Nat) : Int) == 0 && (1 : Int) == 1 && (items.size - 0) == items.size) = true) then _ else _) _ _ s
 rw [if_pos yes]
 unfold Builtin.Tuple.tupleIsExact
 refine wpAny_bind (wpAny_bind (wpAny_typeOf ht.typeIs (wpAny_pure ?_)))
 rw [if_pos (by decide)]
 exact wpAny_bind (wpAny_rule (wpAny_pure ⟨_, rfl, wpAny_pure h⟩))
theorem rev_pick (xs : Array Value) : ((List.range xs.size).filterMap fun (k : Nat) => xs[(((xs.size : Int) - 1) + (k : Int) * (-1)).toNat]?) = xs.toList.reverse := by
 have e : ∀ k ∈ List.range xs.size, xs[(((xs.size : Int) - 1) + (k : Int) * (-1)).toNat]? = xs[xs.size - 1 - k]? := fun k hk => by
  have := List.mem_range.mp hk
  congr 1
  omega
 have cg : ∀ (l : List Nat), (∀ k ∈ l, k < xs.size) → l.filterMap (fun (k : Nat) => xs[(((xs.size : Int) - 1) + (k : Int) * (-1)).toNat]?) = l.filterMap fun k => xs[xs.size - 1 - k]? := fun l => by
  induction l with
  | nil => intro _; rfl
  | cons a r ih =>
   intro hl
   rw [List.filterMap_cons, List.filterMap_cons, e a (List.mem_range.mpr (hl a List.mem_cons_self)), ih fun k hk => hl k (List.mem_cons_of_mem _ hk)]
 rw [cg _ fun k hk => List.mem_range.mp hk]
 have e2 : (fun k => xs[xs.size - 1 - k]?) = (fun x => xs[x]?) ∘ fun k => xs.size - 1 - k := rfl
 rw [e2, ← List.filterMap_map, PySem.W.krv_range, List.filterMap_reverse, PySem.W.krv_all]
theorem tup_rev {t sl : Addr} {items : Array Value} {tk : Tok} {Q : Value → Shared → Prop} (ht : IsTup s.heap t items) (hs : s.heap.IsSliceOf sl .none .none (.int (-1) tk))
  (h : Q (.ref s.heap.objs.size) { s with heap := s.heap.push { cls := .type "tuple", data := .seq items.toList.reverse.toArray } }) (hsz : items.size ≤ sizeLine) : wpAny (model prog w) A (getItem (.ref t) (.ref sl)) Q E s := by
 have fits : sizeOk (.seq items.toList.reverse.toArray) := by
  show items.toList.reverse.toArray.size ≤ sizeLine
  rw [List.size_toArray, List.length_reverse, Array.length_toList]
  exact hsz
 obtain ⟨os, hos, hcs, hds⟩ := id hs
 have kind : s.TypeIs (.ref sl) "slice" := ⟨os, hos, hcs⟩
 unfold getItem
 try with_reducible refine wpAny_holding ?_
 first | refine wpAny_bind (wpAny_pure ?_) | skip
 refine wpAny_bind (wpAny_sequenceKey ht.typeIs (by decide) ?_)
 refine wpAny_bind (wpAny_callSpecial?_slot (name := Str.ofString "__getitem__") ht.typeIs slot_tuple_getitem (wpAny_call_entry slot_tuple_getitem ht.typeIs entry_tuple_getitem ?_ (args_tuple_getitem _ _)))
 show wpAny _ _ (Builtin.Tuple.tupleItemsOf (.ref t) >>= _) _ _ s
 refine wpAny_bind (tupleItemsOf_ ht (wpAny_bind (wpAny_typeOf kind ?_)))
 rw [if_pos (by decide)]
 refine wpAny_bind ?_
 unfold Builtin.Slice.sliceApplied Builtin.Slice.sliceFields
 refine wpAny_bind (wpAny_bind (wpAny_field hos hds (x := .none) rfl (wpAny_bind (wpAny_field hos hds (x := .none) rfl (wpAny_bind (wpAny_field hos hds (x := .int (-1) tk) rfl (wpAny_pure ?_)))))))
 refine wpAny_bind (slicePart_int ?_)
 show wpAny _ _ (if ((-1 : Int) == 0) = true then _ else _) _ _ s
 rw [if_neg (by decide)]
 refine wpAny_bind (slicePart_none (wpAny_bind (slicePart_none (wpAny_bind (wpAny_pure ?_)))))
 have adj : Builtin.Slice.sliceAdjust none none (-1) (items.size : Int) = ((items.size : Int) - 1, -1) := rfl
 have plc : Builtin.Slice.slicePlaces ((items.size : Int) - 1) (-1) (-1) = items.size := by
  unfold Builtin.Slice.slicePlaces
  rw [if_neg (by decide)]
  split
  ·rw [show (- -1 : Int) = 1 by decide, Int.ediv_one]; omega
  ·omega
 show wpAny _ _ (match Builtin.Slice.sliceAdjust none none (-1) (items.size : Int) with | (lo, hi) => pure (lo, (-1 : Int), Builtin.Slice.slicePlaces lo hi (-1))) _ _ s
 rw [adj]
 show wpAny _ _ (pure (((items.size : Int) - 1), (-1 : Int), Builtin.Slice.slicePlaces ((items.size : Int) - 1) (-1) (-1))) _ _ s
 rw [plc]
 refine wpAny_pure ?_
 show wpAny _ _ (if ((((items.size : Int) - 1) == 0 && (-1 : Int) == 1 && items.size == items.size) = true) then _ else _) _ _ s
 rw [if_neg (by simp), rev_pick]
 first
  | exact wpAny_bind (m := Builtin.Tuple.tupleExact _) (wpAny_newObj_type (wpAny_pure ⟨_, rfl, wpAny_pure h⟩) fits)
  | exact wpAny_bind (wpAny_bind (m := Builtin.Tuple.tupleExact _) (wpAny_newObj_type (wpAny_pure ⟨_, rfl, wpAny_pure h⟩) fits))
end
section
variable {X : Cx}
noncomputable def rSlA : V → Option Int → Option Int → Hp → VK → Prop := fun x lo hi H Q => ∃ a xs, x = .ref a ∧ H a = some (.tup xs) ∧ ∀ (p : Addr) (H' : Hp), Same H H' → H' p = some (.tup (cutV xs lo hi)) → Q (.ref p) H'
theorem cut_whole {xs : List V} {lo hi : Option Int} (h : HT.sIx xs.length 0 lo = 0 ∧ HT.sIx xs.length xs.length hi = xs.length) : cutV xs lo hi = xs := by
 unfold cutV
 rw [h.1, h.2, List.drop_zero, Nat.sub_zero, List.take_length]
theorem slA0 : SlR X rSlA := by
 intro pins s σ H x v vl vu lo hi sl Q I rx hs pl pu h
 obtain ⟨a, xs, rfl, hx, q⟩ := h
 by_cases hw : HT.sIx xs.length 0 lo = 0 ∧ HT.sIx xs.length xs.length hi = xs.length
 ·cases rx
  obtain ⟨its, r, ht, hz⟩ := I.tuple (SqT.of hx)
  have hlen : its.toArray.size = xs.length := by rw [List.size_toArray]; exact r.length.symm
  refine ⟨"tuple", _, slot_tuple_getitem.lookup, ht.typeIs, tup_whole ht hs pl pu (by rw [hlen]; exact hw) ?_⟩
  exact ⟨.ref a, H, I, rfl, q a H (Same.refl H) (by rw [cut_whole hw]; exact hx)⟩
 ·exact sl_tup pins s σ H (.ref a) v vl vu lo hi sl Q I rx hs pl pu ⟨a, xs, rfl, SqT.of hx, hw, fun p np => q p _ (same_upd np) upd_same⟩
theorem a_rSlA {x : V} {lo hi : Option Int} {H : Hp} {Q : VK} : rSlA x lo hi H Q = ∃ a xs, x = .ref a ∧ H a = some (.tup xs) ∧ ∀ (p : Addr) (H' : Hp), Same H H' → H' p = some (.tup (cutV xs lo hi)) → Q (.ref p) H' := rfl
noncomputable def tRev (te : TE) : TE := fun σ H Q => te σ H fun x H1 => ∃ a xs, x = .ref a ∧ H1 a = some (.tup xs) ∧ ∀ (p : Addr) (H' : Hp), H1 p = none → Same H1 H' → H' p = some (.tup xs.reverse) → Q (.ref p) H'
theorem pe_rev {e m : Expr} {te tm : TE} {pos p2 : Pos} (he : PE X e te) (hm : PE X m tm) (hv : ∀ σ H (Q : VK), Q (.int (-1)) H → tm σ H Q) : PE X (.Subscript e (.Slice none none (some m) p2) pos) (tRev te) := by
 intro pins s σ H Q I h
 refine Subscript_ (thn (he pins s σ H _ I h) fun v s1 ⟨x, H1, I1, r1, q1⟩ => ?_)
 refine wpAny_Slice ?_
 rw [evalPart_none]
 refine wpAny_pure (wpAny_pure ?_)
 rw [evalPart_some]
 refine thn (hm pins s1 σ H1 (fun x H2 => x = .int (-1) ∧ H2 = H1) I1 (hv _ _ _ ⟨rfl, rfl⟩)) fun vu s3 ⟨y, H3, I3, r3, e3, e4⟩ => ?_
 subst e3 e4
 obtain ⟨tk, rfl⟩ := r3
 obtain ⟨a, xs, rfl, hx, q⟩ := q1
 cases r1
 have I4 : Inv X pins σ H3 { s3 with heap := s3.heap.push { cls := .type "slice", data := .fields #[.none, .none, .int (-1) tk] } } := I3.kept (t' := s3.toks) fun b ob q => Heap.get?_push_of_some _ q
 obtain ⟨its, r, ht, hz⟩ := I4.tuple (SqT.of hx)
 have hlen : its.toArray.size = xs.length := by rw [List.size_toArray]; exact r.length.symm
 show wpAny (model X.prog X.w) X.A (subscriptTail e (.Slice none none (some m) p2) (.ref a) (.ref s3.heap.objs.size)) (EP X pins σ Q) X.xe { s3 with heap := s3.heap.push { cls := .type "slice", data := .fields #[.none, .none, .int (-1) tk] } }
 refine tail_any (ops := [.ref a, .ref s3.heap.objs.size]) ht.typeIs slot_tuple_getitem.lookup (tup_rev ht (Heap.IsSliceOf.new ..) ?_ (by rw [hlen]; exact hz)) (by with_unfolding_all rfl)
 have hf := I4.hok.fresh (Nat.le_refl _)
 refine ⟨.ref _, _, I4.laid (t' := s3.toks) (o := .tup xs.reverse) (fun b ob q => Heap.get?_push_of_some _ q) (Nat.le_refl _) ?_, rfl, q _ _ hf (same_upd hf) upd_same⟩
 exact ⟨by rw [List.length_reverse]; exact hz, _, r.reverse, IsTup.new _ _⟩
theorem a_tRev {te : TE} {σ : St} {H : Hp} {Q : VK} : tRev te σ H Q = te σ H fun x H1 => ∃ a xs, x = .ref a ∧ H1 a = some (.tup xs) ∧ ∀ (p : Addr) (H' : Hp), H1 p = none → Same H1 H' → H' p = some (.tup xs.reverse) → Q (.ref p) H' := rfl
end
end L2
end
section
set_option Elab.async false
set_option linter.all false
set_option maxRecDepth 100000
namespace L2
open PySem PySem.Spec PyProof.Rows
theorem range_drop {n i : Nat} (h : i < n) : (List.range n).drop i = i :: (List.range n).drop (i + 1) := by simp [List.drop_eq_getElem_cons, h]
theorem ints_all : ∀ (ns ms : List Int), ((List.range (min ns.length ms.length)).all (fun j => decide (ns.getD j 0 = ms.getD j 0)) && ns.length == ms.length) = decide (ns = ms) := fun ns ms => by
 rw [Bool.eq_iff_iff, Bool.and_eq_true, List.all_eq_true, decide_eq_true_eq, beq_iff_eq]
 constructor
 ·rintro ⟨h1, h2⟩
  apply List.ext_getElem h2
  intro i q1 q2
  have := h1 i (List.mem_range.mpr (by omega))
  simpa [List.getD_eq_getElem?_getD, q1, q2] using this
 ·rintro rfl
  exact ⟨fun j _ => by simp, rfl⟩
section
variable {X : Cx}
theorem tup_eqs {pins : List (Addr × Obj)} {σ : St} {H : Hp} {s : Shared} {a b : Addr} {ns ms : List Int} (I : Inv X pins σ H s) (ha : H a = some (.tup (ns.map V.int))) (hb : H b = some (.tup (ms.map V.int))) :
  ∃ its its2 : List Value, IsTup s.heap a its.toArray ∧ IsTup s.heap b its2.toArray ∧ its.length = ns.length ∧ its2.length = ms.length ∧ ∀ (A : Around) (j : Nat) (h1 : j < its.toArray.size) (h2 : j < its2.toArray.size), SeqAt.EqAt A s its.toArray[j] its2.toArray[j] (decide (ns.getD j 0 = ms.getD j 0)) := by
 obtain ⟨its, r1, p1, _⟩ := I.tuple (SqT.of ha)
 obtain ⟨its2, r2, p2, _⟩ := I.tuple (SqT.of hb)
 have l1 := r1.length
 have l2 := r2.length
 rw [List.length_map] at l1 l2
 refine ⟨its, its2, p1, p2, l1.symm, l2.symm, fun A j h1 h2 => ?_⟩
 have h1' : j < its.length := by simpa using h1
 have h2' : j < its2.length := by simpa using h2
 obtain ⟨t, e1⟩ := vals_int_get r1 (i := j) (v := its[j]) (by simp [h1'])
 obtain ⟨u, e2⟩ := vals_int_get r2 (i := j) (v := its2[j]) (by simp [h2'])
 have key : SeqAt.EqAt A s its[j] its2[j] (eqV (.int (ns.getD j 0)) (.int (ms.getD j 0))) := eqAt_V ⟨t, e1⟩ ⟨u, e2⟩ rfl rfl
 have e : eqV (.int (ns.getD j 0)) (.int (ms.getD j 0)) = decide (ns.getD j 0 = ms.getD j 0) := by
  show (ns.getD j 0 == ms.getD j 0) = _
  rfl
 rw [e] at key
 simpa using key
noncomputable def rEqT (neg : Bool) : R2 := fun x y H Q => ∃ (a b : Addr) (ns ms : List Int), x = .ref a ∧ y = .ref b ∧ H a = some (.tup (ns.map V.int)) ∧ H b = some (.tup (ms.map V.int)) ∧ Q (.bl (if neg then !decide (ns = ms) else decide (ns = ms))) H
theorem a_rEqT {neg : Bool} {x y : V} {H : Hp} {Q : VK} : rEqT neg x y H Q = ∃ (a b : Addr) (ns ms : List Int), x = .ref a ∧ y = .ref b ∧ H a = some (.tup (ns.map V.int)) ∧ H b = some (.tup (ms.map V.int)) ∧ Q (.bl (if neg then !decide (ns = ms) else decide (ns = ms))) H := rfl
end
end L2
end
section
set_option Elab.async false
set_option linter.all false
set_option maxRecDepth 100000
namespace L2
open PySem PySem.Spec PyProof.Rows
theorem rmul_tup (a : Int) (t : Tok) (l : Addr) (items : Array Value) (n : Nat) (dd : Option Addr) (sl : Array (Option Value)) :
  Meets (Builtin.«int.__rmul__» ⟨[.int a t, .ref l], []⟩) (fun _ R s => s.heap.get? l = some { cls := .type "tuple", dict := dd, data := .seq items n, slots := sl } ∧ R (.ok (.ret Value.notImplemented)) s) :=
 .of_wp fun prog w A R s h => by
  obtain ⟨hp, g, d, tk, os⟩ := s
  obtain ⟨hl, h⟩ := h
  wp_walk
  exact ⟨_, rfl, h⟩
theorem noFill_tup_mul : fillsNumberSlot (.type "tuple") "mul" = pure false :=
 PySem.fillsNumberSlot_seq (id := "tuple.__mul__") (r := some (.builtin "tuple.__rmul__")) F.slot_tuple_mul.lookup (by decide +kernel) F.slot_tuple_rmul.lookup (by decide +kernel)
theorem repeat_tup : seqRepeat? (.type "tuple") = pure (some (.builtin "tuple.__mul__")) := by
 unfold seqRepeat?
 rw [PySem.seqSlot_of (T := "tuple") (name := "__mul__") (id := "tuple.__mul__") F.slot_tuple_mul.lookup (by decide +kernel), PySem.seqSlot_of (T := "tuple") (name := "__rmul__") (id := "tuple.__rmul__") F.slot_tuple_rmul.lookup (by decide +kernel)]
 rfl
theorem mul_one (t : Addr) (items : Array Value) (n : Nat) (dd : Option Addr) (sl : Array (Option Value)) (k : Int) (u : Tok) (h1 : ¬ (decide (k < -(2 ^ 63)) || decide (k ≥ 2 ^ 63)) = true) (hc : (items.isEmpty || k == 1) = true) :
  Meets (Builtin.«tuple.__mul__» ⟨[.ref t, .int k u], []⟩) (fun _ R s => s.heap.get? t = some { cls := .type "tuple", dict := dd, data := .seq items n, slots := sl } ∧ R (.ok (.ret (.ref t))) s) :=
 .of_wp fun prog w A R s h => by
  obtain ⟨hp, g, d, tk, os⟩ := s
  obtain ⟨hl, h⟩ := h
  wp_walk
  refine wpAny_ite_split (fun q => absurd q h1) fun _ => ?_
  wp_walk
  exact ⟨_, rfl, h⟩
theorem mul_nil (t : Addr) (items : Array Value) (n : Nat) (dd : Option Addr) (sl : Array (Option Value)) (k : Int) (u : Tok) (h1 : ¬ (decide (k < -(2 ^ 63)) || decide (k ≥ 2 ^ 63)) = true) (hc : ¬ (items.isEmpty || k == 1) = true) (hn : (decide (k ≤ 0) || items.isEmpty) = true) :
  Meets (Builtin.«tuple.__mul__» ⟨[.ref t, .int k u], []⟩) (fun _ R s => s.heap.get? t = some { cls := .type "tuple", dict := dd, data := .seq items n, slots := sl } ∧ R (.ok (.ret (.ref s.heap.objs.size))) { s with heap := s.heap.push { cls := .type "tuple", data := .seq #[] } }) :=
 .of_wp fun prog w A R s h => by
  obtain ⟨hp, g, d, tk, os⟩ := s
  obtain ⟨hl, h⟩ := h
  wp_walk
  refine wpAny_ite_split (fun q => absurd q h1) fun _ => ?_
  wp_walk
  exact ⟨_, rfl, h⟩
theorem mul_more (t : Addr) (items : Array Value) (n : Nat) (dd : Option Addr) (sl : Array (Option Value)) (k : Int) (u : Tok) (h1 : ¬ (decide (k < -(2 ^ 63)) || decide (k ≥ 2 ^ 63)) = true) (hc : ¬ (items.isEmpty || k == 1) = true) (hn : ¬ (decide (k ≤ 0) || items.isEmpty) = true)
  (hm : ¬ (items.size * k > (2 ^ 63 - 1) / 8)) (hl' : ¬ Builtin.Tuple.tupleTooMany (items.size * k) = true) (hsz : ((List.replicate k.toNat items).foldl (· ++ ·) #[]).size ≤ sizeLine) :
  Meets (Builtin.«tuple.__mul__» ⟨[.ref t, .int k u], []⟩) (fun _ R s => s.heap.get? t = some { cls := .type "tuple", dict := dd, data := .seq items n, slots := sl } ∧ R (.ok (.ret (.ref s.heap.objs.size))) { s with heap := s.heap.push { cls := .type "tuple", data := .seq ((List.replicate k.toNat items).foldl (· ++ ·) #[]) } }) :=
 .of_wp fun prog w A R s h => by
  obtain ⟨hp, g, d, tk, os⟩ := s
  obtain ⟨hl, h⟩ := h
  wp_walk
  refine wpAny_ite_split (fun q => absurd q h1) fun _ => ?_
  wp_walk
  refine wpAny_ite_split (fun q => absurd q hm) fun _ => ?_
  wp_walk
  exact ⟨_, rfl, h⟩
section
variable {X : Cx}
noncomputable def rMulT : R2 := fun x y H Q => ∃ (a : Addr) (k : Nat) (xs : List V), x = .ref a ∧ y = .int (k : Int) ∧ H a = some (.tup xs) ∧ xs.length * k ≤ 1000 ∧ k ≤ 1000 ∧ ∀ (p : Addr) (H' : Hp), Same H H' → H' p = some (.tup (List.replicate k xs).flatten) → Q (.ref p) H'
theorem mulT0 : OpR X (binaryOp .Mult) rMulT := by
 intro pins s σ H x y v u Q I rx ry h
 obtain ⟨a, k, xs, rfl, rfl, ha, hz, hk, q⟩ := h
 cases rx
 obtain ⟨t, rfl⟩ := ry
 obtain ⟨its, r, p1, _⟩ := I.tuple (SqT.of ha)
 have hlen := r.length
 obtain ⟨⟨c1, d1, da1, sl1⟩, e, k1, n1, g1⟩ := id p1
 simp only at k1 g1
 subst k1 g1
 have h1 : ¬ (decide ((k : Int) < -(2 ^ 63)) || decide ((k : Int) ≥ 2 ^ 63)) = true := by
  rw [Bool.or_eq_true, decide_eq_true_eq, decide_eq_true_eq]
  omega
 refine wpAny_binaryOp_repeat_ref (T := "tuple") (U := "int") (by decide) ⟨_, e, rfl⟩ (fun s' => typeIs_int s' (k : Int) t) noFill_tup_mul F.fills_int_mul F.slot_int_rmul repeat_tup F.slot_int_index.lookup
  (call_meets F.slot_int_rmul (typeIs_int s (k : Int) t) F.entry_int_rmul (F.args_int_rmul_2 _ _) (rmul_tup (k : Int) t a its.toArray n1 d1 sl1) ⟨e, rfl, ⟨_, e, rfl⟩, ?_⟩)
 by_cases hc : (its.toArray.isEmpty || (k : Int) == 1) = true
 ·refine call_meets F.slot_tuple_mul ⟨_, e, rfl⟩ F.entry_tuple_mul (F.args_tuple_mul_2 _ _) (mul_one a its.toArray n1 d1 sl1 (k : Int) t h1 hc) ⟨e, ⟨.ref a, H, I, rfl, q a H (Same.refl H) ?_⟩⟩
  rw [ha]
  congr 2
  rw [Bool.or_eq_true] at hc
  rcases hc with hc | hc
  ·have : its = [] := by simpa using hc
   have : xs = [] := r.nil_iff.mp this
   subst this
   induction k with
   | zero => simp
   | succ k ih => simp
  ·have : k = 1 := by have := eq_of_beq hc; omega
   subst this
   simp
 ·have ne : ¬ its.toArray.isEmpty = true := fun z => hc (by rw [z]; rfl)
  by_cases hk0 : k = 0
  ·subst hk0
   refine call_meets F.slot_tuple_mul ⟨_, e, rfl⟩ F.entry_tuple_mul (F.args_tuple_mul_2 _ _) (mul_nil a its.toArray n1 d1 sl1 ((0 : Nat) : Int) t h1 hc (by simp)) ⟨e, ?_⟩
   have hf := I.hok.fresh (Nat.le_refl s.heap.objs.size)
   refine ⟨.ref s.heap.objs.size, upd H s.heap.objs.size (.tup []), I.laid (t' := s.toks) (fun b o z => Heap.get?_push_of_some _ z) (Nat.le_refl _) ⟨Nat.zero_le _, [], .nil, IsTup.new _ _⟩, rfl, q _ _ (same_upd hf) ?_⟩
   rw [upd_same]
   simp
  ·have fl : (List.replicate (k : Int).toNat its.toArray).foldl (· ++ ·) #[] = (List.replicate k its).flatten.toArray := by
    have := foldl_rep its k []
    rw [List.nil_append] at this
    rw [Int.toNat_natCast]
    exact this
   have lr : (List.replicate k its).flatten.length = k * its.length := len_rep its k
   have lx : (List.replicate k xs).flatten.length = k * xs.length := len_rep xs k
   have hsm : k * its.length ≤ 1000 := by rw [← hlen, Nat.mul_comm]; exact hz
   have cast : ((its.toArray.size : Nat) : Int) * (k : Int) = ((its.length * k : Nat) : Int) := by rw [List.size_toArray]; norm_cast
   have hsm2 : its.length * k ≤ 1000 := by rw [Nat.mul_comm]; exact hsm
   refine call_meets F.slot_tuple_mul ⟨_, e, rfl⟩ F.entry_tuple_mul (F.args_tuple_mul_2 _ _) (mul_more a its.toArray n1 d1 sl1 (k : Int) t h1 hc ?_ ?_ ?_ ?_) ⟨e, ?_⟩
   ·rw [Bool.or_eq_true, decide_eq_true_eq]
    rintro (z | z)
    ·omega
    ·exact ne z
   ·rw [cast]; omega
   ·unfold Builtin.Tuple.tupleTooMany
    rw [cast, sizeLine_eq, decide_eq_true_eq]
    omega
   ·rw [fl, List.size_toArray, lr, sizeLine_eq]
    omega
   ·rw [fl]
    have hf := I.hok.fresh (Nat.le_refl s.heap.objs.size)
    refine ⟨.ref s.heap.objs.size, upd H s.heap.objs.size (.tup (List.replicate k xs).flatten), I.laid (t' := s.toks) (fun b o z => Heap.get?_push_of_some _ z) (Nat.le_refl _) ⟨?_, (List.replicate k its).flatten, ?_, IsTup.new _ _⟩, rfl, q _ _ (same_upd hf) upd_same⟩
    ·rw [lx, hlen, sizeLine_eq]; omega
    ·exact r.rep k
theorem a_rMulT {x y : V} {H : Hp} {Q : VK} : rMulT x y H Q = ∃ (a : Addr) (k : Nat) (xs : List V), x = .ref a ∧ y = .int (k : Int) ∧ H a = some (.tup xs) ∧ xs.length * k ≤ 1000 ∧ k ≤ 1000 ∧ ∀ (p : Addr) (H' : Hp), Same H H' → H' p = some (.tup (List.replicate k xs).flatten) → Q (.ref p) H' := rfl
end
end L2
end
section
set_option Elab.async false
set_option linter.all false
set_option maxRecDepth 100000
namespace L2
open PySem PySem.Spec PyProof.Rows
theorem Box.ne {H : Hp} {p c : Addr} (bx : Box H p) (n : H c = none) : p ≠ c := by
 rintro rfl
 obtain ⟨_, _, _, e⟩ := bx
 rw [n] at e
 cases e
theorem Box.upd {H : Hp} {p c : Addr} {o : HO} (bx : Box H p) (n : p ≠ c) : Box (L2.upd H c o) p := by
 obtain ⟨g, m, z, e⟩ := bx
 exact ⟨g, m, z, by rw [upd_ne n]; exact e⟩
theorem Box.same {H H' : Hp} {p : Addr} (bx : Box H p) (s : Same H H') : Box H' p := by
 obtain ⟨g, m, z, e⟩ := bx
 exact ⟨g, m, z, s _ _ e⟩
end L2
end
section
set_option Elab.async false
set_option linter.all false
set_option maxRecDepth 100000
namespace L2
open PySem PySem.Spec PyProof.Rows
section
variable {X : Cx}
noncomputable def plainE : Expr → Bool
 | .Starred _ _ => false
 | _ => true
theorem star_cons {e : Expr} {es : List Expr} {env : Env} (h : plainE e = true) : starEach (e :: es) env = (false, eval e env) :: starEach es env := by
 cases e <;> first | rfl | cases h
theorem pa_cns {e : Expr} {es : List Expr} {te : TE} {t : TA} (ha : PE X e te) (hr : PA X es t) (hp : plainE e = true := by rfl) : PA X (e :: es) (tCons te t) := pa_cons ha hr (star_cons hp)
noncomputable def tDict : TE := fun _ H Q => ∀ (p : Addr) (H' : Hp), H p = none → Same H H' → H' p = some (.dK []) → Q (.ref p) H'
theorem pe_dict0 {pos : Pos} : PE X (.Dict [] [] pos) tDict := by
 intro pins s σ H Q I h
 have lt : mainGlobals < s.heap.objs.size := (I.mod.glob.keeps I.bk).lt
 have big : sysModules < s.heap.objs.size := Nat.lt_trans (by decide) lt
 have hf := I.hok.fresh (Nat.le_refl s.heap.objs.size)
 have ok : ObjOk X.prog X.w (upd H s.heap.objs.size (.dK [])) (s.heap.push { cls := .type "dict", data := .dict #[] }) s.heap.objs.size (.dK []) := ⟨Nat.zero_le _, beq_eq_false_iff_ne.mpr (Ne.symm (Nat.ne_of_lt big)), [], .nil, Heap.DictOf.new s.heap⟩
 exact wpAny_Dict_empty ⟨.ref s.heap.objs.size, _, I.laid (t' := s.toks) (fun _ _ q => Heap.get?_push_of_some _ q) (Nat.le_refl _) ok, rfl, h _ _ hf (same_upd hf) upd_same⟩
theorem a_tChain {r r' : R2} {ta tb tc : TE} {σ : St} {H : Hp} {Q : VK} : tChain r r' ta tb tc σ H Q = ta σ H fun x H1 => tb σ H1 fun y H2 => r x y H2 fun z H3 => ∃ k, z = .bl k ∧ (if k = true then tc σ H3 fun w' H4 => r' y w' H4 Q else Q (.bl false) H3) := rfl
theorem a_tDict {σ : St} {H : Hp} {Q : VK} : tDict σ H Q = ∀ (p : Addr) (H' : Hp), H p = none → Same H H' → H' p = some (.dK []) → Q (.ref p) H' := rfl
noncomputable def tLstA (t : TA) : TE := fun σ H Q => t σ H fun xs H1 => xs.length ≤ sizeLine ∧ ∀ (p : Addr) (H2 : Hp), H1 p = none → Same H1 H2 → H2 p = some (.lst xs) → Q (.ref p) H2
theorem pe_lstA {es : List Expr} {t : TA} {pos : Pos} (h : PA X es t) : PE X (.List es pos) (tLstA t) := by
 intro pins s σ H Q I hq
 refine wpAny_List_spliced (thn (h pos pins s σ H _ I hq) fun us s1 ⟨xs, H1, I1, r, z, q⟩ => ⟨r.length ▸ z, ?_⟩)
 have nf := I1.hok.fresh (Nat.le_refl s1.heap.objs.size)
 exact ⟨.ref s1.heap.objs.size, upd H1 s1.heap.objs.size (.lst xs), I1.laid (t' := s1.toks) (fun b u e => Heap.get?_push_of_some _ e) (Nat.le_refl _) ⟨z, us, 0, r, Heap.get?_push_size _ rfl⟩, rfl, q _ _ nf (same_upd nf) upd_same⟩
theorem a_tLstA {t : TA} {σ : St} {H : Hp} {Q : VK} : tLstA t σ H Q = t σ H fun xs H1 => xs.length ≤ sizeLine ∧ ∀ (p : Addr) (H2 : Hp), H1 p = none → Same H1 H2 → H2 p = some (.lst xs) → Q (.ref p) H2 := rfl
theorem listA0 : CallR X (.type "list") (fun xs H Q => ∃ p ys, xs = [.ref p] ∧ sq H p = some ys ∧ ∀ (l : Addr) (H2 : Hp), H l = none → Same H H2 → H2 l = some (.lst ys) → Q (.ref l) H2) := by
 intro pins s σ H xs us Q I r h
 obtain ⟨p, ys, e, hq, q⟩ := h
 exact list0 pins s σ H xs us Q I r ⟨p, ys, e, hq, fun l n => q l _ n (same_upd n) upd_same⟩
end
end L2
end
section
set_option Elab.async false
set_option linter.all false
set_option maxRecDepth 100000
namespace L2
open PySem PySem.Spec PyProof.Rows
noncomputable def tSeqL (t u : TS) : TS := tSeq t u
theorem pss_consL {X : Cx} {st : Stmt} {sts : List Stmt} {t u : TS} (h : PS X st t) (hs : PSs X sts u) : PSs X (st :: sts) (tSeqL t u) := pss_cons h hs
end L2
end
section
set_option Elab.async false
set_option linter.all false
set_option maxRecDepth 100000
namespace L2
open PySem PySem.Spec PyProof.Rows
structure QE (X : Cx) (e : Expr) (t : TE) : Prop where
 get : PE X e t
structure QA (X : Cx) (es : List Expr) (t : TA) : Prop where
 get : PA X es t
structure QS (X : Cx) (st : Stmt) (t : TS) : Prop where
 get : PS X st t
structure QSs (X : Cx) (sts : List Stmt) (t : TS) : Prop where
 get : PSs X sts t
section
variable {X : Cx}
theorem qa_nil : QA X [] tNil := ⟨pa_nil⟩
theorem qa_cns {e : Expr} {es : List Expr} {te : TE} {t : TA} (ha : QE X e te) (hr : QA X es t) (hp : plainE e = true := by rfl) : QA X (e :: es) (tCons te t) := ⟨pa_cns ha.get hr.get hp⟩
theorem qe_of {e : Expr} {te : TE} (h : PE X e te) : QE X e te := ⟨h⟩
theorem qs_of {st : Stmt} {t : TS} (h : PS X st t) : QS X st t := ⟨h⟩
theorem qe_lst {es : List Expr} {t : TA} {pos : Pos} (h : QA X es t) : QE X (.List es pos) (tLstA t) := ⟨pe_lstA h.get⟩
theorem qs_set {i : Nat} {x : Str} {e : Expr} {te : TE} {pos pos' : Pos} (hN : X.N.Nodup) (hi : X.N[i]? = some x) (hx : Loc X.env.scope x) (he : QE X e te) (hs : swapsWith e (some (.Name x pos')) pos.line X.env = pure false := by rfl) (hf : X.fn x = true ∨ X.env.scope.names.lookup x = some .local := by first | exact .inl rfl | exact .inr rfl | assumption) : QS X (.Assign [.Name x pos'] e pos) (tAsg te (gName i)) := ⟨ps_set hN hi hx he.get hs hf⟩
theorem qss_one {st : Stmt} {t : TS} (h : QS X st t) : QSs X [st] t := ⟨pss_one h.get⟩
theorem qss_cons {st : Stmt} {sts : List Stmt} {t u : TS} (h : QS X st t) (hs : QSs X sts u) : QSs X (st :: sts) (tSeqL t u) := ⟨pss_consL h.get hs.get⟩
end
end L2
end
section
set_option Elab.async false
set_option linter.all false
set_option maxRecDepth 100000
namespace L2
open PySem PySem.Spec PyProof.Rows
section
variable {X : Cx}
theorem lc_entryU {N : List Str} {fr : List (Option Nat)} {e tg iter : Expr} {ifs : List Expr} {gs : List Comprehension} {sc : Scope} {ip pos' : Pos} {cl : List (Str × Addr)} {wi : TI} {D : It → Addr → St → Hp → Prop} {pins : List (Addr × Obj)} {σ : St} {H : Hp} {s : Shared} {Q : VK} {i : Nat} {x : Str}
  (hN : X.N.Nodup) (hix : X.N[i]? = some x) (hx : Loc X.env.scope x) (hf : X.fn x = true ∨ X.env.scope.names.lookup x = some .local)
  (he : clausesOf e = ⟨tg, iter, ifs, 0⟩ :: gs) (hi : PI X tg iter wi) (S : CScope X N fr sc) (hcl : clos sc.names X.env.cells [] = some cl) (I : Inv X pins σ H s)
  (h : wi σ H fun J H1 => ∀ p, H1 p = none → D J p (frS fr σ) (upd H1 p (.lst [])))
  (loop : ∀ (it p : Addr) (fp : List Addr) (tn : Nat → Heap → Prop) (J : It) (s1 s2 : Shared) (H1 : Hp) (σ1 : St), Turn X.prog X.w X.K tg J fp it tn → Inv (cxc X N sc cl s1 H1 fp) [] σ1 H1 s2 → tn 0 s2.heap → (∀ b ∈ fp, FpOk (cxc X N sc cl s1 H1 fp) [] H1 b) → D J p σ1 H1 →
   codeAny (model X.prog X.w) X.A (.compStart e 0 (.ref it) (.ref p) (compEnvC sc cl s1.heap.objs.size X.env)) (fun r s' => r = .ok .next ∧ ∃ σ' H', Inv (cxc X N sc cl s1 H1 fp) [] σ' H' s' ∧ Q (.ref p) H') s2)
  (hs : ∀ x, foldedSetIterable iter X.env x = pure x) :
  wpAny (model X.prog X.w) X.A (comprehension e sc X.env ip (newList []) false (eval iter X.env) (some (assign (.Name x pos') X.env))) (fun _ s' => ∃ v H', Inv X pins (σ.set i (some v)) H' s' ∧ Q v H') X.xe s := by
 refine wpAny_comprehension_free (use := some (assign (.Name x pos') X.env)) he hs (closureFor_clos hcl) S.kind S.loc ?_
 refine thn (hi pins s σ H _ I h) fun v s1 h1 => thn h1 fun itv s2 ⟨it, fp, tn, J, H2, e2, I2, T, st2, f2, q⟩ => ?_
 subst e2
 refine wpAny_newObj_type ?_
 have hp : H2 s2.heap.objs.size = none := I2.hok.fresh (Nat.le_refl _)
 have I3 : Inv X pins σ (upd H2 s2.heap.objs.size (.lst [])) { s2 with heap := s2.heap.push { cls := .type "list", data := .seq ([] : List Value).toArray }, toks := s2.toks } := I2.lnew (its := []) (ys := []) .nil (Nat.zero_le _)
 have lt2 : ∀ b ∈ fp, b < s2.heap.objs.size := fun b hb => let ⟨o, e, _⟩ := T.obj 0 _ st2 b hb; Heap.lt_size e
 have f3 : ∀ b ∈ fp, FpOk X pins (upd H2 s2.heap.objs.size (.lst [])) b := fun b hb => ⟨by rw [upd_ne (Nat.ne_of_lt (lt2 b hb))]; exact (f2 b hb).1, (f2 b hb).2⟩
 have st3 : tn 0 (s2.heap.push { cls := .type "list", data := .seq ([] : List Value).toArray }) := T.keep _ _ _ st2 fun b _ o e => Heap.get?_push_of_some _ e
 refine wpAny_newFunctionEnv S.nocell (by intro y hy; simp at hy) (fun h₁ hns₁ hsb₁ => ?_) S.kind
 generalize hs3 : ({ s2 with heap := s2.heap.push { cls := .type "list", data := .seq ([] : List Value).toArray } } : Shared) = s3 at hns₁ hsb₁ ⊢
 have I3' : Inv X pins σ (upd H2 s2.heap.objs.size (.lst [])) s3 := by rw [← hs3]; exact I3
 have st3' : tn 0 s3.heap := by rw [← hs3]; exact st3
 have lt3 : ∀ b ∈ fp, b < s3.heap.objs.size := fun b hb => let ⟨o, e, _⟩ := T.obj 0 _ st3' b hb; Heap.lt_size e
 have hk : ∀ b u, s3.heap.get? b = some u → h₁.get? b = some u := fun b u e => hsb₁.extBut b u (Nat.ne_of_lt (Heap.lt_size e)) (Heap.get?_push_of_some _ e)
 have hns : h₁.Ns s3.heap.objs.size (fun _ => none) := by simpa using hns₁
 have B := I3'.block (N := N) (fr := fr) (sc := sc) (cl := cl) (ex := fp) (h1 := h₁) (tk := s3.toks + ([] : List (Str × Value)).length) S hcl (fun b hb => ⟨f3 b hb, lt3 b hb⟩) hns hk
 have stB : tn 0 h₁ := T.keep _ _ _ st3' fun b _ o e => hk b o e
 have fC : FpOk X pins (upd H2 s2.heap.objs.size (.lst [])) s3.heap.objs.size := I3'.fpOk (Nat.le_refl _) (I3'.hok.fresh (Nat.le_refl _))
 refine codeAny_mono (loop it s2.heap.objs.size fp tn J s3 _ (upd H2 s2.heap.objs.size (.lst [])) (frS fr σ) T B stB (fun b hb => ?_) (q _ hp)) fun r s' hr => ?_
 ·obtain ⟨f0, f1, f2', f3', f4, f5⟩ := f3 b hb
  refine ⟨f0, Nat.ne_of_lt (lt3 b hb), fun z => ?_, .inl hb, fun x c e => f4 x c (clos_lookup hcl e), fun p hp' => absurd (show p ∈ ([] : List (Addr × Obj)) from hp') (by simp)⟩
  rcases List.mem_cons.mp (I3'.stkSub b z) with e | e
  ·exact f1 e
  ·exact f2' e
 ·obtain ⟨rfl, σ', H', J', q'⟩ := hr
  have I5 : Inv X pins σ H' s' := I3'.unblock (h' := s'.heap) J' f3 ⟨rfl, fun _ _ => rfl⟩
  show wpAny _ X.A (assign (.Name x pos') X.env (.ref s2.heap.objs.size)) _ X.xe s'
  refine wpAny_assign_Name (store_ok2 (v := .ref s2.heap.objs.size) I5 hN hix hx rfl (fun s4 I6 ⟨a, sb, ha⟩ => ?_) hf)
  obtain ⟨m, hn, _⟩ := J'.loc
  have free : H' s3.heap.objs.size = none := J'.free
  obtain ⟨g0, g1, g2, g3, g4, g5⟩ := fC
  have aC : s3.heap.objs.size ≠ a := by
   rcases ha with rfl | ha
   ·exact g1
   ·exact fun z => g4 x a ha z.symm
  refine ⟨m, hn.sameBut sb aC, fun h' sb' => ⟨.ref s2.heap.objs.size, H', ?_, q'⟩⟩
  refine I6.turnedN (fp := [s3.heap.objs.size]) (fun b hb => ?_) fun c o hc e => sb'.extBut _ _ (fun z => hc (List.mem_singleton.mpr z)) e
  have eb : b = s3.heap.objs.size := by simpa using hb
  subst eb
  exact ⟨free, g1, g2, g3, g4, g5⟩
theorem ps_setLC {N : List Str} {fr : List (Option Nat)} {tg iter elt : Expr} {ifs : List Expr} {sc : Scope} {pos pos' cpos : Pos} {cl : List (Str × Addr)} {wi : TI} {g : TG} {tc : TT} {te : TE} {i : Nat} {x : Str} (hN : X.N.Nodup) (hix : X.N[i]? = some x) (hx : Loc X.env.scope x)
  (hc : X.calm = true) (hi : PI X tg iter wi) (S : CScope X N fr sc) (hcl : clos sc.names X.env.cells [] = some cl)
  (hb : ∀ s H ex, PG (cxc X N sc cl s H ex) tg g ∧ PIfs (cxc X N sc cl s H ex) ifs tc ∧ PE (cxc X N sc cl s H ex) elt te) (hsw : swapsWith (.ListComp elt [⟨tg, iter, ifs, 0⟩] sc cpos) (some (.Name x pos')) pos.line X.env = pure true := by rfl)
  (hs : ∀ x, foldedSetIterable iter X.env x = pure x := by intro _; rfl) (hf : X.fn x = true ∨ X.env.scope.names.lookup x = some .local := by first | exact .inl rfl | exact .inr rfl | assumption) :
  PS X (.Assign [.Name x pos'] (.ListComp elt [⟨tg, iter, ifs, 0⟩] sc cpos) pos) (tAsg (tLC fr wi g tc te) (gName i)) := by
 intro pins s σ H D I h
 rw [exec_Assign_Name_used _ _ _ _ hsw]
 refine wpAny_bind (wpAny_standAt (wpAny_bind ?_))
 show wpAny _ X.A (do let _ ← comprehension (.ListComp elt [⟨tg, iter, ifs, 0⟩] sc cpos) sc X.env _ (newList []) false (eval iter X.env) (some (assign (.Name x pos') X.env))) _ _ s
 refine wpAny_bind (thn (lc_entryU (Q := fun v H2 => D.nx (σ.set i (some v)) H2) (D := fun J p σ1 H1 => tCL J g tc (tEmit p te) (fun _ H2 => D.nx (σ.set i (some (.ref p))) H2) σ1 H1) hN hix hx hf rfl hi S hcl I h (fun it p fp tn J s1 s2 H1 σ1 T B st f d => ?_) hs) fun _ s' ⟨v, H', I', q'⟩ => wpAny_pure (wpAny_pure ⟨_, H', I', q'⟩))
 obtain ⟨hg, hifs, helt⟩ := hb s1 H1 fp
 have L := comp_loop (X := cxc X N sc cl s1 H1 fp) (e := .ListComp elt [⟨tg, iter, ifs, 0⟩] sc cpos) (d := 0) (acc := .ref p) (D := fun _ H2 => D.nx (σ.set i (some (.ref p))) H2) (s := s2) hc rfl (compTurn_list elt tg iter ifs sc cpos (.ref it) (.ref p) _) rfl rfl rfl T hg hifs (pb_emit helt) B st f d
 exact codeAny_compStart_list L (T.self X.A 0 s2 _ _ st L)
end
end L2
end
section
set_option Elab.async false
set_option linter.all false
set_option maxRecDepth 100000
namespace L2
open PySem PySem.Spec PyProof.Rows
noncomputable def tCalK (sp : Sp) (gV : List V → List V) (tk : TA) : TE := fun σ H Q => tk σ H fun zs H2 => sp (gV zs) H2 Q E0
section
variable {X : Cx}
theorem a_tCalK {sp : Sp} {gV : List V → List V} {tk : TA} {σ : St} {H : Hp} {Q : VK} : tCalK sp gV tk σ H Q = tk σ H fun zs H2 => sp (gV zs) H2 Q E0 := rfl
end
noncomputable def g1 {α : Type} : List α → List α
 | [a] => [a]
 | _ => []
noncomputable def g2 {α : Type} : List α → List α
 | [a, b] => [a, b]
 | _ => []
noncomputable def g2r {α : Type} : List α → List α
 | [a, b] => [b, a]
 | _ => []
end L2
end
section
set_option Elab.async false
set_option linter.all false
set_option maxRecDepth 100000
namespace L2
open PySem PySem.Spec PyProof.Rows
section
variable {X : Cx}
theorem eqAt_tup {pins : List (Addr × Obj)} {σ : St} {H : Hp} {s : Shared} {A : Around} {a b : Addr} {ns ms : List Int} (I : Inv X pins σ H s) (ha : H a = some (.tup (ns.map V.int))) (hb : H b = some (.tup (ms.map V.int))) (hu : A.units < cLine) : SeqAt.EqAt A s (.ref a) (.ref b) (decide (ns = ms)) := by
 by_cases hab : a = b
 ·subst hab
  rw [ha] at hb
  have e : ns.map V.int = ms.map V.int := by injection hb with h; injection h
  have : ns = ms := List.map_inj_right (fun _ _ h => by injection h) |>.mp e
  rw [decide_eq_true this]
  exact SeqAt.EqAt.same _
 ·obtain ⟨its, its2, p1, p2, l1, l2, he⟩ := tup_eqs I ha hb
  have r := SeqAt.RcAt.tuples (A := A) (s := s) (show s.heap.IsTuple a its.toArray from p1) (show s.heap.IsTuple b its2.toArray from p2) hu (fun j h1 h2 => he _ j h1 h2)
  rw [List.size_toArray, List.size_toArray, l1, l2, ints_all] at r
  exact SeqAt.EqAt.of_refs hab r
noncomputable def rNePP : R2 := fun x y H Q => ∃ (a b a1 a2 b1 b2 : Addr) (n1 n2 m1 m2 : List Int), x = .ref a ∧ y = .ref b ∧ H a = some (.tup [.ref a1, .ref a2]) ∧ H b = some (.tup [.ref b1, .ref b2]) ∧ H a1 = some (.tup (n1.map V.int)) ∧ H a2 = some (.tup (n2.map V.int)) ∧ H b1 = some (.tup (m1.map V.int)) ∧ H b2 = some (.tup (m2.map V.int)) ∧ Q (.bl (!(decide (n1 = m1) && decide (n2 = m2)))) H
theorem a_rNePP {x y : V} {H : Hp} {Q : VK} : rNePP x y H Q = ∃ (a b a1 a2 b1 b2 : Addr) (n1 n2 m1 m2 : List Int), x = .ref a ∧ y = .ref b ∧ H a = some (.tup [.ref a1, .ref a2]) ∧ H b = some (.tup [.ref b1, .ref b2]) ∧ H a1 = some (.tup (n1.map V.int)) ∧ H a2 = some (.tup (n2.map V.int)) ∧ H b1 = some (.tup (m1.map V.int)) ∧ H b2 = some (.tup (m2.map V.int)) ∧ Q (.bl (!(decide (n1 = m1) && decide (n2 = m2)))) H := rfl
end
end L2
end
section
set_option Elab.async false
set_option linter.all false
set_option maxRecDepth 100000
namespace L2
open PySem PySem.Spec PyProof.Rows
section
variable {X : Cx}
noncomputable def tPop0 (to : TE) (t : TA) : TE := fun σ H Q => to σ H fun x H1 => ∃ l xs0, x = .ref l ∧ H1 l = some (.lst xs0) ∧ t σ H1 fun vs H2 => ∃ (y : V) (ys : List V), vs = [.int 0] ∧ H2 l = some (.lst (y :: ys)) ∧ Q y (upd H2 l (.lst ys))
theorem a_tPop0 {to : TE} {t : TA} {σ : St} {H : Hp} {Q : VK} : tPop0 to t σ H Q = to σ H fun x H1 => ∃ l xs0, x = .ref l ∧ H1 l = some (.lst xs0) ∧ t σ H1 fun vs H2 => ∃ (y : V) (ys : List V), vs = [.int 0] ∧ H2 l = some (.lst (y :: ys)) ∧ Q y (upd H2 l (.lst ys)) := rfl
theorem listS0 : CallR X (.type "list") (fun xs H Q => ∃ p ys, xs = [.ref p] ∧ SqL X.K H p ys ∧ ∀ (l : Addr) (H2 : Hp), H l = none → Same H H2 → H2 l = some (.lst ys) → Q (.ref l) H2) := by
 intro pins s σ H xs us Q I r h
 obtain ⟨p, ys, e, hq, q⟩ := h
 exact call_list_of pins s σ H xs us Q I r ⟨p, ys, e, .inl hq, fun l n => q l _ n (same_upd n) upd_same⟩
end
noncomputable def g3r {α : Type} : List α → List α
 | [a, b, c] => [c, b, a]
 | _ => []
theorem g3r_is {α : Type} {a b c : α} : g3r [a, b, c] = [c, b, a] := rfl
theorem g2r_is {α : Type} {a b : α} : g2r [a, b] = [b, a] := rfl
theorem g2_is {α : Type} {a b : α} : g2 [a, b] = [a, b] := rfl
theorem g1_is {α : Type} {a : α} : g1 [a] = [a] := rfl
end L2
end
section
set_option Elab.async false
set_option linter.all false
set_option Elab.async false
set_option linter.all false
set_option maxRecDepth 100000
namespace L2
open PySem PySem.Spec PyProof.Rows
end L2
namespace L2
open PySem PySem.Spec PyProof.Rows
end L2
namespace L2
open PySem PySem.Spec PyProof.Rows
end L2
namespace L2
open PySem PySem.Spec PyProof.Rows
end L2
namespace L2
open PySem PySem.Spec PyProof.Rows
end L2
namespace L2
open PySem PySem.Spec PyProof.Rows
end L2
namespace L2
open PySem PySem.Spec PyProof.Rows
end L2
namespace L2
open PySem PySem.Spec PyProof.Rows
end L2
namespace L2
open PySem PySem.Spec PyProof.Rows
end L2
namespace L2
open PySem PySem.Spec PyProof.Rows
end L2
namespace L2
open PySem PySem.Spec PyProof.Rows
section
variable {κ : Type} [DecidableEq κ]
noncomputable def valV (kvs : List (κ × V)) (k : κ) : Option V := (kvs.find? fun kv => decide (kv.1 = k)).map (·.2)
noncomputable def putK (kvs : List (κ × V)) (k : κ) (v : V) : List (κ × V) :=
 if (kvs.any fun kv => decide (kv.1 = k)) = true then kvs.map (fun kv => if kv.1 = k then (kv.1, v) else kv) else kvs ++ [(k, v)]
noncomputable def dropK (kvs : List (κ × V)) (k : κ) : List (κ × V) := kvs.filter fun kv => decide (kv.1 ≠ k)
theorem valV_pos {p : κ × V} {r : List (κ × V)} {k : κ} (e : p.1 = k) : valV (p :: r) k = some p.2 := by simp [valV, List.find?_cons, e]
theorem valV_neg {p : κ × V} {r : List (κ × V)} {k : κ} (e : ¬ p.1 = k) : valV (p :: r) k = valV r k := by simp [valV, List.find?_cons, e]
theorem valV_any (k : κ) : ∀ kvs : List (κ × V), (kvs.any fun kv => decide (kv.1 = k)) = (valV kvs k).isSome
 | [] => rfl
 | p :: r => by
  rw [List.any_cons]
  by_cases e : p.1 = k
  ·simp only [valV_pos e, decide_eq_true e, Bool.true_or, Option.isSome_some]
  ·rw [valV_neg e, decide_eq_false e, Bool.false_or]; exact valV_any k r
theorem length_putK (kvs : List (κ × V)) (k : κ) (v : V) : (putK kvs k v).length ≤ kvs.length + 1 := by
 unfold putK
 split
 ·rw [List.length_map]; omega
 ·rw [List.length_append, List.length_cons, List.length_nil]; omega
theorem RelO.isSome_eq {o : Option V} {u : Option Value} (r : RelO o u) : o.isSome = u.isSome := by
 cases o with
 | none => cases u with
  | none => rfl
  | some _ => exact (show False from r).elim
 | some _ => cases u with
  | none => exact (show False from r).elim
  | some _ => rfl
theorem RelO.getD {o : Option V} {u : Option Value} {d : V} {d' : Value} (r : RelO o u) (rd : RelV d d') : RelV (o.getD d) (u.getD d') := by
 cases o with
 | none => cases u with
  | none => exact rd
  | some _ => exact (show False from r).elim
 | some _ => cases u with
  | none => exact (show False from r).elim
  | some _ => exact r
theorem KV.val {kvs : List (κ × V)} {vs : List (κ × Value)} (r : KV kvs vs) (k : κ) : RelO (valV kvs k) (valueAt vs k) := by
 unfold KV at r
 induction r with
 | nil => exact True.intro
 | @cons p q ps qs h t ih =>
  obtain ⟨h1, h2⟩ := h
  by_cases e : p.1 = k
  ·have e' : q.1 = k := h1.symm.trans e
   have b : valueAt (q :: qs) k = some q.2 := by simp [valueAt, List.find?_cons, e']
   rw [valV_pos e, b]; exact h2
  ·have e' : ¬ q.1 = k := fun z => e (h1.trans z)
   have b : valueAt (q :: qs) k = valueAt qs k := by simp [valueAt, List.find?_cons, e']
   rw [valV_neg e, b]; exact ih
theorem KV.any {kvs : List (κ × V)} {vs : List (κ × Value)} (r : KV kvs vs) (k : κ) : (kvs.any fun kv => decide (kv.1 = k)) = vs.any fun kv => decide (kv.1 = k) := by
 unfold KV at r
 induction r with
 | nil => rfl
 | cons h t ih => rw [List.any_cons, List.any_cons, ih, h.1]
theorem KV.repl {kvs : List (κ × V)} {vs : List (κ × Value)} (r : KV kvs vs) (k : κ) {y : V} {u : Value} (ry : RelV y u) :
  KV (kvs.map fun kv => if kv.1 = k then (kv.1, y) else kv) (vs.map fun kv => if kv.1 = k then (kv.1, u) else kv) := by
 unfold KV at r ⊢
 induction r with
 | nil => exact .nil
 | @cons p q ps qs h t ih =>
  rw [List.map_cons, List.map_cons]
  refine .cons ?_ ih
  obtain ⟨h1, h2⟩ := h
  by_cases e : p.1 = k
  ·rw [if_pos e, if_pos (h1.symm.trans e)]; exact ⟨h1, ry⟩
  ·rw [if_neg e, if_neg (fun z => e (h1.trans z))]; exact ⟨h1, h2⟩
theorem KV.put {kvs : List (κ × V)} {vs : List (κ × Value)} (r : KV kvs vs) (k : κ) {y : V} {u : Value} (ry : RelV y u) : KV (putK kvs k y) (stored vs k u) := by
 unfold putK stored
 rw [r.any k]
 by_cases e : (vs.any fun kv => decide (kv.1 = k)) = true
 ·rw [if_pos e, if_pos e]; exact r.repl k ry
 ·rw [if_neg e, if_neg e]; exact Paired.snoc r ⟨rfl, ry⟩
theorem KV.drop {kvs : List (κ × V)} {vs : List (κ × Value)} (r : KV kvs vs) (k : κ) : KV (dropK kvs k) (without vs k) := by
 unfold KV at r ⊢
 unfold dropK without
 induction r with
 | nil => exact .nil
 | @cons p q ps qs h t ih =>
  obtain ⟨h1, h2⟩ := h
  rw [List.filter_cons, List.filter_cons]
  by_cases e : p.1 = k
  ·have a : ¬ decide (p.1 ≠ k) = true := by simp [e]
   have b : ¬ decide (q.1 ≠ k) = true := by simp [h1.symm.trans e]
   rw [if_neg a, if_neg b]; exact ih
  ·have e' : ¬ q.1 = k := fun z => e (h1.trans z)
   have a : decide (p.1 ≠ k) = true := by simp [e]
   have b : decide (q.1 ≠ k) = true := by simp [e']
   rw [if_pos a, if_pos b]; exact .cons ⟨h1, h2⟩ ih
theorem KV.keys {kvs : List (κ × V)} {vs : List (κ × Value)} (r : KV kvs vs) : kvs.map (·.1) = vs.map (·.1) := by
 unfold KV at r
 induction r with
 | nil => rfl
 | cons h t ih => rw [List.map_cons, List.map_cons, ih, h.1]
theorem KV.length {kvs : List (κ × V)} {vs : List (κ × Value)} (r : KV kvs vs) : kvs.length = vs.length := Paired.length r
end
theorem kV_is {P : Program} {w : World} {k : Key} {u : Value} (r : RelV (kV k) u) : (mixKind P w).is k u = true := by
 cases k with
 | inl i => obtain ⟨t, e⟩ := (show ∃ t, u = Value.int i t from r); subst e; exact mixKind_int P w i t
 | inr x => obtain ⟨t, e⟩ := (show ∃ t, u = Value.str x t from r); subst e; exact mixKind_str P w x t
theorem items_are {P : Program} {w : World} : ∀ {ks : List Key} {us : List Value}, Vals (ks.map kV) us → ItemsAre (mixKind P w) ks us
 | [], _, r => by rw [List.map_nil] at r; cases r; exact .nil
 | k :: ks, _, r => by
  rw [List.map_cons] at r
  cases r with
  | cons h t => exact .cons (kV_is h) (items_are t)
noncomputable abbrev KT (H : Hp) : List (List Key × V) → List (List Key × Addr × Value) → Prop := Paired fun p q => p.1 = q.1 ∧ H q.2.1 = some (.tup (p.1.map kV)) ∧ RelV p.2 q.2.2
theorem KT.val {H : Hp} {kvs : List (List Key × V)} {xs : List (List Key × Addr × Value)} (r : KT H kvs xs) (k : List Key) : RelO (valV kvs k) ((atKey xs k).map (·.2)) := by
 induction r with
 | nil => exact True.intro
 | @cons p q ps qs h t ih =>
  obtain ⟨h1, _, h2⟩ := h
  by_cases e : p.1 = k
  ·have e' : q.1 = k := h1.symm.trans e
   have b : atKey (q :: qs) k = some q.2 := by simp [atKey, List.find?_cons, e']
   rw [valV_pos e, b]; exact h2
  ·have e' : ¬ q.1 = k := fun z => e (h1.trans z)
   have b : atKey (q :: qs) k = atKey qs k := by simp [atKey, List.find?_cons, e']
   rw [valV_neg e, b]; exact ih
theorem KT.repl {H : Hp} {kvs : List (List Key × V)} {xs : List (List Key × Addr × Value)} (r : KT H kvs xs) (k : List Key) {y : V} {u : Value} (ry : RelV y u) :
  KT H (kvs.map fun kv => if kv.1 = k then (kv.1, y) else kv) (xs.map (putAt k u)) := by
 induction r with
 | nil => exact .nil
 | @cons p q ps qs h t ih =>
  rw [List.map_cons, List.map_cons]
  refine .cons ?_ ih
  obtain ⟨h1, h2, h3⟩ := h
  unfold putAt
  by_cases e : p.1 = k
  ·rw [if_pos e, if_pos (h1.symm.trans e)]; exact ⟨h1, h2, ry⟩
  ·rw [if_neg e, if_neg (fun z => e (h1.trans z))]; exact ⟨h1, h2, h3⟩
theorem KT.put {H : Hp} {kvs : List (List Key × V)} {xs : List (List Key × Addr × Value)} (r : KT H kvs xs) (k : List Key) {b : Addr} {y : V} {u : Value} (hb : H b = some (.tup (k.map kV))) (ry : RelV y u) :
  KT H (putK kvs k y) (storedH xs k b u) := by
 have e : (kvs.any fun kv => decide (kv.1 = k)) = (atKey xs k).isSome := by
  rw [valV_any, (r.val k).isSome_eq, Option.isSome_map]
 unfold putK storedH
 rw [e]
 by_cases q : (atKey xs k).isSome = true
 ·rw [if_pos q, if_pos q]; exact r.repl k ry
 ·rw [if_neg q, if_neg q]; exact Paired.snoc r ⟨rfl, hb, ry⟩
theorem KT.keeps {H H' : Hp} {kvs : List (List Key × V)} {xs : List (List Key × Addr × Value)} (r : KT H kvs xs) (ht : ∀ b ys, H b = some (.tup ys) → H' b = some (.tup ys)) : KT H' kvs xs :=
 Paired.mapP r fun _ _ z => ⟨z.1, ht _ _ z.2.1, z.2.2⟩
section
variable {P : Program} {w : World} {H : Hp} {h : Heap} {a : Addr}
theorem rd_of {u : HO} (ok : HOk P w H h) (e : Rd H a u) : ObjOk P w H h a u := e.ok ok
theorem dk_rd {kvs : List (Key × V)} (ok : HOk P w H h) (e : Rd H a (.dK kvs)) : kvs.length ≤ sizeLine ∧ (a == sysModules) = false ∧ ∃ vs, KV kvs vs ∧ h.DictOf (mixKind P w) a vs :=
 show ObjOk P w H h a (.dK kvs) from rd_of ok e
theorem dk_of {kvs : List (Key × V)} (ok : HOk P w H h) (e : H a = some (.dK kvs)) : kvs.length ≤ sizeLine ∧ (a == sysModules) = false ∧ ∃ vs, KV kvs vs ∧ h.DictOf (mixKind P w) a vs := dk_rd ok (.inl e)
theorem key_of {ks : List Key} (ok : HOk P w H h) (e : H a = some (.tup (ks.map kV))) : (tupleKind (mixKind P w)).is h ks a := by
 obtain ⟨_, its, r, o, h1, h2, n, h3⟩ := (show ObjOk P w H h a (.tup (ks.map kV)) from ok a _ e)
 exact ⟨o, its.toArray, n, h1, h2, h3, by simpa using items_are r⟩
theorem dt_rd {kvs : List (List Key × V)} (ok : HOk P w H h) (e : Rd H a (.dT kvs)) : kvs.length ≤ sizeLine ∧ (a == sysModules) = false ∧
  ∃ xs, KT H kvs xs ∧ h.DictOfH (tupleKind (mixKind P w)) a xs := by
 obtain ⟨z, y, xs, r, o, es, ep, h1, h2, h3, h4, h5⟩ := (show ObjOk P w H h a (.dT kvs) from rd_of ok e)
 refine ⟨z, y, xs, r, o, es, ep, h1, h2, h3, h4, fun x hx => ?_, h5⟩
 have all : ∀ {l : List (List Key × V)} {m : List (List Key × Addr × Value)}, KT H l m → ∀ x ∈ m, (tupleKind (mixKind P w)).is h x.1 x.2.1 := by
  intro l m q
  induction q with
  | nil => intro x hx; exact nomatch hx
  | @cons p q ps qs hq t ih =>
   intro x hx
   rcases List.mem_cons.mp hx with e | hx
   ·subst e
    exact key_of ok (by rw [← hq.1]; exact hq.2.1)
   ·exact ih x hx
 exact all r x hx
theorem dt_of {kvs : List (List Key × V)} (ok : HOk P w H h) (e : H a = some (.dT kvs)) : kvs.length ≤ sizeLine ∧ (a == sysModules) = false ∧
  ∃ xs, KT H kvs xs ∧ h.DictOfH (tupleKind (mixKind P w)) a xs := dt_rd ok (.inl e)
end
noncomputable def DGet (H : Hp) (a : Addr) (y : V) (r : Option V) : Prop :=
 (∃ kvs k, Rd H a (.dK kvs) ∧ y = kV k ∧ r = valV kvs k) ∨ ∃ kvs k b, Rd H a (.dT kvs) ∧ y = .ref b ∧ H b = some (.tup (k.map kV)) ∧ r = valV kvs k
noncomputable def DPut (H : Hp) (a : Addr) (y v : V) (H' : Hp) : Prop :=
 (∃ kvs k, H a = some (.dK kvs) ∧ y = kV k ∧ kvs.length < sizeLine ∧ H' = upd H a (.dK (putK kvs k v))) ∨
 ∃ kvs k b, H a = some (.dT kvs) ∧ y = .ref b ∧ H b = some (.tup (k.map kV)) ∧ kvs.length < sizeLine ∧ H' = upd H a (.dT (putK kvs k v))
theorem DGet.k {H : Hp} {a : Addr} {kvs : List (Key × V)} {k : Key} (e : H a = some (.dK kvs)) : DGet H a (kV k) (valV kvs k) := .inl ⟨kvs, k, .inl e, rfl, rfl⟩
theorem DGet.t {H : Hp} {a b : Addr} {kvs : List (List Key × V)} {k : List Key} (e : H a = some (.dT kvs)) (eb : H b = some (.tup (k.map kV))) : DGet H a (.ref b) (valV kvs k) := .inr ⟨kvs, k, b, .inl e, rfl, eb, rfl⟩
theorem DPut.k {H : Hp} {a : Addr} {kvs : List (Key × V)} {k : Key} {v : V} (e : H a = some (.dK kvs)) (hl : kvs.length < sizeLine) : DPut H a (kV k) v (upd H a (.dK (putK kvs k v))) := .inl ⟨kvs, k, e, rfl, hl, rfl⟩
theorem DPut.t {H : Hp} {a b : Addr} {kvs : List (List Key × V)} {k : List Key} {v : V} (e : H a = some (.dT kvs)) (eb : H b = some (.tup (k.map kV))) (hl : kvs.length < sizeLine) :
  DPut H a (.ref b) v (upd H a (.dT (putK kvs k v))) := .inr ⟨kvs, k, b, e, rfl, eb, hl, rfl⟩
section
variable {X : Cx} {pins : List (Addr × Obj)} {σ : St} {H : Hp} {s : Shared} {a : Addr} {y v : V} {u r : Value} {o : Option V} {A : Around} {E : Value → Shared → Prop}
theorem Inv.big (I : Inv X pins σ H s) : sysModules < s.heap.objs.size := by
 have h : mainGlobals < s.heap.objs.size := (I.mod.glob.keeps I.bk).lt
 exact Nat.lt_trans (by decide) h
theorem d_getItem {Q : Value → Shared → Prop} (hu : A.units + 1 < cLine) (I : Inv X pins σ H s) (g : DGet H a y (some v)) (ry : RelV y u) (h : ∀ w' s', Inv X pins σ H s' → RelV v w' → Q w' s') :
  wpAny (model X.prog X.w) A (getItem (.ref a) u) Q E s := by
 rcases g with ⟨kvs, k, e, ey, l⟩ | ⟨kvs, k, b, e, ey, eb, l⟩
 ·subst ey
  obtain ⟨z, hd, vs, rel, dd⟩ := dk_rd I.hok e
  obtain ⟨w', hw, rw'⟩ := RelO.some_of (v := v) (o := valueAt vs k) (by rw [l]; exact rel.val k)
  exact wpAny_getItem_of (kV_is ry) dd.mapOf hw (h w' _ (I.tok _) rw')
 ·subst ey
  cases (show u = Value.ref b from ry)
  obtain ⟨z, hd, xs, rel, dd⟩ := dt_rd I.hok e
  obtain ⟨w', hw, rw'⟩ := RelO.some_of (v := v) (o := (atKey xs k).map (·.2)) (by rw [l]; exact rel.val k)
  obtain ⟨p, hp, hp2⟩ := Option.map_eq_some_iff.mp hw
  refine wpAny_getItem_heap (tupleKind_room_in1 hu) (key_of I.hok eb) dd hp ?_
  rw [hp2]
  exact h w' _ (I.tok _) rw'
theorem d_write {h' : Heap} {t' : Nat} {ob : HO} (I : Inv X pins σ H s) (mu : Mut (H a)) (hs : Heap.SameBut a s.heap h') (he : ∃ q, h'.get? a = some q) (new : ObjOk X.prog X.w (upd H a ob) h' a ob) :
  Inv X pins σ (upd H a ob) { s with heap := h', toks := t' } :=
 I.write (x := a) (e := a) mu (.inl rfl) (fun b q hb z => (hs.2 b hb).trans z) he new
theorem dk_new {P : Program} {w : World} {H' : Hp} {h' : Heap} {kvs : List (Key × V)} {vs : List (Key × Value)} (z : kvs.length ≤ sizeLine) (hd : (a == sysModules) = false) (rel : KV kvs vs) (dd : h'.DictOf (mixKind P w) a vs) :
  ObjOk P w H' h' a (.dK kvs) := ⟨z, hd, vs, rel, dd⟩
theorem d_setItem {H' : Hp} {Q : Unit → Shared → Prop} (hu : A.units + 1 < cLine) (I : Inv X pins σ H s) (g : DPut H a y v H') (ry : RelV y u) (rv : RelV v r) (h : ∀ s', Inv X pins σ H' s' → Q () s') :
  wpAny (model X.prog X.w) A (setItem (.ref a) u r) Q E s := by
 rcases g with ⟨kvs, k, e, ey, l, eH⟩ | ⟨kvs, k, b, e, ey, eb, l, eH⟩
 ·subst ey eH
  obtain ⟨z, hd, vs, rel, dd⟩ := dk_of I.hok e
  have hz : vs.length ≤ sizeLine := by rw [← rel.length]; exact z
  have hl : (putK kvs k v).length ≤ sizeLine := by have := length_putK kvs k v; omega
  refine wpAny_setItem_pairs (hsz := hz) (kV_is ry) dd fun h' dd' hs => h _ ?_
  have he : ∃ q, h'.get? a = some q := let ⟨q, _, _, hq, _⟩ := dd'; ⟨q, hq⟩
  exact d_write I (by rw [e]; exact True.intro) hs he (dk_new hl hd (rel.put k rv) dd')
 ·subst ey eH
  cases (show u = Value.ref b from ry)
  obtain ⟨z, hd, xs, rel, dd⟩ := dt_of I.hok e
  have hz : xs.length ≤ sizeLine := by rw [← Paired.length rel]; exact z
  have hl : (putK kvs k v).length ≤ sizeLine := by have := length_putK kvs k v; omega
  refine wpAny_setItem_heap (hsz := hz) (tupleKind_room_in1 hu) (key_of I.hok eb) dd fun h' dd' hs => h _ ?_
  obtain ⟨q, es, ep, hq, h2, h3, h4, _, h5⟩ := dd'
  refine d_write I (by rw [e]; exact True.intro) hs ⟨q, hq⟩ ⟨hl, hd, _, (rel.put k eb rv).keeps fun c ys ec => ?_, q, es, ep, hq, h2, h3, h4, h5⟩
  rw [upd_ne (ne_of ec e (fun z => nomatch z))]
  exact ec
end
section
variable {X : Cx} {pins : List (Addr × Obj)} {σ : St} {H : Hp} {s : Shared} {a : Addr} {kvs : List (Key × V)} {k : Key} {u : Value} {A : Around} {E : Value → Shared → Prop}
end
noncomputable def NoSl (i : Expr) : Prop := ∀ ov iv, subscripted i false ov iv = operate [ov, iv] (getItem ov iv)
theorem subD_of {prog : Program} {w : World} {A : Around} {E : Value → Shared → Prop} {s : Shared} {env : Env} {value slice : Expr} {pos : Pos} {T id : String} {Q : Value → Shared → Prop}
  (hl : typeLookup (.type T) "__getitem__" = pure (some (.builtin id))) (hs : NoSl slice)
  (h : wpAny (model prog w) A (eval value env) (fun o s₁ => wpAny (model prog w) A (eval slice env) (fun i s₂ => s₂.TypeIs o T ∧ wpAny (model prog w) A (getItem o i) Q E s₂) E s₁) E s) :
  wpAny (model prog w) A (eval (.Subscript value slice pos) env) Q E s := by
 refine Subscript_ (wpAny_mono h (fun o s₁ h₁ => wpAny_mono h₁ (fun i s₂ h₂ => ?_) fun _ _ x => x) fun _ _ x => x)
 obtain ⟨hT, h₂⟩ := h₂
 unfold subscriptTail
 refine wpAny_bind ?_
 rw [getitemInPython_of_ne hT.not_modules]
 refine wpAny_bind (wpAny_specialOf hT hl ?_)
 have fin : wpAny (model prog w) A (subscripted slice false o i) (fun r s₃ => wpAny (model prog w) A (letTemporaryGo value o r >>= fun _ => pure r) Q E s₃) E s₂ := by
  rw [hs o i]
  exact wpAny_operating (wpAny_mono h₂ (fun r s₃ h₃ => wpAny_bind (wpAny_letTemporaryGo (wpAny_pure h₃))) fun _ _ x => x)
 first
  | exact wpAny_pure (wpAny_bind fin)
  | exact wpAny_bind (wpAny_pure (wpAny_bind fin))
  | exact wpAny_bind fin
theorem dict_typeIs {X : Cx} {pins : List (Addr × Obj)} {σ : St} {H : Hp} {s : Shared} {a : Addr} {y : V} {o : Option V} (I : Inv X pins σ H s) (g : DGet H a y o) : s.TypeIs (.ref a) "dict" := by
 rcases g with ⟨kvs, k, e, _, _⟩ | ⟨kvs, k, b, e, _, _, _⟩
 ·obtain ⟨_, _, vs, _, dd⟩ := dk_rd I.hok e
  exact dd.typeIs
 ·obtain ⟨_, _, xs, _, dd⟩ := dt_rd I.hok e
  exact dd.typeIs
section
variable {X : Cx} {o i e value : Expr} {pos pos' tpos : Pos} {td ty tv : TE}
end
theorem dk_empty {P : Program} {w : World} {H : Hp} (h : Heap) (hb : sysModules < h.objs.size) : ObjOk P w H (h.push { cls := .type "dict", data := .dict #[] }) h.objs.size (.dK []) :=
 ⟨Nat.zero_le _, beq_eq_false_iff_ne.mpr (Ne.symm (Nat.ne_of_lt hb)), [], .nil, Heap.DictOf.new h⟩
section
variable {X : Cx} {pos : Pos}
end
noncomputable def tPairs : List (TE × TE) → St → Hp → (List (V × V) → Hp → Prop) → Prop
 | [], _, H, Q => Q [] H
 | (tk, tv) :: r, σ, H, Q => tk σ H fun x H1 => tv σ H1 fun y H2 => tPairs r σ H2 fun ps H3 => Q ((x, y) :: ps) H3
noncomputable abbrev VV : List (V × V) → List (Value × Value) → Prop := Paired fun p q => RelV p.1 q.1 ∧ RelV p.2 q.2
noncomputable def PPs (X : Cx) (pos : Pos) (keys : List (Option Expr)) (values : List Expr) (trs : List (TE × TE)) : Prop :=
 ∀ (pins : List (Addr × Obj)) (s : Shared) (σ : St) (H : Hp) (Q : List (V × V) → Hp → Prop), Inv X pins σ H s → tPairs trs σ H Q →
  wpAny (model X.prog X.w) X.A (evalPairs (pairTrees keys values X.env pos)) (fun vs s' => ∃ ps H', Inv X pins σ H' s' ∧ VV ps vs ∧ Q ps H') X.xe s
theorem pps_nil {X : Cx} {pos : Pos} : PPs X pos [] [] [] := fun pins s σ H Q I h => pairTrees_nil_walk ⟨[], H, I, .nil, h⟩
theorem pps_cons {X : Cx} {pos : Pos} {k v : Expr} {ks : List (Option Expr)} {vs : List Expr} {tk tv : TE} {trs : List (TE × TE)} (hk : PE X k tk) (hv : PE X v tv) (hr : PPs X pos ks vs trs) :
  PPs X pos (some k :: ks) (v :: vs) ((tk, tv) :: trs) := fun pins s σ H Q I h =>
 pairTrees_cons_walk (thn (hk pins s σ H _ I h) fun u s1 ⟨x, H1, I1, rx, q1⟩ => thn (hv pins s1 σ H1 _ I1 q1) fun w2 s2 ⟨y, H2, I2, ry, q2⟩ =>
  thn (hr pins s2 σ H2 _ I2 q2) fun ws s3 ⟨ps, H3, I3, rel, q3⟩ => ⟨(x, y) :: ps, H3, I3, .cons ⟨rx, ry⟩ rel, q3⟩)
noncomputable def mergeK (kvs more : List (Key × V)) : List (Key × V) := more.foldl (fun acc kv => putK acc kv.1 kv.2) kvs
theorem KV.merge : ∀ {more : List (Key × V)} {rs : List (Key × Value)} {kvs : List (Key × V)} {vs : List (Key × Value)}, KV more rs → KV kvs vs → KV (mergeK kvs more) (merged vs rs) := by
 intro more rs kvs vs r
 unfold KV at r
 induction r generalizing kvs vs with
 | nil => intro q; exact q
 | @cons p q ps qs h t ih =>
  intro r0
  have e : KV (putK kvs p.1 p.2) (stored vs q.1 q.2) := by
   have := r0.put p.1 h.2
   rw [← h.1]; exact this
  exact ih e
theorem length_mergeK : ∀ (more kvs : List (Key × V)), (mergeK kvs more).length ≤ kvs.length + more.length
 | [], kvs => by show kvs.length ≤ kvs.length + 0; omega
 | p :: r, kvs => by
  have h1 := length_mergeK r (putK kvs p.1 p.2)
  have h2 := length_putK kvs p.1 p.2
  show (mergeK (putK kvs p.1 p.2) r).length ≤ _
  rw [List.length_cons]; omega
theorem carries_of {P : Program} {w : World} : ∀ {kvs : List (Key × V)} {ws : List (Value × Value)}, VV (kvs.map fun kv => (kV kv.1, kv.2)) ws → ∃ rs, Carries (mixKind P w) ws rs ∧ KV kvs rs
 | [], _, r => by rw [List.map_nil] at r; cases r; exact ⟨[], True.intro, .nil⟩
 | p :: kvs, _, r => by
  rw [List.map_cons] at r
  cases r with
  | @cons a b as bs h t =>
   obtain ⟨rs, c, q⟩ := carries_of (P := P) (w := w) t
   obtain ⟨b1, b2⟩ := b
   exact ⟨(p.1, b2) :: rs, ⟨kV_is h.1, rfl, c⟩, .cons ⟨rfl, h.2⟩ q⟩
noncomputable def tDisp (trs : List (TE × TE)) : TE := fun σ H Q => ∀ p, H p = none → tPairs trs σ (upd H p (.dK [])) fun ps H2 => H2 p = some (.dK []) ∧ ∃ kvs : List (Key × V), ps = kvs.map (fun kv => (kV kv.1, kv.2)) ∧ kvs.length ≤ 15 ∧ Q (.ref p) (upd H2 p (.dK (mergeK [] kvs)))
theorem pe_disp {X : Cx} {pos : Pos} {keys : List (Option Expr)} {values : List Expr} {trs : List (TE × TE)} (h : PPs X pos keys values trs) (hall : keys.all (·.isSome) = true) (hl : keys.length = values.length) (h0 : keys ≠ [])
  (h15 : keys.length ≤ 15) : PE X (.Dict keys values pos) (tDisp trs) := by
 intro pins s σ H Q I q
 have hn := I.hok.fresh (Nat.le_refl s.heap.objs.size)
 have I1 := I.laid (a := s.heap.objs.size) (o := .dK []) (h' := s.heap.push { cls := .type "dict", data := .dict #[] }) (t' := s.toks) (fun _ _ q => Heap.get?_push_of_some _ q) (Nat.le_refl _) (dk_empty s.heap I.big)
 refine wpAny_Dict_walk (knd := mixKind X.prog X.w) hall hl h0 h15 (thn (h pins _ σ _ _ I1 (q _ hn)) fun ws s2 ⟨ps, H2, I2, rel, e, kvs, ep, lk, q2⟩ => ?_)
 subst ep
 obtain ⟨rs, c, rk⟩ := carries_of (P := X.prog) (w := X.w) rel
 obtain ⟨z, hd, vs0, r0, dd⟩ := dk_of I2.hok e
 cases r0
 refine ⟨rs, c, dd, fun h' dd' hs => ⟨.ref s.heap.objs.size, _, ?_, rfl, q2⟩⟩
 have hz : (mergeK [] kvs).length ≤ sizeLine := by
  have h1 := length_mergeK kvs []
  rw [List.length_nil] at h1
  rw [sizeLine_eq]; omega
 have he : ∃ q, h'.get? s.heap.objs.size = some q := let ⟨q, _, _, hq, _⟩ := dd'; ⟨q, hq⟩
 exact d_write I2 (by rw [e]; exact True.intro) hs he (dk_new hz hd (rk.merge .nil) dd')
structure M1 (X : Cx) (o : Expr) (m : Str) (apos : Pos) (e : Expr) (cpos : Pos) : Prop where
 base : attributeBase o m X.env (eval o X.env) = eval o X.env
 few : ((backTo cpos (starEach [e] X.env)).all (fun x => !x.1) && (backToKw cpos (keywordEach [] X.env)).all (fun x => x.1.isSome)
  && decide (([e] : List Expr).length + ([] : List Keyword).length + (if ([] : List Keyword).isEmpty then 0 else 1) < 30)) = true
 line : (apos.endLine == cpos.line) = true
 trees : backTo cpos (starEach [e] X.env) = [(false, eval e X.env)]
structure M2 (X : Cx) (o : Expr) (m : Str) (apos : Pos) (e f : Expr) (cpos : Pos) : Prop where
 base : attributeBase o m X.env (eval o X.env) = eval o X.env
 few : ((backTo cpos (starEach [e, f] X.env)).all (fun x => !x.1) && (backToKw cpos (keywordEach [] X.env)).all (fun x => x.1.isSome)
  && decide (([e, f] : List Expr).length + ([] : List Keyword).length + (if ([] : List Keyword).isEmpty then 0 else 1) < 30)) = true
 line : (apos.endLine == cpos.line) = true
 trees : backTo cpos (starEach [e, f] X.env) = [(false, eval e X.env), (false, eval f X.env)]
section
variable {X : Cx} {pins : List (Addr × Obj)} {σ : St} {H : Hp} {s : Shared} {a : Addr} {y d : V} {u r : Value} {o : Option V} {A : Around} {E : Value → Shared → Prop}
end
section
variable {X : Cx} {o e f : Expr} {apos cpos : Pos} {td ty tx : TE}
end
section
variable {X : Cx} {pins : List (Addr × Obj)} {σ : St} {H : Hp} {s : Shared} {a : Addr} {kvs : List (Key × V)} {A : Around} {E : Value → Shared → Prop}
end
section
variable {X : Cx} {pins : List (Addr × Obj)} {σ : St} {H : Hp} {s : Shared} {a : Addr} {y : V} {u : Value} {A : Around} {E : Value → Shared → Prop}
end
end L2
namespace Att
open PySem PySem.W PySem.Calls PyProof.Rows
end Att
namespace L2
open PySem PySem.Spec PyProof.Rows
end L2
namespace L2
open PySem PySem.Spec PyProof.Rows
end L2
namespace L2
open PySem PySem.Spec PyProof.Rows
section
variable {X : Cx}
end
section
variable {κ : Type} [DecidableEq κ]
end
end L2
end
section
set_option Elab.async false
set_option linter.all false
set_option maxRecDepth 100000
namespace L2
open PySem PySem.Spec PyProof.Rows
noncomputable def rGetK (x y : V) (H : Hp) (Q : VK) : Prop := ∃ a kvs k v, x = .ref a ∧ y = .str k ∧ H a = some (.dK kvs) ∧ valV kvs (Sum.inr k) = some v ∧ Q v H
noncomputable def rSetK (x y v : V) (H : Hp) (Q : Hp → Prop) : Prop := ∃ a kvs k, x = .ref a ∧ y = .str k ∧ H a = some (.dK kvs) ∧ kvs.length < sizeLine ∧ Q (upd H a (.dK (putK kvs (Sum.inr k) v)))
theorem dget_k {H : Hp} {a : Addr} {kvs : List (Key × V)} {k : Str} {v : V} (e : H a = some (.dK kvs)) (hv : valV kvs (Sum.inr k) = some v) : DGet H a (.str k) (some v) := by
 have := DGet.k (k := Sum.inr k) e
 rw [hv] at this
 exact this
section
variable {X : Cx}
theorem set_key (hu : X.A.units + 1 < cLine) : PSet X rSetK := by
 intro pins s σ H o i v ov iv u Q I ro ri rv h
 obtain ⟨a, kvs, k, rfl, rfl, e, l, q⟩ := h
 obtain rfl : ov = Value.ref a := ro
 exact d_setItem hu I (DPut.k (k := Sum.inr k) e l) ri rv fun s' I' => ⟨_, I', q⟩
theorem get_key (hu : X.A.units + 1 < cLine) : PGet X rGetK := by
 intro pins s σ H o i ov iv Q I ro ri h
 obtain ⟨a, kvs, k, v, rfl, rfl, e, hv, q⟩ := h
 obtain rfl : ov = Value.ref a := ro
 exact d_getItem hu I (dget_k e hv) ri fun w' s' I' rw' => ⟨v, H, I', rw', q⟩
theorem pe_kget {o i : Expr} {pos : Pos} {td ti : TE} (hu : X.A.units + 1 < cLine) (ho : PE X o td) (hi : PE X i ti) (hs : NoSl i) : PE X (.Subscript o i pos) (tOp rGetK td ti) := by
 intro pins s σ H Q I h
 refine subD_of PySem.F.slot_dict_getitem.lookup hs (thn (ho pins s σ H _ I h) fun u s1 ⟨x, H1, I1, rx, q1⟩ => thn (hi pins s1 σ H1 _ I1 q1) fun iv s2 ⟨y, H2, I2, ry, a, kvs, k, v, ex, ey, e, hv, q2⟩ => ?_)
 subst ex ey
 obtain rfl : u = Value.ref a := rx
 have g := dget_k e hv
 exact ⟨dict_typeIs I2 g, d_getItem hu I2 g ry fun w' s3 I3 rw' => ⟨v, H2, I3, rw', q2⟩⟩
theorem op_mulB : OpR X (binaryOp .Mult) (rI IntMulOk fun i j => .int (i * j)) := opI fun _ _ _ _ _ _ _ hc q => mul_int q hc
end
theorem a_rGetK {x y : V} {H : Hp} {Q : VK} : rGetK x y H Q = ∃ a kvs k v, x = .ref a ∧ y = .str k ∧ H a = some (.dK kvs) ∧ valV kvs (Sum.inr k) = some v ∧ Q v H := rfl
theorem a_rSetK {x y v : V} {H : Hp} {Q : Hp → Prop} : rSetK x y v H Q = ∃ a kvs k, x = .ref a ∧ y = .str k ∧ H a = some (.dK kvs) ∧ kvs.length < sizeLine ∧ Q (upd H a (.dK (putK kvs (Sum.inr k) v))) := rfl
theorem a_tAugS {to ti te : TE} {tget : V → V → Hp → VK → Prop} {tip : TIp} {tset : TSet} {D : Ends} {σ : St} {H : Hp} : tAugS to ti te tget tip tset D σ H = to σ H fun o H1 => ti σ H1 fun i H2 => tget o i H2 fun x H3 => te σ H3 fun y H4 => tip x y H4 fun z H5 => tset o i z H5 fun H6 => D.nx σ H6 := rfl
theorem a_ipI {f : Int → Int → Int} {x y : V} {H : Hp} {Q : VK} : ipI f x y H Q = ∃ i j, x = .int i ∧ y = .int j ∧ Q (.int (f i j)) H := rfl
theorem a_tDisp {trs : List (TE × TE)} {σ : St} {H : Hp} {Q : VK} : tDisp trs σ H Q = ∀ p, H p = none → tPairs trs σ (upd H p (.dK [])) fun ps H2 => H2 p = some (.dK []) ∧ ∃ kvs : List (Key × V), ps = kvs.map (fun kv => (kV kv.1, kv.2)) ∧ kvs.length ≤ 15 ∧ Q (.ref p) (upd H2 p (.dK (mergeK [] kvs))) := rfl
theorem a_prs0 {σ : St} {H : Hp} {Q : List (V × V) → Hp → Prop} : tPairs [] σ H Q = Q [] H := rfl
theorem a_prs {tk tv : TE} {r : List (TE × TE)} {σ : St} {H : Hp} {Q : List (V × V) → Hp → Prop} : tPairs ((tk, tv) :: r) σ H Q = tk σ H fun x H1 => tv σ H1 fun y H2 => tPairs r σ H2 fun ps H3 => Q ((x, y) :: ps) H3 := rfl
theorem a_tAug {i : Nat} {te : TE} {ti : TIp} {D : Ends} {σ : St} {H : Hp} : tAug i te ti D σ H = ∃ x, σ[i]? = some (some x) ∧ te σ H fun y H1 => ti x y H1 fun z H2 => D.nx (σ.set i (some z)) H2 := rfl
end L2
end
section
set_option Elab.async false
set_option linter.all false
set_option maxRecDepth 100000
namespace L2
open PySem PySem.Spec PyProof.Rows
noncomputable def CpAt (op : CmpOp) (A : Around) (s : Shared) (y x : Value) (b : Bool) : Prop := ∀ (prog : Program) (w : World) (E : Value → Shared → Prop) (Q : Value → Shared → Prop), Q (.bool b) s → wpAny (model prog w) A (richCompare op y x) Q E s
noncomputable def lexB (e c : Nat → Bool) (last : Bool) : List Nat → Bool
 | [] => last
 | i :: r => if e i = true then lexB e c last r else c i
theorem tuple_ltAt (l b : Addr) (items items2 : Array Value) (n n2 : Nat) (dd dd2 : Option Addr) (sl sl2 : Array (Option Value)) (e c : Nat → Bool) :
  Meets (Builtin.«tuple.__lt__» ⟨[.ref l, .ref b], []⟩) (fun A R s => s.heap.get? l = some { cls := .type "tuple", dict := dd, data := .seq items n, slots := sl } ∧ s.heap.get? b = some { cls := .type "tuple", dict := dd2, data := .seq items2 n2, slots := sl2 } ∧
    (∀ j (h1 : j < items.size) (h2 : j < items2.size), SeqAt.EqAt A.in1 s items[j] items2[j] (e j)) ∧ (∀ j (h1 : j < items.size) (h2 : j < items2.size), e j = false → CpAt .Lt A.in1 s items[j] items2[j] (c j)) ∧ R (.ok (.ret (.bool (lexB e c (decide (items.size < items2.size)) (List.range (min items.size items2.size)))))) s) :=
 .of_wp fun prog w A R s h => by
  obtain ⟨hp, g, d, tk, os⟩ := s; obtain ⟨hl, hb, he, hcp, h⟩ := h
  have f2 := AutoSeq1.sub_tuple_tuple
  have zl : (items.toList.zip items2.toList).length = min items.size items2.size := by simp
  wp_walk using wpAny_loadPart' hl, wpAny_loadPart' hb, wpAny_forIn_list _ (fun rest b s' => b.1 = none ∧ s' = ⟨hp, g, d, tk, os⟩ ∧ ∃ i, rest = (items.toList.zip items2.toList).drop i ∧ R (.ok (.ret (.bool (lexB e c (decide (items.size < items2.size)) ((List.range (min items.size items2.size)).drop i))))) ⟨hp, g, d, tk, os⟩) _
  case turn =>
   rintro ⟨y, x⟩ rest b s' ⟨hb', rfl, i, hz, hR⟩
   have lt : i < (items.toList.zip items2.toList).length := by
    rcases Nat.lt_or_ge i (items.toList.zip items2.toList).length with q | q
    ·exact q
    ·rw [List.drop_of_length_le q] at hz; cases hz
   have lm : i < min items.size items2.size := zl ▸ lt
   have l1 : i < items.size := by omega
   have l2 : i < items2.size := by omega
   rw [List.drop_eq_getElem_cons lt] at hz
   injection hz with z1 z2
   have hy : y = items[i] := by have := congrArg Prod.fst z1; simpa using this
   have hx : x = items2[i] := by have := congrArg Prod.snd z1; simpa using this
   subst hy hx
   have dr := range_drop lm
   refine wpAny_bind (he i l1 l2 prog w _ _ ?_)
   cases hc : e i with
   | true =>
    rw [dr, lexB, if_pos hc] at hR
    exact wpAny_pure ⟨rfl, rfl, i + 1, z2, hR⟩
   | false =>
    rw [dr, lexB, if_neg (by rw [hc]; exact Bool.false_ne_true)] at hR
    have hq := hcp i l1 l2 hc prog w
    wp_walk using hq _ _
    exact ⟨_, rfl, hR⟩
  case fin =>
   rintro ⟨b1, b2⟩ s' ⟨hb', rfl, i, hz, hR⟩
   cases (show b1 = none from hb')
   have ge : min items.size items2.size ≤ i := by
    rcases Nat.lt_or_ge i (items.toList.zip items2.toList).length with q | q
    ·rw [List.drop_eq_getElem_cons q] at hz; cases hz
    ·exact zl ▸ q
   rw [List.drop_of_length_le (by simpa using ge), lexB] at hR
   wp_walk
   exact ⟨_, rfl, hR⟩
  case h => exact ⟨rfl, rfl, 0, rfl, by rw [List.drop_zero]; exact h⟩
theorem cp_lt {A : Around} {s : Shared} {a b : Addr} {its its2 : List Value} (p1 : IsTup s.heap a its.toArray) (p2 : IsTup s.heap b its2.toArray) (hu : A.units < cLine) (e c : Nat → Bool)
  (he : ∀ j (h1 : j < its.length) (h2 : j < its2.length), SeqAt.EqAt A.in1 s its[j] its2[j] (e j)) (hc : ∀ j (h1 : j < its.length) (h2 : j < its2.length), e j = false → CpAt .Lt A.in1 s its[j] its2[j] (c j)) :
  CpAt .Lt A s (.ref a) (.ref b) (lexB e c (decide (its.length < its2.length)) (List.range (min its.length its2.length))) := by
 intro prog w E Q h
 obtain ⟨⟨c1, d1, da1, sl1⟩, o1, k1, n1, g1⟩ := id p1
 obtain ⟨⟨c2, d2, da2, sl2⟩, o2, k2, n2, g2⟩ := id p2
 simp only at k1 g1 k2 g2
 subst k1 g1 k2 g2
 refine richCompare_meets_room (op := .Lt) ⟨_, o1, rfl⟩ ⟨_, o2, rfl⟩ F.slot_tuple_lt F.entry_tuple_lt (F.args_tuple_lt_2 _ _) (tuple_ltAt a b its.toArray its2.toArray n1 n2 d1 d2 sl1 sl2 e c) ⟨o1, o2, fun j h1 h2 => by simpa using he j (by simpa using h1) (by simpa using h2), fun j h1 h2 z => by simpa using hc j (by simpa using h1) (by simpa using h2) z, ?_⟩ hu
 refine ⟨(fun z => nomatch z), ?_⟩
 simpa using h
theorem tuple_gtAt (l b : Addr) (items items2 : Array Value) (n n2 : Nat) (dd dd2 : Option Addr) (sl sl2 : Array (Option Value)) (e c : Nat → Bool) :
  Meets (Builtin.«tuple.__gt__» ⟨[.ref l, .ref b], []⟩) (fun A R s => s.heap.get? l = some { cls := .type "tuple", dict := dd, data := .seq items n, slots := sl } ∧ s.heap.get? b = some { cls := .type "tuple", dict := dd2, data := .seq items2 n2, slots := sl2 } ∧
    (∀ j (h1 : j < items.size) (h2 : j < items2.size), SeqAt.EqAt A.in1 s items[j] items2[j] (e j)) ∧ (∀ j (h1 : j < items.size) (h2 : j < items2.size), e j = false → CpAt .Gt A.in1 s items[j] items2[j] (c j)) ∧ R (.ok (.ret (.bool (lexB e c (decide (items.size > items2.size)) (List.range (min items.size items2.size)))))) s) :=
 .of_wp fun prog w A R s h => by
  obtain ⟨hp, g, d, tk, os⟩ := s; obtain ⟨hl, hb, he, hcp, h⟩ := h
  have f2 := AutoSeq1.sub_tuple_tuple
  have zl : (items.toList.zip items2.toList).length = min items.size items2.size := by simp
  wp_walk using wpAny_loadPart' hl, wpAny_loadPart' hb, wpAny_forIn_list _ (fun rest b s' => b.1 = none ∧ s' = ⟨hp, g, d, tk, os⟩ ∧ ∃ i, rest = (items.toList.zip items2.toList).drop i ∧ R (.ok (.ret (.bool (lexB e c (decide (items.size > items2.size)) ((List.range (min items.size items2.size)).drop i))))) ⟨hp, g, d, tk, os⟩) _
  case turn =>
   rintro ⟨y, x⟩ rest b s' ⟨hb', rfl, i, hz, hR⟩
   have lt : i < (items.toList.zip items2.toList).length := by
    rcases Nat.lt_or_ge i (items.toList.zip items2.toList).length with q | q
    ·exact q
    ·rw [List.drop_of_length_le q] at hz; cases hz
   have lm : i < min items.size items2.size := zl ▸ lt
   have l1 : i < items.size := by omega
   have l2 : i < items2.size := by omega
   rw [List.drop_eq_getElem_cons lt] at hz
   injection hz with z1 z2
   have hy : y = items[i] := by have := congrArg Prod.fst z1; simpa using this
   have hx : x = items2[i] := by have := congrArg Prod.snd z1; simpa using this
   subst hy hx
   have dr := range_drop lm
   refine wpAny_bind (he i l1 l2 prog w _ _ ?_)
   cases hc : e i with
   | true =>
    rw [dr, lexB, if_pos hc] at hR
    exact wpAny_pure ⟨rfl, rfl, i + 1, z2, hR⟩
   | false =>
    rw [dr, lexB, if_neg (by rw [hc]; exact Bool.false_ne_true)] at hR
    have hq := hcp i l1 l2 hc prog w
    wp_walk using hq _ _
    exact ⟨_, rfl, hR⟩
  case fin =>
   rintro ⟨b1, b2⟩ s' ⟨hb', rfl, i, hz, hR⟩
   cases (show b1 = none from hb')
   have ge : min items.size items2.size ≤ i := by
    rcases Nat.lt_or_ge i (items.toList.zip items2.toList).length with q | q
    ·rw [List.drop_eq_getElem_cons q] at hz; cases hz
    ·exact zl ▸ q
   rw [List.drop_of_length_le (by simpa using ge), lexB] at hR
   wp_walk
   exact ⟨_, rfl, hR⟩
  case h => exact ⟨rfl, rfl, 0, rfl, by rw [List.drop_zero]; exact h⟩
theorem cp_gt {A : Around} {s : Shared} {a b : Addr} {its its2 : List Value} (p1 : IsTup s.heap a its.toArray) (p2 : IsTup s.heap b its2.toArray) (hu : A.units < cLine) (e c : Nat → Bool)
  (he : ∀ j (h1 : j < its.length) (h2 : j < its2.length), SeqAt.EqAt A.in1 s its[j] its2[j] (e j)) (hc : ∀ j (h1 : j < its.length) (h2 : j < its2.length), e j = false → CpAt .Gt A.in1 s its[j] its2[j] (c j)) :
  CpAt .Gt A s (.ref a) (.ref b) (lexB e c (decide (its.length > its2.length)) (List.range (min its.length its2.length))) := by
 intro prog w E Q h
 obtain ⟨⟨c1, d1, da1, sl1⟩, o1, k1, n1, g1⟩ := id p1
 obtain ⟨⟨c2, d2, da2, sl2⟩, o2, k2, n2, g2⟩ := id p2
 simp only at k1 g1 k2 g2
 subst k1 g1 k2 g2
 refine richCompare_meets_room (op := .Gt) ⟨_, o1, rfl⟩ ⟨_, o2, rfl⟩ F.slot_tuple_gt F.entry_tuple_gt (F.args_tuple_gt_2 _ _) (tuple_gtAt a b its.toArray its2.toArray n1 n2 d1 d2 sl1 sl2 e c) ⟨o1, o2, fun j h1 h2 => by simpa using he j (by simpa using h1) (by simpa using h2), fun j h1 h2 z => by simpa using hc j (by simpa using h1) (by simpa using h2) z, ?_⟩ hu
 refine ⟨(fun z => nomatch z), ?_⟩
 simpa using h
inductive Ky where
 | i (n : Int)
 | t (a : Addr) (ns : List Int)
noncomputable def kyV : Ky → V
 | .i n => .int n
 | .t a _ => .ref a
noncomputable def kyOk (H : Hp) : Ky → Prop
 | .i _ => True
 | .t a ns => H a = some (.tup (ns.map V.int))
noncomputable def kyF : Ky → List Int
 | .i n => [n]
 | .t _ ns => ns
noncomputable def kyS : Ky → Option Nat
 | .i _ => none
 | .t _ ns => some ns.length
noncomputable def flatK (ks : List Ky) : List Int := (ks.map kyF).flatten
noncomputable def kEq (k l : Ky) : Bool := decide (kyF k = kyF l)
noncomputable def kLt (k l : Ky) : Bool := HT.lexLt (kyF k) (kyF l)
noncomputable def lexL : List Ky → List Ky → Bool
 | k :: ks, l :: ls => if kEq k l = true then lexL ks ls else kLt k l
 | _, _ => false
theorem lex_app : ∀ (a b x y : List Int), a.length = b.length → HT.lexLt (a ++ x) (b ++ y) = if a = b then HT.lexLt x y else HT.lexLt a b
 | [], [], x, y, _ => by simp
 | p :: a, q :: b, x, y, h => by
  have ih := lex_app a b x y (by simpa using h)
  rw [List.cons_append, List.cons_append, HT.lexLt_cons, HT.lexLt_cons, ih]
  by_cases e : p = q
  ·subst e
   simp
  ·simp [e]
 | [], _ :: _, _, _, h => by simp at h
 | _ :: _, [], _, _, h => by simp at h
theorem kyF_len {k l : Ky} (h : kyS k = kyS l) : (kyF k).length = (kyF l).length := by
 cases k <;> cases l <;> simp_all [kyS, kyF]
theorem lexL_flat : ∀ (ks ls : List Ky), ks.map kyS = ls.map kyS → lexL ks ls = HT.lexLt (flatK ks) (flatK ls)
 | [], [], _ => by simp [lexL, flatK, HT.lexLt_nil_nil]
 | k :: ks, l :: ls, h => by
  have h1 : kyS k = kyS l := by simpa using congrArg List.head? h
  have h2 : ks.map kyS = ls.map kyS := by simpa using congrArg List.tail h
  have ih := lexL_flat ks ls h2
  have e1 : flatK (k :: ks) = kyF k ++ flatK ks := by simp [flatK]
  have e2 : flatK (l :: ls) = kyF l ++ flatK ls := by simp [flatK]
  rw [e1, e2, lex_app _ _ _ _ (kyF_len h1), lexL, ih]
  by_cases z : kyF k = kyF l <;> simp [kEq, kLt, z]
 | [], _ :: _, h => by simp at h
 | _ :: _, [], h => by simp at h
theorem lexB_map (e c : Nat → Bool) (last : Bool) : ∀ l : List Nat, lexB e c last (l.map Nat.succ) = lexB (fun j => e (j + 1)) (fun j => c (j + 1)) last l
 | [] => rfl
 | i :: r => by rw [List.map_cons, lexB, lexB, lexB_map e c last r]
noncomputable def k0 : Ky := .i 0
theorem lexB_L : ∀ (ks ls : List Ky), ks.length = ls.length → lexB (fun j => kEq (ks.getD j k0) (ls.getD j k0)) (fun j => kLt (ks.getD j k0) (ls.getD j k0)) false (List.range ks.length) = lexL ks ls
 | [], [], _ => rfl
 | k :: ks, l :: ls, h => by
  have ih := lexB_L ks ls (by simpa using h)
  rw [List.length_cons, List.range_succ_eq_map, lexB, lexB_map, lexL]
  simp only [List.getD_cons_zero, List.getD_cons_succ]
  rw [ih]
 | [], _ :: _, h => by simp at h
 | _ :: _, [], h => by simp at h
section
variable {X : Cx}
theorem ky_at {ks : List Ky} {its : List Value} (r : Vals (ks.map kyV) its) {j : Nat} (h : j < its.length) : RelV (kyV (ks.getD j k0)) its[j] := by
 have hl := r.length
 rw [List.length_map] at hl
 obtain ⟨u, hu, ru⟩ := r.get (i := j) (x := kyV (ks[j]'(by omega))) (by simp [show j < ks.length by omega])
 rw [List.getElem?_eq_getElem h] at hu
 cases hu
 have : ks.getD j k0 = ks[j]'(by omega) := by simp [List.getD_eq_getElem?_getD, show j < ks.length by omega]
 rw [this]
 exact ru
theorem dec_lt (n m : Int) : (n == m) = decide ([n] = [m]) := by rw [Bool.eq_iff_iff]; simp
theorem dec_gt (n m : Int) : (n == m) = decide ([m] = [n]) := by rw [dec_lt, decide_eq_decide]; exact eq_comm
theorem one_lt (n m : Int) : decide (n < m) = HT.lexLt [n] [m] := by
 rw [HT.lexLt_cons, HT.lexLt_nil_nil]
 by_cases z : n = m
 ·rw [if_pos z]
  exact decide_eq_false (by omega)
 ·rw [if_neg z]
theorem one_gt (n m : Int) : decide (n > m) = HT.lexLt [m] [n] := one_lt m n
theorem ky_int (ns : List Int) (j : Nat) {a : Addr} {xs : List Int} : (ns.map Ky.i).getD j k0 ≠ .t a xs := by
 rw [List.getD_eq_getElem?_getD, List.getElem?_map]
 cases ns[j]? <;> simp [k0]
theorem int_lt {A : Around} {s : Shared} {n m : Int} {u v : Value} (ru : RelV (.int n) u) (rv : RelV (.int m) v) : CpAt .Lt A s u v (decide (n < m)) := by
 intro prog w E Q h
 obtain ⟨t, rfl⟩ := ru
 obtain ⟨t', rfl⟩ := rv
 exact CmpOf.ints_lt (P := fun i v => ∃ t, v = .int (if i = 0 then n else m) t) (fun i => if i = 0 then n else m) (fun i v h => h) 0 1 _ _ s Q E ⟨t, rfl⟩ ⟨t', rfl⟩ h
theorem ints_lt {pins : List (Addr × Obj)} {σ : St} {H : Hp} {s : Shared} {A : Around} {a b : Addr} {ns ms : List Int} (I : Inv X pins σ H s) (ha : H a = some (.tup (ns.map V.int))) (hb : H b = some (.tup (ms.map V.int))) (hl : ns.length = ms.length) (hu : A.units < cLine) : CpAt .Lt A s (.ref a) (.ref b) (HT.lexLt ns ms) := by
 obtain ⟨its, r1, p1, _⟩ := I.tuple (SqT.of ha)
 obtain ⟨its2, r2, p2, _⟩ := I.tuple (SqT.of hb)
 have r1' : Vals ((ns.map Ky.i).map kyV) its := by rw [List.map_map]; exact r1
 have r2' : Vals ((ms.map Ky.i).map kyV) its2 := by rw [List.map_map]; exact r2
 have l1 := r1.length
 have l2 := r2.length
 rw [List.length_map] at l1 l2
 have sh : (ns.map Ky.i).map kyS = (ms.map Ky.i).map kyS := by
  rw [List.map_map, List.map_map]
  show ns.map (fun _ => none) = ms.map fun _ => none
  rw [List.map_const', List.map_const', hl]
 have ok : ∀ (xs : List Int) k, k ∈ xs.map Ky.i → kyOk H k := fun xs k hk => by
  obtain ⟨x, _, rfl⟩ := List.mem_map.mp hk
  trivial
 have fl : ∀ xs : List Int, flatK (xs.map Ky.i) = xs := fun xs => by
  unfold flatK
  rw [List.map_map]
  show (xs.map fun x => [x]).flatten = xs
  induction xs with
  | nil => rfl
  | cons x xs ih => rw [List.map_cons, List.flatten_cons, ih]; rfl
 have key := cp_lt (A := A) p1 p2 hu (fun j => kEq ((ns.map Ky.i).getD j k0) ((ms.map Ky.i).getD j k0)) (fun j => kLt ((ns.map Ky.i).getD j k0) ((ms.map Ky.i).getD j k0)) (fun j h1 h2 => ?_) fun j h1 h2 _ => ?_
 ·rw [show min its.length its2.length = (ns.map Ky.i).length by rw [List.length_map]; omega, show decide (its.length < its2.length) = false from decide_eq_false (by omega), lexB_L _ _ (by simp [hl]), lexL_flat _ _ sh, fl, fl] at key
  exact key
 ·have := eqAt_V (A := A.in1) (s := s) (ky_at r1' h1) (ky_at r2' h2) (by cases e : (ns.map Ky.i).getD j k0 with | i n => rfl | t a xs => exact absurd e (ky_int ns j)) (by cases e : (ms.map Ky.i).getD j k0 with | i n => rfl | t a xs => exact absurd e (ky_int ms j))
  revert this
  cases e1 : (ns.map Ky.i).getD j k0 with
  | t a xs => exact absurd e1 (ky_int ns j)
  | i n =>
   cases e2 : (ms.map Ky.i).getD j k0 with
   | t a xs => exact absurd e2 (ky_int ms j)
   | i m =>
    intro this
    have e : eqV (kyV (.i n)) (kyV (.i m)) = kEq (.i n) (.i m) := by
     exact dec_lt n m
    rw [e] at this
    exact this
 ·have q1 := ky_at r1' h1
  have q2 := ky_at r2' h2
  revert q1 q2
  cases e1 : (ns.map Ky.i).getD j k0 with
  | t a xs => exact absurd e1 (ky_int ns j)
  | i n =>
   cases e2 : (ms.map Ky.i).getD j k0 with
   | t a xs => exact absurd e2 (ky_int ms j)
   | i m =>
    intro q1 q2
    have := int_lt (A := A.in1) (s := s) q1 q2
    have e : decide (n < m) = kLt (.i n) (.i m) := by
     exact one_lt n m
    rw [e] at this
    exact this
theorem int_gt {A : Around} {s : Shared} {n m : Int} {u v : Value} (ru : RelV (.int n) u) (rv : RelV (.int m) v) : CpAt .Gt A s u v (decide (n > m)) := by
 intro prog w E Q h
 obtain ⟨t, rfl⟩ := ru
 obtain ⟨t', rfl⟩ := rv
 exact CmpOf.ints_gt (P := fun i v => ∃ t, v = .int (if i = 0 then n else m) t) (fun i => if i = 0 then n else m) (fun i v h => h) 0 1 _ _ s Q E ⟨t, rfl⟩ ⟨t', rfl⟩ h
theorem ints_gt {pins : List (Addr × Obj)} {σ : St} {H : Hp} {s : Shared} {A : Around} {a b : Addr} {ns ms : List Int} (I : Inv X pins σ H s) (ha : H a = some (.tup (ns.map V.int))) (hb : H b = some (.tup (ms.map V.int))) (hl : ns.length = ms.length) (hu : A.units < cLine) : CpAt .Gt A s (.ref a) (.ref b) (HT.lexLt ms ns) := by
 obtain ⟨its, r1, p1, _⟩ := I.tuple (SqT.of ha)
 obtain ⟨its2, r2, p2, _⟩ := I.tuple (SqT.of hb)
 have r1' : Vals ((ns.map Ky.i).map kyV) its := by rw [List.map_map]; exact r1
 have r2' : Vals ((ms.map Ky.i).map kyV) its2 := by rw [List.map_map]; exact r2
 have l1 := r1.length
 have l2 := r2.length
 rw [List.length_map] at l1 l2
 have sh : (ns.map Ky.i).map kyS = (ms.map Ky.i).map kyS := by
  rw [List.map_map, List.map_map]
  show ns.map (fun _ => none) = ms.map fun _ => none
  rw [List.map_const', List.map_const', hl]
 have ok : ∀ (xs : List Int) k, k ∈ xs.map Ky.i → kyOk H k := fun xs k hk => by
  obtain ⟨x, _, rfl⟩ := List.mem_map.mp hk
  trivial
 have fl : ∀ xs : List Int, flatK (xs.map Ky.i) = xs := fun xs => by
  unfold flatK
  rw [List.map_map]
  show (xs.map fun x => [x]).flatten = xs
  induction xs with
  | nil => rfl
  | cons x xs ih => rw [List.map_cons, List.flatten_cons, ih]; rfl
 have key := cp_gt (A := A) p1 p2 hu (fun j => kEq ((ms.map Ky.i).getD j k0) ((ns.map Ky.i).getD j k0)) (fun j => kLt ((ms.map Ky.i).getD j k0) ((ns.map Ky.i).getD j k0)) (fun j h1 h2 => ?_) fun j h1 h2 _ => ?_
 ·rw [show min its.length its2.length = (ms.map Ky.i).length by rw [List.length_map]; omega, show decide (its.length > its2.length) = false from decide_eq_false (by omega), lexB_L _ _ (by simp [hl]), lexL_flat _ _ sh.symm, fl, fl] at key
  exact key
 ·have := eqAt_V (A := A.in1) (s := s) (ky_at r1' h1) (ky_at r2' h2) (by cases e : (ns.map Ky.i).getD j k0 with | i n => rfl | t a xs => exact absurd e (ky_int ns j)) (by cases e : (ms.map Ky.i).getD j k0 with | i n => rfl | t a xs => exact absurd e (ky_int ms j))
  revert this
  cases e1 : (ns.map Ky.i).getD j k0 with
  | t a xs => exact absurd e1 (ky_int ns j)
  | i n =>
   cases e2 : (ms.map Ky.i).getD j k0 with
   | t a xs => exact absurd e2 (ky_int ms j)
   | i m =>
    intro this
    have e : eqV (kyV (.i n)) (kyV (.i m)) = kEq (.i m) (.i n) := by
     exact dec_gt n m
    rw [e] at this
    exact this
 ·have q1 := ky_at r1' h1
  have q2 := ky_at r2' h2
  revert q1 q2
  cases e1 : (ns.map Ky.i).getD j k0 with
  | t a xs => exact absurd e1 (ky_int ns j)
  | i n =>
   cases e2 : (ms.map Ky.i).getD j k0 with
   | t a xs => exact absurd e2 (ky_int ms j)
   | i m =>
    intro q1 q2
    have := int_gt (A := A.in1) (s := s) q1 q2
    have e : decide (n > m) = kLt (.i m) (.i n) := by
     exact one_gt n m
    rw [e] at this
    exact this
end
section
variable {prog : Program} {w : World} {A : Around} {R : Result → Shared → Prop} {it : Addr} {fp wr : List Addr} {n : Nat} {Pv : Nat → Value → Prop} {St : Nat → Heap → Prop} {D : Shared → Prop}
end
section
variable {prog : Program} {w : World} {A : Around} {R : Result → Shared → Prop} {it : Addr} {fp wr : List Addr} {n : Nat} {Pv : Nat → Value → Prop} {St : Nat → Heap → Prop} {D : Shared → Prop}
end
section
variable {X : Cx}
end
end L2
end
section
set_option Elab.async false
set_option linter.all false
set_option maxRecDepth 100000
namespace L2
open PySem PySem.Spec PyProof.Rows
noncomputable def cxk (X : Cx) (N : List Str) (sc : Scope) (y : Str) (cl : List (Str × Addr)) (s : Shared) (H : Hp) (ex : List Addr) : Cx where
 prog := X.prog
 w := X.w
 K := X.K
 mg := X.mg
 base := X.base
 A := X.A
 N := N
 s₀ := s
 H₀ := H
 env := compEnvC sc ((y, s.heap.objs.size + 1) :: cl) s.heap.objs.size X.env
 outer := X.stack
 stack := X.stack
 ex := ex
 fn := fun x => x == y
 calm := X.calm
 pn := []
 xe := fun _ _ => False
structure CScope1 (X : Cx) (N : List Str) (fr : List (Option Nat)) (sc : Scope) (y : Str) : Prop where
 kind : sc.kind = .function
 cell : ∀ z ∈ sc.names, z.2 = NameKind.cell → z.1 = y
 loc : ∀ z ∈ sc.names, z.2 = .local → sc.names.lookup z.1 = some .local
 own : sc.names.lookup y = some .cell
 len : fr.length = N.length
 fr : ∀ (i j : Nat), fr[i]? = some (some j) → ∃ x, N[i]? = some x ∧ X.N[j]? = some x ∧ sc.names.lookup x = some .free ∧ (X.env.kindOf x = some .cell ∨ X.env.kindOf x = some .free)
 from1 : ∀ n cl, cellsFrom n sc.names cl = (y, n) :: cl
 push1 : ∀ h, pushCells h sc.names = h.push { cls := .type "cell", data := .cell none }
noncomputable def okLoc1 (y : Str) (names : List (Str × NameKind)) : Bool := names.all fun z => (z.2 != .cell || z.1 == y) && (z.2 != .local || names.lookup z.1 == some .local)
theorem CScope1.of {X : Cx} {N : List Str} {fr : List (Option Nat)} {sc : Scope} {y : Str} (h1 : sc.kind = .function) (h2 : okLoc1 y sc.names = true) (h3 : okFr X.N X.env.scope.names sc.names N fr = true) (h4 : sc.names.lookup y = some .cell)
  (h5 : ∀ n cl, cellsFrom n sc.names cl = (y, n) :: cl) (h6 : ∀ h, pushCells h sc.names = h.push { cls := .type "cell", data := .cell none }) : CScope1 X N fr sc y := by
 have h2' := List.all_eq_true.mp h2
 refine ⟨h1, fun z hz e => ?_, fun z hz e => ?_, h4, okFr_len h3, fun i j e => okFr_get h3 e, h5, h6⟩
 ·have q := h2' z hz
  rw [e] at q
  simp at q
  exact q
 ·have q := h2' z hz
  rw [e] at q
  simp at q
  exact q
theorem relabel_one {env : Env} {y : Str} : ∀ {names : List (Str × NameKind)} {x : Str}, (∀ z ∈ names, z.2 = NameKind.cell → z.1 = y) →
    ((names.map fun (n, k) => if (k == NameKind.free && env.scope.kind == .function && env.kindOf n == some .cell) then (n, NameKind.cell) else (n, k)).lookup x = some .cell ∨
     (names.map fun (n, k) => if (k == NameKind.free && env.scope.kind == .function && env.kindOf n == some .cell) then (n, NameKind.cell) else (n, k)).lookup x = some .free) → x = y ∨ (x, NameKind.free) ∈ names
  | [], x, _, h => by simp at h
  | (n, k) :: r, x, hc, h => by
    have ih := @relabel_one env y r x (fun z hz => hc z (List.mem_cons_of_mem _ hz))
    rw [List.map_cons] at h
    cases hx : x == n with
    | true =>
      have e : x = n := by simpa using hx
      subst e
      by_cases hk : k = NameKind.free
      · subst hk; exact .inr List.mem_cons_self
      · have hb : (k == NameKind.free) = false := by simpa using hk
        simp only [hb, Bool.false_and, Bool.false_eq_true, if_false, List.lookup_cons, beq_self_eq_true] at h
        rcases h with h | h
        · exact .inl (hc (x, k) List.mem_cons_self (Option.some.inj h))
        · exact absurd (Option.some.inj h) hk
    | false =>
      refine (ih ?_).imp id (List.mem_cons_of_mem _)
      by_cases hcnd : (k == NameKind.free && env.scope.kind == .function && env.kindOf n == some .cell) = true
      · simp only [hcnd, if_true, List.lookup_cons, hx] at h; exact h
      · simp only [hcnd, if_false, List.lookup_cons, hx, Bool.false_eq_true] at h; exact h
theorem look1 {y x : Str} {n c : Addr} {cl : List (Str × Addr)} (h : ((y, n) :: cl).lookup x = some c) : (x = y ∧ c = n) ∨ (x ≠ y ∧ cl.lookup x = some c) := by
 rw [List.lookup_cons] at h
 cases e : x == y with
 | true => rw [e] at h; cases h; exact .inl ⟨by simpa using e, rfl⟩
 | false => rw [e] at h; exact .inr ⟨by simpa using e, h⟩
theorem look1_of {y x : Str} {n c : Addr} {cl : List (Str × Addr)} (ne : x ≠ y) (h : cl.lookup x = some c) : ((y, n) :: cl).lookup x = some c := by
 rw [List.lookup_cons]
 have e : (x == y) = false := by simpa using ne
 rw [e]
 exact h
section
variable {X : Cx} {pins : List (Addr × Obj)} {σ : St} {H H' : Hp} {s : Shared}
theorem Inv.block1 {N : List Str} {fr : List (Option Nat)} {sc : Scope} {y : Str} {cl : List (Str × Addr)} {ex : List Addr} {h1 : Heap} {tk : Nat} (I : Inv X pins σ H s) (S : CScope1 X N fr sc y) (hcl : clos sc.names X.env.cells [] = some cl)
  (hex : ∀ b ∈ ex, FpOk X pins H b ∧ b < s.heap.objs.size) (hns : h1.Ns s.heap.objs.size (fun _ => none)) (hce : h1.IsCell (s.heap.objs.size + 1) none) (hk : ∀ b u, s.heap.get? b = some u → h1.get? b = some u) :
  Inv (cxk X N sc y cl s H ex) [] (frS fr σ) H { s with heap := h1, toks := tk } := by
 have hfree : H s.heap.objs.size = none := I.hok.fresh (Nat.le_refl _)
 have clt : ∀ x c, cl.lookup x = some c → c < s.heap.objs.size := fun x c e => by
  obtain ⟨v, q⟩ := I.cell x c (clos_lookup hcl e)
  exact q.lt
 refine ⟨⟨I.ok.mod, S.kind, I.ok.glob, I.ok.blt, Nat.le_refl _, fun x z c h1 h2 => ?_, fun x hx => ?_, fun x c z h1 => ?_, I.ok.hd, I.ok.frames, Or.inl rfl, fun b hb => ?_, I.bs, Nat.le_trans I.ok.bsz I.sz, fun b o e hb => ?_, fun b hb hf => ?_, I.stack, I.stkFree⟩,
  rfl, I.bare, Un.kept hk, ⟨_, hns, fun i x v h1 h2 h3 => ?_⟩, fun x c e => ?_, hfree, fun x c e => ?_, fun p hp => absurd (show p ∈ ([] : List (Addr × Obj)) from hp) (by simp), I.hok.kept hk, ?_⟩
 ·rcases look1 h1 with ⟨e1, c1⟩ | ⟨_, e1⟩ <;> rcases look1 h2 with ⟨e2, c2⟩ | ⟨_, e2⟩
  ·rw [e1, e2]
  ·exact absurd (clt z c e2) (by rw [c1]; exact Nat.not_lt.mpr (Nat.le_succ _))
  ·exact absurd (clt x c e1) (by rw [c2]; exact Nat.not_lt.mpr (Nat.le_succ _))
  ·exact I.ok.inj x z c (clos_lookup hcl e1) (clos_lookup hcl e2)
 ·have hx' : (relabel sc X.env).names.lookup x = some .cell ∨ (relabel sc X.env).names.lookup x = some .free := hx
  by_cases ne : x = y
  ·exact ⟨s.heap.objs.size + 1, by show ((y, s.heap.objs.size + 1) :: cl).lookup x = _; rw [ne, List.lookup_cons]; simp⟩
  ·rcases relabel_one S.cell hx' with e | e
   ·exact absurd e ne
   ·obtain ⟨c, hc⟩ := clos_has sc.names [] cl hcl x e
    obtain ⟨c', hc'⟩ := lookup_of_mem hc
    exact ⟨c', look1_of ne hc'⟩
 ·have e : x = y := by simpa using (show (x == y) = true from z)
  rcases look1 h1 with ⟨_, c1⟩ | ⟨ne, _⟩
  ·show s.heap.objs.size ≤ c
   rw [c1]
   exact Nat.le_succ _
  ·exact absurd e ne
 ·obtain ⟨⟨f0, f1, f2, f3, f4, f5⟩, lt⟩ := hex b hb
  refine ⟨Nat.ne_of_lt lt, fun x c e => ?_⟩
  rcases look1 e with ⟨_, c1⟩ | ⟨_, e1⟩
  ·rw [c1]
   exact fun z => absurd lt (by rw [← z]; exact Nat.not_lt.mpr (Nat.le_succ _))
  ·exact f4 x c (clos_lookup hcl e1)
 ·obtain ⟨⟨f0, f1, f2, f3, f4, f5⟩, lt⟩ := hex b hb
  rcases f3 with f3 | f3
  ·exact I.ok.noex b o e f3
  ·exact absurd (Nat.lt_of_lt_of_le (Heap.lt_size e) I.ok.bsz) (Nat.not_lt.mpr f3)
 ·obtain ⟨⟨f0, f1, f2, f3, f4, f5⟩, lt⟩ := hex b hb
  rcases List.mem_cons.mp (I.stkSub b hf) with e | e
  ·exact f1 e
  ·exact f2 e
 ·obtain ⟨j, hj, hv⟩ := frS_get h2
  obtain ⟨x', e1, e2, e3, e4⟩ := S.fr i j hj
  have hN : N[i]? = some x := h1
  rw [hN] at e1
  cases e1
  have ne : x ≠ y := fun z => by rw [z, S.own] at e3; cases e3
  obtain ⟨c, hc⟩ := clos_has sc.names [] cl hcl x (PySem.mem_of_lookup e3)
  obtain ⟨c', hc'⟩ := lookup_of_mem hc
  have hcX := clos_lookup hcl hc'
  obtain ⟨m, hn, hl⟩ := I.loc
  have kc : (relabel sc X.env).names.lookup x = some .cell ∨ (relabel sc X.env).names.lookup x = some .free := lookup_relabel_free e3
  have vis : Vis X.env.scope x ∧ (X.env.kindOf x ≠ some .local) := by
   rcases e4 with q | q
   ·exact ⟨.inr (.inl q), by rw [q]; decide⟩
   ·exact ⟨.inr (.inr q), by rw [q]; decide⟩
  obtain ⟨u, r, l⟩ := hl j x v e2 hv vis.1
  refine ⟨u, r, .inr ⟨kc, c', look1_of ne hc', ?_⟩⟩
  rcases l with ⟨q, _⟩ | ⟨_, d, hd, hcell⟩
  ·exact absurd q vis.2
  ·rw [hcX] at hd
   cases hd
   exact hcell.keeps hk
 ·rcases look1 e with ⟨_, c1⟩ | ⟨_, e1⟩
  ·exact ⟨none, by rw [c1]; exact hce⟩
  ·obtain ⟨v, q⟩ := I.cell x c (clos_lookup hcl e1)
   exact ⟨v, q.keeps hk⟩
 ·rcases look1 e with ⟨_, c1⟩ | ⟨_, e1⟩
  ·rw [c1]
   exact I.hok.fresh (Nat.le_succ _)
  ·exact I.freeC x c (clos_lookup hcl e1)
 ·show (frS fr σ).length = N.length
  unfold frS
  rw [List.length_map]; exact S.len
theorem Inv.unblock1 {N : List Str} {sc : Scope} {y : Str} {cl : List (Str × Addr)} {ex : List Addr} {pins' : List (Addr × Obj)} {σ' : St} {s' : Shared} {h' : Heap} (I : Inv X pins σ H s) (J : Inv (cxk X N sc y cl s H ex) pins' σ' H' s')
  (hex : ∀ b ∈ ex, FpOk X pins H b) (sb : Heap.SameBut s.heap.objs.size s'.heap h') : Inv X pins σ H' { s' with heap := h' } := by
 have free : H' s.heap.objs.size = none := J.free
 have eq : ∀ b, b ≠ s.heap.objs.size → h'.get? b = s'.heap.get? b := sb.2
 have ne : ∀ b o, s.heap.get? b = some o → b ≠ s.heap.objs.size := fun b o e => Nat.ne_of_lt (Heap.lt_size e)
 have B : Un (frs X.stack) ex H H' s.heap s'.heap := J.base
 refine I.call' (s' := { s' with heap := h' }) (ch := ex) J.os ⟨fun b o q n hb hx => (eq b (ne b o q)).trans (B.keep b o q n hb hx), fun b o q n hb hx => ?_, B.free, fun b o q hx => ?_, B.tups, B.frzs, B.tbls⟩ (fun a o e => ?_) J.bare (fun b hb => ?_)
 ·obtain ⟨sl, e⟩ := B.slot b o q n hb hx
  exact ⟨sl, (eq b (ne b o q)).trans e⟩
 ·obtain ⟨o', e⟩ := B.there b o q hx
  exact ⟨o', (eq b (ne b o q)).trans e⟩
 ·refine (J.hok a o e).stay (fun b u hb q => ?_) (fun _ q => q) fun _ _ q => q
  refine (eq b ?_).trans q
  rcases hb with rfl | hb
  ·exact ne_of_none e free
  ·exact ne_of_none hb free
 ·obtain ⟨f0, f1, f2, f3, f4, f5⟩ := hex b hb
  exact ⟨f3, f1, f4, f5⟩
end
theorem newEnv_cell {M : Model} {A : Around} {E : Value → Shared → Prop} {s : Shared} {scope : Scope} {globals : Addr} {cl : List (Str × Addr)} {y : Str} {qual : Str} {outer : Env} {Q : Env → Shared → Prop}
  (h5 : ∀ n cl, cellsFrom n scope.names cl = (y, n) :: cl) (h6 : ∀ h, pushCells h scope.names = h.push { cls := .type "cell", data := .cell none })
  (hQ : ∀ h', h'.Ns s.heap.objs.size (fun _ => none) → h'.IsCell (s.heap.objs.size + 1) none → (∀ b u, s.heap.get? b = some u → h'.get? b = some u) →
   Q { scope, locals := s.heap.objs.size, globals, cells := (y, s.heap.objs.size + 1) :: cl, qual, func := none, code := outer.code, frame := outer.frame, builtins := outer.builtins } { s with heap := h' }) :
  wpAny M A (newFunctionEnv scope globals cl [] qual none .none (some outer)) Q E s := by
 simp only [newFunctionEnv, Option.isSome_some, if_true]
 refine wpAny_bind (wpAny_alloc ?_)
 refine wpAny_bind (wpAny_layCells _ (fun name kind cells => by cases hkc : kind == NameKind.cell <;> simp [hkc]) _ _ _ _ ?_)
 rw [h5, h6]
 rw [show ({ s with heap := s.heap.push { cls := .type "dict", data := .dict #[] } } : Shared).heap.objs.size = s.heap.objs.size + 1 from Heap.size_push ..]
 refine wpAny_bind ?_
 rw [List.forIn_nil]
 refine wpAny_pure (wpAny_pure (hQ _ ?_ ?_ ?_))
 ·exact (Heap.Ns.new ..).keeps fun b o e => Heap.get?_push_of_some _ e
 ·refine ⟨{ cls := .type "cell", data := .cell none }, ?_, rfl⟩
  have : ((s.heap.push { cls := .type "dict", data := .dict #[] }).push { cls := .type "cell", data := .cell none }).get? (s.heap.push { cls := .type "dict", data := .dict #[] }).objs.size = some { cls := .type "cell", data := .cell none } := Heap.get?_push_size _ rfl
  rwa [Heap.size_push] at this
 ·exact fun b u e => Heap.get?_push_of_some _ (Heap.get?_push_of_some _ e)
section
variable {X : Cx}
end
end L2
end
section
set_option Elab.async false
set_option linter.all false
namespace L2
open PySem
section
variable {D : Ends} {σ : St} {H : Hp} {Q : VK} {QB : Bool → Hp → Prop} {QA : List V → Hp → Prop}
end
end L2
namespace L2
theorem us0 {P : List PySem.Value → Prop} (h : P []) : ∀ us : List PySem.Value, us.length = 0 → P us := fun us e => by
 cases us with
 | nil => exact h
 | cons _ _ => cases e
theorem us1 {P : List PySem.Value → Prop} (h : ∀ a, P [a]) : ∀ us : List PySem.Value, us.length = 1 → P us := fun us e => by
 cases us with
 | nil => cases e
 | cons a t => exact us0 (P := fun t => P (a :: t)) (h a) t (Nat.succ.inj e)
theorem us2 {P : List PySem.Value → Prop} (h : ∀ a b, P [a, b]) : ∀ us : List PySem.Value, us.length = 2 → P us := fun us e => by
 cases us with
 | nil => cases e
 | cons a t => exact us1 (P := fun t => P (a :: t)) (h a) t (Nat.succ.inj e)
theorem us3 {P : List PySem.Value → Prop} (h : ∀ a b c, P [a, b, c]) : ∀ us : List PySem.Value, us.length = 3 → P us := fun us e => by
 cases us with
 | nil => cases e
 | cons a t => exact us2 (P := fun t => P (a :: t)) (h a) t (Nat.succ.inj e)
end L2
end
section
set_option Elab.async false
set_option linter.all false
namespace L2
open PySem
theorem a_tNever {D : Ends} {σ : St} {H : Hp} : tNever D σ H = False := rfl
theorem qe_tup {X : Cx} {es : List Expr} {t : TA} {x1} {pos : Pos} (h : QA X es t) : QE X (.Tuple es x1 pos) (tTupA t) := ⟨pe_tupA h.get⟩
end L2
end
section
set_option Elab.async false
set_option linter.all false
set_option maxRecDepth 100000
namespace L2
open PySem PySem.Spec PyProof.Rows
section
variable {X : Cx}
theorem strI0 : CallR X (.type "str") (fun xs H Q => ∃ n : Int, xs = [.int n] ∧ n.natAbs < 10 ^ 15 ∧ Q (.str (Str.ofString (toString n))) H) := by
 intro pins s σ H xs us Q I r h
 obtain ⟨n, rfl, hn, q⟩ := h
 obtain ⟨u, rfl, t, rfl⟩ := vals1 r
 exact str_of_int_fit (N := 10 ^ 15) (by split <;> omega) (by decide) fun _ => ⟨.str _, H, I.tok _, ⟨_, rfl⟩, q⟩
end
end L2
namespace L2
open PySem PySem.Spec PyProof.Rows
section
variable {X : Cx}
end
end L2
namespace L2
open PySem PySem.Spec PyProof.Rows
section
variable {X : Cx}
end
end L2
end
section
set_option Elab.async false
set_option linter.all false
set_option maxRecDepth 100000
namespace L2
open PySem PySem.Spec
noncomputable def Asks (n : Nat) {α : Type} (P : α → Prop) : PySem.W.KasT α → Prop
 | .ret a => P a
 | .ask i j k => (i < n ∧ j < n) ∧ ∀ b, Asks n P (k b)
theorem Asks.mono {n : Nat} {α : Type} {P P' : α → Prop} (m : ∀ a, P a → P' a) : ∀ {t : PySem.W.KasT α}, Asks n P t → Asks n P' t
 | .ret a, h => m a h
 | .ask _ _ k, h => ⟨h.1, fun b => (h.2 b).mono m⟩
theorem Asks.next {n : Nat} {α β : Type} {f : α → PySem.W.KasT β} {P : β → Prop} : ∀ {t : PySem.W.KasT α}, Asks n (fun a => Asks n P (f a)) t → Asks n P (t.bind f)
 | .ret _, h => h
 | .ask _ _ _, h => ⟨h.1, fun b => (h.2 b).next⟩
theorem Asks.told {n : Nat} {α : Type} {cmp : Nat → Nat → (Bool → Shared → Prop) → Shared → Prop} {s : Shared} (hc : ∀ i j C, i < n → j < n → (∀ b, C b s) → cmp i j C s) {P : α → Prop} {Q : α → Shared → Prop} (hq : ∀ a, P a → Q a s) : ∀ {t : PySem.W.KasT α}, Asks n P t → t.kasWp cmp Q s
 | .ret a, h => hq a h
 | .ask i j k, h => hc i j _ h.1.1 h.1.2 fun b => (h.2 b).told hc hq
noncomputable def Pn (n : Nat) (p : Array Nat) : Prop := p.Perm (List.range n).toArray
section
variable {n : Nat} {p : Array Nat}
theorem Pn.size (h : Pn n p) : p.size = n := h.size_eq.trans (by simp)
theorem Pn.lt (h : Pn n p) {i : Nat} (hi : i < n) : p.getD i 0 < n := by
 have z : i < p.size := by have := h.size; omega
 have m := (Array.perm_iff_toList_perm.mp h).mem_iff.mp (show p[i] ∈ p.toList by simp)
 rw [show p.getD i 0 = p[i] by simp [Array.getD, z]]
 simpa using m
theorem Pn.rev (h : Pn n p) (i j : Nat) : Pn n (PySem.W.kas_rev p i j) := Array.Perm.trans (PyProof.Rows.mirror_perm _ _ _ _) h
theorem Pn.bub (h : Pn n p) (i d : Nat) : Pn n (PyProof.Rows.bubble p i d) := Array.Perm.trans (PyProof.Rows.bubble_perm _ _ _) h
theorem as_asc (h : Pn n p) : ∀ f a, a + f ≤ n → Asks n (fun m => m ≤ a + f) (PySem.W.kas_asc p f a)
 | 0, a, _ => Nat.le_refl a
 | f + 1, a, l => ⟨⟨h.lt (by omega), h.lt (by omega)⟩, fun b => by
  cases b with
  | true => exact Nat.le_add_right a (f + 1)
  | false => exact (as_asc h f (a + 1) (by omega)).mono fun m hm => by omega⟩
theorem as_desc : ∀ f (p : Array Nat) a q, Pn n p → a + f ≤ n → Asks n (fun r => Pn n r.1 ∧ r.2.1 ≤ a + f) (PySem.W.kas_desc f p a q)
 | 0, p, a, q, h, _ => ⟨h, Nat.le_refl a⟩
 | f + 1, p, a, q, h, l => by
  have in2 : p.getD a 0 < n ∧ p.getD (a - 1) 0 < n := ⟨h.lt (by omega), h.lt (by omega)⟩
  have go : ∀ p' q', Pn n p' → Asks n (fun r => Pn n r.1 ∧ r.2.1 ≤ a + (f + 1)) (PySem.W.kas_desc f p' (a + 1) q') := fun p' q' h' => (as_desc f p' (a + 1) q' h' (by omega)).mono fun r hr => ⟨hr.1, by omega⟩
  refine ⟨in2, fun b => ?_⟩
  cases b with
  | true =>
   by_cases z : q > 0
   ·simpa [z] using go _ 0 (h.rev _ _)
   ·simpa [z] using go _ 0 h
  | false =>
   refine ⟨in2.symm, fun c => ?_⟩
   cases c with
   | true => exact ⟨h, by show a ≤ a + (f + 1); omega⟩
   | false => exact go p (q + 1) h
theorem as_tail (h : Pn n p) {m : Nat} (l : m ≤ n) : Asks n (fun r => r.1 ≤ n ∧ Pn n r.2) (PySem.W.kas_tail3 m n p) :=
 Asks.next ((as_asc (h.rev 0 m) (n - m) m (by omega)).mono fun a ha => ⟨by show a ≤ n; omega, h.rev 0 m⟩)
theorem as_part (h : Pn n p) {m : Nat} (l : m + 1 ≤ n) : Asks n (fun r => r.1 ≤ n ∧ Pn n r.2) (PySem.W.kas_descPart m n p) := by
 refine Asks.next ((as_desc (n - (m + 1)) p (m + 1) 0 h (by omega)).mono fun r hr => ?_)
 obtain ⟨r1, r2, r3⟩ := r
 obtain ⟨h1, h2⟩ := hr
 simp only at h1 h2 ⊢
 split
 ·exact as_tail (h1.rev _ _) (by omega)
 ·exact as_tail h1 (by omega)
theorem as_count (h : Pn n p) (l : 1 ≤ n) : Asks n (fun r => r.1 ≤ n ∧ Pn n r.2) (PySem.W.kas_count n p) := by
 refine Asks.next ((as_asc h (n - 1) 1 (by omega)).mono fun m hm => ?_)
 have here : Asks n (fun r => r.1 ≤ n ∧ Pn n r.2) (PySem.W.KasT.ret (m, p)) := ⟨by show m ≤ n; omega, h⟩
 by_cases z : m = n
 ·simpa [z] using here
 ·have l' : m + 1 ≤ n := by omega
  have ne : (m == n) = false := by simpa using z
  simp only [ne, Bool.false_eq_true, if_false]
  split
  ·refine ⟨⟨h.lt (by omega), h.lt (by omega)⟩, fun b => ?_⟩
   cases b with
   | true => exact here
   | false => exact as_part (h.rev _ _) l'
  ·exact as_part h l'
theorem as_place (h : Pn n p) {k : Nat} (hk : k < n) : ∀ f l r, r ≤ k → Asks n (fun _ => True) (PySem.W.kas_place p k f l r)
 | 0, _, _, _ => trivial
 | f + 1, l, r, hr => by
  unfold PySem.W.kas_place
  by_cases z : l ≥ r
  ·rw [if_pos z]
   trivial
  ·rw [if_neg z]
   refine ⟨⟨h.lt hk, h.lt (by omega)⟩, fun b => ?_⟩
   cases b with
   | true => exact as_place h hk f l _ (by omega)
   | false => exact as_place h hk f _ r hr
theorem as_bin : ∀ f (p : Array Nat) k, Pn n p → k + f ≤ n → Asks n (Pn n) (PySem.W.kas_bin f p k)
 | 0, _, _, h, _ => h
 | f + 1, p, k, h, l => Asks.next ((as_place h (show k < n by omega) k 0 k (Nat.le_refl k)).mono fun a _ => as_bin f _ (k + 1) (h.bub _ _) (by omega))
theorem as_sort (l : 1 ≤ n) : Asks n (Pn n) (PySem.W.kas_sort n) := by
 refine Asks.next ((as_count (Array.Perm.refl _) l).mono fun r hr => ?_)
 by_cases z : r.1 < n
 ·rw [if_pos z]
  exact as_bin _ _ _ hr.2 (by omega)
 ·rw [if_neg z]
  exact hr.2
end
end L2
end
section
set_option Elab.async false
set_option linter.all false
set_option maxRecDepth 100000
namespace L2
open PySem PySem.Spec
open PyProof.Rows hiding Fr News
section
variable {prog : Program} {w : World} {s : Shared}
noncomputable def TupI (h : Heap) (v : Value) : Prop := ∃ (t : Addr) (its : List Value) (n : Int) (ns : List Int), v = .ref t ∧ IsTup h t its.toArray ∧ IntsAre its (n :: ns)
theorem TupI.keep {h h' : Heap} {v : Value} (T : TupI h v) (k : ∀ b o, v = .ref b → h.get? b = some o → h'.get? b = some o) : TupI h' v := by
 obtain ⟨t, its, n, ns, rfl, ⟨o, ho, rest⟩, I⟩ := T
 exact ⟨t, its, n, ns, rfl, ⟨o, k t o rfl ho, rest⟩, I⟩
theorem firsts_tup {h : Heap} : ∀ {vs : List Value}, (∀ v ∈ vs, TupI h v) → ∃ fs, PySem.W.KatTups h vs fs ∧ fs.length = vs.length ∧ ∀ f ∈ fs, ∃ n t, f = Value.int n t
 | [], _ => ⟨[], trivial, rfl, nofun⟩
 | v :: vs, T => by
  obtain ⟨fs, f1, f2, f3⟩ := firsts_tup fun x hx => T x (.tail v hx)
  obtain ⟨t, its, n, ns, rfl, ⟨o, ho, hc, k, hd⟩, I⟩ := T v (.head vs)
  cases I with
  | cons _ u _ => exact ⟨.int n u :: fs, ⟨⟨t, o, _, k, rfl, ho, hc, hd, rfl⟩, f1⟩, by simp [f2], fun f hf => (List.mem_cons.mp hf).elim (fun e => ⟨n, u, e⟩) (f3 f)⟩
end
theorem perm_getD {α : Type} (l : List α) (d : α) {p : Array Nat} (h : Pn l.length p) : (p.toList.map fun i => l.getD i d).Perm l := by
 have m := (Array.perm_iff_toList_perm.mp h).map fun i => l.getD i d
 have e : (List.range l.length).map (fun i => l.getD i d) = l := List.ext_getElem (by simp) fun i h1 h2 => by simp [List.getD_eq_getElem?_getD, h2]
 rwa [show (List.range l.length).toArray.toList = List.range l.length from rfl, e] at m
section
variable {X : Cx}
end
end L2
end
section
set_option Elab.async false
set_option linter.all false
set_option maxRecDepth 100000
namespace L2
open PySem PySem.Spec PyProof.Rows
section
variable {X : Cx}
theorem lc_entry1U {N : List Str} {fr : List (Option Nat)} {e tg iter : Expr} {ifs : List Expr} {gs : List Comprehension} {sc : Scope} {y : Str} {ip pos' : Pos} {cl : List (Str × Addr)} {wi : TI} {D : It → Addr → St → Hp → Prop} {pins : List (Addr × Obj)} {σ : St} {H : Hp} {s : Shared} {Q : VK} {i : Nat} {x : Str}
  (hN : X.N.Nodup) (hix : X.N[i]? = some x) (hx : Loc X.env.scope x) (hf : X.fn x = true ∨ X.env.scope.names.lookup x = some .local)
  (he : clausesOf e = ⟨tg, iter, ifs, 0⟩ :: gs) (hi : PI X tg iter wi) (S : CScope1 X N fr sc y) (hcl : clos sc.names X.env.cells [] = some cl) (I : Inv X pins σ H s)
  (h : wi σ H fun J H1 => ∀ p, H1 p = none → D J p (frS fr σ) (upd H1 p (.lst [])))
  (loop : ∀ (it p : Addr) (fp : List Addr) (tn : Nat → Heap → Prop) (J : It) (s1 s2 : Shared) (H1 : Hp) (σ1 : St), Turn X.prog X.w X.K tg J fp it tn → Inv (cxk X N sc y cl s1 H1 fp) [] σ1 H1 s2 → tn 0 s2.heap → (∀ b ∈ fp, FpOk (cxk X N sc y cl s1 H1 fp) [] H1 b) → D J p σ1 H1 →
   codeAny (model X.prog X.w) X.A (.compStart e 0 (.ref it) (.ref p) (compEnvC sc ((y, s1.heap.objs.size + 1) :: cl) s1.heap.objs.size X.env)) (fun r s' => r = .ok .next ∧ ∃ σ' H', Inv (cxk X N sc y cl s1 H1 fp) [] σ' H' s' ∧ Q (.ref p) H') s2)
  (hs : ∀ x, foldedSetIterable iter X.env x = pure x) :
  wpAny (model X.prog X.w) X.A (comprehension e sc X.env ip (newList []) false (eval iter X.env) (some (assign (.Name x pos') X.env))) (fun _ s' => ∃ v H', Inv X pins (σ.set i (some v)) H' s' ∧ Q v H') X.xe s := by
 refine wpAny_comprehension_free (use := some (assign (.Name x pos') X.env)) he hs (closureFor_clos hcl) S.kind S.loc ?_
 refine thn (hi pins s σ H _ I h) fun v s1 h1 => thn h1 fun itv s2 ⟨it, fp, tn, J, H2, e2, I2, T, st2, f2, q⟩ => ?_
 subst e2
 refine wpAny_newObj_type ?_
 have hp : H2 s2.heap.objs.size = none := I2.hok.fresh (Nat.le_refl _)
 have I3 : Inv X pins σ (upd H2 s2.heap.objs.size (.lst [])) { s2 with heap := s2.heap.push { cls := .type "list", data := .seq ([] : List Value).toArray }, toks := s2.toks } := I2.lnew (its := []) (ys := []) .nil (Nat.zero_le _)
 have lt2 : ∀ b ∈ fp, b < s2.heap.objs.size := fun b hb => let ⟨o, e, _⟩ := T.obj 0 _ st2 b hb; Heap.lt_size e
 have f3 : ∀ b ∈ fp, FpOk X pins (upd H2 s2.heap.objs.size (.lst [])) b := fun b hb => ⟨by rw [upd_ne (Nat.ne_of_lt (lt2 b hb))]; exact (f2 b hb).1, (f2 b hb).2⟩
 have st3 : tn 0 (s2.heap.push { cls := .type "list", data := .seq ([] : List Value).toArray }) := T.keep _ _ _ st2 fun b _ o e => Heap.get?_push_of_some _ e
 refine newEnv_cell S.from1 S.push1 fun h₁ hns hce hk => ?_
 generalize hs3 : ({ s2 with heap := s2.heap.push { cls := .type "list", data := .seq ([] : List Value).toArray } } : Shared) = s3 at hns hce hk ⊢
 have I3' : Inv X pins σ (upd H2 s2.heap.objs.size (.lst [])) s3 := by rw [← hs3]; exact I3
 have st3' : tn 0 s3.heap := by rw [← hs3]; exact st3
 have lt3 : ∀ b ∈ fp, b < s3.heap.objs.size := fun b hb => let ⟨o, e, _⟩ := T.obj 0 _ st3' b hb; Heap.lt_size e
 have B := I3'.block1 (N := N) (fr := fr) (sc := sc) (y := y) (cl := cl) (ex := fp) (h1 := h₁) (tk := s3.toks) S hcl (fun b hb => ⟨f3 b hb, lt3 b hb⟩) hns hce hk
 have stB : tn 0 h₁ := T.keep _ _ _ st3' fun b _ o e => hk b o e
 have fC : FpOk X pins (upd H2 s2.heap.objs.size (.lst [])) s3.heap.objs.size := I3'.fpOk (Nat.le_refl _) (I3'.hok.fresh (Nat.le_refl _))
 refine codeAny_mono (loop it s2.heap.objs.size fp tn J s3 _ (upd H2 s2.heap.objs.size (.lst [])) (frS fr σ) T B stB (fun b hb => ?_) (q _ hp)) fun r s' hr => ?_
 ·obtain ⟨f0, f1, f2', f3', f4, f5⟩ := f3 b hb
  refine ⟨f0, Nat.ne_of_lt (lt3 b hb), fun z => ?_, .inl hb, fun x c e => ?_, fun p hp' => absurd (show p ∈ ([] : List (Addr × Obj)) from hp') (by simp)⟩
  ·rcases List.mem_cons.mp (I3'.stkSub b z) with e | e
   ·exact f1 e
   ·exact f2' e
  ·rcases look1 e with ⟨_, c1⟩ | ⟨_, e1⟩
   ·rw [c1]
    exact fun z => absurd (lt3 b hb) (by rw [← z]; exact Nat.not_lt.mpr (Nat.le_succ _))
   ·exact f4 x c (clos_lookup hcl e1)
 ·obtain ⟨rfl, σ', H', J', q'⟩ := hr
  have I5 : Inv X pins σ H' s' := I3'.unblock1 (h' := s'.heap) J' f3 ⟨rfl, fun _ _ => rfl⟩
  show wpAny _ X.A (assign (.Name x pos') X.env (.ref s2.heap.objs.size)) _ X.xe s'
  refine wpAny_assign_Name (store_ok2 (v := .ref s2.heap.objs.size) I5 hN hix hx rfl (fun s4 I6 ⟨a, sb, ha⟩ => ?_) hf)
  obtain ⟨m, hn, _⟩ := J'.loc
  have free : H' s3.heap.objs.size = none := J'.free
  obtain ⟨g0, g1, g2, g3, g4, g5⟩ := fC
  have aC : s3.heap.objs.size ≠ a := by
   rcases ha with rfl | ha
   ·exact g1
   ·exact fun z => g4 x a ha z.symm
  refine ⟨m, hn.sameBut sb aC, fun h' sb' => ⟨.ref s2.heap.objs.size, H', ?_, q'⟩⟩
  refine I6.turnedN (fp := [s3.heap.objs.size]) (fun b hb => ?_) fun c o hc e => sb'.extBut _ _ (fun z => hc (List.mem_singleton.mpr z)) e
  have eb : b = s3.heap.objs.size := by simpa using hb
  subst eb
  exact ⟨free, g1, g2, g3, g4, g5⟩
theorem ps_setLCK {N : List Str} {fr : List (Option Nat)} {tg iter elt : Expr} {ifs : List Expr} {sc : Scope} {pos pos' cpos : Pos} (y : Str) {cl : List (Str × Addr)} {wi : TI} {g : TG} {tc : TT} {te : TE} {i : Nat} {x : Str} (hN : X.N.Nodup) (hix : X.N[i]? = some x) (hx : Loc X.env.scope x)
  (hc : X.calm = true) (hi : PI X tg iter wi) (S : CScope1 X N fr sc y) (hcl : clos sc.names X.env.cells [] = some cl)
  (hb : ∀ s H ex, PG (cxk X N sc y cl s H ex) tg g ∧ PIfs (cxk X N sc y cl s H ex) ifs tc ∧ PE (cxk X N sc y cl s H ex) elt te) (swp : swapsWith (.ListComp elt [⟨tg, iter, ifs, 0⟩] sc cpos) (some (.Name x pos')) pos.line X.env = pure true := by rfl)
  (hs : ∀ x, foldedSetIterable iter X.env x = pure x := by intro _; rfl) (hf : X.fn x = true ∨ X.env.scope.names.lookup x = some .local := by first | exact .inl rfl | exact .inr rfl | assumption) :
  PS X (.Assign [.Name x pos'] (.ListComp elt [⟨tg, iter, ifs, 0⟩] sc cpos) pos) (tAsg (tLC fr wi g tc te) (gName i)) := by
 intro pins s σ H D I h
 rw [exec_Assign_Name_used _ _ _ _ swp]
 refine wpAny_bind (wpAny_standAt ?_)
 refine wpAny_bind ?_
 show wpAny _ X.A (do let _ ← comprehension (.ListComp elt [⟨tg, iter, ifs, 0⟩] sc cpos) sc X.env _ (newList []) false (eval iter X.env) (some (assign (.Name x pos') X.env))) _ _ s
 refine wpAny_bind (thn (lc_entry1U (Q := fun v H2 => D.nx (σ.set i (some v)) H2) (D := fun J p σ1 H1 => tCL J g tc (tEmit p te) (fun _ H2 => D.nx (σ.set i (some (.ref p))) H2) σ1 H1) hN hix hx hf rfl hi S hcl I h (fun it p fp tn J s1 s2 H1 σ1 T B st f d => ?_) hs) fun _ s' ⟨v, H', I', q'⟩ => wpAny_pure (wpAny_pure ⟨_, H', I', q'⟩))
 obtain ⟨hg, hifs, helt⟩ := hb s1 H1 fp
 have L := comp_loop (X := cxk X N sc y cl s1 H1 fp) (e := .ListComp elt [⟨tg, iter, ifs, 0⟩] sc cpos) (d := 0) (acc := .ref p) (D := fun _ H2 => D.nx (σ.set i (some (.ref p))) H2) (s := s2) hc rfl (compTurn_list elt tg iter ifs sc cpos (.ref it) (.ref p) _) rfl rfl rfl T hg hifs (pb_emit helt) B st f d
 exact codeAny_compStart_list L (T.self X.A 0 s2 _ _ st L)
end
end L2
end
section
set_option Elab.async false
set_option linter.all false
set_option maxRecDepth 100000
namespace L2
open PySem PySem.Spec PyProof.Rows
section
variable {D : Ends} {σ : St} {H : Hp} {Q : VK} {QB : Bool → Hp → Prop} {QA : List V → Hp → Prop} {QG : St → Hp → Prop}
theorem e_var {i : Nat} {v : V} (h : σ[i]? = some (some v)) : tVar i σ H Q = Q v H := propext ⟨fun ⟨_, e, q⟩ => by cases h.symm.trans e; exact q, fun q => ⟨v, h, q⟩⟩
theorem e_var0 {v : V} : tVar 0 (some v :: σ) H Q = Q v H := e_var rfl
theorem e_var1 {v : V} {b0 : Option V} : tVar 1 (b0 :: some v :: σ) H Q = Q v H := e_var rfl
theorem e_var2 {v : V} {b0 b1 : Option V} : tVar 2 (b0 :: b1 :: some v :: σ) H Q = Q v H := e_var rfl
theorem e_var3 {v : V} {b0 b1 b2 : Option V} : tVar 3 (b0 :: b1 :: b2 :: some v :: σ) H Q = Q v H := e_var rfl
theorem e_var4 {v : V} {b0 b1 b2 b3 : Option V} : tVar 4 (b0 :: b1 :: b2 :: b3 :: some v :: σ) H Q = Q v H := e_var rfl
theorem e_var5 {v : V} {b0 b1 b2 b3 b4 : Option V} : tVar 5 (b0 :: b1 :: b2 :: b3 :: b4 :: some v :: σ) H Q = Q v H := e_var rfl
theorem e_var6 {v : V} {b0 b1 b2 b3 b4 b5 : Option V} : tVar 6 (b0 :: b1 :: b2 :: b3 :: b4 :: b5 :: some v :: σ) H Q = Q v H := e_var rfl
theorem e_var7 {v : V} {b0 b1 b2 b3 b4 b5 b6 : Option V} : tVar 7 (b0 :: b1 :: b2 :: b3 :: b4 :: b5 :: b6 :: some v :: σ) H Q = Q v H := e_var rfl
theorem e_var8 {v : V} {b0 b1 b2 b3 b4 b5 b6 b7 : Option V} : tVar 8 (b0 :: b1 :: b2 :: b3 :: b4 :: b5 :: b6 :: b7 :: some v :: σ) H Q = Q v H := e_var rfl
theorem e_var9 {v : V} {b0 b1 b2 b3 b4 b5 b6 b7 b8 : Option V} : tVar 9 (b0 :: b1 :: b2 :: b3 :: b4 :: b5 :: b6 :: b7 :: b8 :: some v :: σ) H Q = Q v H := e_var rfl
theorem e_nam0 {v : V} {b0 : Option V} : gName 0 v (b0 :: σ) H QG = QG (some v :: σ) H := rfl
theorem e_nam1 {v : V} {b0 b1 : Option V} : gName 1 v (b0 :: b1 :: σ) H QG = QG (b0 :: some v :: σ) H := rfl
theorem e_nam2 {v : V} {b0 b1 b2 : Option V} : gName 2 v (b0 :: b1 :: b2 :: σ) H QG = QG (b0 :: b1 :: some v :: σ) H := rfl
theorem e_nam3 {v : V} {b0 b1 b2 b3 : Option V} : gName 3 v (b0 :: b1 :: b2 :: b3 :: σ) H QG = QG (b0 :: b1 :: b2 :: some v :: σ) H := rfl
theorem e_nam4 {v : V} {b0 b1 b2 b3 b4 : Option V} : gName 4 v (b0 :: b1 :: b2 :: b3 :: b4 :: σ) H QG = QG (b0 :: b1 :: b2 :: b3 :: some v :: σ) H := rfl
theorem e_nam5 {v : V} {b0 b1 b2 b3 b4 b5 : Option V} : gName 5 v (b0 :: b1 :: b2 :: b3 :: b4 :: b5 :: σ) H QG = QG (b0 :: b1 :: b2 :: b3 :: b4 :: some v :: σ) H := rfl
theorem e_nam6 {v : V} {b0 b1 b2 b3 b4 b5 b6 : Option V} : gName 6 v (b0 :: b1 :: b2 :: b3 :: b4 :: b5 :: b6 :: σ) H QG = QG (b0 :: b1 :: b2 :: b3 :: b4 :: b5 :: some v :: σ) H := rfl
theorem e_nam7 {v : V} {b0 b1 b2 b3 b4 b5 b6 b7 : Option V} : gName 7 v (b0 :: b1 :: b2 :: b3 :: b4 :: b5 :: b6 :: b7 :: σ) H QG = QG (b0 :: b1 :: b2 :: b3 :: b4 :: b5 :: b6 :: some v :: σ) H := rfl
theorem e_nam8 {v : V} {b0 b1 b2 b3 b4 b5 b6 b7 b8 : Option V} : gName 8 v (b0 :: b1 :: b2 :: b3 :: b4 :: b5 :: b6 :: b7 :: b8 :: σ) H QG = QG (b0 :: b1 :: b2 :: b3 :: b4 :: b5 :: b6 :: b7 :: some v :: σ) H := rfl
theorem e_nam9 {v : V} {b0 b1 b2 b3 b4 b5 b6 b7 b8 b9 : Option V} : gName 9 v (b0 :: b1 :: b2 :: b3 :: b4 :: b5 :: b6 :: b7 :: b8 :: b9 :: σ) H QG = QG (b0 :: b1 :: b2 :: b3 :: b4 :: b5 :: b6 :: b7 :: b8 :: some v :: σ) H := rfl
theorem e_par {i j : Nat} {ta : TA} : tPar i j ta D σ H = ta σ H fun vs H1 => ∃ v w, vs = [v, w] ∧ gName i v σ H1 fun σ1 H2 => gName j w σ1 H2 D.nx := rfl
theorem e_ex2 {x y : V} {P : V → V → Prop} : (∃ v w, [x, y] = [v, w] ∧ P v w) = P x y := propext ⟨fun ⟨_, _, e, q⟩ => by cases e; exact q, fun q => ⟨_, _, rfl, q⟩⟩
theorem e_gN : gNil [] σ H QG = QG σ H := propext ⟨fun h => h.2, fun h => ⟨rfl, h⟩⟩
theorem e_gC {t : TG} {u : TGs} {v : V} {r : List V} : gCons t u (v :: r) σ H QG = t v σ H fun σ' H' => u r σ' H' QG := propext ⟨fun ⟨_, _, e, q⟩ => by cases e; exact q, fun q => ⟨_, _, rfl, q⟩⟩
theorem e_rI0 {g : Int → Int → V} {i j : Int} : rI0 g (.int i) (.int j) H Q = Q (g i j) H := propext ⟨fun ⟨_, _, e, e', q⟩ => by cases e; cases e'; exact q, fun q => ⟨_, _, rfl, rfl, q⟩⟩
theorem e_rI {C : Int → Int → Prop} {g : Int → Int → V} {i j : Int} : rI C g (.int i) (.int j) H Q = (C i j ∧ Q (g i j) H) := propext ⟨fun ⟨_, _, e, e', q⟩ => by cases e; cases e'; exact q, fun q => ⟨_, _, rfl, rfl, q⟩⟩
theorem e_rU {g : Int → V} {i : Int} : rU g (.int i) H Q = Q (g i) H := propext ⟨fun ⟨_, e, q⟩ => by cases e; exact q, fun q => ⟨_, rfl, q⟩⟩
theorem e_xB {b : Bool} {P : Bool → Prop} : (∃ k, V.bl b = V.bl k ∧ P k) = P b := propext ⟨fun ⟨_, e, q⟩ => by cases e; exact q, fun q => ⟨_, rfl, q⟩⟩
theorem e_xI {b : Int} {P : Int → Prop} : (∃ k, V.int b = V.int k ∧ P k) = P b := propext ⟨fun ⟨_, e, q⟩ => by cases e; exact q, fun q => ⟨_, rfl, q⟩⟩
theorem e_xJ {b : Int} {P : Int → Prop} : (∃ k, [V.int b] = [V.int k] ∧ P k) = P b := propext ⟨fun ⟨_, e, q⟩ => by cases e; exact q, fun q => ⟨_, rfl, q⟩⟩
theorem e_xJ2 {a b : Int} {P : Int → Int → Prop} : (∃ j k, [V.int a, V.int b] = [V.int j, V.int k] ∧ P j k) = P a b := propext ⟨fun ⟨_, _, e, q⟩ => by cases e; exact q, fun q => ⟨_, _, rfl, q⟩⟩
theorem e_rEq {a b : Int} : rEq (.int a) (.int b) H Q = Q (.bl (decide (a = b))) H := by
 show (scal (.int a) (.int b) = true ∧ _) = _
 rw [show (decide (V.int a = V.int b)) = decide (a = b) from decide_eq_decide.mpr ⟨fun e => V.int.inj e, fun e => by rw [e]⟩]
 exact propext ⟨fun h => h.2, fun h => ⟨rfl, h⟩⟩
theorem e_rNe {a b : Int} : rNe (.int a) (.int b) H Q = Q (.bl (!decide (a = b))) H := by
 show (scal (.int a) (.int b) = true ∧ _) = _
 rw [show (decide (V.int a = V.int b)) = decide (a = b) from decide_eq_decide.mpr ⟨fun e => V.int.inj e, fun e => by rw [e]⟩]
 exact propext ⟨fun h => h.2, fun h => ⟨rfl, h⟩⟩
theorem e_itT {a b : Prop} : (if true = true then a else b) = a := rfl
theorem e_itF {a b : Prop} : (if false = true then a else b) = b := rfl
theorem e_itD {p : Prop} [Decidable p] {a b : Prop} : (if decide p = true then a else b) = if p then a else b := by by_cases h : p <;> simp [h]
end
class CtP (α : Type) where
 p : α → Prop
noncomputable def OS {α : Type} (o : Option α) [c : CtP α] : Prop := ∃ x, o = some x ∧ c.p x
noncomputable def OL (o : Option HO) [c : CtP (List V)] : Prop := ∃ x, o = some (.lst x) ∧ c.p x
noncomputable def OT (o : Option HO) [c : CtP (List V)] : Prop := ∃ x, o = some (.tup x) ∧ c.p x
theorem e_os {α : Type} {x : α} {P : α → Prop} : @OS α (some x) ⟨P⟩ = P x := propext ⟨fun ⟨_, e, q⟩ => by cases e; exact q, fun q => ⟨x, rfl, q⟩⟩
theorem e_ol {x : List V} {P : List V → Prop} : @OL (some (.lst x)) ⟨P⟩ = P x := propext ⟨fun ⟨_, e, q⟩ => by cases e; exact q, fun q => ⟨x, rfl, q⟩⟩
theorem e_ot {x : List V} {P : List V → Prop} : @OT (some (.tup x)) ⟨P⟩ = P x := propext ⟨fun ⟨_, e, q⟩ => by cases e; exact q, fun q => ⟨x, rfl, q⟩⟩
theorem u_os {α : Type} {o : Option α} {P : α → Prop} : @OS α o ⟨P⟩ = ∃ x, o = some x ∧ P x := rfl
theorem u_ol {o : Option HO} {P : List V → Prop} : @OL o ⟨P⟩ = ∃ x, o = some (.lst x) ∧ P x := rfl
theorem u_ot {o : Option HO} {P : List V → Prop} : @OT o ⟨P⟩ = ∃ x, o = some (.tup x) ∧ P x := rfl
section
variable {D : Ends} {σ : St} {H : Hp} {Q : VK} {QG : St → Hp → Prop} {a : Addr} {n k : Int}
theorem e_ix : rIx0 (.ref a) (.int n) H Q = @OS _ (sq H a) ⟨fun xs => @OS _ (atI xs n) ⟨fun v => Q v H⟩⟩ := propext ⟨fun ⟨_, xs, _, v, e, e', h, h', q⟩ => by cases e; cases e'; exact ⟨xs, h, v, h', q⟩, fun ⟨xs, h, v, h', q⟩ => ⟨_, xs, _, v, rfl, rfl, h, h', q⟩⟩
theorem e_setL {v : V} {q : Hp → Prop} : rSetL (.ref a) (.int k) v H q = @OL (H a) ⟨fun xs => @OS _ (ixN xs.length k) ⟨fun j => q (upd H a (.lst (xs.set j v)))⟩⟩ := propext ⟨fun ⟨_, xs, _, v, e, e', h, h', q⟩ => by cases e; cases e'; exact ⟨xs, h, v, h', q⟩, fun ⟨xs, h, v, h', q⟩ => ⟨_, xs, _, v, rfl, rfl, h, h', q⟩⟩
theorem e_emit {p : Addr} {te : TE} : tEmit p te σ H QG = te σ H fun y H1 => @OL (H1 p) ⟨fun ys => ys.length < sizeLine ∧ QG σ (upd H1 p (.lst (ys ++ [y])))⟩ := rfl
theorem e_f1 {α : Type} {f : Addr → Option α} {P : Addr → α → Prop} : (∃ p ys, [V.ref a] = [V.ref p] ∧ f p = some ys ∧ P p ys) = @OS _ (f a) ⟨fun ys => P a ys⟩ := propext ⟨fun ⟨_, y, e, h, q⟩ => by cases e; exact ⟨y, h, q⟩, fun ⟨y, h, q⟩ => ⟨_, y, rfl, h, q⟩⟩
theorem e_f2 {P : Addr → List V → Prop} : (∃ p ys, [V.ref a] = [V.ref p] ∧ H p = some (.lst ys) ∧ P p ys) = @OL (H a) ⟨fun ys => P a ys⟩ := propext ⟨fun ⟨_, y, e, h, q⟩ => by cases e; exact ⟨y, h, q⟩, fun ⟨y, h, q⟩ => ⟨_, y, rfl, h, q⟩⟩
theorem e_f3 {P : Addr → List V → Prop} : (∃ p ys, V.ref a = V.ref p ∧ H p = some (.lst ys) ∧ P p ys) = @OL (H a) ⟨fun ys => P a ys⟩ := propext ⟨fun ⟨_, y, e, h, q⟩ => by cases e; exact ⟨y, h, q⟩, fun ⟨y, h, q⟩ => ⟨_, y, rfl, h, q⟩⟩
theorem e_f4 {P : Addr → List V → Prop} : (∃ p ys, V.ref a = V.ref p ∧ H p = some (.tup ys) ∧ P p ys) = @OT (H a) ⟨fun ys => P a ys⟩ := propext ⟨fun ⟨_, y, e, h, q⟩ => by cases e; exact ⟨y, h, q⟩, fun ⟨y, h, q⟩ => ⟨_, y, rfl, h, q⟩⟩
theorem e_f5 {z : V} {P : List V → V → Prop} : (∃ ys y, [z] = [y] ∧ H a = some (.lst ys) ∧ P ys y) = @OL (H a) ⟨fun ys => P ys z⟩ := propext ⟨fun ⟨y, _, e, h, q⟩ => by cases e; exact ⟨y, h, q⟩, fun ⟨y, h, q⟩ => ⟨y, _, rfl, h, q⟩⟩
end
theorem e_g1 {a : Addr} {P : Addr → Prop} : (∃ p, [V.ref a] = [V.ref p] ∧ P p) = P a := propext ⟨fun ⟨_, e, q⟩ => by cases e; exact q, fun q => ⟨_, rfl, q⟩⟩
theorem e_g2 {a : Addr} {P : Addr → Prop} : (∃ p, V.ref a = V.ref p ∧ P p) = P a := propext ⟨fun ⟨_, e, q⟩ => by cases e; exact q, fun q => ⟨_, rfl, q⟩⟩
theorem e_g3 {H : Hp} {a : Addr} {P : List V → Prop} : (∃ x, sq H a = some x ∧ P x) = @OS _ (sq H a) ⟨P⟩ := rfl
theorem e_g4 {H : Hp} {a : Addr} {P : List V → Prop} : (∃ x, H a = some (.lst x) ∧ P x) = @OL (H a) ⟨P⟩ := rfl
theorem e_g5 {H : Hp} {a : Addr} {P : List V → Prop} : (∃ x, H a = some (.tup x) ∧ P x) = @OT (H a) ⟨P⟩ := rfl
theorem e_g7 {xs : List V} {n : Int} {P : V → Prop} : (∃ x, atI xs n = some x ∧ P x) = @OS _ (atI xs n) ⟨P⟩ := rfl
class CtS where
 f : St → Hp → Prop
noncomputable def LaterH [c : CtS] : St → Hp → Prop := c.f
theorem a_laterH {f : St → Hp → Prop} {σ : St} {H : Hp} : @LaterH ⟨f⟩ σ H = f σ H := rfl
theorem e_seqL {t u : TS} {D : Ends} {σ : St} {H : Hp} : tSeqL t u D σ H = t { D with nx := @LaterH ⟨u D⟩ } σ H := rfl
theorem sc_ii {a b : Int} : scal (.int a) (.int b) = true := rfl
theorem sc_bb {a b : Bool} : scal (.bl a) (.bl b) = true := rfl
theorem sc_ss {a b : Str} : scal (.str a) (.str b) = true := rfl
theorem sc_nn : scal .non .non = true := rfl
theorem sc_in {a : Int} : scal (.int a) .non = true := rfl
theorem sc_ni {a : Int} : scal .non (.int a) = true := rfl
theorem sc_bn {a : Bool} : scal (.bl a) .non = true := rfl
theorem sc_nb {a : Bool} : scal .non (.bl a) = true := rfl
theorem sc_sn {a : Str} : scal (.str a) .non = true := rfl
theorem sc_ns {a : Str} : scal .non (.str a) = true := rfl
theorem sc_is {a : Int} {b : Str} : scal (.int a) (.str b) = true := rfl
theorem sc_si {a : Int} {b : Str} : scal (.str b) (.int a) = true := rfl
theorem sc_bs {a : Bool} {b : Str} : scal (.bl a) (.str b) = true := rfl
theorem sc_sb {a : Bool} {b : Str} : scal (.str b) (.bl a) = true := rfl
end L2
end
section
set_option Elab.async false
set_option linter.all false
set_option maxRecDepth 100000
namespace L2
open PySem PySem.Spec PyProof.Rows
section
variable {D : Ends} {σ : St} {H : Hp} {Q : VK} {QG : St → Hp → Prop} {a : Addr} {n k : Int}
noncomputable def OD (o : Option HO) [c : CtP (List (Key × V))] : Prop := ∃ x, o = some (.dK x) ∧ c.p x
theorem e_od {x : List (Key × V)} {P : List (Key × V) → Prop} : @OD (some (.dK x)) ⟨P⟩ = P x := propext ⟨fun ⟨_, e, q⟩ => by cases e; exact q, fun q => ⟨x, rfl, q⟩⟩
theorem u_od {o : Option HO} {P : List (Key × V) → Prop} : @OD o ⟨P⟩ = ∃ x, o = some (.dK x) ∧ P x := rfl
theorem e_getK {k : Str} : rGetK (.ref a) (.str k) H Q = @OD (H a) ⟨fun kvs => @OS _ (valV kvs (Sum.inr k)) ⟨fun v => Q v H⟩⟩ := propext ⟨fun ⟨_, xs, _, v, e, e', h, h', q⟩ => by cases e; cases e'; exact ⟨xs, h, v, h', q⟩, fun ⟨xs, h, v, h', q⟩ => ⟨_, xs, _, v, rfl, rfl, h, h', q⟩⟩
theorem e_setK {k : Str} {v : V} {q : Hp → Prop} : rSetK (.ref a) (.str k) v H q = @OD (H a) ⟨fun kvs => kvs.length < sizeLine ∧ q (upd H a (.dK (putK kvs (Sum.inr k) v)))⟩ := propext ⟨fun ⟨_, xs, _, e, e', h, q⟩ => by cases e; cases e'; exact ⟨xs, h, q⟩, fun ⟨xs, h, q⟩ => ⟨_, xs, _, rfl, rfl, h, q⟩⟩
theorem e_ipI {f : Int → Int → Int} {i j : Int} : ipI f (.int i) (.int j) H Q = Q (.int (f i j)) H := propext ⟨fun ⟨_, _, e, e', q⟩ => by cases e; cases e'; exact q, fun q => ⟨_, _, rfl, rfl, q⟩⟩
theorem e_aug {i : Nat} {te : TE} {ti : TIp} : tAug i te ti D σ H = tVar i σ H fun x H0 => te σ H fun y H1 => ti x y H1 fun z H2 => gName i z σ H2 D.nx := rfl
theorem e_g6 {H : Hp} {a : Addr} {P : List (Key × V) → Prop} : (∃ x, H a = some (.dK x) ∧ P x) = @OD (H a) ⟨P⟩ := rfl
theorem e_g8 {kvs : List (Key × V)} {k : Key} {P : V → Prop} : (∃ x, valV kvs k = some x ∧ P x) = @OS _ (valV kvs k) ⟨P⟩ := rfl
end
end L2
end
section
set_option Elab.async false
set_option linter.all false
set_option maxRecDepth 100000
namespace L2
open PySem PySem.Spec
open PyProof.Rows hiding Fr News
namespace ST
noncomputable def nx (x : Nat × Nat) : Nat × Nat := ((x.1 * 5 + 1 + x.2 / 32) % 8, x.2 / 32)
noncomputable def st (h : Int) : Nat → Nat × Nat
 | 0 => (SetTable.bits h % 8, SetTable.bits h)
 | n + 1 => nx (st h n)
noncomputable def at' (h : Int) (n : Nat) : Nat := (st h n).1
theorem at_lt (h : Int) : ∀ n, at' h n < 8
 | 0 => Nat.mod_lt _ (by decide)
 | n + 1 => Nat.mod_lt _ (by decide)
theorem bits_lt (h : Int) : SetTable.bits h < 2 ^ 64 := by
 unfold SetTable.bits
 have h1 := Int.emod_nonneg h (show (2 ^ 64 : Int) ≠ 0 by decide)
 have h2 := Int.emod_lt_of_pos h (show (0 : Int) < 2 ^ 64 by decide)
 omega
theorem pert (h : Int) : ∀ n, (st h n).2 = SetTable.bits h / 32 ^ n
 | 0 => by show SetTable.bits h = _; rw [Nat.pow_zero, Nat.div_one]
 | n + 1 => by
  show (st h n).2 / 32 = _
  rw [pert h n, Nat.div_div_eq_div_mul, Nat.pow_succ]
theorem pert0 (h : Int) {n : Nat} (hn : 13 ≤ n) : (st h n).2 = 0 := by
 rw [pert]
 refine Nat.div_eq_of_lt (Nat.lt_of_lt_of_le (bits_lt h) (Nat.le_trans (show 2 ^ 64 ≤ 32 ^ 13 by decide) (Nat.pow_le_pow_right (by decide) hn)))
noncomputable def cyc (i : Nat) : Nat → Nat
 | 0 => i
 | k + 1 => (cyc i k * 5 + 1) % 8
theorem cyc_all : ∀ (i j : _root_.Fin 8), ∃ k : _root_.Fin 8, cyc i.val k.val = j.val := by decide +kernel
theorem at_cyc (h : Int) : ∀ k, at' h (13 + k) = cyc (at' h 13) k
 | 0 => rfl
 | k + 1 => by
  have e := pert0 h (n := 13 + k) (by omega)
  show (nx (st h (13 + k))).1 = _
  unfold nx
  rw [e]
  show ((st h (13 + k)).1 * 5 + 1 + 0 / 32) % 8 = (cyc (at' h 13) k * 5 + 1) % 8
  rw [← at_cyc h k]
  rfl
theorem meets (h : Int) {j : Nat} (hj : j < 8) : ∃ n, n < 21 ∧ at' h n = j := by
 obtain ⟨k, hk⟩ := cyc_all ⟨at' h 13, at_lt h 13⟩ ⟨j, hj⟩
 exact ⟨13 + k.val, by have := k.isLt; omega, by rw [at_cyc]; exact hk⟩
noncomputable def Up (xs : Array Nat) : Prop := ∀ i k, i < k → k < xs.size → xs.getD i 0 < xs.getD k 0
structure Cut (xs : Array Nat) (j k : Nat) : Prop where
 le : k ≤ xs.size
 lo : ∀ i, i < k → xs.getD i j < j
 hi : ∀ i, k ≤ i → i < xs.size → j ≤ xs.getD i j
theorem getD_any {xs : Array Nat} {i a b : Nat} (h : i < xs.size) : xs.getD i a = xs.getD i b := by simp [Array.getD, h]
theorem below_go {xs : Array Nat} {j : Nat} (up : Up xs) : ∀ (f lo hi : Nat), hi - lo ≤ f → lo ≤ hi → hi ≤ xs.size → (∀ i, i < lo → xs.getD i j < j) → (∀ i, hi ≤ i → i < xs.size → j ≤ xs.getD i j) → Cut xs j (SetTable.below.go xs j f lo hi)
 | 0, lo, hi, h1, h2, h3, h4, h5 => by
  have : lo = hi := by omega
  subst this
  exact ⟨h3, h4, h5⟩
 | f + 1, lo, hi, h1, h2, h3, h4, h5 => by
  unfold SetTable.below.go
  by_cases c : lo < hi
  ·rw [if_pos c]
   show Cut xs j (if xs.getD ((lo + hi) / 2) j < j then _ else _)
   have m1 : (lo + hi) / 2 < hi := by omega
   have m2 : lo ≤ (lo + hi) / 2 := by omega
   by_cases d : xs.getD ((lo + hi) / 2) j < j
   ·rw [if_pos d]
    refine below_go up f _ _ (by omega) (by omega) h3 (fun i hi' => ?_) h5
    rcases Nat.lt_or_ge i ((lo + hi) / 2) with z | z
    ·have u := up i ((lo + hi) / 2) z (by omega)
     rw [getD_any (b := j) (show i < xs.size by omega), getD_any (b := j) (show (lo + hi) / 2 < xs.size by omega)] at u
     omega
    ·have : i = (lo + hi) / 2 := by omega
     subst this
     exact d
   ·rw [if_neg d]
    refine below_go up f _ _ (by omega) (by omega) (by omega) h4 (fun i hi' hs => ?_)
    rcases Nat.lt_or_ge ((lo + hi) / 2) i with z | z
    ·have u := up ((lo + hi) / 2) i z hs
     rw [getD_any (b := j) (show i < xs.size by omega), getD_any (b := j) (show (lo + hi) / 2 < xs.size by omega)] at u
     omega
    ·have : i = (lo + hi) / 2 := by omega
     subst this
     omega
  ·rw [if_neg c]
   have : lo = hi := by omega
   subst this
   exact ⟨h3, h4, h5⟩
theorem below_is {xs : Array Nat} (up : Up xs) (j : Nat) : Cut xs j (SetTable.below xs j) :=
 below_go up xs.size 0 xs.size (by omega) (by omega) (by omega) (fun i h => by omega) (fun i h h' => by omega)
noncomputable abbrev Ent := Nat × Int × Value
noncomputable def slots (E : List Ent) : List Nat := E.map (·.1)
structure Tab (t : SetTable) (es : Array (Int × Value)) (E : List Ent) : Prop where
 mask : t.mask = 7
 pl : t.place = (slots E).toArray
 en : es = (E.map (·.2)).toArray
 up : (slots E).Pairwise (· < ·)
 le : ∀ e ∈ E, e.1 < 8
 dm : t.dummies = #[]
 found : ∀ e ∈ E, ∃ n, at' e.2.1 n = e.1 ∧ ∀ k, k < n → at' e.2.1 k ∈ slots E
 plain : t.plain = true
section
variable {t : SetTable} {es : Array (Int × Value)} {E : List Ent}
theorem up_of {l : List Nat} (h : l.Pairwise (· < ·)) : Up l.toArray := fun i k ik hk => by
 have hk' : k < l.length := by simpa using hk
 have := List.pairwise_iff_getElem.mp h i k (by omega) hk' ik
 simpa [Array.getD, show i < l.length by omega, hk'] using this
theorem slot_of (T : Tab t es E) {i : Nat} {e : Ent} (h : E[i]? = some e) : t.slot e.1 = .live i := by
 have hi : i < E.length := (List.getElem?_eq_some_iff.mp h).1
 have C := below_is (up_of T.up) e.1
 have hs : (slots E)[i]? = some e.1 := by unfold slots; rw [List.getElem?_map, h]; rfl
 have sz : (slots E).toArray.size = E.length := by unfold slots; simp
 have gi : (slots E).toArray.getD i e.1 = e.1 := by
  obtain ⟨q, hq⟩ := List.getElem?_eq_some_iff.mp hs
  simp [Array.getD, q, hq]
 have bi : SetTable.below (slots E).toArray e.1 = i := by
  rcases Nat.lt_trichotomy (SetTable.below (slots E).toArray e.1) i with z | z | z
  ·have a := C.hi _ (Nat.le_refl _) (by omega)
   have b := up_of T.up _ _ z (by omega)
   rw [getD_any (b := e.1) (by omega), getD_any (a := 0) (b := e.1) (i := i) (by omega), gi] at b
   omega
  ·exact z
  ·have := C.lo i z
   omega
 unfold SetTable.slot
 rw [T.pl, bi]
 simp only [List.getElem?_toArray, hs, beq_self_eq_true, if_true]
theorem slot_free (T : Tab t es E) {j : Nat} (h : j ∉ slots E) : t.slot j = .empty := by
 have n : ∀ k, ¬ (slots E)[k]? = some j := fun k e => h (List.mem_of_getElem? e)
 unfold SetTable.slot SetTable.has
 rw [T.pl, T.dm]
 simp [n]
noncomputable def pr (h : Int) (n : Nat) : SetTable.Probe := ⟨at' h n, 0, at' h n, (st h n).2, none⟩
theorem run7 {i : Nat} (h : i < 8) : SetTable.runEnd 7 i - i = 0 := by unfold SetTable.runEnd; rw [if_neg (by omega)]; omega
theorem pr_0 (T : Tab t es E) (h : Int) : t.probeStart h = pr h 0 := by
 unfold SetTable.probeStart pr
 rw [T.mask]
 simp only [run7 (show SetTable.bits h % (7 + 1) < 8 from Nat.mod_lt _ (by decide))]
 rfl
theorem pr_next (T : Tab t es E) (h : Int) (n : Nat) : t.advance (pr h n) = pr h (n + 1) := by
 unfold SetTable.advance pr
 rw [if_neg (by simp), T.mask]
 simp only [SetTable.leap]
 show (⟨_, _, _, _, none⟩ : SetTable.Probe) = ⟨_, _, _, _, none⟩
 have e : (at' h n * 5 + 1 + (st h n).2 / 32) % (7 + 1) = at' h (n + 1) := rfl
 simp only [e, run7 (at_lt h (n + 1))]
 rfl
theorem hash_at (T : Tab t es E) {i : Nat} {e : Ent} (h : E[i]? = some e) : (es[i]?.map (·.1)).getD 0 = e.2.1 := by
 rw [T.en, List.getElem?_toArray, List.getElem?_map, h]
 rfl
inductive Met (E : List Ent) (h : Int) (N n : Nat) : Option SetTable.Met → Prop where
 | free : (∀ k, n ≤ k → k < N → ∀ e ∈ E, e.1 = at' h k → e.2.1 ≠ h) → Met E h N n (some (.empty (at' h N) none))
 | cand {k i : Nat} {e : Ent} : n ≤ k → k < N → E[i]? = some e → e.1 = at' h k → e.2.1 = h → (∀ k', n ≤ k' → k' < k → ∀ e ∈ E, e.1 = at' h k' → e.2.1 ≠ h) → Met E h N n (some (.candidate (at' h k) i (pr h (k + 1))))
theorem Met.more {h : Int} {N n : Nat} {r : Option SetTable.Met} (at_n : ∀ e ∈ E, e.1 = at' h n → e.2.1 ≠ h) (m : Met E h N (n + 1) r) : Met E h N n r := by
 cases m with
 | free g =>
  refine .free fun k a b => ?_
  rcases Nat.eq_or_lt_of_le a with y | y
  ·subst y; exact at_n
  ·exact g k y b
 | cand a b c1 c2 c3 g =>
  refine .cand (by omega) b c1 c2 c3 fun k' a' b' => ?_
  rcases Nat.eq_or_lt_of_le a' with y | y
  ·subst y; exact at_n
  ·exact g k' y b'
theorem sub_len : ∀ (a b : List Nat), a.Nodup → (∀ x ∈ a, x ∈ b) → a.length ≤ b.length
 | [], _, _, _ => Nat.zero_le _
 | x :: a, b, n, h => by
  have nx := List.nodup_cons.mp n
  have ih := sub_len a (b.erase x) nx.2 fun y hy => (List.mem_erase_of_ne (fun (z : y = x) => nx.1 (z ▸ hy))).mpr (h y (List.mem_cons_of_mem _ hy))
  have := List.length_erase_of_mem (h x List.mem_cons_self)
  have pos := List.length_pos_of_mem (h x List.mem_cons_self)
  rw [List.length_cons]
  omega
theorem one_at (T : Tab t es E) {a b : Ent} (ha : a ∈ E) (hb : b ∈ E) (e : a.1 = b.1) : a = b := by
 obtain ⟨i, hi⟩ := List.mem_iff_getElem?.mp ha
 obtain ⟨k, hk⟩ := List.mem_iff_getElem?.mp hb
 have h1 := slot_of T hi
 have h2 := slot_of T hk
 rw [e, h2] at h1
 cases h1
 exact Option.some.inj (hi.symm.trans hk)
theorem go_met (T : Tab t es E) (h : Int) {N : Nat} (hN : at' h N ∉ slots E) (full : ∀ k, k < N → at' h k ∈ slots E) : ∀ (f n : Nat), n ≤ N → N - n < f → Met E h N n (SetTable.probe.go t (fun i => (es[i]?.map (·.1)).getD 0) h f (pr h n))
 | 0, n, _, z => by omega
 | f + 1, n, hn, hf => by
  unfold SetTable.probe.go
  show Met E h N n (match t.slot (at' h n) with | .empty => _ | .dummy => _ | .live i => _)
  rcases Nat.lt_or_ge n N with z | z
  ·obtain ⟨e, he, ee⟩ := List.mem_map.mp (full n z)
   obtain ⟨i, hi⟩ := List.mem_iff_getElem?.mp he
   have sl := slot_of T hi
   rw [ee] at sl
   rw [sl]
   simp only [hash_at T hi, pr_next T]
   by_cases c : e.2.1 = h
   ·rw [if_pos (by simpa using c)]
    exact .cand (Nat.le_refl _) z hi ee c fun k' a b => by omega
   ·rw [if_neg (by simpa using c)]
    have ih := go_met T h hN full f (n + 1) z (by omega)
    have at_n : ∀ e' ∈ E, e'.1 = at' h n → e'.2.1 ≠ h := fun e' he' q => by rw [one_at T he' he (q.trans ee.symm)]; exact c
    exact ih.more at_n
  ·have : n = N := by omega
   subst this
   rw [slot_free T hN]
   exact .free fun k a b => by omega
theorem first_free (T : Tab t es E) (few : E.length < 8) (h : Int) : ∃ N, N < 21 ∧ at' h N ∉ slots E ∧ ∀ k, k < N → at' h k ∈ slots E := by
 have nd : (slots E).Nodup := T.up.imp fun h => Nat.ne_of_lt h
 have ex : ∃ j, j < 8 ∧ j ∉ slots E := by
  refine Classical.byContradiction fun z => ?_
  have := sub_len (List.range 8) (slots E) List.nodup_range fun j hj => Classical.byContradiction fun y => z ⟨j, List.mem_range.mp hj, y⟩
  have sl : (slots E).length = E.length := by unfold slots; simp
  simp at this
  omega
 obtain ⟨j, j8, hj⟩ := ex
 obtain ⟨n, hn, en⟩ := meets h j8
 have key : ∀ m, (∃ n, n < m ∧ at' h n ∉ slots E) → ∃ N, N < m ∧ at' h N ∉ slots E ∧ ∀ k, k < N → at' h k ∈ slots E := by
  intro m
  induction m with
  | zero => rintro ⟨n, z, _⟩; omega
  | succ m ih =>
   rintro ⟨n, z, q⟩
   by_cases c : ∃ n, n < m ∧ at' h n ∉ slots E
   ·obtain ⟨N, a, b⟩ := ih c
    exact ⟨N, by omega, b⟩
   ·have nm : n = m := by
     rcases Nat.lt_or_ge n m with y | y
     ·exact absurd ⟨n, y, q⟩ c
     ·omega
    subst nm
    exact ⟨n, by omega, q, fun k hk => Classical.byContradiction fun y => c ⟨k, hk, y⟩⟩
 exact key 21 ⟨n, hn, by rw [en]; exact hj⟩
end
end ST
end L2
end
section
set_option Elab.async false
set_option linter.all false
set_option maxRecDepth 100000
namespace L2
open PySem PySem.Spec
open PyProof.Rows hiding Fr News
namespace ST
section
variable {prog : Program} {w : World} {A : Around} {E : Value → Shared → Prop} {s : Shared}
noncomputable abbrev TK (prog : Program) (w : World) (h : Heap) (k : List Int) (a : Addr) : Prop := IsTupleKey (intKind prog w) h k a
theorem ofA_int (n : Nat) {i : Int} {t : Tok} : ofAClassStatement n (.int i t) = pure false := by
 cases n <;> rfl
theorem int_of {k : Int} {v : Value} (h : (intKind prog w).is k v = true) : ∃ t, v = .int k t := by
 cases v <;> simp [intKind, Value.isInt] at h
 exact ⟨_, by rw [h]⟩
theorem items_int {ks : List Int} {vs : List Value} (h : ItemsAre (intKind prog w) ks vs) : ∀ v ∈ vs, ∃ k t, v = Value.int k t := by
 induction h with
 | nil => intro v hv; cases hv
 | cons h1 _ ih =>
  intro v hv
  rcases List.mem_cons.mp hv with z | z
  ·subst z
   obtain ⟨t, e⟩ := int_of h1
   exact ⟨_, t, e⟩
  ·exact ih v z
theorem wp_ofA {a : Addr} {k : List Int} {Q : Bool → Shared → Prop} (hk : TK prog w s.heap k a) (q : Q false s) : wpAny (model prog w) A (ofAClassStatement 8 (.ref a)) Q E s := by
 have hT := hk.typeIs
 obtain ⟨o, items, n, ho, hc, hd, hi⟩ := hk
 unfold ofAClassStatement
 refine wpAny_bind (wpAny_typeOf hT ?_)
 dsimp only
 rw [if_pos (by decide)]
 refine wpAny_bind (wpAny_pure ?_)
 rw [if_neg (by decide)]
 refine wpAny_bind (wpAny_seqItems ho hd ?_)
 refine wpAny_bind ?_
 rw [← Array.forIn_toList]
 refine wpAny_forIn_list _ (fun rest (b : Option Bool × Unit) s' => b.1 = none ∧ s' = s ∧ ∀ v ∈ rest, v ∈ items.toList) _ ?_ ?_ _ _ ⟨rfl, rfl, fun v hv => hv⟩
 ·rintro x rest b s' ⟨_, rfl, m⟩
  obtain ⟨i, t, rfl⟩ := items_int hi x (m x List.mem_cons_self)
  rw [ofA_int]
  refine wpAny_bind (wpAny_pure ?_)
  rw [if_neg (by decide)]
  exact wpAny_pure ⟨rfl, rfl, fun v hv => m v (List.mem_cons_of_mem _ hv)⟩
 ·rintro b s' ⟨e, rfl, _⟩
  obtain ⟨b1, b2⟩ := b
  cases e
  exact wpAny_pure q
theorem wp_seen {a : Addr} {k : List Int} {Q : Bool → Shared → Prop} (hk : TK prog w s.heap k a) : ∀ (ys : List Value), (∀ y ∈ ys, ∃ b k', y = .ref b ∧ TK prog w s.heap k' b) → Q false s → wpAny (model prog w) A (searchCouldBeSeen (.ref a) ys) Q E s := by
 intro ys h q
 unfold searchCouldBeSeen
 refine wpAny_bind ?_
 refine wpAny_forIn_list _ (fun rest (b : Option Bool × Unit) s' => b.1 = none ∧ s' = s ∧ ∀ v ∈ rest, v ∈ ys) _ ?_ ?_ _ _ ⟨rfl, rfl, fun v hv => hv⟩
 ·rintro x rest b s' ⟨_, rfl, m⟩
  obtain ⟨c, k', rfl, hc⟩ := h x (m x List.mem_cons_self)
  have m' : ∀ v ∈ rest, v ∈ ys := fun v hv => m v (List.mem_cons_of_mem _ hv)
  dsimp only
  split
  ·exact wpAny_pure ⟨rfl, rfl, m'⟩
  ·refine wpAny_bind (wpAny_eqIsQuiet_tuple hk ?_)
   rw [if_neg (by decide)]
   refine wpAny_bind (wpAny_eqIsQuiet_tuple hc ?_)
   rw [if_neg (by decide)]
   refine wpAny_bind (wp_ofA hk ?_)
   rw [if_neg (by decide)]
   refine wpAny_bind (wp_ofA hc ?_)
   rw [if_neg (by decide)]
   exact wpAny_pure ⟨rfl, rfl, m'⟩
 ·rintro b s' ⟨e, rfl, _⟩
  dsimp only
  rw [e]
  exact wpAny_pure q
noncomputable def hashK (prog : Program) (w : World) (k : List Int) : Int := tupleKeyHash (intKind prog w) k
noncomputable def Held (prog : Program) (w : World) (h : Heap) (E : List Ent) : Prop := ∀ e ∈ E, ∃ b k, e.2.2 = .ref b ∧ TK prog w h k b ∧ e.2.1 = hashK prog w k
noncomputable def Has (prog : Program) (w : World) (h : Heap) (E : List Ent) (k : List Int) : Prop := ∃ e ∈ E, ∃ b, e.2.2 = .ref b ∧ TK prog w h k b
theorem Held.hash {h : Heap} {En : List Ent} (H : Held prog w h En) {e : Ent} (he : e ∈ En) {b : Addr} {k : List Int} (eb : e.2.2 = .ref b) (hb : TK prog w h k b) : e.2.1 = hashK prog w k := by
 obtain ⟨b', k', e1, h1, h2⟩ := H e he
 obtain rfl : b' = b := by rw [eb] at e1; injection e1 with e1; exact e1.symm
 rw [h2, IsTupleKey.inj h1 hb]
theorem wp_search {a a0 : Addr} {k : List Int} {o : Obj} {es : Array (Int × Value)} {ep : Nat} {t : SetTable} {En : List Ent} {N : Nat} {Q : SetFound → Shared → Prop} (hu : A.units < cLine)
  (ho : s.heap.get? a = some o) (hd : o.data = .set es ep t) (hf : t.fits es.size = true) (T : Tab t es En) (hH : Held prog w s.heap En) (hk : TK prog w s.heap k a0)
  (hN : at' (hashK prog w k) N ∉ slots En) (full : ∀ i, i < N → at' (hashK prog w k) i ∈ slots En) (N21 : N < 21)
  (hit : Has prog w s.heap En k → Q (.there none) s) (miss : ¬ Has prog w s.heap En k → Q (.free (at' (hashK prog w k) N) false) s) :
  ∀ (f n : Nat) (stand : Option SetTable.Probe), n ≤ N → N - n < f → stand.getD (t.probeStart (hashK prog w k)) = pr (hashK prog w k) n →
   (∀ i, i < n → ∀ e ∈ En, e.1 = at' (hashK prog w k) i → ∀ b, e.2.2 = .ref b → ¬ TK prog w s.heap k b) →
   wpAny (model prog w) A (setSearchFrom a (.ref a0) (hashK prog w k) true f stand) Q E s
 | 0, n, _, _, z, _, _ => by omega
 | f + 1, n, stand, hn, hf', hs, old => by
  unfold setSearchFrom
  refine wpAny_bind (wpAny_setState_of ho hd hf ?_)
  dsimp only
  rw [show t.gaveWay = false by unfold SetTable.gaveWay; rw [T.mask]; rfl]
  simp only [Bool.false_eq_true, if_false]
  refine wpAny_bind (wpAny_pure ?_)
  rw [hs]
  generalize hm : SetTable.probe _ _ _ _ = m
  have M : Met En (hashK prog w k) N n m := by
   rw [← hm]
   exact go_met T _ hN full _ n hn (by rw [T.mask]; unfold SetTable.turns; omega)
  cases M with
  | free g =>
   refine wpAny_pure (miss ?_)
   rintro ⟨e, he, b, eb, hb⟩
   have eh := hH.hash he eb hb
   obtain ⟨n1, e1, e2⟩ := T.found e he
   rw [eh] at e1 e2
   have l1 : n1 < N := by
    rcases Nat.lt_trichotomy n1 N with z | z | z
    ·exact z
    ·exact absurd (List.mem_map_of_mem (f := (·.1)) he) (by rw [← z, e1] at hN; exact hN)
    ·exact absurd (e2 N z) hN
   rcases Nat.lt_or_ge n1 n with z | z
   ·exact old n1 z e he e1.symm b eb hb
   ·exact g n1 z l1 e he e1.symm eh
  | @cand i1 ix e a1 a2 a3 a4 a5 g =>
   have me : e ∈ En := List.mem_of_getElem? a3
   have ei : es[ix]? = some e.2 := by rw [T.en, List.getElem?_toArray, List.getElem?_map, a3]; rfl
   have sl : t.slot (at' (hashK prog w k) i1) = .live ix := by rw [← a4]; exact slot_of T a3
   obtain ⟨b, k', eb, hb, eh⟩ := hH e me
   have e2 : e.2 = (e.2.1, Value.ref b) := by rw [← eb]
   have seen : ∀ y ∈ ((es.filter fun x => x.1 == hashK prog w k).toList.map fun x => x.2), ∃ b k', y = .ref b ∧ TK prog w s.heap k' b := fun y hy => by
    obtain ⟨x, hx, rfl⟩ := List.mem_map.mp hy
    have hx' : x ∈ es.toList := by
     rw [Array.toList_filter] at hx
     exact (List.mem_filter.mp hx).1
    rw [T.en] at hx'
    obtain ⟨e', he', rfl⟩ := List.mem_map.mp (by simpa using hx' : x ∈ En.map (·.2))
    obtain ⟨b', k'', q1, q2, _⟩ := hH e' he'
    exact ⟨b', k'', q1, q2⟩
   have go : k' ≠ k → wpAny (model prog w) A (setSearchFrom a (.ref a0) (hashK prog w k) true f (some (pr (hashK prog w k) (i1 + 1)))) Q E s := fun ne =>
    wp_search hu ho hd hf T hH hk hN full N21 hit miss f (i1 + 1) _ (by omega) (by omega) rfl fun i hi e' he' q b' eb' hb' => by
     rcases Nat.lt_or_ge i n with z | z
     ·exact old i z e' he' q b' eb' hb'
     ·rcases Nat.lt_or_ge i i1 with y | y
      ·exact g i z y e' he' q (hH.hash he' eb' hb')
      ·have : i = i1 := by omega
       subst this
       obtain rfl := one_at T he' me (q.trans a4.symm)
       rw [eb] at eb'
       injection eb' with eb'
       subst eb'
       exact ne (IsTupleKey.inj hb hb')
   have same : t.sameMemory t.moves t.mask = some true := by unfold SetTable.sameMemory; simp
   dsimp only
   rcases Classical.em ((!t.led) = true) with led | led
   all_goals first
    | (rw [if_pos led]; refine wpAny_bind (wp_seen hk _ seen ?_); rw [if_neg (by decide)])
    | rw [if_neg led]
   all_goals
    rw [ei, e2]
    dsimp only
    refine wpAny_bind (wpAny_holding (wpAny_eqBool_tuple hu hb hk ?_))
    refine wpAny_bind (wpAny_setState_of ho hd hf ?_)
    dsimp only
    rcases Classical.em (k' = k) with c | c
    ·rw [if_pos (by simpa using c)]
     exact wpAny_pure (hit ⟨e, me, b, eb, c ▸ hb⟩)
    ·rw [if_neg (by simpa using c), same]
     dsimp only
     rw [if_pos rfl, sl]
     dsimp only
     rw [ei, e2]
     dsimp only
     refine wpAny_bind (wpAny_isSame_ref_self ?_)
     refine wpAny_bind (wpAny_pure ?_)
     rw [if_pos rfl]
     dsimp only
     rw [if_neg (by simpa using c)]
     exact go c
end
end ST
end L2
end
section
set_option Elab.async false
set_option linter.all false
set_option maxRecDepth 100000
namespace L2
open PySem PySem.Spec
open PyProof.Rows hiding Fr News
namespace ST
section
variable {prog : Program} {w : World} {A : Around} {E : Value → Shared → Prop} {s : Shared}
noncomputable def ins {α : Type} (l : List α) (p : Nat) (x : α) : List α := l.take p ++ x :: l.drop p
theorem ins_map {α β : Type} (f : α → β) (l : List α) (p : Nat) (x : α) : (ins l p x).map f = ins (l.map f) p (f x) := by unfold ins; simp [List.map_take, List.map_drop]
theorem ins_mem {α : Type} {l : List α} {p : Nat} {x y : α} : y ∈ ins l p x ↔ y = x ∨ y ∈ l := by
 unfold ins
 rw [List.mem_append, List.mem_cons]
 constructor
 ·rintro (h | h | h)
  ·exact .inr (List.mem_of_mem_take h)
  ·exact .inl h
  ·exact .inr (List.mem_of_mem_drop h)
 ·rintro (h | h)
  ·exact .inr (.inl h)
  ·rw [← List.take_append_drop p l, List.mem_append] at h
   exact h.elim .inl fun z => .inr (.inr z)
theorem ins_perm {α : Type} (l : List α) (p : Nat) (x : α) : (ins l p x).Perm (x :: l) := by
 unfold ins
 refine List.perm_middle.trans ?_
 rw [List.take_append_drop]
theorem ins_array {α : Type} (l : List α) (p : Nat) (x : α) : SetTable.insertAt l.toArray p x = (ins l p x).toArray := by
 unfold SetTable.insertAt ins
 apply Array.ext'
 simp [List.take_of_length_le]
theorem ins_up {l : List Nat} {p j : Nat} (up : l.Pairwise (· < ·)) (C : Cut l.toArray j p) (nj : j ∉ l) : (ins l p j).Pairwise (· < ·) := by
 unfold ins
 have gd : ∀ i (h : i < l.length), l.toArray.getD i j = l[i] := fun i h => by simp [Array.getD, h]
 have lo : ∀ x ∈ l.take p, x < j := fun x hx => by
  obtain ⟨i, hi, rfl⟩ := List.getElem_of_mem hx
  rw [List.length_take] at hi
  have := C.lo i (by omega)
  rw [gd i (by omega)] at this
  rw [List.getElem_take]
  exact this
 have hi : ∀ x ∈ l.drop p, j < x := fun x hx => by
  have hx0 := List.mem_of_mem_drop hx
  obtain ⟨i, hi, rfl⟩ := List.getElem_of_mem hx
  rw [List.length_drop] at hi
  have := C.hi (p + i) (by omega) (by simpa using (show p + i < l.length by omega))
  rw [gd (p + i) (by omega)] at this
  rw [List.getElem_drop] at hx0 ⊢
  have ne : l[p + i] ≠ j := fun z => nj (z ▸ hx0)
  omega
 have up' := up
 rw [← List.take_append_drop p l, List.pairwise_append] at up'
 rw [List.pairwise_append]
 refine ⟨up'.1, List.pairwise_cons.mpr ⟨hi, up'.2.1⟩, fun a ha b hb => ?_⟩
 rcases List.mem_cons.mp hb with z | z
 ·subst z; exact lo a ha
 ·exact up'.2.2 a ha b z
theorem Tab.put {t : SetTable} {es : Array (Int × Value)} {En : List Ent} (T : Tab t es En) {h : Int} {N : Nat} {v : Value} (hN : at' h N ∉ slots En) (full : ∀ i, i < N → at' h i ∈ slots En) :
  ∃ p, t.put (at' h N) = ({ t with place := (slots (ins En p (at' h N, h, v))).toArray }, p) ∧ SetTable.insertAt es p (h, v) = ((ins En p (at' h N, h, v)).map (·.2)).toArray ∧
   Tab { t with place := (slots (ins En p (at' h N, h, v))).toArray } (SetTable.insertAt es p (h, v)) (ins En p (at' h N, h, v)) := by
 have C := below_is (up_of T.up) (at' h N)
 have hs : slots (ins En (SetTable.below (slots En).toArray (at' h N)) (at' h N, h, v)) = ins (slots En) (SetTable.below (slots En).toArray (at' h N)) (at' h N) := by unfold slots; rw [ins_map]
 have he : SetTable.insertAt es (SetTable.below (slots En).toArray (at' h N)) (h, v) = ((ins En (SetTable.below (slots En).toArray (at' h N)) (at' h N, h, v)).map (·.2)).toArray := by rw [T.en, ins_array, ins_map]
 have sub : ∀ x ∈ slots En, x ∈ slots (ins En (SetTable.below (slots En).toArray (at' h N)) (at' h N, h, v)) := fun x hx => by rw [hs]; exact ins_mem.mpr (.inr hx)
 refine ⟨SetTable.below (slots En).toArray (at' h N), ?_, he, ⟨T.mask, rfl, he, by rw [hs]; exact ins_up T.up C hN, fun e hm => ?_, T.dm, fun e hm => ?_, T.plain⟩⟩
 ·unfold SetTable.put SetTable.has
  rw [T.pl, T.dm]
  dsimp only
  rw [ins_array, hs]
  simp
 ·rcases ins_mem.mp hm with z | z
  ·subst z; exact at_lt h N
  ·exact T.le e z
 ·rcases ins_mem.mp hm with z | z
  ·subst z; exact ⟨N, rfl, fun k hk => sub _ (full k hk)⟩
  ·obtain ⟨n, n1, n2⟩ := T.found e z
   exact ⟨n, n1, fun k hk => sub _ (n2 k hk)⟩
theorem hbv_int (n : Nat) {i : Int} {t : Tok} : hashByValue n (.int i t) = pure true := by cases n <;> rfl
theorem wp_hbv {a : Addr} {k : List Int} {Q : Bool → Shared → Prop} (hk : TK prog w s.heap k a) (q : Q true s) : wpAny (model prog w) A (hashByValue 8 (.ref a)) Q E s := by
 have hT := hk.typeIs
 obtain ⟨o, items, n, ho, hc, hd, hi⟩ := hk
 unfold hashByValue
 refine wpAny_bind (wpAny_specialOf hT F.slot_tuple_hash.lookup ?_)
 dsimp only
 refine wpAny_bind (wpAny_seqItems ho hd ?_)
 refine wpAny_bind ?_
 rw [Option.getD_some, ← Array.forIn_toList]
 refine wpAny_forIn_list _ (fun rest (b : Option Bool × Unit) s' => b.1 = none ∧ s' = s ∧ ∀ v ∈ rest, v ∈ items.toList) _ ?_ ?_ _ _ ⟨rfl, rfl, fun v hv => hv⟩
 ·rintro x rest b s' ⟨_, rfl, m⟩
  obtain ⟨i, t, rfl⟩ := items_int hi x (m x List.mem_cons_self)
  rw [hbv_int]
  refine wpAny_bind (wpAny_pure ?_)
  rw [if_neg (by decide)]
  exact wpAny_pure ⟨rfl, rfl, fun v hv => m v (List.mem_cons_of_mem _ hv)⟩
 ·rintro b s' ⟨e, rfl, _⟩
  obtain ⟨b1, b2⟩ := b
  cases e
  exact wpAny_pure q
structure SetIs (prog : Program) (w : World) (h : Heap) (a : Addr) (led : Bool) (ps : List (Addr × List Int)) : Prop where
 ex : ∃ o es ep t En, h.get? a = some o ∧ o.ExactSet ∧ o.data = .set es ep t ∧ t.fits es.size = true ∧ t.led = led ∧ Tab t es En ∧ En.map (·.2) = ps.map fun p => (hashK prog w p.2, Value.ref p.1)
 tk : ∀ p ∈ ps, TK prog w h p.2 p.1
 nd : (ps.map (·.2)).Nodup
theorem held_of {h : Heap} {En : List Ent} {ps : List (Addr × List Int)} (e : En.map (·.2) = ps.map fun p => (hashK prog w p.2, Value.ref p.1)) (tk : ∀ p ∈ ps, TK prog w h p.2 p.1) : Held prog w h En := fun x hx => by
 have hm : x.2 ∈ ps.map fun p => (hashK prog w p.2, Value.ref p.1) := e ▸ List.mem_map_of_mem hx
 obtain ⟨p, hp, ep⟩ := List.mem_map.mp hm
 exact ⟨p.1, p.2, by rw [← ep], tk p hp, by rw [← ep]⟩
theorem has_iff {h : Heap} {En : List Ent} {ps : List (Addr × List Int)} (e : En.map (·.2) = ps.map fun p => (hashK prog w p.2, Value.ref p.1)) (tk : ∀ p ∈ ps, TK prog w h p.2 p.1) {k : List Int} : Has prog w h En k ↔ k ∈ ps.map (·.2) := by
 constructor
 ·rintro ⟨x, hx, b, eb, hb⟩
  have hm : x.2 ∈ ps.map fun p => (hashK prog w p.2, Value.ref p.1) := e ▸ List.mem_map_of_mem hx
  obtain ⟨p, hp, ep⟩ := List.mem_map.mp hm
  have e1 : p.1 = b := by rw [← ep] at eb; injection eb
  have hpb := tk p hp
  rw [e1] at hpb
  exact List.mem_map.mpr ⟨p, hp, IsTupleKey.inj hpb hb⟩
 ·intro hk
  obtain ⟨p, hp, rfl⟩ := List.mem_map.mp hk
  have hm : (hashK prog w p.2, Value.ref p.1) ∈ En.map (·.2) := e ▸ List.mem_map_of_mem (f := fun p : Addr × List Int => (hashK prog w p.2, Value.ref p.1)) hp
  obtain ⟨x, hx, ex⟩ := List.mem_map.mp hm
  exact ⟨x, hx, p.1, by rw [ex], tk p hp⟩
theorem wp_add {a a0 : Addr} {k : List Int} {led : Bool} {ps : List (Addr × List Int)} {Q : Bool → Shared → Prop} (hu : A.units < cLine) (S : SetIs prog w s.heap a led ps) (hk : TK prog w s.heap k a0)
  (few : k ∉ ps.map (·.2) → ps.length ≤ 3)
  (q : ∀ h' tk b ps', Heap.SameBut a s.heap h' → SetIs prog w h' a led ps' → (ps' = ps ∧ k ∈ ps.map (·.2) ∨ ps'.Perm ((a0, k) :: ps) ∧ k ∉ ps.map (·.2)) → Q b { s with heap := h', toks := tk }) :
  wpAny (model prog w) A (setAdd a (.ref a0)) Q E s := by
 unfold setAdd
 refine wpAny_holding (wpAny_bind (wpAny_pyHash_tuple hu hk ?_))
 unfold setAddHashed setAddHashedIn
 refine wpAny_holding ?_
 obtain ⟨o, es, ep, t, En, ho, hx, hd, hf, hl, T, eq⟩ := S.ex
 have hH := held_of eq S.tk
 have le : En.length = ps.length := by have := congrArg List.length eq; simpa using this
 have ne : ps.length < 8 := by
  by_cases c : k ∈ ps.map (·.2)
  ·have f1 := (Bool.and_eq_true_iff.mp hf).2
   have f2 : t.place.size + t.dummies.size ≤ t.mask := of_decide_eq_true f1
   rw [T.pl, T.mask] at f2
   have : (slots En).toArray.size = En.length := by unfold slots; simp
   omega
  ·have := few c
   omega
 refine wpAny_bind (wpAny_setState_of (s := { s with toks := s.toks + (k.length + 1) }) ho hd hf ?_)
 dsimp only
 rw [show byScan (.ref a0) es = false from rfl]
 simp only [Bool.false_eq_true, if_false]
 obtain ⟨N, n1, n2, n3⟩ := first_free T (by omega) (hashK prog w k)
 refine wpAny_bind ?_
 unfold setSearch
 refine wp_search (s := { s with toks := s.toks + (k.length + 1) }) hu ho hd hf T hH hk n2 n3 n1 (fun yes => ?_) (fun no => ?_) 100000 0 none (Nat.zero_le _) (by omega) (pr_0 T _) (fun i hi => absurd hi (by omega))
 ·exact wpAny_pure (q s.heap _ _ ps ⟨rfl, fun _ _ => rfl⟩ S (.inl ⟨rfl, (has_iff eq S.tk).mp yes⟩))
 ·have nk : k ∉ ps.map (·.2) := fun z => no ((has_iff eq S.tk).mpr z)
  obtain ⟨p, p1, p2, p3⟩ := T.put (v := Value.ref a0) n2 n3
  have l3 := few nk
  refine wpAny_bind (wpAny_setState_of (s := { s with toks := s.toks + (k.length + 1) }) ho hd hf ?_)
  dsimp only
  rw [p1]
  dsimp only
  rw [if_pos T.plain]
  refine wpAny_bind (wp_hbv (s := { s with toks := s.toks + (k.length + 1) }) hk ?_)
  rw [if_pos rfl]
  have sz : (SetTable.insertAt es p (hashK prog w k, Value.ref a0)).size = ps.length + 1 := by
   rw [p2, List.size_toArray, List.length_map, (ins_perm En p _).length_eq, List.length_cons, le]
  have sp : (slots (ins En p (at' (hashK prog w k) N, hashK prog w k, Value.ref a0))).toArray.size = ps.length + 1 := by
   unfold slots
   rw [List.size_toArray, List.length_map, (ins_perm En p _).length_eq, List.length_cons, le]
  refine wpAny_bind (wpAny_storeSet_of (s := { s with toks := s.toks + (k.length + 1) }) ho hd ?_ (by show (SetTable.insertAt es p (hashK prog w k, Value.ref a0)).size ≤ sizeLine; rw [sz, sizeLine_eq]; omega))
  rw [if_neg (by
   show ¬ (!false && SetTable.tooFull _) = true
   have : SetTable.tooFull { t with place := (slots (ins En p (at' (hashK prog w k) N, hashK prog w k, Value.ref a0))).toArray } = false := by
    unfold SetTable.tooFull SetTable.fill
    dsimp only
    rw [sp, T.dm, T.mask]
    exact decide_eq_false (by simp; omega)
   rw [this]
   decide)]
  have pe := putSet_of (SetTable.insertAt es p (hashK prog w k, Value.ref a0)) { t with place := (slots (ins En p (at' (hashK prog w k) N, hashK prog w k, Value.ref a0))).toArray } hd
  have fr : (Obj.putSet (SetTable.insertAt es p (hashK prog w k, Value.ref a0)) { t with place := (slots (ins En p (at' (hashK prog w k) N, hashK prog w k, Value.ref a0))).toArray } o).isFreed = false := by rw [pe]; rfl
  have sb : Heap.SameBut a s.heap (s.heap.update a (Obj.putSet (SetTable.insertAt es p (hashK prog w k, Value.ref a0)) { t with place := (slots (ins En p (at' (hashK prog w k) N, hashK prog w k, Value.ref a0))).toArray })) := Heap.SameBut.update ..
  have keep : ∀ {b : Addr} {k' : List Int}, TK prog w s.heap k' b → TK prog w (s.heap.update a (Obj.putSet (SetTable.insertAt es p (hashK prog w k, Value.ref a0)) { t with place := (slots (ins En p (at' (hashK prog w k) N, hashK prog w k, Value.ref a0))).toArray })) k' b := fun {b k'} z => by
   obtain ⟨o', it, n, g1, g2, g3, g4⟩ := z
   have nb : b ≠ a := by
    rintro rfl
    obtain rfl : o' = o := Option.some.inj (g1.symm.trans ho)
    rw [hd] at g3
    exact nomatch g3
   exact ⟨o', it, n, (sb.2 b nb).trans g1, g2, g3, g4⟩
  refine wpAny_pure (q _ _ true (ins ps p (a0, k)) sb ⟨⟨_, _, ep + 1, _, _, (Heap.get?_update_self _ ho fr).trans (congrArg some pe), ⟨hx.1, hx.2.1, hx.2.2⟩, rfl, ?_, hl, p3, by rw [ins_map, eq, ins_map]⟩, fun y hy => ?_, ?_⟩ (.inr ⟨ins_perm .., nk⟩))
  ·unfold SetTable.fits SetTable.fill
   dsimp only
   rw [sp, sz, T.dm, T.mask]
   simp
   omega
  ·rcases ins_mem.mp hy with z | z
   ·subst z; exact keep hk
   ·exact keep (S.tk y z)
  ·rw [ins_map, (ins_perm _ _ _).nodup_iff]
   exact List.nodup_cons.mpr ⟨nk, S.nd⟩
end
end ST
end L2
end
section
set_option Elab.async false
set_option linter.all false
set_option maxRecDepth 100000
namespace L2
open PySem PySem.Spec
open PyProof.Rows hiding Fr News
namespace ST
section
variable {prog : Program} {w : World} {A : Around} {E : Value → Shared → Prop} {s : Shared}
theorem sub_len' {α : Type} [BEq α] [LawfulBEq α] : ∀ (a b : List α), a.Nodup → (∀ x ∈ a, x ∈ b) → a.length ≤ b.length
 | [], _, _, _ => Nat.zero_le _
 | x :: a, b, n, h => by
  have nx := List.nodup_cons.mp n
  have ih := sub_len' a (b.erase x) nx.2 fun y hy => (List.mem_erase_of_ne (fun (z : y = x) => nx.1 (z ▸ hy))).mpr (h y (List.mem_cons_of_mem _ hy))
  have := List.length_erase_of_mem (h x List.mem_cons_self)
  have pos := List.length_pos_of_mem (h x List.mem_cons_self)
  rw [List.length_cons]
  omega
theorem tk_keep {h h' : Heap} {k : List Int} {a : Addr} (z : TK prog w h k a) (f : ∀ o, h.get? a = some o → h'.get? a = some o) : TK prog w h' k a := let ⟨o, it, n, g1, g2⟩ := z; ⟨o, it, n, f o g1, g2⟩
theorem SetIs.keep {h h' : Heap} {a : Addr} {led : Bool} {ps : List (Addr × List Int)} (S : SetIs prog w h a led ps) (f : ∀ b o, h.get? b = some o → (b = a ∨ ∃ p ∈ ps, b = p.1) → h'.get? b = some o) : SetIs prog w h' a led ps := by
 obtain ⟨o, es, ep, t, En, ho, r⟩ := S.ex
 exact ⟨⟨o, es, ep, t, En, f a o ho (.inl rfl), r⟩, fun p hp => tk_keep (S.tk p hp) fun o e => f _ o e (.inr ⟨p, hp, rfl⟩), S.nd⟩
theorem set_loop {I S : Addr} {n : Nat} {fp wr : List Addr} {P : Nat → Value → Prop} {St : Nat → Heap → Prop} {led : Bool} {R : Result → Shared → Prop} (W : Walks prog w A.in1 I fp wr n P St) (hS : S ∉ fp) (hu : A.in1.units < cLine)
  {xs : List (Addr × List Int)} (xl : xs.length = n) (val : ∀ i v, P i v → ∃ x, xs[i]? = some x ∧ v = .ref x.1) (nw : ∀ x ∈ xs, x.1 ∉ wr ∧ x.1 ∉ fp ∧ x.1 ≠ S) {D : List (List Int)} (dl : D.length ≤ 4) (inD : ∀ x ∈ xs, x.2 ∈ D) :
  ∀ (k i : Nat) (s : Shared) (ps : List (Addr × List Int)), n - i = k → i ≤ n → St i s.heap → SetIs prog w s.heap S led ps → (∀ p ∈ ps, p ∈ xs.take i) → (∀ x ∈ xs.take i, x.2 ∈ ps.map (·.2)) → (∀ x ∈ xs, TK prog w s.heap x.2 x.1) →
   (∀ h' tk ps', (∀ b o, b ∉ wr → b ≠ S → s.heap.get? b = some o → h'.get? b = some o) → SetIs prog w h' S led ps' → (∀ p ∈ ps', p ∈ xs) → (∀ x ∈ xs, x.2 ∈ ps'.map (·.2)) → R (.ok (.ret .none)) { s with heap := h', toks := tk }) →
   codeAny (model prog w) A (.builtin "set.update.loop" ⟨[.ref S, .ref I], []⟩) R s := by
 have Sw : S ∉ wr := fun z => hS (W.sub _ z)
 intro k
 induction k with
 | zero =>
  intro i s ps hk hi st SI sub all tk hR
  have e : i = n := by omega
  subst e
  rw [← xl, List.take_length] at sub all
  refine codeAny_builtin PyProof.Rows.F.entry_set_update_loop (Around.under_plainId PyProof.Rows.F.plain_set_update_loop _ ▸ ?_)
  refine wpAny_bind (m := pyNext (.ref I)) (W.done s _ _ st fun h' tk' hk' => ?_)
  exact wpAny_pure (hR h' tk' ps (fun b o n1 _ e => hk' b o n1 e) (SI.keep fun b o e z => hk' b o (by
   rcases z with z | ⟨p, hp, z⟩
   ·rw [z]; exact Sw
   ·rw [z]; exact (nw p (sub p hp)).1) e) sub all)
 | succ k ih =>
  intro i s ps hk hi st SI sub all tk hR
  have lt : i < n := by omega
  refine codeAny_builtin PyProof.Rows.F.entry_set_update_loop (Around.under_plainId PyProof.Rows.F.plain_set_update_loop _ ▸ ?_)
  refine wpAny_bind (m := pyNext (.ref I)) (W.item i s _ _ lt st fun v h1 tk1 hv st1 hk1 => ?_)
  obtain ⟨x, hx, rfl⟩ := val i v hv
  have mx : x ∈ xs := List.mem_of_getElem? hx
  have kS : ∀ b o, s.heap.get? b = some o → (b = S ∨ ∃ p ∈ ps, b = p.1) → h1.get? b = some o := fun b o e z => hk1 b o (by
   rcases z with z | ⟨p, hp, z⟩
   ·rw [z]; exact Sw
   ·rw [z]; exact (nw p (List.mem_of_mem_take (sub p hp))).1) e
  have tk1' : ∀ y ∈ xs, TK prog w h1 y.2 y.1 := fun y hy => tk_keep (tk y hy) fun o e => hk1 _ o (nw y hy).1 e
  have fw : x.2 ∉ ps.map (·.2) → ps.length ≤ 3 := fun nk => by
   have := sub_len' (x.2 :: ps.map (·.2)) D (List.nodup_cons.mpr ⟨nk, SI.nd⟩) fun y hy => by
    rcases List.mem_cons.mp hy with z | z
    ·rw [z]; exact inD x mx
    ·obtain ⟨p, hp, rfl⟩ := List.mem_map.mp z
     exact inD p (List.mem_of_mem_take (sub p hp))
   rw [List.length_cons, List.length_map] at this
   omega
  have tak : xs.take (i + 1) = xs.take i ++ [x] := by rw [List.take_add_one, hx]; rfl
  show wpAny _ A.in1 (holding [Value.ref x.1] (setAdd S (.ref x.1)) >>= fun _ => again (.builtin "set.update.loop" ⟨[.ref S, .ref I], []⟩)) _ _ _
  refine wpAny_bind (wpAny_holding (wp_add (s := { s with heap := h1, toks := tk1 }) hu (SI.keep kS) (tk1' x mx) fw fun h2 tk2 b ps' sb SI2 how => ?_))
  have sub2 : ∀ p ∈ ps', p ∈ xs.take (i + 1) := fun p hp => by
   rw [tak, List.mem_append]
   rcases how with ⟨e, _⟩ | ⟨e, _⟩
   ·rw [e] at hp; exact .inl (sub p hp)
   ·rcases List.mem_cons.mp (e.mem_iff.mp hp) with z | z
    ·rw [z]; exact .inr (List.mem_singleton.mpr rfl)
    ·exact .inl (sub p z)
  have all2 : ∀ y ∈ xs.take (i + 1), y.2 ∈ ps'.map (·.2) := fun y hy => by
   rw [tak, List.mem_append] at hy
   rcases how with ⟨e, h3⟩ | ⟨e, _⟩
   ·rw [e]
    rcases hy with z | z
    ·exact all y z
    ·rw [List.mem_singleton.mp z]; exact h3
   ·have hm := (e.map (·.2)).mem_iff (a := y.2)
    rw [hm, List.map_cons, List.mem_cons]
    rcases hy with z | z
    ·exact .inr (all y z)
    ·rw [List.mem_singleton.mp z]; exact .inl rfl
  have k2 : ∀ b o, b ≠ S → h1.get? b = some o → h2.get? b = some o := fun b o n e => (sb.2 b n).trans e
  refine wpAny_pure ⟨plainId_quiet PyProof.Rows.F.plain_set_update_loop _, ih (i + 1) _ ps' (by omega) lt (W.frame _ h1 h2 st1 fun b hb o e => k2 b o (fun z => hS (z ▸ hb)) e) SI2 sub2 all2 (fun y hy => tk_keep (tk1' y hy) fun o e => k2 _ o (nw y hy).2.2 e) fun h' tk' ps'' k3 SI3 sub3 all3 => ?_⟩
  exact hR h' tk' ps'' (fun b o n1 n2 e => k3 b o n1 n2 (k2 b o n2 (hk1 b o n1 e))) SI3 sub3 all3
end
end ST
end L2
end
section
set_option Elab.async false
set_option linter.all false
set_option maxRecDepth 100000
namespace L2
open PySem PySem.Spec
open PyProof.Rows hiding Fr News
namespace ST
section
variable {prog : Program} {w : World} {A : Around} {E : Value → Shared → Prop} {s : Shared}
noncomputable def ledOf (w : World) : Bool := !w.params.followText "set-order"
noncomputable def newS (w : World) : Obj := { cls := .type "set", dict := none, data := .set #[] 0 (.fresh 0 0 (ledOf w)) }
theorem new_led (v : Value) {Q : Value → Shared → Prop} (q : Q (.ref s.heap.objs.size) { s with heap := s.heap.push (newS w) }) : codeAny (model prog w) A (.call (.builtin "set.__new__") ⟨[.type "set", v], []⟩) (wants Q E) s := by
 refine codeAny_of_tree (show wpAny _ A.in1 (do checkBuiltinCall "set.__new__" ⟨[.type "set", v], []⟩; again (.builtin "set.__new__" ⟨[.type "set", v], []⟩)) _ _ s from wpAny_bind (wpAny_of_eq (PySem.F.newCall_set_1 v) (wpAny_pure ⟨plainId_quiet PySem.F.plain_set_new _, codeAny_builtin PySem.F.entry_set_new ?_⟩)))
 rw [Around.under_plainId PySem.F.plain_set_new _]
 have sb := sub_set_self
 obtain ⟨hp, g, d, tk, os⟩ := s
 unfold Builtin.«set.__new__» Builtin.Frozenset.newClass
 dsimp only
 wp_walk
 refine wpAny_askSetting (wpAny_pure ?_)
 simp only [newObj]
 exact wpAny_bind (wpAny_alloc (wpAny_pure (wpAny_pure q)))
theorem fresh_is : SetIs prog w (s.heap.push (newS w)) s.heap.objs.size (ledOf w) [] := by
 refine ⟨⟨newS w, #[], 0, .fresh 0 0 (ledOf w), [], Heap.get?_push_size _ rfl, ⟨rfl, rfl, rfl⟩, rfl, rfl, rfl, ⟨rfl, rfl, rfl, List.Pairwise.nil, (fun e he => by cases he), rfl, (fun e he => by cases he), rfl⟩, rfl⟩, (fun p hp => by cases hp), List.nodup_nil⟩
set_option maxHeartbeats 4000000 in
theorem call_set_tups {l : Addr} {items : Array Value} {xs : List (Addr × List Int)} {Q : Value → Shared → Prop} (hh : A.handled = none) (hu : A.units + 8 < cLine) (hl : s.heap.IsList l items) (hi : items.toList = xs.map fun x => Value.ref x.1)
  (tk : ∀ x ∈ xs, TK prog w s.heap x.2 x.1) {D : List (List Int)} (dl : D.length ≤ 4) (inD : ∀ x ∈ xs, x.2 ∈ D)
  (q : ∀ h' t ps, (∀ b o, s.heap.get? b = some o → h'.get? b = some o) → SetIs prog w h' s.heap.objs.size (ledOf w) ps → (∀ p ∈ ps, p ∈ xs) → (∀ x ∈ xs, x.2 ∈ ps.map (·.2)) → Q (.ref s.heap.objs.size) { s with heap := h', toks := t }) :
  wpAny (model prog w) A (call (.type "set") [.ref l]) Q E s := by
 have mk := PySem.F.called_set.made
 have su := PySem.F.called_set.sub
 have nt := PySem.F.called_set.notType
 have cc := PySem.F.called_set.canCreate
 have tc := PySem.F.typeCall_set_1 (.ref l)
 obtain ⟨_, _, mro⟩ := PySem.F.called_set.mro
 refine wpAny_call (codeAny_of_tree (show wpAny _ _ (callAny (.type "set") _) _ _ _ from wpAny_pure ⟨Code.quiet_builtin _ (by decide +kernel), codeAny_builtin PySem.F.entry_type_call ?_⟩))
 rw [Around.under_plain (weight_type_call_type "set" [.ref l] []) rfl]
 repeat (any_goals (first | assumption | wp_step))
 refine codeAny_mono (new_led (.ref l) (E := E) (Q := fun v s1 => v = .ref s.heap.objs.size ∧ s1 = { s with heap := s.heap.push (newS w) }) ⟨rfl, rfl⟩) fun r s1 hr => ?_
 cases r with
 | error e => exact hr
 | ok fl =>
  cases fl with
  | ret v =>
   obtain ⟨rfl, rfl⟩ := hr
   have at0 : (s.heap.push (newS w)).get? s.heap.objs.size = some (newS w) := Heap.get?_push_size _ rfl
   have ty : Shared.TypeIs { s with heap := s.heap.push (newS w) } (.ref s.heap.objs.size) "set" := ⟨_, at0, rfl⟩
   have il := PySem.F.called_set.init.lookup
   have ib := PySem.F.called_set.init.bind (.ref s.heap.objs.size)
   repeat (any_goals (first | assumption | wp_step))
   refine codeAny_mono (codeAny_call_builtin (R := wants (fun r s2 => r = .none ∧ ∃ h' t ps, s2 = { s with heap := h', toks := t } ∧ (∀ b o, s.heap.get? b = some o → h'.get? b = some o) ∧ SetIs prog w h' s.heap.objs.size (ledOf w) ps ∧ (∀ p ∈ ps, p ∈ xs) ∧ ∀ x ∈ xs, x.2 ∈ ps.map (·.2)) E) PySem.F.called_set.init.plain PySem.F.entry_set_init (check_set_init_1 ty ?_)) fun r2 s2 hr2 => ?_
   ·obtain ⟨⟨c1, c2, c3, c4⟩, hol, hcl, nl, hdl⟩ := id hl
    simp only at hcl hdl
    subst hcl hdl
    have at1 : (s.heap.push (newS w)).get? l = some { cls := .type "list", dict := c2, data := .seq items nl, slots := c4 } := Heap.get?_push_of_some _ hol
    have s1 := PySem.F.sub_list_set
    have s2 := PySem.F.sub_list_frozenset
    have nd : (Value.type "list" == Value.type "dict") = false := by decide
    have l1 : (s.heap.push (newS w)).IsList l items := ⟨_, at1, rfl, nl, rfl⟩
    unfold Builtin.«set.__init__» noKeywords Builtin.Frozenset.updateFrom
    generalize hPI : pyIter = PI
    unfold newS at *
    wp_walk
    subst hPI
    refine wpAny_pyIter_list l1 (wpAny_bind (wpAny_runValue ?_))
    have lS : l < s.heap.objs.size := Heap.lt_size hol
    have nI : l ≠ (s.heap.push (newS w)).objs.size := by rw [Heap.size_push]; exact Nat.ne_of_lt (Nat.lt_succ_of_lt lS)
    have SI0 : SetIs prog w ((s.heap.push (newS w)).push { cls := .type "list_iterator", data := .fields #[.ref l, .int 0 0] }) s.heap.objs.size (ledOf w) [] := fresh_is.keep fun b o e _ => Heap.get?_push_of_some _ e
    have up : ∀ b o, s.heap.get? b = some o → ((s.heap.push (newS w)).push { cls := .type "list_iterator", data := .fields #[.ref l, .int 0 0] }).get? b = some o := fun b o e => Heap.get?_push_of_some _ (Heap.get?_push_of_some _ e)
    have xl : xs.length = items.size := by have := congrArg List.length hi; simpa using this.symm
    have lt : ∀ b o, s.heap.get? b = some o → b ≠ (s.heap.push (newS w)).objs.size ∧ b ≠ s.heap.objs.size := fun b o e => by
     rw [Heap.size_push]
     exact ⟨Nat.ne_of_lt (Nat.lt_succ_of_lt (Heap.lt_size e)), Nat.ne_of_lt (Heap.lt_size e)⟩
    refine set_loop (A := A.in1.in1) (Walks.list (A := A.in1.in1.in1) (show A.in1.in1.in1.handled = none from hh) (s.heap.push (newS w)).objs.size l nI items) ?_ (by show A.units + 1 + 1 + 1 < cLine; omega) xl (fun i v hv => ?_) (fun x hx => ?_) dl inD items.size 0 _ [] (by omega) (Nat.zero_le _) ⟨⟨_, Heap.get?_push_size _ rfl, rfl, rfl⟩, l1.push _⟩ SI0 (fun p hp => by cases hp) (fun x hx => by simp at hx) (fun x hx => tk_keep (tk x hx) fun o e => up _ o e) fun h' t' ps k1 k2 k3 k4 => ?_
    ·intro hm
     rcases List.mem_cons.mp hm with z | z
     ·rw [Heap.size_push] at z
      exact Nat.succ_ne_self _ z.symm
     ·exact Nat.ne_of_gt lS (List.mem_singleton.mp z)
    ·have e : items.toList[i]? = some v := by rw [Array.getElem?_toList]; exact hv
     rw [hi, List.getElem?_map] at e
     obtain ⟨x, x1, x2⟩ := Option.map_eq_some_iff.mp e
     exact ⟨x, x1, x2.symm⟩
    ·obtain ⟨o, _, _, g1, g2, _⟩ := tk x hx
     have n1 := lt _ o g1
     have n2 : x.1 ≠ l := fun z => by
      rw [z, hol] at g1
      cases Option.some.inj g1
      exact absurd g2 (by simp)
     exact ⟨fun z => n1.1 (List.mem_singleton.mp z), fun z => (List.mem_cons.mp z).elim n1.1 fun y => n2 (List.mem_singleton.mp y), n1.2⟩
    ·exact wpAny_pure (wpAny_pure ⟨rfl, h', t', ps, rfl, fun b o e => k1 b o (fun z => (lt b o e).1 (List.mem_singleton.mp z)) (lt b o e).2 (up b o e), k2, k3, k4⟩)
   ·cases r2 with
    | error e => exact hr2
    | ok f2 =>
     cases f2 with
     | ret r =>
      obtain ⟨rfl, h', t, ps, rfl, k1, k2, k3, k4⟩ := hr2
      repeat (any_goals (first | assumption | wp_step))
      exact q _ _ _ k1 k2 k3 k4
     | _ => exact hr2.elim
  | _ => exact hr.elim
end
end ST
end L2
end
section
set_option Elab.async false
set_option linter.all false
set_option maxRecDepth 100000
namespace L2
open PySem PySem.Spec
open PyProof.Rows hiding Fr News
namespace ST
theorem sl_next : Slot "set_iterator" "__next__" "set_iterator.__next__" := .of (owner := "set_iterator") (n := "__next__") (by rw [typeLookup_type, builtinLookup_eq_fast]; kernel_rfl) (by decide +kernel) (by decide +kernel) (by decide +kernel) (.inl (by decide +kernel)) (by rw [isSubtype_type]; kernel_rfl)
theorem en_next : entryFor table "set_iterator.__next__" = some Builtin.«set_iterator.__next__» := entryFor_of_tree (by kernel_rfl)
theorem en_iter : entryFor table "set.__iter__" = some Builtin.«frozenset.__iter__» := entryFor_alias (id' := "frozenset.__iter__") (by kernel_rfl) rfl (by decide +kernel) (by kernel_rfl)
theorem ar_next (a : Value) : argsOk "set_iterator.__next__" ⟨[a], []⟩ := by
 unfold argsOk
 rw [signature?_of (id := "set_iterator.__next__") (n := ['_', '_', 't', 'x', 'e', 'n', '_', '_']) (o := ['r', 'o', 't', 'a', 'r', 'e', 't', 'i', '_', 't', 'e', 's']) (by kernel_rfl) (show _ = some Manifest.sig_set_iterator by kernel_rfl)]
 kernel_rfl
section
variable {prog : Program} {w : World} {A : Around} {E : Value → Shared → Prop} {s : Shared}
structure SRaw (w : World) (h : Heap) (a : Addr) (es : Array (Int × Value)) (ep : Nat) (t : SetTable) (En : List Ent) : Prop where
 ex : ∃ o, h.get? a = some o ∧ o.ExactSet ∧ o.data = .set es ep t
 fits : t.fits es.size = true
 led : t.led = ledOf w
 tab : Tab t es En
theorem SRaw.keep {h h' : Heap} {a : Addr} {es : Array (Int × Value)} {ep : Nat} {t : SetTable} {En : List Ent} (x : SRaw w h a es ep t En) (f : ∀ o, h.get? a = some o → h'.get? a = some o) : SRaw w h' a es ep t En := ⟨let ⟨o, e, r⟩ := x.ex; ⟨o, f o e, r⟩, x.fits, x.led, x.tab⟩
theorem SRaw.ty {a : Addr} {es : Array (Int × Value)} {ep : Nat} {t : SetTable} {En : List Ent} (x : SRaw w s.heap a es ep t En) : s.TypeIs (.ref a) "set" := let ⟨o, e, r, _⟩ := x.ex; ⟨o, e, r.1⟩
noncomputable def walkOf (w : World) (a : Addr) (ep : Nat) (es : Array (Int × Value)) : Array (Int × Value) := if ledOf w = true then es else pickOrder (w.params.setOrder a ep) es
noncomputable def slotOf (w : World) (En : List Ent) (i : Nat) : Nat := if ledOf w = true ∧ 0 < i then ((En.map (·.1)).getD (i - 1) 0) + 1 else 0
theorem txt_led : w.params.followText "set-order" = !ledOf w := by unfold ledOf; simp
theorem cut_slot {t : SetTable} {es : Array (Int × Value)} {En : List Ent} (T : Tab t es En) {i : Nat} (hi : i ≤ En.length) (L : ledOf w = true) : SetTable.below t.place (slotOf w En i) = i := by
 rw [T.pl]
 have C := below_is (up_of T.up) (slotOf w En i)
 have sz : (slots En).toArray.size = En.length := by unfold slots; simp
 have gd : ∀ (k d : Nat) (h : k < En.length), (slots En).toArray.getD k d = (slots En).getD k 0 := fun k d h => by
  have : k < (slots En).length := by unfold slots; simpa using h
  simp [Array.getD, this]
 unfold slotOf at *
 generalize hb : SetTable.below _ _ = k at *
 rcases Nat.eq_zero_or_pos i with z | z
 ·subst z
  rw [if_neg (by omega)] at C
  rcases Nat.eq_zero_or_pos k with y | y
  ·exact y
  ·have := C.lo 0 y
   omega
 ·rw [if_pos ⟨L, z⟩] at C
  have hp : (slots En).getD (i - 1) 0 = (En.map (·.1)).getD (i - 1) 0 := rfl
  rcases Nat.lt_trichotomy k i with y | y | y
  ·have := C.hi (i - 1) (by omega) (by omega)
   rw [gd _ _ (by omega), hp] at this
   omega
  ·exact y
  ·have c1 := C.lo i y
   have kl := C.le
   have u := up_of T.up (i - 1) i (by omega) (by omega)
   rw [gd _ _ (by omega), gd _ _ (by omega), hp] at u
   rw [gd _ _ (by omega)] at c1
   omega
end
end ST
end L2
end
section
set_option Elab.async false
set_option linter.all false
set_option maxRecDepth 100000
namespace L2
open PySem PySem.Spec
open PyProof.Rows hiding Fr News
namespace ST
section
variable {prog : Program} {w : World} {A : Around} {E : Value → Shared → Prop} {s : Shared} {a it : Addr} {es : Array (Int × Value)} {ep : Nat} {t : SetTable} {En : List Ent}
noncomputable def itObj (w : World) (En : List Ent) (a : Addr) (n ep i : Nat) : Obj := { cls := .type "set_iterator", data := .fields #[.int (slotOf w En i : Nat) 0, .int i 0, .ref a, .int n 0, .int ep 0] }
theorem wp_byText {Q : Bool → Shared → Prop} (q : Q (!ledOf w) s) : wpAny (model prog w) A setsByText Q E s := by
 unfold setsByText
 refine wpAny_bind (wpAny_askSetting (wpAny_pure ?_))
 show Q (w.params.followText "set-order") s
 rw [txt_led]
 exact q
theorem wp_drawn {Q : Bool → Shared → Prop} (x : SRaw w s.heap a es ep t En) (q : Q false s) : wpAny (model prog w) A (setDrawn a) Q E s := by
 obtain ⟨o, h1, _, h3⟩ := x.ex
 unfold setDrawn
 refine wpAny_bind (wpAny_setState_of h1 h3 x.fits (wpAny_bind (wp_byText (wpAny_pure ?_))))
 show Q (!(!ledOf w) && (!t.plain && decide (es.size > 1))) s
 rw [x.tab.plain]
 simpa using q
theorem s_iter {Q : Value → Shared → Prop} (x : SRaw w s.heap a es ep t En) (q : Q (.ref s.heap.objs.size) { s with heap := s.heap.push (itObj w En a es.size ep 0) }) : wpAny (model prog w) A (pyIter (.ref a)) Q E s := by
 obtain ⟨o, h1, _, h3⟩ := x.ex
 refine wpAny_pyIter_slot x.ty PySem.F.slot_set_iter (wpAny_call_entry PySem.F.slot_set_iter x.ty en_iter (show wpAny _ _ (Builtin.«frozenset.__iter__» ⟨[.ref a], []⟩) _ _ s from ?_) (PySem.F.args_set_iter_1 _))
 unfold Builtin.«frozenset.__iter__» Builtin.Frozenset.slot0 slotArgs
 simp only [List.isEmpty_nil, Bool.not_true, Bool.false_eq_true, ↓reduceIte, bind_assoc, List.length_nil, bne_self_eq_false]
 refine wpAny_bind (wpAny_pure ?_)
 unfold Builtin.Frozenset.addrOf Builtin.Frozenset.sizeOf
 refine wpAny_bind (wpAny_pure (wpAny_bind (wpAny_bind (wpAny_setEntries_of h1 h3 x.fits (wpAny_pure (wpAny_bind (wp_drawn x ?_)))))))
 rw [if_neg (by decide)]
 refine wpAny_bind (wpAny_pure (wpAny_bind (wpAny_setEpoch_of h1 h3 x.fits ?_)))
 unfold newFields
 refine wpAny_bind (wpAny_newObj_type (wpAny_pure ⟨_, rfl, "set_iterator", _, ⟨_, Heap.get?_push_size _ rfl, rfl⟩, sl_next.lookup, ?_⟩))
 have e0 : slotOf w En 0 = 0 := if_neg fun z => absurd z.2 (by omega)
 unfold itObj at q
 rw [e0] at q
 exact q
theorem it_ty {i : Nat} (hi : s.heap.get? it = some (itObj w En a es.size ep i)) : s.TypeIs (.ref it) "set_iterator" := ⟨_, hi, rfl⟩
theorem wp_setNext {i : Nat} {Q : Option (Value × Nat) → Shared → Prop} (x : SRaw w s.heap a es ep t En) (le : i ≤ es.size) (q : Q (((walkOf w a ep es)[i]?).map fun e => (e.2, slotOf w En (i + 1))) s) : wpAny (model prog w) A (setNext a (slotOf w En i) i ep) Q E s := by
 obtain ⟨o, h1, _, h3⟩ := x.ex
 have T := x.tab
 have sz : es.size = En.length := by rw [T.en]; simp
 unfold setNext
 refine wpAny_bind (wpAny_setState_of h1 h3 x.fits ?_)
 dsimp only
 refine wpAny_bind (wp_byText ?_)
 cases L : ledOf w with
 | false =>
  rw [if_pos (show (!false) = true from rfl), if_neg (by simp)]
  unfold setWalk
  refine wpAny_bind (wpAny_bind (wpAny_setState_of h1 h3 x.fits (wpAny_bind (wp_byText ?_))))
  rw [L, if_pos (show (!false) = true from rfl)]
  refine wpAny_bind (wpAny_askSetting (wpAny_pure (wpAny_pure ?_)))
  unfold walkOf at q
  rw [L, if_neg (by decide)] at q
  have e1 : slotOf w En (i + 1) = slotOf w En i := by unfold slotOf; rw [L, if_neg (by simp), if_neg (by simp)]
  rw [e1] at q
  exact q
 | true =>
  rw [if_neg (by decide)]
  refine wpAny_ite_split (fun z => absurd (show (!t.plain && decide (es.size > 1)) = true from z) (by rw [T.plain]; simp)) (fun _ => ?_)
  refine wpAny_bind (show wpAny _ _ (if (!t.led && !es.isEmpty) = true then unsupported "set:maker-not-led" else pure ()) _ _ _ from ?_)
  rw [x.led, L, if_neg (by simp)]
  refine wpAny_pure (wpAny_pure ?_)
  rw [cut_slot T (by omega) L]
  unfold walkOf at q
  rw [if_pos L] at q
  rcases Nat.lt_or_ge i es.size with z | z
  ·have p1 : t.place[i]? = some ((En.map (·.1)).getD i 0) := by
    rw [T.pl, List.getElem?_toArray]
    unfold slots
    have hl : i < (En.map (·.1)).length := by simp; omega
    rw [List.getElem?_eq_getElem hl, List.getD_eq_getElem?_getD, List.getElem?_eq_getElem hl]
    rfl
   have e1 : slotOf w En (i + 1) = (En.map (·.1)).getD i 0 + 1 := by unfold slotOf; rw [if_pos ⟨L, by omega⟩]; rfl
   rw [e1, Array.getElem?_eq_getElem z] at q
   rw [p1, Array.getElem?_eq_getElem z]
   exact q
  ·rw [Array.getElem?_eq_none z] at q ⊢
   exact q
theorem s_next {Q : Option Value → Shared → Prop} {i : Nat} {e : Int × Value} (hi : s.heap.get? it = some (itObj w En a es.size ep i)) (x : SRaw w s.heap a es ep t En) (hv : (walkOf w a ep es)[i]? = some e) (lt : i < es.size)
  (q : ∀ h', h'.get? it = some (itObj w En a es.size ep (i + 1)) → Heap.SameBut it s.heap h' → Q (some e.2) { s with heap := h' }) : wpAny (model prog w) A (pyNext (.ref it)) Q E s := by
 obtain ⟨o, h1, _, h3⟩ := x.ex
 unfold pyNext
 refine wpAny_bind (wpAny_attempt (wpAny_callSpecial?_slot (name := Str.ofString "__next__") (it_ty hi) sl_next (wpAny_call_entry sl_next (it_ty hi) en_next (show wpAny _ _ (Builtin.«set_iterator.__next__» ⟨[.ref it], []⟩) _ _ s from ?_) (ar_next _))))
 unfold Builtin.«set_iterator.__next__»
 refine wpAny_bind (wpAny_pure (wpAny_bind (wpAny_fieldsOf hi rfl ?_)))
 dsimp only
 refine wpAny_bind (wpAny_setEntries_of h1 h3 x.fits ?_)
 rw [if_neg (by simp)]
 simp only [Int.toNat_natCast]
 refine wpAny_bind (wp_setNext x (Nat.le_of_lt lt) ?_)
 rw [hv]
 dsimp only [Option.map_some]
 refine wpAny_bind (wpAny_setField hi rfl (by simp) ?_)
 have g1 : (s.heap.update it (Obj.mapFields fun x => x.setIfInBounds 0 (rawInt (slotOf w En (i + 1) : Nat)))).get? it = some { cls := .type "set_iterator", data := .fields #[.int (slotOf w En (i + 1) : Nat) 0, .int i 0, .ref a, .int es.size 0, .int ep 0] } := by
  rw [Heap.get?_update_self _ hi (by rfl)]
  rfl
 refine wpAny_bind (wpAny_setField (s := { s with heap := s.heap.update it (Obj.mapFields fun x => x.setIfInBounds 0 (rawInt (slotOf w En (i + 1) : Nat))) }) g1 rfl (by simp) (wpAny_pure ⟨_, rfl, wpAny_pure (q _ ?_ ?_)⟩))
 ·rw [Heap.get?_update_self _ g1 (by rfl)]
  rfl
 ·exact (Heap.SameBut.update ..).trans (Heap.SameBut.update ..)
theorem erase_perm {α : Type} {l : List α} {i : Nat} (h : i < l.length) : (l[i] :: l.eraseIdx i).Perm l := by
 rw [List.eraseIdx_eq_take_drop_succ]
 refine List.perm_middle.symm.trans ?_
 rw [← List.drop_eq_getElem_cons h, List.take_append_drop]
theorem pick_go {α : Type} (nx : Nat → Nat) : ∀ (f k : Nat) (left : List α) (out : Array α), left.length = f → ∃ p : List α, p.Perm left ∧ (pickOrder.go nx f k left out).toList = out.toList ++ p
 | 0, k, left, out, e => ⟨[], by rw [List.eq_nil_of_length_eq_zero e], by unfold pickOrder.go; simp⟩
 | f + 1, k, left, out, e => by
  have lt : nx k % left.length < left.length := Nat.mod_lt _ (by omega)
  unfold pickOrder.go
  rw [List.getElem?_eq_getElem lt]
  dsimp only
  obtain ⟨p, p1, p2⟩ := pick_go nx f (k + 1) (left.eraseIdx (nx k % left.length)) (out.push left[nx k % left.length]) (by rw [List.length_eraseIdx, if_pos lt]; omega)
  refine ⟨left[nx k % left.length] :: p, (p1.cons _).trans (erase_perm lt), ?_⟩
  rw [p2]
  simp
theorem walk_perm : (walkOf w a ep es).toList.Perm es.toList := by
 unfold walkOf
 split
 ·exact .refl _
 ·obtain ⟨p, p1, p2⟩ := pick_go (w.params.setOrder a ep) es.size 0 es.toList #[] (by simp)
  unfold pickOrder
  rw [p2]
  simpa using p1
theorem walk_size : (walkOf w a ep es).size = es.size := by
 have := (walk_perm (w := w) (a := a) (ep := ep) (es := es)).length_eq
 simpa using this
theorem s_end {Q : Option Value → Shared → Prop} (hh : A.handled = none) (hi : s.heap.get? it = some (itObj w En a es.size ep es.size)) (x : SRaw w s.heap a es ep t En)
  (q : ∀ h', Heap.ExtBut it s.heap h' → Q none { s with heap := h' }) : wpAny (model prog w) A (pyNext (.ref it)) Q E s := by
 obtain ⟨o, h1, _, h3⟩ := x.ex
 unfold pyNext
 refine wpAny_bind (wpAny_attempt (wpAny_callSpecial?_slot (name := Str.ofString "__next__") (it_ty hi) sl_next (wpAny_call_entry sl_next (it_ty hi) en_next (show wpAny _ _ (Builtin.«set_iterator.__next__» ⟨[.ref it], []⟩) _ _ s from ?_) (ar_next _))))
 unfold Builtin.«set_iterator.__next__»
 refine wpAny_bind (wpAny_pure (wpAny_bind (wpAny_fieldsOf hi rfl ?_)))
 dsimp only
 refine wpAny_bind (wpAny_setEntries_of h1 h3 x.fits ?_)
 rw [if_neg (by simp)]
 simp only [Int.toNat_natCast]
 refine wpAny_bind (wp_setNext x (Nat.le_refl _) ?_)
 rw [Array.getElem?_eq_none (by rw [walk_size]; exact Nat.le_refl _)]
 dsimp only [Option.map_none]
 refine wpAny_bind (wpAny_setField hi rfl (by simp) (wpAny_bind ?_))
 unfold newExc newTuple
 refine wpAny_bind (wpAny_newObj_type (wpAny_bind (m := firstArgMember _ _) (wpAny_of_eq (a := Value.none) rfl (wpAny_newObj_type (show wpAny _ _ (raiseNew _) _ _ _ from ?_) (by size_fits)))) (by size_fits))
 unfold raiseNew
 refine wpAny_bind (wpAny_handled ?_)
 rw [show A.in1.handled = none from hh]
 refine wpAny_bind (wpAny_pure (wpAny_throw ?_))
 exact wpAny_bind (wpAny_isInstance (T := "StopIteration") (b := true) ⟨_, Heap.get?_push_size _ rfl, rfl⟩ isSubtype_stop (wpAny_pure (q _ (((Heap.SameBut.update ..).extBut.push _).push _))))
theorem sl_self : Slot "set_iterator" "__iter__" "set_iterator.__iter__" := .of (owner := "set_iterator") (n := "__iter__") (by rw [typeLookup_type, builtinLookup_eq_fast]; kernel_rfl) (by decide +kernel) (by decide +kernel) (by decide +kernel) (.inl (by decide +kernel)) (by rw [isSubtype_type]; kernel_rfl)
theorem en_self : entryFor table "set_iterator.__iter__" = some Builtin.«dict_keyiterator.__iter__» := entryFor_alias (id' := "dict_keyiterator.__iter__") (by kernel_rfl) rfl (by decide +kernel) (by kernel_rfl)
theorem ar_self (a : Value) : argsOk "set_iterator.__iter__" ⟨[a], []⟩ := by
 unfold argsOk
 rw [signature?_of (id := "set_iterator.__iter__") (n := ['_', '_', 'r', 'e', 't', 'i', '_', '_']) (o := ['r', 'o', 't', 'a', 'r', 'e', 't', 'i', '_', 't', 'e', 's']) (by kernel_rfl) (show _ = some Manifest.sig_set_iterator by kernel_rfl)]
 kernel_rfl
theorem s_self {Q : Value → Shared → Prop} {i : Nat} (hi : s.heap.get? it = some (itObj w En a es.size ep i)) (q : Q (.ref it) s) : wpAny (model prog w) A (pyIter (.ref it)) Q E s := by
 refine wpAny_pyIter_slot (it_ty hi) sl_self (wpAny_call_entry sl_self (it_ty hi) en_self (show wpAny _ _ (ret (.ref it)) _ _ s from ?_) (ar_self _))
 exact wpAny_pure ⟨_, rfl, "set_iterator", _, it_ty hi, sl_next.lookup, q⟩
theorem s_walk (hh : A.handled = none) (I a : Addr) (ne : a ≠ I) (es : Array (Int × Value)) (ep : Nat) (t : SetTable) (En : List Ent) : Walks prog w A I [I, a] [I] es.size (fun i v => ∃ e, (walkOf w a ep es)[i]? = some e ∧ v = e.2) (fun i h => h.get? I = some (itObj w En a es.size ep i) ∧ SRaw w h a es ep t En) where
 sub := fun b hb => by simp at hb; simp [hb]
 frame := fun _ _ _ st hk => ⟨hk I (by simp) _ st.1, st.2.keep fun o e => hk a (by simp) o e⟩
 item := fun i s Q E hi st hQ => by
  have lt : i < (walkOf w a ep es).size := by rw [walk_size]; exact hi
  exact s_next st.1 st.2 (Array.getElem?_eq_getElem lt) hi fun h' h1 h2 => hQ _ h' s.toks ⟨_, Array.getElem?_eq_getElem lt, rfl⟩ ⟨h1, st.2.keep fun o e => h2.extBut a o ne e⟩ fun b o hb e => h2.extBut b o (fun z => hb (by simp [z])) e
 done := fun s Q E st hQ => s_end hh st.1 st.2 fun h' he => hQ h' s.toks fun b o hb e => he b o (fun z => hb (by simp [z])) e
 self := fun _ _ _ _ st hQ => s_self st.1 hQ
theorem s_hint {Q : Bool → Shared → Prop} (hT : s.TypeIs (.ref a) "set") (q : Q false s) : wpAny (model prog w) A (Builtin.List.listLengthHint (.ref a)) Q E s := by
 unfold Builtin.List.listLengthHint
 refine wpAny_bind (wpAny_specialOf hT PySem.F.slot_set_len.lookup ?_)
 generalize hid : ("set.__len__" : String) = i0
 wp_delta
 rw [show splitId i0 = some ("set", "__len__") from by subst hid; decide +kernel]
 subst hid
 refine wpAny_bind (wpAny_isInstance (T := "set") (b := true) hT sub_set_self ?_)
 refine wpAny_ite_split (fun z => absurd z (by decide)) fun _ => wpAny_ite_split (fun _ => wpAny_bind (wpAny_typeOf hT (wpAny_pure q))) fun z => absurd (by decide +kernel) z
theorem s_src {a : Addr} {es : Array (Int × Value)} {ep : Nat} {t : SetTable} {En : List Ent} : PySem.W.KdlSrc prog w "set" a a es.size (fun i v => ∃ e, (walkOf w a ep es)[i]? = some e ∧ v = e.2) (fun h => SRaw w h a es ep t En) where
 type := fun s x => x.ty
 there := fun h x => let ⟨_, e, _⟩ := x.ex; ⟨Heap.lt_size e, Heap.lt_size e⟩
 keep := fun h h' x k => x.keep (k a (.inl rfl))
 notList := rfl
 notTuple := rfl
 hint := fun A E s Q x q => s_hint x.ty q
 iter := fun A s hh x => ⟨_, _, fun E Q q => s_iter x q, s_walk hh _ a (let ⟨_, e, _⟩ := x.ex; Nat.ne_of_lt (Heap.lt_size e)) es ep t En, Heap.get?_push_size _ rfl, x.keep fun o e => Heap.get?_push_of_some _ e⟩
theorem vals_of {acc : Array Value} (itm : ItemsOf (fun i v => ∃ e, (walkOf w a ep es)[i]? = some e ∧ v = e.2) acc es.size) : acc.toList = (walkOf w a ep es).toList.map (·.2) := by
 refine List.ext_getElem? fun i => ?_
 rw [Array.getElem?_toList, List.getElem?_map, Array.getElem?_toList]
 by_cases lt : i < es.size
 ·have la : i < acc.size := by rw [itm.1]; exact lt
  obtain ⟨e, e1, e2⟩ := itm.2 i acc[i] (Array.getElem?_eq_getElem la)
  rw [Array.getElem?_eq_getElem la, e1, e2, Option.map_some]
 ·rw [Array.getElem?_eq_none (by rw [itm.1]; omega), Array.getElem?_eq_none (by rw [walk_size]; omega), Option.map_none]
theorem collect_set {Q : List Value → Shared → Prop} (hh : A.handled = none) (x : SRaw w s.heap a es ep t En) (few : es.size ≤ sizeLine)
  (q : ∀ h' tk, (∀ b o, s.heap.get? b = some o → h'.get? b = some o) → s.heap.objs.size < h'.objs.size → Q ((walkOf w a ep es).toList.map (·.2)) { s with heap := h', toks := tk }) : wpAny (model prog w) A (collect (.ref a)) Q E s := by
 have ia : ∀ {R : Result → Shared → Prop} {s' : Shared} {S : Addr}, SRaw w s'.heap a es ep t En → S ≠ a → s'.heap.get? S = some (seqObj "list" #[] 0) → (∀ h' tk acc c, (∀ b o, b ≠ S → s'.heap.get? b = some o → h'.get? b = some o) → h'.get? S = some (seqObj "list" acc c) → acc.toList = (walkOf w a ep es).toList.map (·.2) → R (.ok (.ret (.ref S))) { s' with heap := h', toks := tk }) → codeAny (model prog w) A (.builtin "list.__iadd__" ⟨[.ref S, .ref a], []⟩) R s' := fun {R s' S} x' nl at0 q' => by
  refine codeAny_builtin entry_list_iadd' (show wpAny _ _ (Builtin.List.listExtendWith (.ref S) (.ref a) (.ref S)) _ _ s' from ?_)
  rw [Around.under_plainId (show plainId "list.__iadd__" = true by decide +kernel) _]
  exact PySem.W.kdl_extend s_src hh x' S nl nl _ 0 at0 (fun h' tk acc c k1 k2 itm => q' h' tk acc c k1 k2 (vals_of itm)) few
 unfold collect
 refine wpAny_bind (wpAny_runValue (codeAny_builtin entry_proto_collect' (show wpAny _ _ (do again (.builtin "list.__iadd__" ⟨[← newList [], .ref a], []⟩)) _ _ s from ?_)))
 refine wpAny_bind (wpAny_newList (wpAny_pure ⟨Code.quiet_builtin _ (by decide +kernel), ia (s' := { s with heap := s.heap.push (seqObj "list" #[] 0) }) (x.keep fun o e => Heap.get?_push_of_some _ e) (let ⟨_, e, _⟩ := x.ex; Nat.ne_of_gt (Heap.lt_size e)) (Heap.get?_push_size _ rfl) fun h' tk acc c k1 k2 k3 => ?_⟩))
 show wpAny (model prog w) A (do { let o ← load s.heap.objs.size; match o.data with | .seq xs _ => pure xs.toList | _ => unsupported "internal:collect" }) Q E { s with heap := h', toks := tk }
 refine wpAny_bind (wpAny_load k2 (show wpAny _ _ (pure acc.toList) Q E _ from wpAny_pure ?_))
 rw [k3]
 exact q h' tk (fun b o e => k1 b o (Nat.ne_of_lt (Heap.lt_size e)) (Heap.get?_push_of_some _ e)) (Heap.lt_size k2)
end
end ST
end L2
end
section
set_option Elab.async false
set_option linter.all false
set_option maxRecDepth 100000
namespace L2
open PySem PySem.Spec
open PyProof.Rows hiding Fr News
noncomputable def ev {α : Type} (lt : Nat → Nat → Bool) : PySem.W.KasT α → α
 | .ret a => a
 | .ask i j k => ev lt (k (lt i j))
theorem Asks.ev {n : Nat} {α : Type} {P : α → Prop} {lt : Nat → Nat → Bool} : ∀ {t : PySem.W.KasT α}, Asks n P t → P (ev lt t)
 | .ret _, h => h
 | .ask _ _ _, h => (h.2 _).ev
theorem Asks.same {n : Nat} {α : Type} {P : α → Prop} {lt lt' : Nat → Nat → Bool} (e : ∀ i j, i < n → j < n → lt i j = lt' i j) : ∀ {t : PySem.W.KasT α}, Asks n P t → L2.ev lt t = L2.ev lt' t
 | .ret _, _ => rfl
 | .ask i j k, h => by
  show L2.ev lt (k (lt i j)) = L2.ev lt' (k (lt' i j))
  rw [e i j h.1.1 h.1.2]
  exact (h.2 _).same e
theorem Asks.by {n : Nat} {α : Type} {P : α → Prop} {lt : Nat → Nat → Bool} {cmp : Nat → Nat → (Bool → Shared → Prop) → Shared → Prop} {s : Shared} (hc : ∀ i j C, i < n → j < n → C (lt i j) s → cmp i j C s) {Q : α → Shared → Prop} : ∀ {t : PySem.W.KasT α}, Asks n P t → Q (L2.ev lt t) s → t.kasWp cmp Q s
 | .ret _, _, q => q
 | .ask i j k, h, q => hc i j _ h.1.1 h.1.2 ((h.2 _).by hc q)
noncomputable def tab4 (a b c d e f : Bool) (i j : Nat) : Bool :=
 match i, j with
 | 0, 1 => a | 0, 2 => b | 0, 3 => c | 1, 2 => d | 1, 3 => e | 2, 3 => f
 | 1, 0 => !a | 2, 0 => !b | 3, 0 => !c | 2, 1 => !d | 3, 1 => !e | 3, 2 => !f
 | _, _ => false
noncomputable def transB (n : Nat) (lt : Nat → Nat → Bool) : Bool := (List.range n).all fun i => (List.range n).all fun j => (List.range n).all fun k => !(lt i j && lt j k) || lt i k
noncomputable def risesB (lt : Nat → Nat → Bool) : List Nat → Bool
 | x :: y :: l => lt x y && risesB lt (y :: l)
 | _ => true
theorem four : ∀ (n : _root_.Fin 5) (a b c d e f : Bool), transB n.val (tab4 a b c d e f) = true → risesB (tab4 a b c d e f) (ev (tab4 a b c d e f) (PySem.W.kas_sort n.val)).toList = true := by decide +kernel
noncomputable def lexT : List Int → List Int → Bool
 | n :: ns, m :: ms => if n = m then lexT ns ms else decide (n < m)
 | _, _ => false
noncomputable def lexF (f : Bool) : List Int → List Int → Bool
 | n :: ns, m :: ms => if n = m then lexF f ns ms else decide (n < m)
 | _, _ => f
theorem lexF_eq : ∀ {ns ms : List Int}, ns.length = ms.length → lexF false ns ms = lexT ns ms
 | [], [], _ => rfl
 | n :: ns, m :: ms, e => by
  show (if n = m then lexF false ns ms else _) = if n = m then lexT ns ms else _
  rw [lexF_eq (by simpa using e)]
section
variable {prog : Program} {w : World} {s : Shared}
theorem cmp_exact {A : Around} {fin : Bool} {Q : Bool → Shared → Prop} : ∀ {xs ys : List Value} {ns ms : List Int} (i : Nat), IntsAre xs ns → IntsAre ys ms → Q (lexF fin ns ms) s → PySem.W.KatLex prog w A true fin Q (xs.zip ys) i s
 | _, _, _, _, _, .nil, _, q => PySem.W.kat_nil (by cases ‹List Int› <;> exact q)
 | _, _, _, _, _, .cons _ _ _, .nil, q => PySem.W.kat_nil q
 | _, _, _, _, i, .cons n t hx, .cons m u hy, q => by
  unfold lexF at q
  refine PySem.W.kat_cons (wpAny_eqBool_int (PySem.W.kat_go (fun c => PySem.W.kat_yes (cmp_exact (i + 1) hx hy ?_)) fun c => PySem.W.kat_no ?_))
  ·rw [if_pos (of_decide_eq_true c)] at q
   exact q
  ·rw [if_neg (of_decide_eq_false c)] at q
   cases z : (true && i == 0) with
   | true => exact oneLt_int q
   | false => exact PySem.W.kat_one _ _ (int_lt (n := n) (m := m) ⟨t, rfl⟩ ⟨u, rfl⟩ prog w _ _ q)
noncomputable def orderOf (ks : List (List Int)) : Array Nat := ev (fun i j => lexT (ks.getD i []) (ks.getD j [])) (PySem.W.kas_sort ks.length)
structure Keys (h : Heap) (vs : List Value) (ks : List (List Int)) : Prop where
 len : ks.length = vs.length
 at_ : ∀ i, i < vs.length → ∃ t its, vs.getD i .none = .ref t ∧ IsTup h t its.toArray ∧ IntsAre its (ks.getD i [])
 two : ∀ i j, i < vs.length → j < vs.length → (ks.getD i []).length = (ks.getD j []).length
theorem Keys.keep {h h' : Heap} {vs : List Value} {ks : List (List Int)} (D : Keys h vs ks) (k : ∀ b o, (∃ v ∈ vs, v = .ref b) → h.get? b = some o → h'.get? b = some o) : Keys h' vs ks :=
 ⟨D.len, fun i hi => by
  obtain ⟨t, its, e, ⟨o, ho, r⟩, I⟩ := D.at_ i hi
  exact ⟨t, its, e, ⟨o, k t o ⟨_, List.getElem_mem hi, by simpa [List.getD_eq_getElem?_getD, hi] using e⟩ ho, r⟩, I⟩, D.two⟩
theorem Keys.pn {h : Heap} {vs : List Value} {ks : List (List Int)} (D : Keys h vs ks) : Pn vs.length (orderOf ks) := by
 unfold orderOf
 rw [← D.len]
 rcases Nat.eq_zero_or_pos ks.length with z | z
 ·rw [z]
  exact Array.Perm.refl _
 ·exact Asks.ev (as_sort z)
theorem sort_tupsL {A : Around} {E : Value → Shared → Prop} {a : Addr} {vs : List Value} {n : Nat} {P : Fin → Shared → Prop} (ho : s.heap.get? a = some (seqObj "list" vs.toArray n)) (T : ∀ v ∈ vs, TupI s.heap v) (few : vs.length < 64) {ks : List (List Int)} (D : Keys s.heap vs ks)
  (out : P (.done (.ret .none)) { s with heap := sortedHeap s.heap a vs ((orderOf ks).toList.map fun i => vs.getD i .none).toArray }) : wpAny (model prog w) A (Builtin.«list.sort» ⟨[.ref a], []⟩) P E s := by
 have small : ∀ k, k < 64 → k ≤ sizeLine := fun k hk => by rw [sizeLine_eq]; omega
 have la := Heap.lt_size ho
 obtain ⟨e, he⟩ : ∃ e, (s.heap.update a (Obj.mapSeq fun _ => (#[] : Array Value))).get? a = some (seqObj "list" #[] e) := ⟨_, get?_update_seq ho _⟩
 let mid : Heap := ((s.heap.update a (Obj.mapSeq fun _ => (#[] : Array Value))).push (seqObj "tuple" vs.toArray 0)).push (seqObj "list" #[] 0)
 have amid : mid.get? a = some (seqObj "list" #[] e) := Heap.get?_push_of_some _ (Heap.get?_push_of_some _ he)
 have Tm : ∀ v ∈ vs, TupI mid v := fun v hv => (T v hv).keep fun b o eb q => by
  have nb : b ≠ a := fun z => by
   obtain ⟨t, its, n', ns, e1, ⟨o', h1, h2, _⟩, _⟩ := T v hv
   rw [eb] at e1
   cases e1
   rw [z, ho] at h1
   cases h1
   exact nomatch (show Value.type "list" = Value.type "tuple" from h2)
  exact Heap.get?_push_of_some _ (Heap.get?_push_of_some _ ((Heap.get?_update_ne _ _ _ _ nb).trans q))
 rw [list_sort_plain]
 refine wpAny_bind (listItems_at ho rfl (wpAny_bind (listUpdate_at ho rfl (wpAny_bind (seqEpoch_at he rfl (wpAny_bind (wpAny_newTuple (wpAny_bind (wpAny_newList (wpAny_holding (show wpAny (model prog w) A _ P E { s with heap := mid } from ?_)) (Nat.zero_le _))) (small _ few))))) (small _ (by simpa using few)) (Nat.zero_le _))))
 have told : ∀ (st : SortSt) (p : Array Nat), arrOf st = p.map (PySem.W.kas_item (vs.toArray.zip vs.toArray)) → (arrOf st).map (·.2) = (p.toList.map fun i => vs.getD i .none).toArray := fun st p har => PySem.W.kat_snds rfl har
 have fits : ∀ p : Array Nat, Pn vs.length p → ((p.toList.map fun i => vs.getD i .none).toArray).size ≤ sizeLine + 1 := fun p hp => Nat.le_succ_of_le (small _ (by simp [hp.size]; exact few))
 have same : (e != e) = false := by simp
 by_cases two : vs.toArray.size < 2
 ·have two' : vs.length < 2 := by simpa using two
  rw [if_pos two, if_pos two]
  have one : vs.toArray.zip vs.toArray = (List.range vs.length).toArray.map (PySem.W.kas_item (vs.toArray.zip vs.toArray)) := by
   match vs, two' with
   | [], _ => simp
   | [v], _ => simp [PySem.W.kas_item]
  refine wpAny_bind (wpAny_pure (show wpAny _ _ (((pure () : StateT SortSt Sem Unit).run _) >>= _) P E _ from ?_))
  rw [StateT.run_pure]
  refine wpAny_bind (wpAny_pure (wpAny_bind (seqEpoch_at amid rfl (wpAny_bind ?_))))
  rw [same, told (SortSt.mk' general' (vs.toArray.zip vs.toArray) #[] 7 none) _ one]
  have o1 : (List.range vs.length).toArray = orderOf ks := by
   unfold orderOf
   rw [D.len]
   match vs, two' with
   | [], _ => rfl
   | [v], _ => rfl
  exact listUpdate_at amid rfl (wpAny_pure (by rw [o1]; exact out)) (Nat.zero_le _) (fits _ (Array.Perm.refl _))
 ·rw [if_neg two, if_neg two]
  have two' : 2 ≤ vs.length := by simpa using two
  obtain ⟨fs, f1, f2, f3⟩ := firsts_tup Tm
  refine wpAny_bind (PySem.W.kat_kind (T := Value.type "int") f1 (by omega) (fun v hv => by obtain ⟨_, _, rfl⟩ := f3 v hv; exact PySem.W.Looks.of_pure rfl) rfl ?_)
  refine wpAny_bind (wpAny_mono (PySem.W.kat_run (ks := vs) (Q := fun st s' => s' = { s with heap := mid } ∧ ∃ p, arrOf st = p.map (PySem.W.kas_item (vs.toArray.zip vs.toArray)) ∧ failedOf st = none ∧ p = orderOf ks) (G := fun p s' => s' = { s with heap := mid } ∧ p = orderOf ks)
   rfl two' few (fun p st s' _ b c d => ⟨d.1, p, b, c, d.2⟩) (Asks.by (n := vs.length) (P := Pn vs.length) (lt := fun i j => lexT (ks.getD i []) (ks.getD j [])) (fun i j C hi hj q => ?_) (as_sort (by omega)) ⟨rfl, by unfold orderOf; rw [D.len]⟩)) (fun r s' h => ?_) fun _ _ x => x)
  ·have D1 : Keys mid vs ks := D.keep fun b o eb e => by
    obtain ⟨v, hv, eb⟩ := eb
    have nb : b ≠ a := fun z => by
     obtain ⟨t, its, n', ns, e1, ⟨o', h1, h2, _⟩, _⟩ := T v hv
     rw [eb] at e1
     cases e1
     rw [z, ho] at h1
     cases h1
     exact nomatch (show Value.type "list" = Value.type "tuple" from h2)
    exact Heap.get?_push_of_some _ (Heap.get?_push_of_some _ ((Heap.get?_update_ne _ _ _ _ nb).trans e))
   obtain ⟨t, xs, t1, ⟨o, t2, _, c, t3⟩, t4⟩ := D1.at_ i hi
   obtain ⟨u, ys, u1, ⟨o', u2, _, d, u3⟩, u4⟩ := D1.at_ j hj
   show wpAny (model prog w) A (keyLt' (tuples' true) (vs.getD i .none) (vs.getD j .none)) C (fun _ _ => False) { s with heap := mid }
   rw [t1, u1]
   have sl := D.two i j hi hj
   have l1 := t4.length
   have l2 := u4.length
   refine PySem.W.kat_lt t2 t3 u2 u3 (cmp_exact 0 t4 u4 ?_)
   rw [show (decide ((xs.toArray).size < (ys.toArray).size)) = false from decide_eq_false (by simp; omega), lexF_eq sl]
   exact q
  ·obtain ⟨⟨⟩, st⟩ := r
   obtain ⟨rfl, p, h1, h2, h3⟩ := h
   refine wpAny_bind (seqEpoch_at amid rfl (wpAny_bind ?_))
   rw [same, told st p h1, h2]
   exact listUpdate_at amid rfl (wpAny_pure (by rw [h3]; exact out)) (Nat.zero_le _) (fits p (by rw [h3]; exact D.pn))
end
end L2
end
section
set_option Elab.async false
set_option linter.all false
set_option maxRecDepth 100000
namespace L2
open PySem PySem.Spec
open PyProof.Rows hiding Fr News
theorem lexT_refl : ∀ x : List Int, lexT x x = false
 | [] => rfl
 | n :: ns => by show (if n = n then lexT ns ns else _) = false; rw [if_pos rfl]; exact lexT_refl ns
theorem lexT_anti : ∀ {x y : List Int}, x.length = y.length → x ≠ y → lexT y x = !lexT x y
 | [], [], _, n => absurd rfl n
 | a :: x, b :: y, e, n => by
  show (if b = a then lexT y x else decide (b < a)) = !(if a = b then lexT x y else decide (a < b))
  by_cases c : a = b
  ·subst c
   rw [if_pos rfl, if_pos rfl]
   exact lexT_anti (by simpa using e) fun z => n (by rw [z])
  ·rw [if_neg c, if_neg (fun z => c z.symm)]
   by_cases d : a < b
   ·rw [decide_eq_true d, decide_eq_false (by omega)]; rfl
   ·rw [decide_eq_false d, decide_eq_true (by omega)]; rfl
theorem lexT_trans : ∀ {x y z : List Int}, x.length = y.length → y.length = z.length → lexT x y = true → lexT y z = true → lexT x z = true
 | [], _, _, _, _, h, _ => by cases ‹List Int› <;> exact absurd h (by simp [lexT])
 | a :: x, [], _, e, _, _, _ => by simp at e
 | a :: x, b :: y, [], _, e, _, _ => by simp at e
 | a :: x, b :: y, c :: z, e1, e2, h1, h2 => by
  have h1' : (if a = b then lexT x y else decide (a < b)) = true := h1
  have h2' : (if b = c then lexT y z else decide (b < c)) = true := h2
  show (if a = c then lexT x z else decide (a < c)) = true
  by_cases p : a = b
  ·subst p
   rw [if_pos rfl] at h1'
   by_cases q : a = c
   ·subst q
    rw [if_pos rfl] at h2' ⊢
    exact lexT_trans (by simpa using e1) (by simpa using e2) h1' h2'
   ·rw [if_neg q] at h2' ⊢
    exact h2'
  ·rw [if_neg p] at h1'
   have l1 := of_decide_eq_true h1'
   by_cases q : b = c
   ·subst q
    rw [if_neg p]
    exact h1'
   ·rw [if_neg q] at h2'
    have l2 := of_decide_eq_true h2'
    rw [if_neg (by omega)]
    exact decide_eq_true (by omega)
theorem order_rises {ks : List (List Int)} {m : Nat} (l4 : ks.length ≤ 4) (one : ∀ k ∈ ks, k.length = m) (nd : ks.Nodup) : ((orderOf ks).toList.map fun i => ks.getD i []).Pairwise fun x y => lexT x y = true := by
 have at1 : ∀ i, i < ks.length → (ks.getD i []).length = m := fun i hi => one _ (by rw [List.getD_eq_getElem?_getD, List.getElem?_eq_getElem hi]; exact List.getElem_mem hi)
 have ne : ∀ i j, i < ks.length → j < ks.length → i ≠ j → ks.getD i [] ≠ ks.getD j [] := fun i j hi hj z e => by
  rw [List.getD_eq_getElem?_getD, List.getD_eq_getElem?_getD, List.getElem?_eq_getElem hi, List.getElem?_eq_getElem hj] at e
  exact z ((List.getElem_inj nd).mp e)
 have anti : ∀ i j, i < ks.length → j < ks.length → i ≠ j → lexT (ks.getD j []) (ks.getD i []) = !lexT (ks.getD i []) (ks.getD j []) := fun i j hi hj z => lexT_anti (by rw [at1 i hi, at1 j hj]) (ne i j hi hj z)
 have same : ∀ i j, i < ks.length → j < ks.length → lexT (ks.getD i []) (ks.getD j []) = tab4 (lexT (ks.getD 0 []) (ks.getD 1 [])) (lexT (ks.getD 0 []) (ks.getD 2 [])) (lexT (ks.getD 0 []) (ks.getD 3 [])) (lexT (ks.getD 1 []) (ks.getD 2 [])) (lexT (ks.getD 1 []) (ks.getD 3 [])) (lexT (ks.getD 2 []) (ks.getD 3 [])) i j := fun i j hi hj => by
  have i4 : i = 0 ∨ i = 1 ∨ i = 2 ∨ i = 3 := by omega
  have j4 : j = 0 ∨ j = 1 ∨ j = 2 ∨ j = 3 := by omega
  rcases i4 with rfl | rfl | rfl | rfl <;> rcases j4 with rfl | rfl | rfl | rfl
  all_goals first
   | exact lexT_refl _
   | rfl
   | exact anti _ _ hj hi (by decide)
 generalize ht : tab4 (lexT (ks.getD 0 []) (ks.getD 1 [])) (lexT (ks.getD 0 []) (ks.getD 2 [])) (lexT (ks.getD 0 []) (ks.getD 3 [])) (lexT (ks.getD 1 []) (ks.getD 2 [])) (lexT (ks.getD 1 []) (ks.getD 3 [])) (lexT (ks.getD 2 []) (ks.getD 3 [])) = tb at same
 have tr : transB ks.length tb = true := by
  unfold transB
  simp only [List.all_eq_true, List.mem_range, Bool.or_eq_true, Bool.not_eq_true', Bool.and_eq_false_iff]
  intro i hi j hj k hk
  rw [← same i j hi hj, ← same j k hj hk, ← same i k hi hk]
  by_cases c : lexT (ks.getD i []) (ks.getD j []) = true
  ·by_cases d : lexT (ks.getD j []) (ks.getD k []) = true
   ·exact .inr (lexT_trans (by rw [at1 i hi, at1 j hj]) (by rw [at1 j hj, at1 k hk]) c d)
   ·exact .inl (.inr (by simpa using d))
  ·exact .inl (.inl (by simpa using c))
 have f := four ⟨ks.length, by omega⟩ (lexT (ks.getD 0 []) (ks.getD 1 [])) (lexT (ks.getD 0 []) (ks.getD 2 [])) (lexT (ks.getD 0 []) (ks.getD 3 [])) (lexT (ks.getD 1 []) (ks.getD 2 [])) (lexT (ks.getD 1 []) (ks.getD 3 [])) (lexT (ks.getD 2 []) (ks.getD 3 [])) (by rw [ht]; exact tr)
 rw [ht] at f
 have pn : Pn ks.length (orderOf ks) := by
  unfold orderOf
  rcases Nat.eq_zero_or_pos ks.length with z | z
  ·rw [z]; exact Array.Perm.refl _
  ·exact Asks.ev (as_sort z)
 have eo : ev tb (PySem.W.kas_sort ks.length) = orderOf ks := by
  unfold orderOf
  rcases Nat.eq_zero_or_pos ks.length with z | z
  ·rw [z]; rfl
  ·exact ((as_sort z).same fun i j hi hj => same i j hi hj).symm
 simp only at f
 rw [eo] at f
 have lt : ∀ i ∈ (orderOf ks).toList, i < ks.length := fun i hi => by simpa using (Array.perm_iff_toList_perm.mp pn).mem_iff.mp hi
 have go : ∀ l : List Nat, (∀ i ∈ l, i < ks.length) → risesB tb l = true → (l.map fun i => ks.getD i []).Pairwise fun x y => lexT x y = true := by
  intro l
  induction l with
  | nil => exact fun _ _ => .nil
  | cons a l ih =>
   intro h r
   cases l with
   | nil => exact List.pairwise_singleton _ _
   | cons b l =>
    have r' : (tb a b && risesB tb (b :: l)) = true := r
    rw [Bool.and_eq_true] at r'
    have hb := ih (fun i hi => h i (List.mem_cons_of_mem _ hi)) r'.2
    have ha := h a List.mem_cons_self
    have hb' := h b (List.mem_cons_of_mem _ List.mem_cons_self)
    have ab : lexT (ks.getD a []) (ks.getD b []) = true := by rw [same a b ha hb']; exact r'.1
    rw [List.map_cons, List.map_cons] at *
    refine List.pairwise_cons.mpr ⟨fun y hy => ?_, hb⟩
    rcases List.mem_cons.mp hy with z | z
    ·rw [z]; exact ab
    ·have hbz := (List.pairwise_cons.mp hb).1 y z
     obtain ⟨c, hc, rfl⟩ := List.mem_map.mp z
     have hc' := h c (List.mem_cons_of_mem _ (List.mem_cons_of_mem _ hc))
     exact lexT_trans (by rw [at1 a ha, at1 b hb']) (by rw [at1 b hb', at1 c hc']) ab hbz
 exact go _ lt f
theorem perm_inv {α β : Type} {f : α → β} : ∀ {l : List β} {ps : List α}, l.Perm (ps.map f) → ∃ rs : List α, rs.Perm ps ∧ l = rs.map f
 | [], ps, h => by
  have := h.length_eq
  rw [List.length_map] at this
  rw [List.eq_nil_of_length_eq_zero this.symm]
  exact ⟨[], .refl _, rfl⟩
 | b :: l, ps, h => by
  have hb : b ∈ ps.map f := h.mem_iff.mp List.mem_cons_self
  obtain ⟨x, hx, rfl⟩ := List.mem_map.mp hb
  obtain ⟨u, v, rfl⟩ := List.append_of_mem hx
  have h2 : l.Perm ((u ++ v).map f) := by
   have : (f x :: l).Perm (f x :: (u ++ v).map f) := h.trans (by
    rw [List.map_append, List.map_append, List.map_cons]
    exact List.perm_middle)
   exact this.cons_inv
  obtain ⟨rs, r1, r2⟩ := perm_inv h2
  exact ⟨x :: rs, (r1.cons x).trans List.perm_middle.symm, by rw [r2]; rfl⟩
namespace ST
section
variable {prog : Program} {w : World} {A : Around} {E : Value → Shared → Prop} {s : Shared} {a : Addr}
theorem ints_of {k : List Int} {vs : List Value} (h : ItemsAre (intKind prog w) k vs) : IntsAre vs k := by
 induction h with
 | nil => exact .nil
 | cons h1 _ ih =>
  obtain ⟨t, e⟩ := int_of h1
  rw [e]
  exact .cons _ t ih
theorem tup_of {h : Heap} {k : List Int} {b : Addr} (z : TK prog w h k b) : ∃ its : List Value, IsTup h b its.toArray ∧ IntsAre its k := by
 obtain ⟨o, items, n, g1, g2, g3, g4⟩ := z
 exact ⟨items.toList, ⟨o, g1, g2, n, by simpa using g3⟩, ints_of g4⟩
theorem sorted_set {Q : Value → Shared → Prop} {ps : List (Addr × List Int)} {m : Nat} (hh : A.handled = none) (S : SetIs prog w s.heap a (ledOf w) ps) (l4 : ps.length ≤ 4) (m1 : 1 ≤ m) (one : ∀ p ∈ ps, p.2.length = m)
  (q : ∀ (l : Addr) h' tk n (qs : List (Addr × List Int)), s.heap.objs.size ≤ l → (∀ b o, s.heap.get? b = some o → h'.get? b = some o) → qs.Perm ps → (qs.map (·.2)).Pairwise (fun x y => lexT x y = true) → h'.get? l = some (seqObj "list" (qs.map fun x => Value.ref x.1).toArray n) → Q (.ref l) { s with heap := h', toks := tk }) :
  wpAny (model prog w) A (call (.builtin "sorted") [.ref a]) Q E s := by
 obtain ⟨o, es, ep, t, En, ho, hx, hd, hf, hl, T, eq⟩ := S.ex
 have x : SRaw w s.heap a es ep t En := ⟨⟨o, ho, hx, hd⟩, hf, hl, T⟩
 have ee : es.toList = ps.map fun p => (hashK prog w p.2, Value.ref p.1) := by rw [T.en]; simpa using eq
 obtain ⟨rs, r1, r2⟩ := perm_inv (ee ▸ walk_perm (w := w) (a := a) (ep := ep) (es := es))
 have vals : (walkOf w a ep es).toList.map (·.2) = rs.map fun p => Value.ref p.1 := by rw [r2, List.map_map]; rfl
 have rl : rs.length ≤ 4 := by rw [r1.length_eq]; exact l4
 have z : es.size ≤ sizeLine := by
  have := congrArg List.length ee
  rw [sizeLine_eq]
  simp at this
  omega
 refine Calls.call_function_entry kind_sorted plain_sorted entry_sorted (args_sorted1 _) (show wpAny _ _ (Builtin.«sorted» ⟨[.ref a], []⟩) _ _ s from ?_)
 unfold Builtin.«sorted»
 refine wpAny_bind (m := checkCount "sorted" 1 1 _) (wpAny_pure (wpAny_bind (collect_set (A := A.in1) hh x z fun h1 tk k1 g1 => ?_)))
 rw [vals]
 refine wpAny_bind (wpAny_newList (show wpAny _ _ _ _ _ { s with heap := h1.push (seqObj "list" (rs.map fun p => Value.ref p.1).toArray 0), toks := tk } from ?_) (by rw [List.length_map, sizeLine_eq]; omega))
 have n1 : (h1.push (seqObj "list" (rs.map fun p => Value.ref p.1).toArray 0)).get? h1.objs.size = some (seqObj "list" (rs.map fun p => Value.ref p.1).toArray 0) := Heap.get?_push_size _ rfl
 have tk1 : ∀ p ∈ rs, TK prog w (h1.push (seqObj "list" (rs.map fun p => Value.ref p.1).toArray 0)) p.2 p.1 := fun p hp => tk_keep (S.tk p (r1.mem_iff.mp hp)) fun o e => Heap.get?_push_of_some _ (k1 _ o e)
 have T1 : ∀ v ∈ rs.map (fun p => Value.ref p.1), TupI (h1.push (seqObj "list" (rs.map fun p => Value.ref p.1).toArray 0)) v := fun v hv => by
  obtain ⟨p, hp, rfl⟩ := List.mem_map.mp hv
  obtain ⟨its, i1, i2⟩ := tup_of (tk1 p hp)
  cases e : p.2 with
  | nil => have := one p (r1.mem_iff.mp hp); rw [e] at this; simp at this; omega
  | cons n ns => exact ⟨p.1, its, n, ns, rfl, i1, e ▸ i2⟩
 have KS : Keys (h1.push (seqObj "list" (rs.map fun p => Value.ref p.1).toArray 0)) (rs.map fun p => Value.ref p.1) (rs.map (·.2)) := by
  have kl : ∀ i, i < rs.length → ((rs.map (·.2)).getD i []).length = m := fun i hi => by
   rw [List.getD_eq_getElem?_getD, List.getElem?_map, List.getElem?_eq_getElem hi]
   exact one _ (r1.mem_iff.mp (List.getElem_mem hi))
  refine ⟨by rw [List.length_map, List.length_map], fun i hi => ?_, fun i j hi hj => by rw [List.length_map] at hi hj; rw [kl i hi, kl j hj]⟩
  rw [List.length_map] at hi
  obtain ⟨its, i1, i2⟩ := tup_of (tk1 rs[i] (List.getElem_mem hi))
  refine ⟨rs[i].1, its, ?_, i1, ?_⟩
  ·rw [List.getD_eq_getElem?_getD, List.getElem?_map, List.getElem?_eq_getElem hi]; rfl
  ·rw [List.getD_eq_getElem?_getD, List.getElem?_map, List.getElem?_eq_getElem hi]; exact i2
 refine wpAny_bind (wpAny_holding (wpAny_call_entry slot_list_sort ⟨_, n1, rfl⟩ entry_list_sort (sort_tupsL n1 T1 (by rw [List.length_map]; omega) KS ⟨_, rfl, wpAny_pure ⟨_, rfl, ?_⟩⟩) (args_list_sort _)))
 obtain ⟨n, hn⟩ := sortedHeap_at (out := ((orderOf (rs.map (·.2))).toList.map fun i => (rs.map fun p => Value.ref p.1).getD i .none).toArray) n1
 have pn := KS.pn
 rw [List.length_map] at pn
 have lt : ∀ i ∈ (orderOf (rs.map (·.2))).toList, i < rs.length := fun i hi => by simpa using (Array.perm_iff_toList_perm.mp pn).mem_iff.mp hi
 have out : ((orderOf (rs.map (·.2))).toList.map fun i => (rs.map fun p => Value.ref p.1).getD i .none) = ((orderOf (rs.map (·.2))).toList.map fun i => rs.getD i (0, [])).map fun x => Value.ref x.1 := by
  rw [List.map_map]
  refine List.map_congr_left fun i hi => ?_
  have h := lt i hi
  show (rs.map fun p => Value.ref p.1).getD i .none = Value.ref (rs.getD i (0, [])).1
  rw [List.getD_eq_getElem?_getD, List.getElem?_map, List.getD_eq_getElem?_getD, List.getElem?_eq_getElem h]
  rfl
 have keys : (((orderOf (rs.map (·.2))).toList.map fun i => rs.getD i (0, [])).map (·.2)) = (orderOf (rs.map (·.2))).toList.map fun i => (rs.map (·.2)).getD i [] := by
  rw [List.map_map]
  refine List.map_congr_left fun i hi => ?_
  have h := lt i hi
  show (rs.getD i (0, [])).2 = (rs.map (·.2)).getD i []
  rw [List.getD_eq_getElem?_getD, List.getD_eq_getElem?_getD, List.getElem?_map, List.getElem?_eq_getElem h]
  rfl
 refine q h1.objs.size _ tk n ((orderOf (rs.map (·.2))).toList.map fun i => rs.getD i (0, [])) (Nat.le_of_lt g1) (fun b o e => ?_) ((perm_getD rs (0, []) pn).trans r1) ?_ (by rw [← out]; exact hn)
 ·have lb := Heap.lt_size (k1 b o e)
  exact (sortedHeap_old (Nat.ne_of_lt lb) (by rw [size_push']; exact Nat.lt_succ_of_lt lb)).trans (Heap.get?_push_of_some _ (k1 b o e))
 ·rw [keys]
  exact order_rises (m := m) (by rw [List.length_map]; exact rl) (fun k hk => by obtain ⟨p, hp, rfl⟩ := List.mem_map.mp hk; exact one p (r1.mem_iff.mp hp)) ((r1.map (·.2)).nodup_iff.mpr S.nd)
end
end ST
end L2
end
section
set_option Elab.async false
set_option linter.all false
set_option maxRecDepth 100000
namespace L2
open PySem PySem.Spec
open PyProof.Rows hiding Fr News
section
variable {X : Cx}
theorem bt_set : bootBuiltins "set" = some (.type "set") := by decide +kernel
noncomputable def tSSet (ta : TA) : TE := fun σ H Q => ta σ H fun vs H1 => ∃ (p : Addr) (xs : List (Addr × List Int)) (D : List (List Int)) (m : Nat), vs = [.ref p] ∧ H1 p = some (.lst (xs.map fun x => V.ref x.1)) ∧ (∀ x ∈ xs, H1 x.1 = some (.tup (x.2.map V.int)) ∧ x.2.length = m) ∧ 1 ≤ m ∧ D.length ≤ 4 ∧ (∀ x ∈ xs, x.2 ∈ D) ∧
 ∀ (l : Addr) (qs : List (Addr × List Int)) (H2 : Hp), H1 l = none → Same H1 H2 → (∀ x ∈ qs, x ∈ xs) → (∀ x ∈ xs, x.2 ∈ qs.map (·.2)) → (qs.map (·.2)).Pairwise (fun x y => lexT x y = true) → H2 l = some (.lst (qs.map fun x => V.ref x.1)) → Q (.ref l) H2
theorem a_tSSet {ta : TA} {σ : St} {H : Hp} {Q : VK} : tSSet ta σ H Q = ta σ H fun vs H1 => ∃ (p : Addr) (xs : List (Addr × List Int)) (D : List (List Int)) (m : Nat), vs = [.ref p] ∧ H1 p = some (.lst (xs.map fun x => V.ref x.1)) ∧ (∀ x ∈ xs, H1 x.1 = some (.tup (x.2.map V.int)) ∧ x.2.length = m) ∧ 1 ≤ m ∧ D.length ≤ 4 ∧ (∀ x ∈ xs, x.2 ∈ D) ∧
 ∀ (l : Addr) (qs : List (Addr × List Int)) (H2 : Hp), H1 l = none → Same H1 H2 → (∀ x ∈ qs, x ∈ xs) → (∀ x ∈ xs, x.2 ∈ qs.map (·.2)) → (qs.map (·.2)).Pairwise (fun x y => lexT x y = true) → H2 l = some (.lst (qs.map fun x => V.ref x.1)) → Q (.ref l) H2 := rfl
theorem items_of {k : List Int} {vs : List Value} (h : IntsAre vs k) {prog : Program} {w : World} : ItemsAre (intKind prog w) k vs := by
 induction h with
 | nil => exact .nil
 | cons n t _ ih => exact .cons (by simp [intKind, Value.isInt]) ih
theorem pe_sset {a : Expr} {ta : TA} {p1 p pos pos2 : Pos} (hgs : Gl X "sorted") (hms : X.mg "sorted" = none) (hg : Gl X "set") (hm : X.mg "set" = none) (hu : X.A.units + 8 < cLine) (ha : PA X [a] ta) (hs : starEach [a] X.env = [(false, eval a X.env)] := by rfl) (hcalm : X.calm = true := by rfl) :
  PE X (.Call (.Name "sorted" p1) [.Call (.Name "set" p) [a] [] pos] [] pos2) (tSSet ta) := by
 intro pins s σ H Q I h
 refine wpAny_Call_Name_kw (ld_blt I hgs hms bt_sorted ?_)
 refine PyProof.Rows.callWith_builtin1 ?_ (by rfl) (by rfl)
 refine Calls.spliced_cons ?_
 refine Call_ (ld_blt I hg hm bt_set (PyProof.Rows.callWith_type1 (thn (ha pos pins s σ H _ I h) fun us s1 ⟨vs, H1, I1, r1, q1⟩ => ?_) hs rfl))
 obtain ⟨l0, xs, D, m, e, hl, ht, m1, dl, inD, q⟩ := q1
 subst e
 obtain ⟨u, rfl, ru⟩ := r1.one
 cases ru
 obtain ⟨its, vi, pl, _⟩ := I1.list (SqL.of hl)
 have hi : its = xs.map fun x => Value.ref x.1 := by
  have hlen : xs.length = its.length := by simpa using vi.length
  refine List.ext_getElem (by simpa using hlen.symm) fun i h1 h2 => ?_
  obtain ⟨u, hu', ru⟩ := vi.get (i := i) (x := V.ref (xs[i]'(by omega)).1) (by simp [show i < xs.length by omega])
  rw [List.getElem?_eq_getElem h1] at hu'
  rw [Option.some.inj hu', List.getElem_map]
  exact ru
 have tk : ∀ x ∈ xs, ST.TK X.prog X.w s1.heap x.2 x.1 := fun x hx => by
  obtain ⟨ts, r1, ⟨o, g1, g2, n, g3⟩, _⟩ := I1.tuple (SqT.of (ht x hx).1)
  exact ⟨o, ts.toArray, n, g1, g2, g3, by simpa using items_of (intsAre_of r1)⟩
 refine ST.call_set_tups (D := D) (I.ok.hd hcalm) hu pl.isList (by simpa using hi) tk dl inD fun h2 t2 ps k2 S2 sub all => ?_
 refine Calls.spliced_nil ?_
 have I2 : Inv X pins σ H1 { s1 with heap := h2, toks := t2 } := I1.kept k2
 have pl4 : ps.length ≤ 4 := by
  have := ST.sub_len' (ps.map (·.2)) D S2.nd fun k hk => by
   obtain ⟨y, hy, rfl⟩ := List.mem_map.mp hk
   exact inD y (sub y hy)
  rw [List.length_map] at this
  omega
 refine ST.sorted_set (s := { s1 with heap := h2, toks := t2 }) (m := m) (I.ok.hd hcalm) S2 pl4 m1 (fun y hy => (ht y (sub y hy)).2) fun l h3 t3 n qs g3 k3 pm ri e3 => ?_
 have fr : H1 l = none := I2.hok.fresh g3
 have rel : ∀ k : List (Addr × List Int), Vals (k.map fun x => V.ref x.1) (k.map fun x => Value.ref x.1) := fun k => by
  induction k with
  | nil => exact .nil
  | cons x k ih => exact .cons rfl ih
 refine ⟨.ref l, _, I2.laid (o := .lst (qs.map fun x => V.ref x.1)) (t' := t3) k3 g3 ⟨?_, _, n, rel qs, e3⟩, rfl, q l qs _ fr (same_upd fr) (fun y hy => sub y (pm.mem_iff.mp hy)) (fun y hy => (pm.map (·.2)).mem_iff.mpr (all y hy)) ri upd_same⟩
 rw [List.length_map, pm.length_eq, sizeLine_eq]
 omega
end
end L2
end
section
set_option Elab.async false
set_option linter.all false
set_option maxRecDepth 100000
namespace L2
open PySem PySem.Spec
open PyProof.Rows hiding Fr News
section
variable {X : Cx}
noncomputable def rEqLT : R2 := fun x y H Q => ∃ (a b : Addr) (xs ys : List (Addr × List Int)), x = .ref a ∧ y = .ref b ∧ H a = some (.lst (xs.map fun x => V.ref x.1)) ∧ H b = some (.lst (ys.map fun x => V.ref x.1)) ∧ (∀ x ∈ xs, H x.1 = some (.tup (x.2.map V.int))) ∧ (∀ x ∈ ys, H x.1 = some (.tup (x.2.map V.int))) ∧ Q (.bl (decide (xs.map (·.2) = ys.map (·.2)))) H
theorem a_rEqLT {x y : V} {H : Hp} {Q : VK} : rEqLT x y H Q = ∃ (a b : Addr) (xs ys : List (Addr × List Int)), x = .ref a ∧ y = .ref b ∧ H a = some (.lst (xs.map fun x => V.ref x.1)) ∧ H b = some (.lst (ys.map fun x => V.ref x.1)) ∧ (∀ x ∈ xs, H x.1 = some (.tup (x.2.map V.int))) ∧ (∀ x ∈ ys, H x.1 = some (.tup (x.2.map V.int))) ∧ Q (.bl (decide (xs.map (·.2) = ys.map (·.2)))) H := rfl
theorem refs_at {xs : List (Addr × List Int)} {its : List Value} (vi : Vals (xs.map fun x => V.ref x.1) its) : its = xs.map fun x => Value.ref x.1 := by
 have hlen : xs.length = its.length := by simpa using vi.length
 refine List.ext_getElem (by simpa using hlen.symm) fun i h1 h2 => ?_
 obtain ⟨u, hu, ru⟩ := vi.get (i := i) (x := V.ref (xs[i]'(by omega)).1) (by simp [show i < xs.length by omega])
 rw [List.getElem?_eq_getElem h1] at hu
 rw [Option.some.inj hu, List.getElem_map]
 exact ru
theorem eqLT0 (hu : X.A.units + 64 < cLine) : OpR X (compareOp .Eq) rEqLT := by
 intro pins s σ H x y v u Q I rx ry h
 obtain ⟨a, b, xs, ys, rfl, rfl, ha, hb, tx, ty, q⟩ := h
 cases rx
 cases ry
 obtain ⟨its, r1, p1, _⟩ := I.list (SqL.of ha)
 obtain ⟨its2, r2, p2, _⟩ := I.list (SqL.of hb)
 have e1 := refs_at r1
 have e2 := refs_at r2
 subst e1 e2
 by_cases c : xs.length = ys.length
 ·refine SeqAt.eq_listAt (e := fun j => decide ((xs.map (·.2)).getD j [] = (ys.map (·.2)).getD j [])) p1.isList p2.isList (by simpa using c) (by omega) (fun j h1 h2 => ?_) ⟨.bl _, H, I, rfl, ?_⟩
  ·have j1 : j < xs.length := by simpa using h1
   have j2 : j < ys.length := by simpa using h2
   have g1 : (xs.map (·.2)).getD j [] = xs[j].2 := by rw [List.getD_eq_getElem?_getD, List.getElem?_map, List.getElem?_eq_getElem j1]; rfl
   have g2 : (ys.map (·.2)).getD j [] = ys[j].2 := by rw [List.getD_eq_getElem?_getD, List.getElem?_map, List.getElem?_eq_getElem j2]; rfl
   rw [g1, g2]
   simp only [List.getElem_toArray, List.getElem_map]
   exact eqAt_tup I (tx _ (List.getElem_mem j1)) (ty _ (List.getElem_mem j2)) (by show X.A.units + 1 < cLine; omega)
  ·have e : ((List.range (xs.map fun x => Value.ref x.1).toArray.size).all fun j => decide ((xs.map (·.2)).getD j [] = (ys.map (·.2)).getD j [])) = decide (xs.map (·.2) = ys.map (·.2)) := by
    rw [Bool.eq_iff_iff, List.all_eq_true, decide_eq_true_eq]
    simp only [List.size_toArray, List.length_map, List.mem_range, decide_eq_true_eq]
    constructor
    ·intro h
     refine List.ext_getElem (by simpa using c) fun i h1 h2 => ?_
     have := h i (by simpa using h1)
     rwa [List.getD_eq_getElem?_getD, List.getD_eq_getElem?_getD, List.getElem?_eq_getElem h1, List.getElem?_eq_getElem h2] at this
    ·intro h j _
     rw [h]
   rw [e]
   exact q
 ·refine SeqAt.eq_list_lengthsAt p1.isList p2.isList (by simpa using c) (by omega) ⟨.bl false, H, I, rfl, ?_⟩
  rw [decide_eq_false (fun z => c (by have := congrArg List.length z; simpa using this))] at q
  exact q
end
end L2
end
section
set_option maxRecDepth 1000000
section
open PySem L2
set_option hygiene false in
local macro_rules | `(tactic| push_cast [$as,*]) => `(tactic| (try simp only [↓a_tSSet, ↓a_rEqLT, ↓e_var0, ↓e_var1, ↓e_var2, ↓e_var3, ↓e_var4, ↓e_var5, ↓e_var6, ↓e_var7, ↓e_var8, ↓e_var9, ↓e_nam0, ↓e_nam1, ↓e_nam2, ↓e_nam3, ↓e_nam4, ↓e_nam5, ↓e_nam6, ↓e_nam7, ↓e_nam8, ↓e_nam9, ↓e_par, ↓e_ex2, ↓e_gN, ↓e_gC, ↓e_rI0, ↓e_rI, ↓e_rU, ↓e_xB, ↓e_xI, ↓e_xJ, ↓e_xJ2, ↓e_rEq, ↓e_rNe, ↓e_itT, ↓e_itF, ↓e_itD, ↓e_ix, ↓e_setL, ↓e_getK, ↓e_setK, ↓e_ipI, ↓e_aug, ↓e_emit, ↓e_f1, ↓e_f2, ↓e_f3, ↓e_f4, ↓e_f5, ↓e_seqL, ↓e_g1, ↓e_g2, e_os, e_ol, e_ot, e_od, HO.dT.injEq, ↓a_tNever, V.str.injEq, HO.dK.injEq, a_tAug, ↓a_tDisp, ↓a_prs0, ↓a_prs, a_rGetK, a_rSetK, ↓a_tAugS, a_ipI, ↓a_tPop0, ↓a_tCalK, g3r_is, g2r_is, g2_is, g1_is, ↓a_rNePP, ↓a_tChain, ↓a_tDict, ↓a_tLstA, ↓a_rMulT, ↓a_rEqT, ↓a_tIns, ↓a_tRev, ↓a_rSlA, ↓a_rCatA, ↓a_rCatL, ↓a_tSeq, ↓a_tFor, ↓a_rIxL, ↓a_iZip, ↓a_tSortR, ↓a_tSl, ↓a_rSlL0, ↓a_tNoPart, ↓a_tPart, ↓a_tApp, ↓a_tRet, ↓a_tRetN, ↓a_tNext, ↓a_tDrop, ↓a_tAsg, ↓a_gSub, a_gName, a_gNil, a_gCons, ↓a_gTup0, a_rSetL, ↓a_tIfS, ↓a_tAnd, ↓a_tOr, ↓a_tNot, ↓a_tTest, ↓a_tB, ↓a_tTrue, ↓a_tIf, ↓a_tAndV, ↓a_tOrV, ↓a_tNotV, ↓a_tOp, ↓a_tUn, a_rU, a_tVar, ↓a_tC, a_rI0, a_rI, a_rEq, a_rNe, a_rIx0, ↓a_rIn0, ↓a_tCB, ↓a_tCal, ↓a_tCons, ↓a_tNil, ↓a_tTupA, ↓a_tLst, a_tPar, ↓a_tBits, ↓a_tLC, ↓a_iRng1, ↓a_iRng2, ↓a_iT0, ↓a_iL0, a_tEmit, frS, sc_ii, sc_bb, sc_ss, sc_nn, sc_in, sc_ni, sc_bn, sc_nb, sc_sn, sc_ns, sc_is, sc_si, sc_bs, sc_sb, V.ty.injEq, tyN, subN, String.reduceEq, String.reduceBEq, Bool.true_or, Bool.false_or, Bool.or_false, Bool.true_and, Bool.false_and, Bool.and_false, or_true, true_or, beq_self_eq_true, decide_true, decide_false, List.map_cons, List.map_nil, List.length_cons, List.length_nil, List.getElem?_cons_zero, List.getElem?_cons_succ, List.getElem?_nil, List.set_cons_zero, List.set_cons_succ, Option.some.injEq, Option.bind_some, Option.bind_none, id, exists_eq_left', exists_eq_left, exists_and_left, exists_eq_right, V.int.injEq, V.bl.injEq, V.ref.injEq, List.cons.injEq, and_true, true_and, and_assoc, exists_const, atI0, atI1, atI2, ixN30, ixN31, ixN32, upd_same, upd_upd, sq_updL, sq_updT, Nat.zero_add, Nat.reduceAdd, reduceCtorEq, false_and, and_false, exists_false, false_or, or_false, List.length_map, HO.lst.injEq, HO.tup.injEq, Bool.false_eq_true, if_false, if_true, decide_eq_true_eq, ite_true, ite_false, reduceIte, Int.reduceLT, Int.reduceLE, Nat.reduceLT, Int.zero_add, Bool.not_true, Bool.not_false, $as,*]))
set_option hygiene false in
local macro_rules | `(tactic| push_cast only [$as,*]) => `(tactic| ((push_cast [↓e_g3, ↓e_g4, ↓e_g5, ↓e_g6, ↓e_g7, ↓e_g8, $as,*]); (push_cast [u_os, u_ol, u_ot, u_od, $as,*])))
section
set_option Elab.async false
set_option linter.all false
set_option maxRecDepth 100000
set_option maxHeartbeats 8000000
namespace K53
open PySem L2
noncomputable def top (i : Nat) : Stmt := PySem.Challenge.pw_wantprices_k53_none_of_any_kind.main.body.getD i (.Pass ⟨0, 0, 0, 0⟩)
noncomputable abbrev s_has : Stmt := top 1
noncomputable abbrev s_less : Stmt := top 2
noncomputable abbrev s_is_within : Stmt := top 3
noncomputable abbrev s_is_whole : Stmt := top 5
noncomputable abbrev s_is_whole_from : Stmt := top 6
noncomputable abbrev s_are_wholes : Stmt := top 7
noncomputable abbrev s_joined : Stmt := top 9
noncomputable abbrev s_most_parted : Stmt := top 10
noncomputable abbrev s_greatest : Stmt := top 12
noncomputable abbrev s_greatest_sums : Stmt := top 13
noncomputable abbrev s_shows_none : Stmt := top 15
noncomputable abbrev s_are_shares : Stmt := top 16
noncomputable abbrev s_is_share : Stmt := top 17
noncomputable abbrev s_rise_by_place : Stmt := top 18
noncomputable abbrev s_keep_bounds : Stmt := top 19
noncomputable abbrev s_shares_worth : Stmt := top 20
noncomputable abbrev s__law_spool : Stmt := top 22
noncomputable abbrev s__law_wound : Stmt := top 23
noncomputable abbrev s__law_draw : Stmt := top 24
noncomputable abbrev s__law_ring_town : Stmt := top 25
noncomputable abbrev s__law_bad : Stmt := top 26
noncomputable abbrev s_law : Stmt := top 27
structure Txt (mg : Str → Option Value) : Prop where
 len_ : mg "len" = none
 sum_ : mg "sum" = none
 isinstance_ : mg "isinstance" = none
 max_ : mg "max" = none
 range_ : mg "range" = none
 tuple_ : mg "tuple" = none
 list_ : mg "list" = none
 int_ : mg "int" = none
 bool_ : mg "bool" = none
 str_ : mg "str" = none
 set_ : mg "set" = none
 sorted_ : mg "sorted" = none
 all_ : mg "all" = none
section
variable {P : Program} {w : World} {K : PySem.W.Frag} {mg : Str → Option Value} {base : Heap} {f : Addr} {fd : FuncData}
theorem at_int {ns : List Int} {n : Nat} (h : n < ns.length) : atI (ns.map V.int) (n : Int) = some (V.int (ns.getD n 0)) := atI_nat (by simp [h, List.getD_eq_getElem?_getD])
noncomputable def sdl (l : Addr) (a g f m x : Int) : List (Key × V) := [(Sum.inr "cells", .ref l), (Sum.inr "at", .int a), (Sum.inr "great", .int g), (Sum.inr "left", .int f), (Sum.inr "many", .int m), (Sum.inr "mixed", .int x)]
section
variable {l : Addr} {a g f m x : Int}
theorem vk_cells : valV (sdl l a g f m x) (Sum.inr "cells") = some (.ref l) := by rfl
theorem vk_at : valV (sdl l a g f m x) (Sum.inr "at") = some (.int a) := by rfl
theorem vk_great : valV (sdl l a g f m x) (Sum.inr "great") = some (.int g) := by rfl
theorem vk_left : valV (sdl l a g f m x) (Sum.inr "left") = some (.int f) := by rfl
theorem vk_many : valV (sdl l a g f m x) (Sum.inr "many") = some (.int m) := by rfl
theorem vk_mixed : valV (sdl l a g f m x) (Sum.inr "mixed") = some (.int x) := by rfl
theorem pk_at {v : Int} : putK (sdl l a g f m x) (Sum.inr "at") (.int v) = sdl l v g f m x := by rfl
theorem pk_great {v : Int} : putK (sdl l a g f m x) (Sum.inr "great") (.int v) = sdl l a v f m x := by rfl
theorem pk_left {v : Int} : putK (sdl l a g f m x) (Sum.inr "left") (.int v) = sdl l a g v m x := by rfl
theorem pk_many {v : Int} : putK (sdl l a g f m x) (Sum.inr "many") (.int v) = sdl l a g f v x := by rfl
theorem pk_mixed {v : Int} : putK (sdl l a g f m x) (Sum.inr "mixed") (.int v) = sdl l a g f m v := by rfl
theorem sdl_len : ((sdl l a g f m x).length < sizeLine) = True := eq_true (by show 6 < sizeLine; decide)
end
noncomputable def Spool (H : Hp) (p l : Addr) : Prop := ∃ (ns : List Int) (a g f m x : Int), H p = some (.dK (sdl l a g f m x)) ∧ H l = some (.lst (ns.map V.int)) ∧ l ≠ p ∧ 0 ≤ a
theorem Spool.same {H H' : Hp} {p l : Addr} (s : Same H H') (h : Spool H p l) : Spool H' p l := by
 obtain ⟨ns, a, g, f, m, x, e, el, n, a0⟩ := h
 exact ⟨ns, a, g, f, m, x, s _ _ e, s _ _ el, n, a0⟩
theorem Spool.nep {H : Hp} {p l c : Addr} (h : Spool H p l) (n : H c = none) : p ≠ c := by
 obtain ⟨ns, a, g, f, m, x, e, el, _, a0⟩ := h
 exact ne_of_none e n
theorem Spool.nel {H : Hp} {p l c : Addr} (h : Spool H p l) (n : H c = none) : l ≠ c := by
 obtain ⟨ns, a, g, f, m, x, e, el, _, a0⟩ := h
 exact ne_of_none el n
theorem Spool.upd {H : Hp} {p l c : Addr} {o : HO} (h : Spool H p l) (n : p ≠ c) (k : l ≠ c) : Spool (upd H c o) p l := by
 obtain ⟨ns, a, g, f, m, x, e, el, z, a0⟩ := h
 exact ⟨ns, a, g, f, m, x, by rw [upd_ne n]; exact e, by rw [upd_ne k]; exact el, z, a0⟩
noncomputable def MadeS (p l c : Addr) (Pd : Int → Prop) (τ : List (Option V)) (G : Hp) (i : Nat) (σ : St) (H : Hp) : Prop := ∃ (v : Option V) (ws : List Int), σ = v :: τ ∧ ws.length = i ∧ (∀ x ∈ ws, Pd x) ∧ Spool H p l ∧ (∀ b o, b ≠ p → b ≠ c → G b = some o → H b = some o) ∧ H c = some (.lst (ws.map V.int))
theorem MadeS.zero {p l c : Addr} {Pd : Int → Prop} {τ : List (Option V)} {G : Hp} (sp : Spool G p l) (nc : G c = none) : MadeS p l c Pd τ G 0 (none :: τ) (upd G c (.lst [])) :=
 ⟨none, [], rfl, rfl, fun _ h => absurd h (by simp), sp.upd (sp.nep nc) (sp.nel nc), fun b o _ n e => by rw [upd_ne n]; exact e, upd_same⟩
theorem MadeS.more {p l c : Addr} {Pd : Int → Prop} {τ : List (Option V)} {G H H2 : Hp} {ws : List Int} {v : Option V} {r : Int} (np : p ≠ c) (nl : l ≠ c) (hbd : ∀ x ∈ ws, Pd x) (k : ∀ b o, b ≠ p → b ≠ c → G b = some o → H b = some o) (s : SameX p H H2) (sp : Spool H2 p l) (hr : Pd r) :
  MadeS p l c Pd τ G (ws.length + 1) (v :: τ) (upd H2 c (.lst (ws.map V.int ++ [V.int r]))) :=
 ⟨v, ws ++ [r], rfl, by simp, fun x hx => by
  rcases List.mem_append.mp hx with z | z
  ·exact hbd x z
  ·rw [List.mem_singleton.mp z]; exact hr, sp.upd np nl, fun b o n1 n2 e => by rw [upd_ne n2]; exact s _ _ n1 (k b o n1 n2 e), by rw [upd_same]; simp⟩
noncomputable def sp_wound : Sp := fun vs H Q _ => ∃ n t : Int, vs = [.int n, .int t] ∧ ∀ r : Int, 0 ≤ r → r < 2147483563 → Q (.int r) H
theorem sc__law_wound : FnScope ["_law_number", "_law_turn", "_law_one"] ["_law_number", "_law_turn"] (defScope s__law_wound) := ⟨rfl, rfl, rfl, by decide +kernel, rfl, by decide +kernel, by decide +kernel⟩
theorem ok_wound (F : Fun K "_law_wound" "_law_wound" s__law_wound f fd) (hm : mg "_law_wound" = some (.ref f)) (hb : Binds K fd ["_law_number", "_law_turn"] []) (T : Txt mg) : Cal P w K mg base "_law_wound" ["_law_number", "_law_turn"] 1 sp_wound := by
 refine cal_of F hm hb sc__law_wound (fun vs H Q E h => ?_) (fun cdv A outer s H vs Q E hr h => ?_)
 ·obtain ⟨_, _, rfl, _⟩ := h; rfl
 ·obtain ⟨n, t, rfl, q⟩ := h
  have sc := sc__law_wound
  refine ⟨_, pss_cons (ps_set (i := 2) sc.nd rfl (Or.inl rfl) (pe_op op_mod (pe_op op_mul (pe_op op_mod (pe_op op_add (pe_op op_add (pv 0) (pe_op op_mul pe_int (pv 1))) pe_int) pe_int) pe_int) pe_int))
   (pss_one (ps_ret (pe_op op_mod (pe_op op_add (pe_op op_mul (pv 2) (pe_op op_add (pe_op op_mod (pv 2) pe_int) pe_int)) (pe_op op_mul pe_int (pv 1))) pe_int))), ?_⟩
  rw [show L2.start ["_law_number", "_law_turn", "_law_one"] [.int n, .int t] = [some (.int n), some (.int t), none] from rfl]
  (push_cast only [])
  refine ⟨.inl ⟨by decide, by decide⟩, .inr ⟨by decide, by decide⟩, .inr ⟨by omega, by omega⟩, .inl ⟨by decide, by decide⟩, ?_⟩
  exact q _ (Int.emod_nonneg _ (by decide)) (Int.emod_lt_of_pos _ (by decide))
noncomputable def spDraw : Sp := fun vs H Q _ => ∃ (p l : Addr) (many : Int), vs = [.ref p, .int many] ∧ Spool H p l ∧ 0 < many ∧ many < 1073741824 ∧ ∀ (r : Int) (H' : Hp), 0 ≤ r → r < many → Spool H' p l → SameX p H H' → Q (.int r) H'
theorem sc__law_draw : FnScope ["_law_spool_here", "_law_many", "_law_cell", "_law_drawn"] ["_law_spool_here", "_law_many"] (defScope s__law_draw) := ⟨rfl, rfl, rfl, by decide +kernel, rfl, by decide +kernel, by decide +kernel⟩
theorem ok_draw (F : Fun K "_law_draw" "_law_draw" s__law_draw f fd) (hm : mg "_law_draw" = some (.ref f)) (hb : Binds K fd ["_law_spool_here", "_law_many"] []) (T : Txt mg) (c__law_wound : Cal P w K mg base "_law_wound" ["_law_number", "_law_turn"] 1 sp_wound) : Cal P w K mg base "_law_draw" ["_law_spool_here", "_law_many"] 2 spDraw := by
 refine cal_of F hm hb sc__law_draw (fun vs H Q E h => ?_) (fun cdv A outer s H vs Q E hr h => ?_)
 ·obtain ⟨_, _, _, rfl, _⟩ := h; rfl
 ·obtain ⟨p, l, many, rfl, ⟨ns, a, g, f', m, x, hp, hl, nlp, a0⟩, h1, h2, q⟩ := h
  have sc := sc__law_draw
  refine ⟨_, pss_consL (ps_augS (pv 0) pe_str (get_key (hu_of hr)) pe_int ip_add (set_key (hu_of hr)))
   (pss_consL (ps_if (PW.pt (pw_and (pt_cmpR op_eq (pe_kget (hu_of hr) (pv 0) pe_str (fun _ _ => rfl)) pe_int (nomark _)) (pw_and1 (pt_cmpR op_lt (pe_kget (hu_of hr) (pv 0) pe_str (fun _ _ => rfl)) (pe_callB len0 rfl T.len_ bt_len (pa_cns (pe_kget (hu_of hr) (pv 0) pe_str (fun _ _ => rfl)) pa_nil)) (nomark _))))) (pss_consL (ps_set (i := 2) sc.nd rfl (Or.inl rfl) (pe_ix ix0 (pe_kget (hu_of hr) (pv 0) pe_str (fun _ _ => rfl)) (pe_kget (hu_of hr) (pv 0) pe_str (fun _ _ => rfl)) (fun _ _ => rfl)))
   (pss_consL (ps_augS (pv 0) pe_str (get_key (hu_of hr)) pe_int ip_add (set_key (hu_of hr)))
   (pss_consL (ps_asg (pe_cal c__law_wound hr (pa_cns (pe_op op_add (pe_kget (hu_of hr) (pv 0) pe_str (fun _ _ => rfl)) (pe_op op_mod (pv 2) pe_int)) (pa_cns (pe_kget (hu_of hr) (pv 0) pe_str (fun _ _ => rfl)) pa_nil))) (pg_sub (pv 0) pe_str (set_key (hu_of hr))))
   (pss_one (ps_if (pt_cmpR op_ge (pv 2) (pe_op op_pow pe_int pe_int) (nomark _)) (pss_one (ps_asg (pe_tupA (pa_cns (pe_op op_mod (pv 2) (pe_op op_mulB (pe_op op_pow pe_int pe_int) (pe_op op_pow pe_int pe_int))) (pa_cns pe_int pa_nil))) (pg_tup0 (n := 2) rfl (pgs_cons (pg_sub (pv 0) pe_str (set_key (hu_of hr))) (pgs_cons (pg_sub (pv 0) pe_str (set_key (hu_of hr))) pgs_nil))))) pss_nil))))) pss_nil)
   (pss_consL (ps_if (PW.pt (pw_and (pt_cmpR op_gt (pe_kget (hu_of hr) (pv 0) pe_str (fun _ _ => rfl)) pe_int (nomark _)) (pw_and1 (pt_cmpR op_gt (pe_kget (hu_of hr) (pv 0) pe_str (fun _ _ => rfl)) pe_int (nomark _))))) (pss_consL (ps_set (i := 3) sc.nd rfl (Or.inl rfl) (pe_op op_mod (pe_kget (hu_of hr) (pv 0) pe_str (fun _ _ => rfl)) (pv 1)))
   (pss_consL (ps_asg (pe_op op_fdiv (pe_kget (hu_of hr) (pv 0) pe_str (fun _ _ => rfl)) (pv 1)) (pg_sub (pv 0) pe_str (set_key (hu_of hr))))
   (pss_consL (ps_augS (pv 0) pe_str (get_key (hu_of hr)) pe_int ip_sub (set_key (hu_of hr)))
   (pss_one (ps_ret (pv 3)))))) pss_nil)
   (pss_consL (ps_asg pe_int (pg_sub (pv 0) pe_str (set_key (hu_of hr))))
   (pss_consL (ps_asg (pe_cal c__law_wound hr (pa_cns (pe_kget (hu_of hr) (pv 0) pe_str (fun _ _ => rfl)) (pa_cns (pe_kget (hu_of hr) (pv 0) pe_str (fun _ _ => rfl)) pa_nil))) (pg_sub (pv 0) pe_str (set_key (hu_of hr))))
   (pss_one (ps_ret (pe_op op_mod (pe_op op_fdiv (pe_cal c__law_wound hr (pa_cns (pe_kget (hu_of hr) (pv 0) pe_str (fun _ _ => rfl)) (pa_cns pe_int pa_nil))) pe_int) (pv 1)))))))), ?_⟩
  rw [show L2.start ["_law_spool_here", "_law_many", "_law_cell", "_law_drawn"] [.ref p, .int many] = [some (.ref p), some (.int many), none, none] from rfl]
  (push_cast only [hp, vk_cells, vk_at, vk_great, vk_left, vk_many, vk_mixed, pk_at, pk_great, pk_left, pk_many, pk_mixed, sdl_len])
  have VK : True := trivial
  (simp only [a_laterH])
  have hl1 : upd H p (HO.dK (sdl l a g f' (m + 1) x)) l = some (.lst (ns.map V.int)) := by rw [upd_ne nlp]; exact hl
  have hs1 := sq_lst hl1
  (push_cast only [hs1, vk_cells, vk_at, vk_great, vk_left, vk_many, vk_mixed, pk_at, pk_great, pk_left, pk_many, pk_mixed, sdl_len])
  have fin : ∀ (G : Hp) (z a' g' f'' m' x' : Int), SameX p H G → G l = some (.lst (ns.map V.int)) → 0 ≤ a' → Q (V.int (z % many)) (upd G p (HO.dK (sdl l a' g' f'' m' x'))) := fun G z a' g' f'' m' x' sx hg ha => q _ _ (Int.emod_nonneg _ (by omega)) (Int.emod_lt_of_pos _ h1) ⟨ns, a', g', f'', m', x', upd_same, by rw [upd_ne nlp]; exact hg, nlp, ha⟩ (sx.trans SameX.upd)
  have SX0 : SameX p H H := SameX.refl
  by_cases c1 : f' = 0
  ·rw [if_pos c1]
   by_cases c2 : a < (ns.length : Int)
   ·rw [if_pos c2]
    obtain ⟨an, rfl⟩ := Int.eq_ofNat_of_zero_le a0
    refine ⟨_, at_int (ns := ns) (n := an) (by omega), ?_⟩
    (simp only [a_laterH])
    (push_cast only [vk_cells, vk_at, vk_great, vk_left, vk_many, vk_mixed, pk_at, pk_great, pk_left, pk_many, pk_mixed, sdl_len])
    (simp only [a_laterH])
    (push_cast only [vk_cells, vk_at, vk_great, vk_left, vk_many, vk_mixed, pk_at, pk_great, pk_left, pk_many, pk_mixed, sdl_len])
    refine ⟨_, _, rfl, fun r r0 r1 => ?_⟩
    (push_cast only [vk_cells, vk_at, vk_great, vk_left, vk_many, vk_mixed, pk_at, pk_great, pk_left, pk_many, pk_mixed, sdl_len])
    (simp only [a_laterH])
    (push_cast only [vk_cells, vk_at, vk_great, vk_left, vk_many, vk_mixed, pk_at, pk_great, pk_left, pk_many, pk_mixed, sdl_len])
    refine ⟨⟨by decide, by decide, by decide⟩, ?_⟩
    split
    ·refine ⟨⟨by decide, by decide, by decide⟩, ⟨by decide, by decide, by decide⟩, by unfold IntMulOk; decide +kernel, by decide +kernel, by decide, fun tt G nt st et => ?_⟩
     have ep : G p = some (.dK (sdl l ((an : Int) + 1) g f' (m + 1) r)) := st _ _ upd_same
     have sxG : SameX p H G := SameX.upd.trans st.x
     have hlG : G l = some (.lst (ns.map V.int)) := st _ _ (by rw [upd_ne nlp]; exact hl)
     (push_cast only [et, ep, vk_cells, vk_at, vk_great, vk_left, vk_many, vk_mixed, pk_at, pk_great, pk_left, pk_many, pk_mixed, sdl_len])
     (simp only [a_laterH])
     (push_cast only [vk_cells, vk_at, vk_great, vk_left, vk_many, vk_mixed, pk_at, pk_great, pk_left, pk_many, pk_mixed, sdl_len])
     split
     ·refine ⟨h1, ?_⟩
      (simp only [a_laterH])
      (push_cast only [vk_cells, vk_at, vk_great, vk_left, vk_many, vk_mixed, pk_at, pk_great, pk_left, pk_many, pk_mixed, sdl_len])
      refine ⟨⟨h1, h2⟩, ?_⟩
      (simp only [a_laterH])
      (push_cast only [vk_cells, vk_at, vk_great, vk_left, vk_many, vk_mixed, pk_at, pk_great, pk_left, pk_many, pk_mixed, sdl_len])
      (simp only [a_laterH])
      (push_cast only [vk_cells, vk_at, vk_great, vk_left, vk_many, vk_mixed, pk_at, pk_great, pk_left, pk_many, pk_mixed, sdl_len])
      exact fin _ _ _ _ _ _ _ sxG hlG (by omega)
     ·(simp only [a_laterH])
      (push_cast only [vk_cells, vk_at, vk_great, vk_left, vk_many, vk_mixed, pk_at, pk_great, pk_left, pk_many, pk_mixed, sdl_len])
      (simp only [a_laterH])
      (push_cast only [vk_cells, vk_at, vk_great, vk_left, vk_many, vk_mixed, pk_at, pk_great, pk_left, pk_many, pk_mixed, sdl_len])
      refine ⟨_, _, rfl, fun y0 u0 u1 => ?_⟩
      (push_cast only [vk_cells, vk_at, vk_great, vk_left, vk_many, vk_mixed, pk_at, pk_great, pk_left, pk_many, pk_mixed, sdl_len])
      (simp only [a_laterH])
      (push_cast only [vk_cells, vk_at, vk_great, vk_left, vk_many, vk_mixed, pk_at, pk_great, pk_left, pk_many, pk_mixed, sdl_len])
      refine ⟨_, _, rfl, fun y1 u2 u3 => ?_⟩
      (push_cast only [vk_cells, vk_at, vk_great, vk_left, vk_many, vk_mixed, pk_at, pk_great, pk_left, pk_many, pk_mixed, sdl_len])
      exact ⟨⟨by decide, by decide⟩, h1, fin _ _ _ _ _ _ _ sxG hlG (by omega)⟩
    ·have sxG := SX0
     have hlG := hl
     (simp only [a_laterH])
     (push_cast only [vk_cells, vk_at, vk_great, vk_left, vk_many, vk_mixed, pk_at, pk_great, pk_left, pk_many, pk_mixed, sdl_len])
     split
     ·split
      ·refine ⟨h1, ?_⟩
       (simp only [a_laterH])
       (push_cast only [vk_cells, vk_at, vk_great, vk_left, vk_many, vk_mixed, pk_at, pk_great, pk_left, pk_many, pk_mixed, sdl_len])
       refine ⟨⟨h1, h2⟩, ?_⟩
       (simp only [a_laterH])
       (push_cast only [vk_cells, vk_at, vk_great, vk_left, vk_many, vk_mixed, pk_at, pk_great, pk_left, pk_many, pk_mixed, sdl_len])
       (simp only [a_laterH])
       (push_cast only [vk_cells, vk_at, vk_great, vk_left, vk_many, vk_mixed, pk_at, pk_great, pk_left, pk_many, pk_mixed, sdl_len])
       exact fin _ _ _ _ _ _ _ sxG hlG (by omega)
      ·(simp only [a_laterH])
       (push_cast only [vk_cells, vk_at, vk_great, vk_left, vk_many, vk_mixed, pk_at, pk_great, pk_left, pk_many, pk_mixed, sdl_len])
       (simp only [a_laterH])
       (push_cast only [vk_cells, vk_at, vk_great, vk_left, vk_many, vk_mixed, pk_at, pk_great, pk_left, pk_many, pk_mixed, sdl_len])
       refine ⟨_, _, rfl, fun y0 u0 u1 => ?_⟩
       (push_cast only [vk_cells, vk_at, vk_great, vk_left, vk_many, vk_mixed, pk_at, pk_great, pk_left, pk_many, pk_mixed, sdl_len])
       (simp only [a_laterH])
       (push_cast only [vk_cells, vk_at, vk_great, vk_left, vk_many, vk_mixed, pk_at, pk_great, pk_left, pk_many, pk_mixed, sdl_len])
       refine ⟨_, _, rfl, fun y1 u2 u3 => ?_⟩
       (push_cast only [vk_cells, vk_at, vk_great, vk_left, vk_many, vk_mixed, pk_at, pk_great, pk_left, pk_many, pk_mixed, sdl_len])
       exact ⟨⟨by decide, by decide⟩, h1, fin _ _ _ _ _ _ _ sxG hlG (by omega)⟩
     ·(simp only [a_laterH])
      (push_cast only [vk_cells, vk_at, vk_great, vk_left, vk_many, vk_mixed, pk_at, pk_great, pk_left, pk_many, pk_mixed, sdl_len])
      (simp only [a_laterH])
      (push_cast only [vk_cells, vk_at, vk_great, vk_left, vk_many, vk_mixed, pk_at, pk_great, pk_left, pk_many, pk_mixed, sdl_len])
      refine ⟨_, _, rfl, fun y0 u0 u1 => ?_⟩
      (push_cast only [vk_cells, vk_at, vk_great, vk_left, vk_many, vk_mixed, pk_at, pk_great, pk_left, pk_many, pk_mixed, sdl_len])
      (simp only [a_laterH])
      (push_cast only [vk_cells, vk_at, vk_great, vk_left, vk_many, vk_mixed, pk_at, pk_great, pk_left, pk_many, pk_mixed, sdl_len])
      refine ⟨_, _, rfl, fun y1 u2 u3 => ?_⟩
      (push_cast only [vk_cells, vk_at, vk_great, vk_left, vk_many, vk_mixed, pk_at, pk_great, pk_left, pk_many, pk_mixed, sdl_len])
      exact ⟨⟨by decide, by decide⟩, h1, fin _ _ _ _ _ _ _ sxG hlG (by omega)⟩
   ·rw [if_neg c2]
    have sxG := SX0
    have hlG := hl
    (simp only [a_laterH])
    (push_cast only [vk_cells, vk_at, vk_great, vk_left, vk_many, vk_mixed, pk_at, pk_great, pk_left, pk_many, pk_mixed, sdl_len])
    split
    ·split
     ·refine ⟨h1, ?_⟩
      (simp only [a_laterH])
      (push_cast only [vk_cells, vk_at, vk_great, vk_left, vk_many, vk_mixed, pk_at, pk_great, pk_left, pk_many, pk_mixed, sdl_len])
      refine ⟨⟨h1, h2⟩, ?_⟩
      (simp only [a_laterH])
      (push_cast only [vk_cells, vk_at, vk_great, vk_left, vk_many, vk_mixed, pk_at, pk_great, pk_left, pk_many, pk_mixed, sdl_len])
      (simp only [a_laterH])
      (push_cast only [vk_cells, vk_at, vk_great, vk_left, vk_many, vk_mixed, pk_at, pk_great, pk_left, pk_many, pk_mixed, sdl_len])
      exact fin _ _ _ _ _ _ _ sxG hlG (by omega)
     ·(simp only [a_laterH])
      (push_cast only [vk_cells, vk_at, vk_great, vk_left, vk_many, vk_mixed, pk_at, pk_great, pk_left, pk_many, pk_mixed, sdl_len])
      (simp only [a_laterH])
      (push_cast only [vk_cells, vk_at, vk_great, vk_left, vk_many, vk_mixed, pk_at, pk_great, pk_left, pk_many, pk_mixed, sdl_len])
      refine ⟨_, _, rfl, fun y0 u0 u1 => ?_⟩
      (push_cast only [vk_cells, vk_at, vk_great, vk_left, vk_many, vk_mixed, pk_at, pk_great, pk_left, pk_many, pk_mixed, sdl_len])
      (simp only [a_laterH])
      (push_cast only [vk_cells, vk_at, vk_great, vk_left, vk_many, vk_mixed, pk_at, pk_great, pk_left, pk_many, pk_mixed, sdl_len])
      refine ⟨_, _, rfl, fun y1 u2 u3 => ?_⟩
      (push_cast only [vk_cells, vk_at, vk_great, vk_left, vk_many, vk_mixed, pk_at, pk_great, pk_left, pk_many, pk_mixed, sdl_len])
      exact ⟨⟨by decide, by decide⟩, h1, fin _ _ _ _ _ _ _ sxG hlG (by omega)⟩
    ·(simp only [a_laterH])
     (push_cast only [vk_cells, vk_at, vk_great, vk_left, vk_many, vk_mixed, pk_at, pk_great, pk_left, pk_many, pk_mixed, sdl_len])
     (simp only [a_laterH])
     (push_cast only [vk_cells, vk_at, vk_great, vk_left, vk_many, vk_mixed, pk_at, pk_great, pk_left, pk_many, pk_mixed, sdl_len])
     refine ⟨_, _, rfl, fun y0 u0 u1 => ?_⟩
     (push_cast only [vk_cells, vk_at, vk_great, vk_left, vk_many, vk_mixed, pk_at, pk_great, pk_left, pk_many, pk_mixed, sdl_len])
     (simp only [a_laterH])
     (push_cast only [vk_cells, vk_at, vk_great, vk_left, vk_many, vk_mixed, pk_at, pk_great, pk_left, pk_many, pk_mixed, sdl_len])
     refine ⟨_, _, rfl, fun y1 u2 u3 => ?_⟩
     (push_cast only [vk_cells, vk_at, vk_great, vk_left, vk_many, vk_mixed, pk_at, pk_great, pk_left, pk_many, pk_mixed, sdl_len])
     exact ⟨⟨by decide, by decide⟩, h1, fin _ _ _ _ _ _ _ sxG hlG (by omega)⟩
  ·rw [if_neg c1]
   have sxG := SX0
   have hlG := hl
   (simp only [a_laterH])
   (push_cast only [vk_cells, vk_at, vk_great, vk_left, vk_many, vk_mixed, pk_at, pk_great, pk_left, pk_many, pk_mixed, sdl_len])
   split
   ·split
    ·refine ⟨h1, ?_⟩
     (simp only [a_laterH])
     (push_cast only [vk_cells, vk_at, vk_great, vk_left, vk_many, vk_mixed, pk_at, pk_great, pk_left, pk_many, pk_mixed, sdl_len])
     refine ⟨⟨h1, h2⟩, ?_⟩
     (simp only [a_laterH])
     (push_cast only [vk_cells, vk_at, vk_great, vk_left, vk_many, vk_mixed, pk_at, pk_great, pk_left, pk_many, pk_mixed, sdl_len])
     (simp only [a_laterH])
     (push_cast only [vk_cells, vk_at, vk_great, vk_left, vk_many, vk_mixed, pk_at, pk_great, pk_left, pk_many, pk_mixed, sdl_len])
     exact fin _ _ _ _ _ _ _ sxG hlG (by omega)
    ·(simp only [a_laterH])
     (push_cast only [vk_cells, vk_at, vk_great, vk_left, vk_many, vk_mixed, pk_at, pk_great, pk_left, pk_many, pk_mixed, sdl_len])
     (simp only [a_laterH])
     (push_cast only [vk_cells, vk_at, vk_great, vk_left, vk_many, vk_mixed, pk_at, pk_great, pk_left, pk_many, pk_mixed, sdl_len])
     refine ⟨_, _, rfl, fun y0 u0 u1 => ?_⟩
     (push_cast only [vk_cells, vk_at, vk_great, vk_left, vk_many, vk_mixed, pk_at, pk_great, pk_left, pk_many, pk_mixed, sdl_len])
     (simp only [a_laterH])
     (push_cast only [vk_cells, vk_at, vk_great, vk_left, vk_many, vk_mixed, pk_at, pk_great, pk_left, pk_many, pk_mixed, sdl_len])
     refine ⟨_, _, rfl, fun y1 u2 u3 => ?_⟩
     (push_cast only [vk_cells, vk_at, vk_great, vk_left, vk_many, vk_mixed, pk_at, pk_great, pk_left, pk_many, pk_mixed, sdl_len])
     exact ⟨⟨by decide, by decide⟩, h1, fin _ _ _ _ _ _ _ sxG hlG (by omega)⟩
   ·(simp only [a_laterH])
    (push_cast only [vk_cells, vk_at, vk_great, vk_left, vk_many, vk_mixed, pk_at, pk_great, pk_left, pk_many, pk_mixed, sdl_len])
    (simp only [a_laterH])
    (push_cast only [vk_cells, vk_at, vk_great, vk_left, vk_many, vk_mixed, pk_at, pk_great, pk_left, pk_many, pk_mixed, sdl_len])
    refine ⟨_, _, rfl, fun y0 u0 u1 => ?_⟩
    (push_cast only [vk_cells, vk_at, vk_great, vk_left, vk_many, vk_mixed, pk_at, pk_great, pk_left, pk_many, pk_mixed, sdl_len])
    (simp only [a_laterH])
    (push_cast only [vk_cells, vk_at, vk_great, vk_left, vk_many, vk_mixed, pk_at, pk_great, pk_left, pk_many, pk_mixed, sdl_len])
    refine ⟨_, _, rfl, fun y1 u2 u3 => ?_⟩
    (push_cast only [vk_cells, vk_at, vk_great, vk_left, vk_many, vk_mixed, pk_at, pk_great, pk_left, pk_many, pk_mixed, sdl_len])
    exact ⟨⟨by decide, by decide⟩, h1, fin _ _ _ _ _ _ _ sxG hlG (by omega)⟩
noncomputable def sp_spool (K : PySem.W.Frag) : Sp := fun vs H Q _ => ∃ (a : Addr) (ns : List Int), vs = [.ref a] ∧ Scr K a ns H ∧ ∀ (p l : Addr) (H' : Hp), H p = none → H l = none → Same H H' → Spool H' p l → Q (.ref p) H'
theorem sc__law_spool : FnScope ["_law_script"] ["_law_script"] (defScope s__law_spool) := ⟨rfl, rfl, rfl, by decide +kernel, rfl, by decide +kernel, by decide +kernel⟩
theorem ok_spool (F : Fun K "_law_spool" "_law_spool" s__law_spool f fd) (hm : mg "_law_spool" = some (.ref f)) (hb : Binds K fd ["_law_script"] []) (T : Txt mg) : Cal P w K mg base "_law_spool" ["_law_script"] 1 (sp_spool K) := by
 refine cal_of F hm hb sc__law_spool (fun vs H Q E h => ?_) (fun cdv A outer s H vs Q E hr h => ?_)
 ·obtain ⟨_, _, rfl, _⟩ := h; rfl
 ·obtain ⟨a, ns, rfl, hq, q⟩ := h
  have sc := sc__law_spool
  refine ⟨_, pss_one (ps_ret (pe_disp (pps_cons pe_str (pe_callTy listS0 rfl T.list_ bt_list (pa_cons (pv 0) pa_nil)) (pps_cons pe_str pe_int (pps_cons pe_str pe_int (pps_cons pe_str pe_int (pps_cons pe_str pe_int (pps_cons pe_str pe_int pps_nil)))))) rfl rfl (by decide) (by decide))), ?_⟩
  rw [show L2.start ["_law_script"] [.ref a] = [some (.ref a)] from rfl]
  (push_cast only [])
  intro p np
  have sx : SameX p H (upd H p (HO.dK [])) := SameX.upd
  refine ⟨_, hq.keep np sx, fun l H2 nl s2 e2 => ?_⟩
  have ep := s2 p _ upd_same
  have nlp : l ≠ p := fun z => by rw [z, upd_same] at nl; cases nl
  refine ⟨ep, sdl l 0 0 0 0 53, rfl, by show 6 ≤ 15; decide, ?_⟩
  rw [show mergeK [] (sdl l 0 0 0 0 53) = sdl l 0 0 0 0 53 from rfl]
  refine q p l _ np (by rw [upd_ne nlp] at nl; exact nl) (fun b o e => ?_) ⟨ns, 0, 0, 0, 0, 53, upd_same, by rw [upd_ne nlp]; exact e2, nlp, by decide⟩
  have nb : b ≠ p := fun z => by rw [z, np] at e; cases e
  rw [upd_ne nb]
  exact s2 _ _ (by rw [upd_ne nb]; exact e)
end
end K53
end
section
set_option Elab.async false
set_option linter.all false
set_option maxRecDepth 100000
set_option maxHeartbeats 8000000
namespace K53
open PySem L2
section
variable {P : Program} {w : World} {K : PySem.W.Frag} {mg : Str → Option Value} {base : Heap} {f : Addr} {fd : FuncData}
theorem pow32 {m : Nat} (h : m ≤ 5) : 2 ^ m ≤ 32 ∧ 0 < 2 ^ m := ⟨Nat.le_trans (Nat.pow_le_pow_right (by decide) h) (by decide), Nat.two_pow_pos m⟩
theorem hpow (m : Nat) : (1 : Int) * 2 ^ (m : Int).toNat = ((2 ^ m : Nat) : Int) := by rw [Int.one_mul, Int.toNat_natCast]; norm_cast
noncomputable def hasI (h t : Int) : Bool := decide (Builtin.bitAnd (h / 2 ^ t.toNat) 1 = 1)
noncomputable def sp_has : Sp := fun vs H Q _ => ∃ h t : Int, vs = [.int h, .int t] ∧ 0 ≤ t ∧ Q (.bl (hasI h t)) H
theorem sc_has : FnScope ["heap", "thing"] ["heap", "thing"] (defScope s_has) := ⟨rfl, rfl, rfl, by decide +kernel, rfl, by decide +kernel, by decide +kernel⟩
theorem ok_has (F : Fun K "has" "has" s_has f fd) (hm : mg "has" = some (.ref f)) (hb : Binds K fd ["heap", "thing"] []) (T : Txt mg) : Cal P w K mg base "has" ["heap", "thing"] 1 sp_has := by
 refine cal_of F hm hb sc_has (fun vs H Q E h => ?_) (fun cdv A outer s H vs Q E hr h => ?_)
 ·obtain ⟨_, _, rfl, _⟩ := h; rfl
 ·obtain ⟨h, t, rfl, ht, q⟩ := h
  have sc := sc_has
  refine ⟨_, pss_one (ps_ret (pe_cmpR op_eq (pe_op op_and (pe_op op_shr (pv 0) (pv 1)) pe_int) pe_int (nomark _))), ?_⟩
  rw [show L2.start ["heap", "thing"] [.int h, .int t] = [some (.int h), some (.int t)] from rfl]
  (push_cast only [])
  exact ⟨ht, q⟩
noncomputable def lessI (a b : Int) : Int := a - Builtin.bitAnd a b
noncomputable def sp_less : Sp := fun vs H Q _ => ∃ a b : Int, vs = [.int a, .int b] ∧ Q (.int (lessI a b)) H
theorem sc_less : FnScope ["one", "other"] ["one", "other"] (defScope s_less) := ⟨rfl, rfl, rfl, by decide +kernel, rfl, by decide +kernel, by decide +kernel⟩
theorem ok_less (F : Fun K "less" "less" s_less f fd) (hm : mg "less" = some (.ref f)) (hb : Binds K fd ["one", "other"] []) (T : Txt mg) : Cal P w K mg base "less" ["one", "other"] 1 sp_less := by
 refine cal_of F hm hb sc_less (fun vs H Q E h => ?_) (fun cdv A outer s H vs Q E hr h => ?_)
 ·obtain ⟨_, _, rfl, _⟩ := h; rfl
 ·obtain ⟨h, t, rfl, q⟩ := h
  have sc := sc_less
  refine ⟨_, pss_one (ps_ret (pe_op op_sub (pv 0) (pe_op op_and (pv 0) (pv 1)))), ?_⟩
  rw [show L2.start ["one", "other"] [.int h, .int t] = [some (.int h), some (.int t)] from rfl]
  (push_cast only [])
  exact q
noncomputable def sp_isw : Sp := fun vs H Q _ => ∃ a b : Int, vs = [.int a, .int b] ∧ Q (.bl (decide (lessI a b = 0))) H
theorem sc_is_within : FnScope ["one", "other"] ["one", "other"] (defScope s_is_within) := ⟨rfl, rfl, rfl, by decide +kernel, rfl, by decide +kernel, by decide +kernel⟩
theorem ok_isw (F : Fun K "is_within" "is_within" s_is_within f fd) (hm : mg "is_within" = some (.ref f)) (hb : Binds K fd ["one", "other"] []) (T : Txt mg) (c_less : Cal P w K mg base "less" ["one", "other"] 1 sp_less) : Cal P w K mg base "is_within" ["one", "other"] 2 sp_isw := by
 refine cal_of F hm hb sc_is_within (fun vs H Q E h => ?_) (fun cdv A outer s H vs Q E hr h => ?_)
 ·obtain ⟨_, _, rfl, _⟩ := h; rfl
 ·obtain ⟨h, t, rfl, q⟩ := h
  have sc := sc_is_within
  refine ⟨_, pss_one (ps_ret (pe_cmpR op_eq (pe_cal c_less hr (pa_cns (pv 0) (pa_cns (pv 1) pa_nil))) pe_int (nomark _))), ?_⟩
  rw [show L2.start ["one", "other"] [.int h, .int t] = [some (.int h), some (.int t)] from rfl]
  (push_cast only [sp_less])
  exact q
noncomputable def maxL : List Int → Int
 | [] => 0
 | a :: l => if l = [] then a else max a (maxL l)
theorem maxL_mem : ∀ {l : List Int}, l ≠ [] → maxL l ∈ l
 | [], h => absurd rfl h
 | a :: l, _ => by
  unfold maxL
  by_cases e : l = []
  ·rw [if_pos e]; exact List.mem_cons_self
  ·rw [if_neg e]
   have := maxL_mem e
   rcases Int.le_total a (maxL l) with z | z
   ·rw [Int.max_eq_right z]; exact List.mem_cons_of_mem _ this
   ·rw [Int.max_eq_left z]; exact List.mem_cons_self
theorem maxL_ge : ∀ {l : List Int} {x : Int}, x ∈ l → x ≤ maxL l
 | a :: l, x, h => by
  unfold maxL
  by_cases e : l = []
  ·subst e; rw [if_pos rfl]; have : x = a := by simpa using h
   omega
  ·rw [if_neg e]
   rcases List.mem_cons.mp h with rfl | h
   ·exact Int.le_max_left _ _
   ·exact Int.le_trans (maxL_ge h) (Int.le_max_right _ _)
theorem maxL_eq {l : List Int} {m : Int} (h1 : m ∈ l) (h2 : ∀ x ∈ l, x ≤ m) : maxL l = m := by
 have ne : l ≠ [] := by rintro rfl; cases h1
 have a := h2 _ (maxL_mem ne)
 have b := maxL_ge h1
 omega
noncomputable def inB (p h : Nat) : Bool := decide (lessI (p : Int) (h : Int) = 0)
noncomputable def partsN (h : Nat) : List Nat := (List.range (h + 1)).filter fun p => inB p h
theorem part_facts {p h : Nat} (hh : h < 32) (hp : p ≤ h) : inB p h = true → lessI (h : Int) (p : Int) = ((h - p : Nat) : Int) ∧ inB (h - p) h = true := by
 have key : ∀ (a b : _root_.Fin 32), b.val ≤ a.val → inB b.val a.val = true → lessI (a.val : Int) (b.val : Int) = ((a.val - b.val : Nat) : Int) ∧ inB (a.val - b.val) a.val = true := by decide +kernel
 exact key ⟨h, hh⟩ ⟨p, by omega⟩ hp
theorem self_in {h : Nat} (hh : h < 32) : inB h h = true ∧ inB 0 h = true := by
 have key : ∀ a : _root_.Fin 32, inB a.val a.val = true ∧ inB 0 a.val = true := by decide +kernel
 exact key ⟨h, hh⟩
noncomputable def valsN (one other : List Int) (ps : List Nat) (h : Nat) : List Int := ps.map fun p => one.getD p 0 + other.getD (h - p) 0
noncomputable def joinAt (one other : List Int) (h : Nat) : Int := maxL (valsN one other (partsN h) h)
theorem mem_parts {p h : Nat} : p ∈ partsN h ↔ p ≤ h ∧ inB p h = true := by
 unfold partsN
 rw [List.mem_filter, List.mem_range]
 constructor
 ·rintro ⟨a, b⟩; exact ⟨by omega, b⟩
 ·rintro ⟨a, b⟩; exact ⟨by omega, b⟩
structure Two (one other : List Int) : Prop where
 same : one.length = other.length
 few : one.length ≤ 32
noncomputable def sp_parted : Sp := fun vs H Q _ => ∃ (a b : Addr) (one other : List Int) (h : Nat), vs = [.ref a, .ref b, .int (h : Int)] ∧ H a = some (.tup (one.map V.int)) ∧ H b = some (.tup (other.map V.int)) ∧ Two one other ∧ h < one.length ∧ ∀ H', Same H H' → Q (.int (joinAt one other h)) H'
noncomputable def LP (a b c : Addr) (one other : List Int) (h : Nat) (G : Hp) (i : Nat) (σ : St) (H : Hp) : Prop := ∃ v, σ = [v, some (.ref a), some (.ref b), some (.int (h : Int))] ∧ SameX c G H ∧ H c = some (.lst ((valsN one other ((List.range i).filter fun p => inB p h) h).map V.int))
theorem sc_most_parted : FnScope ["one", "other", "heap"] ["one", "other", "heap"] (defScope s_most_parted) := ⟨rfl, rfl, rfl, by decide +kernel, rfl, by decide +kernel, by decide +kernel⟩
theorem ok_parted (F : Fun K "most_parted" "most_parted" s_most_parted f fd) (hm : mg "most_parted" = some (.ref f)) (hb : Binds K fd ["one", "other", "heap"] []) (T : Txt mg) (c_less : Cal P w K mg base "less" ["one", "other"] 1 sp_less) (c_is_within : Cal P w K mg base "is_within" ["one", "other"] 2 sp_isw) : Cal P w K mg base "most_parted" ["one", "other", "heap"] 3 sp_parted := by
 refine cal_of F hm hb sc_most_parted (fun vs H Q E h => ?_) (fun cdv A outer s H vs Q E hr h => ?_)
 ·obtain ⟨_, _, _, _, _, rfl, _⟩ := h; rfl
 ·obtain ⟨a, b, one, other, h, rfl, ha, hb', tw, hh, q⟩ := h
  have sc := sc_most_parted
  have tw1 := tw.same
  have tw2 := tw.few
  refine ⟨_, pss_one (ps_ret (pe_callB (max0 rfl) rfl T.max_ bt_max (pa_cns (pe_lc (N := ["part", "one", "other", "heap"]) (fr := [none, some 0, some 1, some 2]) rfl (pi_range1 rfl T.range_ (pa_cns (pe_op op_add (pv 2) pe_int) pa_nil)) (CScope.of rfl rfl rfl) rfl (fun _ _ _ => ⟨pg_name (i := 0) (show List.Nodup (α := Str) ["part", "one", "other", "heap"] by decide +kernel) rfl (Or.inl rfl), pif_one (pt_val (pe_cal c_is_within hr (pa_cns (pv 0) (pa_cns (pv 3) pa_nil)))), pe_op op_add (pe_ix ix0 (pv 1) (pv 0) (fun _ _ => rfl)) (pe_ix ix0 (pv 2) (pe_cal c_less hr (pa_cns (pv 3) (pa_cns (pv 0) pa_nil))) (fun _ _ => rfl))⟩)) pa_nil))), ?_⟩
  rw [show L2.start ["one", "other", "heap"] [.ref a, .ref b, .int (h : Int)] = [some (.ref a), some (.ref b), some (.int (h : Int))] from rfl]
  (push_cast only [])
  refine ⟨by omega, by omega, fun c nc => ?_⟩
  have nac : a ≠ c := ne_of_none ha nc
  have nbc : b ≠ c := ne_of_none hb' nc
  refine cl_range (LP a b c one other h H) ⟨none, rfl, SameX.upd, upd_same⟩ ?_ ?_
  ·rintro i σ H1 hi ⟨v, rfl, s1, e1⟩
   have hi' : i ≤ h := by omega
   have hsa := sq_tup (s1 _ _ nac ha)
   have hsb := sq_tup (s1 _ _ nbc hb')
   (push_cast only [])
   refine ⟨(i : Int), (h : Int), rfl, ?_⟩
   have el : ((List.range (i + 1)).filter fun p => inB p h) = ((List.range i).filter fun p => inB p h) ++ if inB i h = true then [i] else [] := by
    rw [List.range_succ, List.filter_append]
    congr 1
    cases e : inB i h <;> simp [List.filter, e]
   cases hw : inB i h with
   | true =>
    have hd : decide (lessI (i : Int) (h : Int) = 0) = true := hw
    rw [hd]
    obtain ⟨f1, _⟩ := part_facts (h := h) (p := i) (by omega) hi' hw
    have hat1 := at_int (ns := one) (n := i) (by omega)
    have hat2 := at_int (ns := other) (n := h - i) (by omega)
    (push_cast only [hsa, hsb, hat1])
    refine ⟨(h : Int), (i : Int), rfl, ?_⟩
    rw [f1]
    (push_cast only [hsb, hat2, e1])
    have ll : (valsN one other ((List.range i).filter fun p => inB p h) h).length ≤ i := by
     unfold valsN
     rw [List.length_map]
     exact Nat.le_trans (List.length_filter_le _ _) (by simp)
    refine ⟨small1000 (by omega), ⟨_, rfl, s1.trans SameX.upd, ?_⟩⟩
    rw [upd_same, el, if_pos hw]
    unfold valsN
    simp
   | false =>
    have hd : decide (lessI (i : Int) (h : Int) = 0) = false := hw
    rw [hd]
    (push_cast only [])
    refine ⟨_, rfl, s1, ?_⟩
    rw [e1, el, if_neg (by rw [hw]; decide), List.append_nil]
  ·rintro σ H1 ⟨v, rfl, s1, e1⟩
   have en : ((h : Int) + 1).toNat = h + 1 := by omega
   rw [en] at e1
   have ne : valsN one other (partsN h) h ≠ [] := by
    intro z
    have : one.getD h 0 + other.getD (h - h) 0 ∈ valsN one other (partsN h) h := by
     unfold valsN
     exact List.mem_map.mpr ⟨h, mem_parts.mpr ⟨Nat.le_refl _, (self_in (by omega)).1⟩, rfl⟩
    rw [z] at this
    cases this
   refine ⟨_, sq_lst e1, ne, fun mx m1 m2 => ?_⟩
   have := q H1 (s1.same nc)
   have em : joinAt one other h = mx := maxL_eq m1 m2
   rw [em] at this
   exact this
noncomputable def joinT (one other : List Int) : List Int := (List.range one.length).map fun h => joinAt one other h
noncomputable def sp_joined : Sp := fun vs H Q _ => ∃ (a b : Addr) (one other : List Int), vs = [.ref a, .ref b] ∧ H a = some (.tup (one.map V.int)) ∧ H b = some (.tup (other.map V.int)) ∧ Two one other ∧ ∀ (l : Addr) (H' : Hp), Same H H' → H' l = some (.tup ((joinT one other).map V.int)) → Q (.ref l) H'
noncomputable def LJ (a b c : Addr) (one other : List Int) (G : Hp) (i : Nat) (σ : St) (H : Hp) : Prop := ∃ v, σ = [v, some (.ref a), some (.ref b)] ∧ SameX c G H ∧ H c = some (.lst (((List.range i).map fun h => joinAt one other h).map V.int))
theorem sc_joined : FnScope ["one", "other"] ["one", "other"] (defScope s_joined) := ⟨rfl, rfl, rfl, by decide +kernel, rfl, by decide +kernel, by decide +kernel⟩
theorem ok_joined (F : Fun K "joined" "joined" s_joined f fd) (hm : mg "joined" = some (.ref f)) (hb : Binds K fd ["one", "other"] []) (T : Txt mg) (c_most_parted : Cal P w K mg base "most_parted" ["one", "other", "heap"] 3 sp_parted) : Cal P w K mg base "joined" ["one", "other"] 4 sp_joined := by
 refine cal_of F hm hb sc_joined (fun vs H Q E h => ?_) (fun cdv A outer s H vs Q E hr h => ?_)
 ·obtain ⟨_, _, _, _, rfl, _⟩ := h; rfl
 ·obtain ⟨a, b, one, other, rfl, ha, hb', tw, q⟩ := h
  have sc := sc_joined
  have tw2 := tw.few
  refine ⟨_, pss_one (ps_ret (pe_callTy tupA0 rfl T.tuple_ bt_tuple (pa_cns (pe_lc (N := ["heap", "one", "other"]) (fr := [none, some 0, some 1]) rfl (pi_range1 rfl T.range_ (pa_cns (pe_callB len0 rfl T.len_ bt_len (pa_cns (pv 0) pa_nil)) pa_nil)) (CScope.of rfl rfl rfl) rfl (fun _ _ _ => ⟨pg_name (i := 0) (show List.Nodup (α := Str) ["heap", "one", "other"] by decide +kernel) rfl (Or.inl rfl), pif_nil, pe_cal c_most_parted hr (pa_cns (pv 1) (pa_cns (pv 2) (pa_cns (pv 0) pa_nil)))⟩)) pa_nil))), ?_⟩
  rw [show L2.start ["one", "other"] [.ref a, .ref b] = [some (.ref a), some (.ref b)] from rfl]
  have hsa := sq_tup ha
  (push_cast only [hsa])
  refine ⟨by omega, by omega, fun c nc => ?_⟩
  have nac : a ≠ c := ne_of_none ha nc
  have nbc : b ≠ c := ne_of_none hb' nc
  refine cl_range (LJ a b c one other H) ⟨none, rfl, SameX.upd, upd_same⟩ ?_ ?_
  ·rintro i σ H1 hi ⟨v, rfl, s1, e1⟩
   rw [Int.toNat_natCast] at hi
   (push_cast only [])
   refine ⟨a, b, one, other, i, rfl, s1 _ _ nac ha, s1 _ _ nbc hb', tw, hi, fun H2 s2 => ?_⟩
   have e2 := s2 _ _ e1
   (push_cast only [e2])
   refine ⟨small1000 (by simp; omega), ⟨_, rfl, (s1.trans s2.x).trans SameX.upd, ?_⟩⟩
   rw [upd_same, List.range_succ]
   simp
  ·rintro σ H1 ⟨v, rfl, s1, e1⟩
   rw [Int.toNat_natCast] at e1
   refine ⟨_, e1, fun l H2 nl s2 e2 => ?_⟩
   exact q l H2 ((s1.same nc).trans s2) e2
noncomputable def dpL (m : Nat) (wss : List (List Int)) : List Int := wss.foldl joinT (List.replicate (2 ^ m) 0)
theorem joinT_len (one other : List Int) : (joinT one other).length = one.length := by unfold joinT; simp
theorem dp_len (m : Nat) : ∀ (wss : List (List Int)) (s : List Int), s.length = 2 ^ m → (wss.foldl joinT s).length = 2 ^ m
 | [], _, h => h
 | _ :: wss, s, h => dp_len m wss _ (by rw [joinT_len]; exact h)
noncomputable def sp_gsums : Sp := fun vs H Q _ => ∃ (wt : Addr) (m : Nat) (ts : List (Addr × List Int)), vs = [.ref wt, .int (m : Int)] ∧ H wt = some (.tup (ts.map fun t => V.ref t.1)) ∧ m ≤ 5 ∧ ts.length ≤ 5 ∧ (∀ t ∈ ts, H t.1 = some (.tup (t.2.map V.int)) ∧ t.2.length = 2 ^ m) ∧
 ∀ (l : Addr) (H' : Hp), Same H H' → H' l = some (.tup ((dpL m (ts.map fun t => t.2)).map V.int)) → Q (.ref l) H'
noncomputable def GS (wt : Addr) (m : Nat) (ts : List (Addr × List Int)) (G : Hp) (i : Nat) (σ : St) (H : Hp) : Prop := ∃ (v : Option V) (l : Addr), σ = [some (.ref wt), some (.int (m : Int)), some (.ref l), v] ∧ Same G H ∧ H l = some (.tup ((dpL m ((ts.take i).map fun t => t.2)).map V.int))
theorem rep_flat (x : Int) : ∀ n : Nat, (List.replicate n [V.int x]).flatten = (List.replicate n x).map V.int
 | 0 => rfl
 | n + 1 => by rw [List.replicate_succ, List.flatten_cons, rep_flat x n, List.replicate_succ, List.map_cons]; rfl
theorem sc_greatest_sums : FnScope ["wants", "many", "sums", "want"] ["wants", "many"] (defScope s_greatest_sums) := ⟨rfl, rfl, rfl, by decide +kernel, rfl, by decide +kernel, by decide +kernel⟩
theorem ok_gsums (F : Fun K "greatest_sums" "greatest_sums" s_greatest_sums f fd) (hm : mg "greatest_sums" = some (.ref f)) (hb : Binds K fd ["wants", "many"] []) (T : Txt mg) (c_joined : Cal P w K mg base "joined" ["one", "other"] 4 sp_joined) : Cal P w K mg base "greatest_sums" ["wants", "many"] 5 sp_gsums := by
 refine cal_of F hm hb sc_greatest_sums (fun vs H Q E h => ?_) (fun cdv A outer s H vs Q E hr h => ?_)
 ·obtain ⟨_, _, _, rfl, _⟩ := h; rfl
 ·obtain ⟨wt, m, ts, rfl, hwt, m5, t5, hrow, q⟩ := h
  have sc := sc_greatest_sums
  refine ⟨_, pss_cons (ps_set (i := 2) sc.nd rfl (Or.inl rfl) (pe_op mulT0 (pe_tupA (pa_cns pe_int pa_nil)) (pe_op op_shl pe_int (pv 1))))
   (pss_cons (ps_for PassesOwn.never rfl (pi_t0 (pv 0)) (pg_name (i := 3) sc.nd rfl (Or.inl rfl))
    (pss_one (ps_set (i := 2) sc.nd rfl (Or.inl rfl) (pe_cal c_joined hr (pa_cns (pv 2) (pa_cns (pv 3) pa_nil))))))
   (pss_one (ps_ret (pv 2)))), ?_⟩
  rw [show L2.start ["wants", "many", "sums", "want"] [.ref wt, .int (m : Int)] = [some (.ref wt), some (.int (m : Int)), none, none] from rfl]
  have p32 := pow32 m5
  (push_cast only [])
  rw [hpow]
  refine ⟨by decide, fun z H1 n1 s1 e1 => ⟨⟨by omega, by omega, by decide⟩, 2 ^ m, rfl, _, e1, by simp; omega, by omega, fun l H2 s2 e2 => ?_⟩⟩
  rw [rep_flat] at e2
  have S2 := s1.trans s2
  have ew := S2 _ _ hwt
  (push_cast only [ew])
  refine fl_seq (GS wt m ts H) ⟨_, l, rfl, S2, e2⟩ (fun j σ H' _ ⟨_, _, _, s, _⟩ => s _ _ hwt) ?_ ?_
  ·rintro i x σ H3 hx ⟨v, l3, rfl, s3, e3⟩
   rw [List.getElem?_map] at hx
   obtain ⟨t, ht, rfl⟩ := Option.map_eq_some_iff.mp hx
   obtain ⟨et, lt⟩ := hrow t (List.mem_of_getElem? ht)
   have dl : (dpL m ((ts.take i).map fun t => t.2)).length = 2 ^ m := dp_len m _ _ List.length_replicate
   (push_cast only [])
   refine ⟨l3, t.1, _, t.2, rfl, e3, s3 _ _ et, ⟨by rw [dl, lt], by omega⟩, fun l4 H4 s4 e4 => ?_⟩
   (push_cast only [])
   refine ⟨_, l4, rfl, s3.trans s4, ?_⟩
   rw [e4, List.take_add_one, ht]
   unfold dpL
   simp [List.foldl_append]
  ·rintro σ H3 ⟨v, l3, rfl, s3, e3⟩
   rw [List.length_map, List.take_length] at e3
   (push_cast only [])
   exact q l3 H3 s3 e3
structure TownW (H : Hp) (t sd wt : Addr) (m : Nat) (ss : List Int) (ts : List (Addr × List Int)) : Prop where
 at' : H t = some (.tup [.ref sd, .ref wt])
 sd : H sd = some (.tup (ss.map V.int))
 wt : H wt = some (.tup (ts.map fun t => V.ref t.1))
 m5 : m ≤ 5
 slen : ss.length = m
 t5 : ts.length ≤ 5
 row : ∀ t ∈ ts, H t.1 = some (.tup (t.2.map V.int)) ∧ t.2.length = 2 ^ m
noncomputable def sp_greatest : Sp := fun vs H Q _ => ∃ (t sd wt : Addr) (m : Nat) (ss : List Int) (ts : List (Addr × List Int)), vs = [.ref t] ∧ TownW H t sd wt m ss ts ∧ ∀ H', Same H H' → Q (.int ((dpL m (ts.map fun t => t.2)).getD (2 ^ m - 1) 0)) H'
theorem atI_last {xs : List Int} (h : 0 < xs.length) : atI (xs.map V.int) (-1) = some (V.int (xs.getD (xs.length - 1) 0)) := by
 have hne : xs ≠ [] := by rintro rfl; simp at h
 obtain ⟨ys, y, rfl⟩ : ∃ ys y, xs = ys ++ [y] := ⟨xs.dropLast, xs.getLast hne, (List.dropLast_concat_getLast hne).symm⟩
 unfold atI ixN
 rw [if_neg (by decide), if_pos (by simp; omega)]
 have e : (-1 + ((List.map V.int (ys ++ [y])).length : Int)).toNat = ys.length := by simp; omega
 rw [e]
 simp
theorem sc_greatest : FnScope ["town"] ["town"] (defScope s_greatest) := ⟨rfl, rfl, rfl, by decide +kernel, rfl, by decide +kernel, by decide +kernel⟩
theorem ok_greatest (F : Fun K "greatest" "greatest" s_greatest f fd) (hm : mg "greatest" = some (.ref f)) (hb : Binds K fd ["town"] []) (T : Txt mg) (c_greatest_sums : Cal P w K mg base "greatest_sums" ["wants", "many"] 5 sp_gsums) : Cal P w K mg base "greatest" ["town"] 6 sp_greatest := by
 refine cal_of F hm hb sc_greatest (fun vs H Q E h => ?_) (fun cdv A outer s H vs Q E hr h => ?_)
 ·obtain ⟨_, _, _, _, _, _, rfl, _⟩ := h; rfl
 ·obtain ⟨t, sd, wt, m, ss, ts, rfl, W, q⟩ := h
  have sc := sc_greatest
  refine ⟨_, pss_one (ps_ret (pe_ix ix0 (pe_cal c_greatest_sums hr (pa_cns (pe_ix ix0 (pv 0) pe_int (fun _ _ => rfl)) (pa_cns (pe_callB len0 rfl T.len_ bt_len (pa_cns (pe_ix ix0 (pv 0) pe_int (fun _ _ => rfl)) pa_nil)) pa_nil))) (pe_un un_neg pe_int) (fun _ _ => rfl))), ?_⟩
  rw [show L2.start ["town"] [.ref t] = [some (.ref t)] from rfl]
  have hst := sq_tup W.at'
  have hss := sq_tup W.sd
  have i1 : ∀ x y : V, atI [x, y] 1 = some y := fun _ _ => rfl
  have i0 : ∀ x y : V, atI [x, y] 0 = some x := fun _ _ => rfl
  (push_cast only [hst, i1, i0, hss])
  rw [W.slen]
  have dl : (dpL m (ts.map fun t => t.2)).length = 2 ^ m := dp_len m _ _ List.length_replicate
  have p32 := pow32 W.m5
  refine ⟨wt, m, ts, rfl, W.wt, W.m5, W.t5, W.row, fun l H1 s1 e1 => ?_⟩
  have hs1 := sq_tup e1
  have hat := atI_last (xs := dpL m (ts.map fun t => t.2)) (by omega)
  (push_cast only [hs1, hat])
  rw [dl]
  exact q H1 s1
noncomputable def hos (ds : List Int) (s : Int) : Nat → Nat
 | 0 => 0
 | k + 1 => hos ds s k + if ds.getD k 0 = s then 2 ^ k else 0
theorem hos_lt (ds : List Int) (s : Int) : ∀ k, hos ds s k < 2 ^ k
 | 0 => by simp [hos]
 | k + 1 => by
  have := hos_lt ds s k
  show hos ds s k + _ < _
  rw [Nat.pow_succ]
  split <;> omega
theorem inB_and {p h : Nat} (hp : p < 32) (hh : h < 32) : inB p h = decide (p &&& h = p) := by
 have key : ∀ a b : _root_.Fin 32, inB a.val b.val = decide (a.val &&& b.val = a.val) := by decide +kernel
 exact key ⟨p, hp⟩ ⟨h, hh⟩
theorem sub_bitsD {p h t : Nat} (hp : p < 32) (hh : h < 32) (ht : t < 5) (e : p &&& h = p) : Nat.testBit (h - p) t = (Nat.testBit h t && !Nat.testBit p t) := by
 have key : ∀ (a b : _root_.Fin 32) (t : _root_.Fin 5), a.val &&& b.val = a.val → Nat.testBit (b.val - a.val) t.val = (Nat.testBit b.val t.val && !Nat.testBit a.val t.val) := by decide +kernel
 exact key ⟨p, hp⟩ ⟨h, hh⟩ ⟨t, ht⟩ e
noncomputable def wsum (wss : List (List Int)) (ds : List Int) (k : Nat) : Int := ((List.range k).map fun h : Nat => (wss.getD h []).getD (hos ds (h : Int) ds.length) 0).sum
theorem wsum_succ (wss : List (List Int)) (ds : List Int) (k : Nat) : wsum wss ds (k + 1) = wsum wss ds k + (wss.getD k []).getD (hos ds (k : Int) ds.length) 0 := by
 unfold wsum
 rw [List.range_succ, List.map_append, List.sum_append]
 simp
theorem join_at {one other : List Int} {h : Nat} (hh : h < one.length) (h32 : one.length ≤ 32) : ∃ p, p ≤ h ∧ p &&& h = p ∧ (joinT one other).getD h 0 = one.getD p 0 + other.getD (h - p) 0 := by
 have e : (joinT one other).getD h 0 = joinAt one other h := by unfold joinT; simp [List.getD_eq_getElem?_getD, hh]
 have ne : valsN one other (partsN h) h ≠ [] := by
  intro z
  have : one.getD h 0 + other.getD (h - h) 0 ∈ valsN one other (partsN h) h := by
   unfold valsN
   exact List.mem_map.mpr ⟨h, mem_parts.mpr ⟨Nat.le_refl _, (self_in (by omega)).1⟩, rfl⟩
  rw [z] at this
  cases this
 have m := maxL_mem ne
 unfold valsN at m
 obtain ⟨p, hp, ep⟩ := List.mem_map.mp m
 obtain ⟨p1, p2⟩ := mem_parts.mp hp
 rw [inB_and (by omega) (by omega)] at p2
 refine ⟨p, p1, by simpa using p2, ?_⟩
 rw [e]
 exact ep.symm
theorem dp_take (m : Nat) (wss : List (List Int)) {k : Nat} (hk : k < wss.length) : dpL m (wss.take (k + 1)) = joinT (dpL m (wss.take k)) (wss.getD k []) := by
 unfold dpL
 rw [List.take_add_one, List.getElem?_eq_getElem hk, List.foldl_append]
 simp [List.getD_eq_getElem?_getD, hk]
theorem dp_length (m : Nat) (wss : List (List Int)) : (dpL m wss).length = 2 ^ m := dp_len m _ _ List.length_replicate
theorem bits_mod {x m : Nat} (hx : x < 2 ^ m) (hm : m ≤ 5) : ((List.range m).map fun t => if Nat.testBit x t then 2 ^ t else 0).sum = x := by
 have key : ∀ (a : _root_.Fin 32) (b : _root_.Fin 6), a.val < 2 ^ b.val → ((List.range b.val).map fun t => if Nat.testBit a.val t then 2 ^ t else 0).sum = a.val := by decide +kernel
 have := pow32 hm
 exact key ⟨x, by omega⟩ ⟨m, by omega⟩ hx
theorem hos_bits (ds : List Int) (s : Int) (x : Nat) : ∀ m, (∀ t, t < m → (ds.getD t 0 = s ↔ Nat.testBit x t = true)) → hos ds s m = ((List.range m).map fun t => if Nat.testBit x t then 2 ^ t else 0).sum
 | 0, _ => rfl
 | m + 1, h => by
  have ih := hos_bits ds s x m fun t ht => h t (by omega)
  show hos ds s m + (if ds.getD m 0 = s then 2 ^ m else 0) = _
  rw [List.range_succ, List.map_append, List.sum_append, ih]
  by_cases e : ds.getD m 0 = s
  ·rw [if_pos e]; simp [(h m (by omega)).mp e]
  ·rw [if_neg e]
   have : Nat.testBit x m = false := by
    rcases hb : Nat.testBit x m with _ | _
    ·rfl
    ·exact absurd ((h m (by omega)).mpr hb) e
   simp [this]
theorem hos_congr (ds ds' : List Int) (s : Int) : ∀ m, (∀ t, t < m → (ds.getD t 0 = s ↔ ds'.getD t 0 = s)) → hos ds s m = hos ds' s m
 | 0, _ => rfl
 | m + 1, h => by
  have ih := hos_congr ds ds' s m fun t ht => h t (by omega)
  show hos ds s m + (if ds.getD m 0 = s then 2 ^ m else 0) = hos ds' s m + (if ds'.getD m 0 = s then 2 ^ m else 0)
  rw [ih]
  by_cases e : ds.getD m 0 = s
  ·rw [if_pos e, if_pos ((h m (by omega)).mp e)]
  ·rw [if_neg e, if_neg fun z => e ((h m (by omega)).mpr z)]
theorem dp_at {m : Nat} (m5 : m ≤ 5) (wss : List (List Int)) : ∀ k, k ≤ wss.length → ∀ h, h < 2 ^ m → ∃ ds : List Int, ds.length = m ∧ (∀ x ∈ ds, -1 ≤ x ∧ x < (k : Int)) ∧ (∀ t, t < m → Nat.testBit h t = false → ds.getD t 0 = -1) ∧ wsum wss ds k = (dpL m (wss.take k)).getD h 0
 | 0, _, h, hh => by
  refine ⟨List.replicate m (-1), List.length_replicate, fun x hx => by have := List.eq_of_mem_replicate hx; omega, fun t ht _ => by simp [List.getD_eq_getElem?_getD, ht], ?_⟩
  unfold wsum dpL
  simp [List.getD_eq_getElem?_getD, hh]
 | k + 1, hk, h, hh => by
  have p32 := pow32 m5
  have dl := dp_length m (wss.take k)
  obtain ⟨p, p1, p2, p3⟩ := join_at (one := dpL m (wss.take k)) (other := wss.getD k []) (h := h) (by omega) (by omega)
  obtain ⟨ds, d1, d2, d3, d4⟩ := dp_at m5 wss k (by omega) p (by omega)
  have sb : ∀ t, t < m → Nat.testBit (h - p) t = (Nat.testBit h t && !Nat.testBit p t) := fun t ht => sub_bitsD (by omega) (by omega) (by omega) p2
  let es : List Int := (List.range m).map fun t => if Nat.testBit (h - p) t then (k : Int) else ds.getD t 0
  have el : es.length = m := by simp [es]
  have eg : ∀ t, t < m → es.getD t 0 = if Nat.testBit (h - p) t then (k : Int) else ds.getD t 0 := fun t ht => by
   simp only [es, List.getD_eq_getElem?_getD, List.getElem?_map, List.getElem?_range ht]
   rfl
  have dg : ∀ t, t < m → -1 ≤ ds.getD t 0 ∧ ds.getD t 0 < (k : Int) := fun t ht => by
   rw [List.getD_eq_getElem?_getD, List.getElem?_eq_getElem (by omega)]
   exact d2 _ (List.getElem_mem _)
  refine ⟨es, el, fun x hx => ?_, fun t ht hb => ?_, ?_⟩
  ·obtain ⟨t, ht, rfl⟩ := List.mem_map.mp hx
   have := dg t (List.mem_range.mp ht)
   split <;> omega
  ·rw [eg t ht]
   have hp : Nat.testBit p t = false := by
    have z : Nat.testBit (p &&& h) t = Nat.testBit p t := by rw [p2]
    rw [Nat.testBit_and, hb, Bool.and_false] at z
    exact z.symm
   rw [sb t ht, hb, Bool.false_and]
   simp only [Bool.false_eq_true, if_false]
   exact d3 t ht hp
  ·rw [wsum_succ, dp_take m wss (by omega), p3, ← d4]
   have hlast : hos es (k : Int) es.length = h - p := by
    rw [el, hos_bits es (k : Int) (h - p) m fun t ht => ?_, bits_mod (by omega) m5]
    rw [eg t ht]
    constructor
    ·intro z
     rcases hb : Nat.testBit (h - p) t with _ | _
     ·rw [hb] at z
      have := dg t ht
      simp only [Bool.false_eq_true, if_false] at z
      omega
     ·rfl
    ·intro z
     rw [z]
     rfl
   rw [hlast]
   congr 1
   unfold wsum
   congr 1
   refine List.map_congr_left fun hd hhd => ?_
   have hk' := List.mem_range.mp hhd
   congr 1
   rw [el, d1]
   refine hos_congr es ds (hd : Int) m fun t ht => ?_
   rw [eg t ht]
   rcases hb : Nat.testBit (h - p) t with _ | _
   ·simp
   ·have hp : Nat.testBit p t = false := by
     have := sb t ht
     rw [hb] at this
     rcases hq : Nat.testBit p t with _ | _
     ·rfl
     ·rw [hq] at this; simp at this
    rw [d3 t ht hp]
    simp
    omega
end
end K53
end
section
set_option Elab.async false
set_option linter.all false
set_option maxRecDepth 100000
set_option maxHeartbeats 8000000
namespace K53
open PySem L2
section
variable {P : Program} {w : World} {K : PySem.W.Frag} {mg : Str → Option Value} {base : Heap} {f : Addr} {fd : FuncData}
noncomputable def isI : V → Bool
 | .int _ => true
 | _ => false
noncomputable def isFrom (least : Int) : V → Bool
 | .int i => decide (least ≤ i)
 | _ => false
theorem tyN_isI {H : Hp} {x : V} {t : String} (h : tyN H x = some t) : ((t == "int" || (t == "bool" && true)) && !(t == "bool")) = isI x := by
 cases x with
 | non => cases h; rfl
 | bl b => cases h; rfl
 | int i => cases h; rfl
 | str i => cases h; rfl
 | ref a =>
  cases e : H a with
  | none => simp [tyN, e] at h
  | some o =>
   cases o with
   | lst xs => simp [tyN, e] at h; subst h; rfl
   | tup xs => simp [tyN, e] at h; subst h; rfl
   | dK xs => simp [tyN, e] at h; subst h; rfl
   | _ => simp [tyN, e] at h
 | _ => cases h
theorem tyN_same {H H' : Hp} (s : Same H H') {x : V} {t : String} (h : tyN H x = some t) : tyN H' x = some t := by
 cases x with
 | ref a =>
  cases e : H a with
  | none => simp [tyN, e] at h
  | some o => simp only [tyN, e] at h; simp only [tyN, s a o e]; exact h
 | _ => exact h
noncomputable def sp_whole : Sp := fun vs H Q _ => ∃ (x : V) (t : String), vs = [x] ∧ tyN H x = some t ∧ Q (.bl (isI x)) H
theorem sc_is_whole : FnScope ["thing"] ["thing"] (defScope s_is_whole) := ⟨rfl, rfl, rfl, by decide +kernel, rfl, by decide +kernel, by decide +kernel⟩
theorem ok_whole (F : Fun K "is_whole" "is_whole" s_is_whole f fd) (hm : mg "is_whole" = some (.ref f)) (hb : Binds K fd ["thing"] []) (T : Txt mg) : Cal P w K mg base "is_whole" ["thing"] 1 sp_whole := by
 refine cal_of F hm hb sc_is_whole (fun vs H Q E h => ?_) (fun cdv A outer s H vs Q E hr h => ?_)
 ·obtain ⟨_, _, rfl, _⟩ := h; rfl
 ·obtain ⟨x, t, rfl, hx, q⟩ := h
  have sc := sc_is_whole
  refine ⟨_, pss_one (ps_ret (pe_and (pe_callB isi0 rfl T.isinstance_ bt_isinstance (pa_cns (pv 0) (pa_cns (pe_bltn (v := .ty "int") rfl T.int_ bt_int rfl) pa_nil))) (pe_one (pe_not (pe_callB isi0 rfl T.isinstance_ bt_isinstance (pa_cns (pv 0) (pa_cns (pe_bltn (v := .ty "bool") rfl T.bool_ bt_bool rfl) pa_nil))))))), ?_⟩
  rw [show L2.start ["thing"] [x] = [some (x)] from rfl]
  rw [← tyN_isI hx] at q
  (push_cast only [])
  refine ⟨_, hx, ?_⟩
  obtain ⟨_, ht⟩ := tyN_of (K := K) hx
  rcases ht with rfl | rfl | rfl | rfl | rfl | rfl | rfl
  all_goals first
   | (rw [if_neg (by decide)]; simpa using q)
   | (rw [if_pos (by decide)]; refine ⟨_, hx, ?_⟩; simpa using q)
noncomputable def Kn (H : Hp) (xs : List V) : Prop := ∀ x ∈ xs, ∃ t, tyN H x = some t
theorem Kn.same {H H' : Hp} (s : Same H H') {xs : List V} (k : Kn H xs) : Kn H' xs := fun x hx => let ⟨t, e⟩ := k x hx; ⟨t, tyN_same s e⟩
theorem Kn.ints {H : Hp} (ns : List Int) : Kn H (ns.map V.int) := fun x hx => by
 obtain ⟨n, _, rfl⟩ := List.mem_map.mp hx
 exact ⟨"int", rfl⟩
noncomputable def sp_wholes : Sp := fun vs H Q _ => (∃ (x : V) (k : Int) (t : String), vs = [x, .int k] ∧ tyN H x = some t ∧ (t == "tuple") = false ∧ Q (.bl false) H) ∨
 ∃ (a : Addr) (k : Int) (xs : List V), vs = [.ref a, .int k] ∧ H a = some (.tup xs) ∧ Kn H xs ∧ xs.length < 1000 ∧ ∀ H', Same H H' → Q (.bl (decide ((xs.length : Int) = k) && xs.all isI)) H'
noncomputable def LW (c : Addr) (xs : List V) (G : Hp) (i : Nat) (σ : St) (H : Hp) : Prop := ∃ v, σ = [v] ∧ SameX c G H ∧ H c = some (.lst (((xs.take i).map isI).map V.bl))
theorem sc_are_wholes : FnScope ["thing", "many"] ["thing", "many"] (defScope s_are_wholes) := ⟨rfl, rfl, rfl, by decide +kernel, rfl, by decide +kernel, by decide +kernel⟩
theorem ok_wholes (F : Fun K "are_wholes" "are_wholes" s_are_wholes f fd) (hm : mg "are_wholes" = some (.ref f)) (hb : Binds K fd ["thing", "many"] []) (T : Txt mg) (c_is_whole : Cal P w K mg base "is_whole" ["thing"] 1 sp_whole) : Cal P w K mg base "are_wholes" ["thing", "many"] 2 sp_wholes := by
 refine cal_of F hm hb sc_are_wholes (fun vs H Q E h => ?_) (fun cdv A outer s H vs Q E hr h => ?_)
 ·rcases h with h | h
  ·obtain ⟨_, _, _, rfl, _⟩ := h; rfl
  ·obtain ⟨_, _, _, rfl, _⟩ := h; rfl
 ·rcases h with h | h
  ·obtain ⟨x, k, t, rfl, hx, ht, q⟩ := h
   have sc := sc_are_wholes
   refine ⟨_, pss_one (ps_ret (pe_and (pe_callB isi0 rfl T.isinstance_ bt_isinstance (pa_cns (pv 0) (pa_cns (pe_bltn (v := .ty "tuple") rfl T.tuple_ bt_tuple rfl) pa_nil))) (pe_and (pe_cmpR op_eq (pe_callB len0 rfl T.len_ bt_len (pa_cns (pv 0) pa_nil)) (pv 1) (nomark _)) (pe_one (pe_callB (all0 rfl) rfl T.all_ bt_all (pa_cns (pe_lc (N := ["part"]) (fr := [none]) rfl (pi_t0 (pv 0)) (CScope.of rfl rfl rfl) rfl (fun _ _ _ => ⟨pg_name (i := 0) (show List.Nodup (α := Str) ["part"] by decide +kernel) rfl (Or.inl rfl), pif_nil, pe_cal c_is_whole hr (pa_cns (pv 0) pa_nil)⟩)) pa_nil)))))), ?_⟩
   rw [show L2.start ["thing", "many"] [x, .int k] = [some (x), some (.int k)] from rfl]
   (push_cast only [])
   refine ⟨_, hx, ?_⟩
   (push_cast only [])
   rw [if_neg (by rw [ht]; decide)]
   exact q
  ·obtain ⟨a, k, xs, rfl, ha, hk, hlen, q⟩ := h
   have sc := sc_are_wholes
   refine ⟨_, pss_one (ps_ret (pe_and (pe_callB isi0 rfl T.isinstance_ bt_isinstance (pa_cns (pv 0) (pa_cns (pe_bltn (v := .ty "tuple") rfl T.tuple_ bt_tuple rfl) pa_nil))) (pe_and (pe_cmpR op_eq (pe_callB len0 rfl T.len_ bt_len (pa_cns (pv 0) pa_nil)) (pv 1) (nomark _)) (pe_one (pe_callB (all0 rfl) rfl T.all_ bt_all (pa_cns (pe_lc (N := ["part"]) (fr := [none]) rfl (pi_t0 (pv 0)) (CScope.of rfl rfl rfl) rfl (fun _ _ _ => ⟨pg_name (i := 0) (show List.Nodup (α := Str) ["part"] by decide +kernel) rfl (Or.inl rfl), pif_nil, pe_cal c_is_whole hr (pa_cns (pv 0) pa_nil)⟩)) pa_nil)))))), ?_⟩
   rw [show L2.start ["thing", "many"] [.ref a, .int k] = [some (.ref a), some (.int k)] from rfl]
   have hsa := sq_tup ha
   (push_cast only [ha, hsa])
   by_cases hl : (xs.length : Int) = k
   ·rw [if_pos hl]
    intro c nc
    have nac : a ≠ c := ne_of_none ha nc
    refine cl_seq (LW c xs H) ⟨none, rfl, SameX.upd, upd_same⟩ (fun j σ H' _ ⟨_, _, s, _⟩ => s _ _ nac ha) ?_ ?_
    ·rintro i x σ H1 hx ⟨v, rfl, s1, e1⟩
     obtain ⟨t, ht⟩ := hk x (List.mem_of_getElem? hx)
     have ht1 := tyN_same (s1.same nc) ht
     have hi : i < xs.length := (List.getElem?_eq_some_iff.mp hx).1
     (push_cast only [e1])
     refine ⟨_, _, rfl, ht1, ?_⟩
     refine ⟨_, e1, small1000 (by rw [List.length_map, List.length_map, List.length_take]; omega), ⟨_, rfl, s1.trans SameX.upd, ?_⟩⟩
     rw [upd_same, List.take_add_one, hx]
     simp
    ·rintro σ H1 ⟨v, rfl, s1, e1⟩
     rw [List.take_length] at e1
     refine ⟨_, sq_lst e1, ?_⟩
     have := q H1 (s1.same nc)
     rw [decide_eq_true hl, Bool.true_and] at this
     rw [List.all_map]
     exact this
   ·rw [if_neg hl]
    have := q H (Same.refl H)
    rw [decide_eq_false hl, Bool.false_and] at this
    exact this
theorem isI_int {x : V} (h : isI x = true) : ∃ i, x = .int i := by
 cases x with
 | int i => exact ⟨i, rfl⟩
 | _ => cases h
noncomputable def sp_isfrom : Sp := fun vs H Q _ => ∃ (x : V) (l : Int) (t : String), vs = [x, .int l] ∧ tyN H x = some t ∧ Q (.bl (isFrom l x)) H
theorem sc_is_whole_from : FnScope ["thing", "least"] ["thing", "least"] (defScope s_is_whole_from) := ⟨rfl, rfl, rfl, by decide +kernel, rfl, by decide +kernel, by decide +kernel⟩
theorem ok_isfrom (F : Fun K "is_whole_from" "is_whole_from" s_is_whole_from f fd) (hm : mg "is_whole_from" = some (.ref f)) (hb : Binds K fd ["thing", "least"] []) (T : Txt mg) (c_is_whole : Cal P w K mg base "is_whole" ["thing"] 1 sp_whole) : Cal P w K mg base "is_whole_from" ["thing", "least"] 2 sp_isfrom := by
 refine cal_of F hm hb sc_is_whole_from (fun vs H Q E h => ?_) (fun cdv A outer s H vs Q E hr h => ?_)
 ·obtain ⟨_, _, _, rfl, _⟩ := h; rfl
 ·obtain ⟨x, l, t, rfl, hx, q⟩ := h
  have sc := sc_is_whole_from
  refine ⟨_, pss_one (ps_ret (pe_and (pe_cal c_is_whole hr (pa_cns (pv 0) pa_nil)) (pe_one (pe_cmpR op_ge (pv 0) (pv 1) (nomark _))))), ?_⟩
  rw [show L2.start ["thing", "least"] [x, .int l] = [some (x), some (.int l)] from rfl]
  (push_cast only [])
  refine ⟨_, t, rfl, hx, ?_⟩
  cases e : isI x with
  | true =>
   obtain ⟨i, rfl⟩ := isI_int e
   (push_cast only [])
   exact q
  | false =>
   have : isFrom l x = false := by
    cases x with
    | int i => cases e
    | _ => rfl
   rw [this] at q
   (push_cast only [])
   exact q
end
end K53
end
section
set_option Elab.async false
set_option linter.all false
set_option maxRecDepth 100000
set_option maxHeartbeats 8000000
namespace K53
open PySem L2
section
variable {P : Program} {w : World} {K : PySem.W.Frag} {mg : Str → Option Value} {base : Heap} {f : Addr} {fd : FuncData}
theorem hu8 {n : Nat} (h : n + 64 < cLine) : n + 8 < cLine := by omega
noncomputable def RowB (H : Hp) (x : V) : Prop := (∃ t, tyN H x = some t ∧ (t == "tuple") = false) ∨ ∃ (a : Addr) (xs : List V), x = .ref a ∧ H a = some (.tup xs) ∧ Kn H xs ∧ xs.length < 1000 ∧ (decide ((xs.length : Int) = 3) && xs.all isI) = false
noncomputable def shareB (m n : Nat) (h p t : Int) : Bool := decide (0 ≤ h ∧ h < (n : Int)) && (decide (0 < p ∧ p < ((2 ^ m : Nat) : Int)) && decide (0 < t))
noncomputable def sp_iss : Sp := fun vs H Q _ => ∃ (x : V) (m n : Nat), vs = [x, .int (m : Int), .int (n : Int)] ∧ m ≤ 5 ∧ ((RowB H x ∧ ∀ H', Same H H' → Q (.bl false) H') ∨ ∃ (a : Addr) (h p t : Int), x = .ref a ∧ H a = some (.tup [.int h, .int p, .int t]) ∧ ∀ H', Same H H' → Q (.bl (shareB m n h p t)) H')
theorem sc_is_share : FnScope ["row", "many", "hands", "hand", "heap", "part"] ["row", "many", "hands"] (defScope s_is_share) := ⟨rfl, rfl, rfl, by decide +kernel, rfl, by decide +kernel, by decide +kernel⟩
theorem ok_iss (F : Fun K "is_share" "is_share" s_is_share f fd) (hm : mg "is_share" = some (.ref f)) (hb : Binds K fd ["row", "many", "hands"] []) (T : Txt mg) (c_are_wholes : Cal P w K mg base "are_wholes" ["thing", "many"] 2 sp_wholes) : Cal P w K mg base "is_share" ["row", "many", "hands"] 3 sp_iss := by
 refine cal_of F hm hb sc_is_share (fun vs H Q E h => ?_) (fun cdv A outer s H vs Q E hr h => ?_)
 ·obtain ⟨_, _, _, rfl, _⟩ := h; rfl
 ·obtain ⟨x, m, n, rfl, m5, h⟩ := h
  have sc := sc_is_share
  refine ⟨_, pss_consL (ps_if (pt_not (pt_val (pe_cal c_are_wholes hr (pa_cns (pv 0) (pa_cns pe_int pa_nil))))) (pss_one (ps_ret pe_bl)) pss_nil)
   (pss_consL (ps_asg (pv 0) (pg_tup0 (n := 3) rfl (pgs_cons (pg_name (i := 3) sc.nd rfl (Or.inl rfl)) (pgs_cons (pg_name (i := 4) sc.nd rfl (Or.inl rfl)) (pgs_cons (pg_name (i := 5) sc.nd rfl (Or.inl rfl)) pgs_nil)))))
   (pss_one (ps_ret (pe_and (pe_chain op_le op_lt pe_int (pv 3) (pv 2) rfl) (pe_and (pe_chain op_lt op_lt pe_int (pv 4) (pe_op op_shl pe_int (pv 1)) rfl) (pe_one (pe_cmpR op_gt (pv 5) pe_int (nomark _)))))))), ?_⟩
  rw [show L2.start ["row", "many", "hands", "hand", "heap", "part"] [x, .int (m : Int), .int (n : Int)] = [some (x), some (.int (m : Int)), some (.int (n : Int)), none, none, none] from rfl]
  (push_cast only [])
  rcases h with ⟨b, q⟩ | ⟨a, h, p, t, rfl, ha, q⟩
  ·rcases b with ⟨t, k1, k2⟩ | ⟨a, xs, rfl, ha, kn, xl, z⟩
   ·refine .inl ⟨x, 3, t, rfl, k1, k2, ?_⟩
    (push_cast only [])
    exact q H (Same.refl H)
   ·refine .inr ⟨a, 3, xs, rfl, ha, kn, xl, fun H1 s1 => ?_⟩
    rw [z]
    (push_cast only [])
    exact q H1 s1
  ·refine .inr ⟨a, 3, _, rfl, ha, Kn.ints [h, p, t], (by simp), fun H1 s1 => ?_⟩
   have e1 : (decide ((([V.int h, V.int p, V.int t].length : Nat) : Int) = 3) && [V.int h, V.int p, V.int t].all isI) = true := rfl
   rw [e1]
   have ha1 := s1 _ _ ha
   (push_cast only [])
   (simp only [a_laterH])
   (push_cast only [ha1])
   (simp only [a_laterH])
   (push_cast only [])
   rw [hpow m]
   have fin := q H1 s1
   unfold shareB at fin
   by_cases c1 : 0 ≤ h
   ·rw [if_pos c1]
    by_cases c2 : h < (n : Int)
    ·rw [if_pos c2]
     rw [decide_eq_true (show 0 ≤ h ∧ h < (n : Int) from ⟨c1, c2⟩), Bool.true_and] at fin
     by_cases c3 : 0 < p
     ·rw [if_pos c3]
      refine ⟨⟨by omega, by omega, by decide⟩, ?_⟩
      by_cases c4 : p < ((2 ^ m : Nat) : Int)
      ·rw [if_pos c4]
       rw [decide_eq_true (show 0 < p ∧ p < ((2 ^ m : Nat) : Int) from ⟨c3, c4⟩), Bool.true_and] at fin
       exact fin
      ·rw [if_neg c4]
       rw [decide_eq_false (fun z => c4 z.2), Bool.false_and] at fin
       exact fin
     ·rw [if_neg c3]
      rw [decide_eq_false (fun z => c3 z.1), Bool.false_and] at fin
      exact fin
    ·rw [if_neg c2]
     rw [decide_eq_false (fun z => c2 z.2), Bool.false_and] at fin
     exact fin
   ·rw [if_neg c1]
    rw [decide_eq_false (fun z => c1 z.1), Bool.false_and] at fin
    exact fin
theorem uniq_rises {m : Nat} : ∀ {a b : List (List Int)}, (∀ x ∈ a, x.length = m) → (∀ x ∈ b, x.length = m) → a.Pairwise (fun x y => lexT x y = true) → b.Pairwise (fun x y => lexT x y = true) → (∀ x, x ∈ a ↔ x ∈ b) → a = b
 | [], [], _, _, _, _, _ => rfl
 | [], y :: b, _, _, _, _, h => absurd ((h y).mpr List.mem_cons_self) (by simp)
 | x :: a, [], _, _, _, _, h => absurd ((h x).mp List.mem_cons_self) (by simp)
 | x :: a, y :: b, la, lb, pa, pb, h => by
  have pa' := List.pairwise_cons.mp pa
  have pb' := List.pairwise_cons.mp pb
  have no : ∀ u v : List Int, u.length = m → v.length = m → lexT u v = true → lexT v u = true → False := fun u v hu hv h1 h2 => by
   have := lexT_trans (by rw [hu, hv]) (by rw [hv, hu]) h1 h2
   rw [lexT_refl] at this
   cases this
  have lx := la x List.mem_cons_self
  have ly := lb y List.mem_cons_self
  have exy : x = y := by
   rcases List.mem_cons.mp ((h x).mp List.mem_cons_self) with z | z
   ·exact z
   ·rcases List.mem_cons.mp ((h y).mpr List.mem_cons_self) with z' | z'
    ·exact z'.symm
    ·exact (no x y lx ly (pa'.1 y z') (pb'.1 x z)).elim
  subst exy
  rw [uniq_rises (fun u hu => la u (List.mem_cons_of_mem _ hu)) (fun u hu => lb u (List.mem_cons_of_mem _ hu)) pa'.2 pb'.2 fun u => ?_]
  constructor
  ·intro hu
   rcases List.mem_cons.mp ((h u).mp (List.mem_cons_of_mem _ hu)) with z | z
   ·have := pa'.1 u hu
    rw [z, lexT_refl] at this
    cases this
   ·exact z
  ·intro hu
   rcases List.mem_cons.mp ((h u).mpr (List.mem_cons_of_mem _ hu)) with z | z
   ·have := pb'.1 u hu
    rw [z, lexT_refl] at this
    cases this
   ·exact z
noncomputable abbrev R3 := Int × Int × Int
noncomputable def k3 (r : R3) : List Int := [r.1, r.2.1, r.2.2]
noncomputable def k2 (r : R3) : List Int := [r.1, r.2.1]
noncomputable def Rw (H : Hp) (rs : List (Addr × R3)) : Prop := ∀ r ∈ rs, H r.1 = some (.tup ((k3 r.2).map V.int))
noncomputable def risesR (rs : List (Addr × R3)) : Prop := (rs.map fun r => k2 r.2).Pairwise fun x y => lexT x y = true
noncomputable def sp_rise : Sp := fun vs H Q _ => ∃ (a : Addr) (rs : List (Addr × R3)) (D : List (List Int)) (b : Bool), vs = [.ref a] ∧ H a = some (.tup (rs.map fun r => V.ref r.1)) ∧ Rw H rs ∧ rs.length ≤ 60 ∧ D.length ≤ 4 ∧ (∀ r ∈ rs, k2 r.2 ∈ D) ∧ (b = true ↔ risesR rs) ∧ ∀ H', Same H H' → Q (.bl b) H'
noncomputable def RI (c : Addr) (rs : List (Addr × R3)) (G : Hp) (i : Nat) (σ : St) (H : Hp) : Prop := ∃ (v : Option V) (xs : List (Addr × List Int)), σ = [v] ∧ SameX c G H ∧ H c = some (.lst (xs.map fun x => V.ref x.1)) ∧ (∀ x ∈ xs, H x.1 = some (.tup (x.2.map V.int))) ∧ xs.map (·.2) = (rs.take i).map fun r => k2 r.2
theorem sc_rise_by_place : FnScope ["rows", "places"] ["rows"] (defScope s_rise_by_place) := ⟨rfl, rfl, rfl, by decide +kernel, rfl, by decide +kernel, by decide +kernel⟩
theorem ok_rise (F : Fun K "rise_by_place" "rise_by_place" s_rise_by_place f fd) (hm : mg "rise_by_place" = some (.ref f)) (hb : Binds K fd ["rows"] []) (T : Txt mg) : Cal P w K mg base "rise_by_place" ["rows"] 1 sp_rise := by
 refine cal_of F hm hb sc_rise_by_place (fun vs H Q E h => ?_) (fun cdv A outer s H vs Q E hr h => ?_)
 ·obtain ⟨_, _, _, _, rfl, _⟩ := h; rfl
 ·obtain ⟨a, rs, D, b, rfl, ha, R, few, dl, inD, hb', q⟩ := h
  have sc := sc_rise_by_place
  refine ⟨_, pss_consL (ps_setLC (i := 1) sc.nd rfl (Or.inl rfl) (N := ["row"]) (fr := [none]) rfl (pi_t0 (pv 0)) (CScope.of rfl rfl rfl) rfl (fun _ _ _ => ⟨pg_name (i := 0) (show List.Nodup (α := Str) ["row"] by decide +kernel) rfl (Or.inl rfl), pif_nil, pe_slice slA0 (pv 0) po_none (po_some pe_int)⟩))
   (pss_one (ps_ret (pe_cmpR (eqLT0 hr.units) (pv 1) (pe_sset rfl T.sorted_ rfl T.set_ (hu8 hr.units) (pa_cons (pv 1) pa_nil)) (nomark _)))), ?_⟩
  rw [show L2.start ["rows", "places"] [.ref a] = [some (.ref a), none] from rfl]
  (push_cast only [ha])
  intro c nc
  have nac : a ≠ c := ne_of_none ha nc
  refine cl_seq (RI c rs H) ⟨none, [], rfl, SameX.upd, upd_same, (fun x hx => by cases hx), rfl⟩ (fun j σ H' _ ⟨_, _, _, s, _⟩ => s _ _ nac ha) ?_ ?_
  ·rintro i x σ H1 hx ⟨v, xs, rfl, s1, e1, T1, d1⟩
   rw [List.getElem?_map] at hx
   obtain ⟨r, hr', rfl⟩ := Option.map_eq_some_iff.mp hx
   have er := R r (List.mem_of_getElem? hr')
   have er1 := s1 _ _ (ne_of_none er nc) er
   have hi : i < rs.length := (List.getElem?_eq_some_iff.mp hr').1
   (push_cast only [er1])
   intro p H2 s2 e2
   have ec := s2 _ _ e1
   have e2' : H2 p = some (.tup ((k2 r.2).map V.int)) := e2
   have xl : xs.length = i := by
    have := congrArg List.length d1
    rw [List.length_map, List.length_map, List.length_take] at this
    omega
   refine ⟨_, ec, small1000 (by rw [List.length_map]; omega), _, xs ++ [(p, k2 r.2)], rfl, (s1.trans s2.x).trans SameX.upd, by rw [upd_same, List.map_append]; rfl, fun x hx => ?_, ?_⟩
   ·have hx2 : H2 x.1 = some (.tup (x.2.map V.int)) := by
     rcases List.mem_append.mp hx with z | z
     ·exact s2 _ _ (T1 x z)
     ·rw [List.mem_singleton.mp z]; exact e2'
    rw [upd_ne (fun z => by rw [z, ec] at hx2; cases hx2)]
    exact hx2
   ·rw [List.map_append, d1, List.take_add_one, hr', List.map_append]
    rfl
  ·rintro σ H1 ⟨v, xs, rfl, s1, e1, T1, d1⟩
   rw [List.length_map, List.take_length] at d1
   (simp only [a_laterH])
   (push_cast only [])
   have len2 : ∀ x ∈ xs, x.2.length = 2 := fun x hx => by
    have hm : x.2 ∈ rs.map fun r => k2 r.2 := d1 ▸ List.mem_map_of_mem hx
    obtain ⟨r, _, e⟩ := List.mem_map.mp hm
    rw [← e]
    rfl
   refine ⟨xs, e1, D, 2, fun x hx => ⟨T1 x hx, len2 x hx⟩, by decide, dl, fun x hx => ?_, fun l qs H2 nl s2 sub all ri e2 => ?_⟩
   ·have hm : x.2 ∈ rs.map fun r => k2 r.2 := d1 ▸ List.mem_map_of_mem hx
    obtain ⟨r, hr', e⟩ := List.mem_map.mp hm
    rw [← e]
    exact inD r hr'
   ·refine ⟨xs, s2 _ _ e1, qs, e2, fun x hx => s2 _ _ (T1 x hx), fun x hx => s2 _ _ (T1 x (sub x hx)), ?_⟩
    have eb : decide (xs.map (·.2) = qs.map (·.2)) = b := by
     rw [Bool.eq_iff_iff, decide_eq_true_eq, hb']
     unfold risesR
     rw [← d1]
     constructor
     ·intro e
      rw [e]
      exact ri
     ·intro r
      refine uniq_rises (m := 2) (fun u hu => ?_) (fun u hu => ?_) r ri fun u => ⟨fun hu => ?_, fun hu => ?_⟩
      ·obtain ⟨x, hx, rfl⟩ := List.mem_map.mp hu
       exact len2 x hx
      ·obtain ⟨x, hx, rfl⟩ := List.mem_map.mp hu
       exact len2 x (sub x hx)
      ·obtain ⟨x, hx, rfl⟩ := List.mem_map.mp hu
       exact all x hx
      ·obtain ⟨x, hx, rfl⟩ := List.mem_map.mp hu
       exact List.mem_map_of_mem (sub x hx)
    rw [eb]
    exact q H2 ((s1.same nc).trans s2)
end
end K53
end
section
set_option Elab.async false
set_option linter.all false
set_option maxRecDepth 100000
set_option maxHeartbeats 8000000
namespace K53
open PySem L2
section
variable {P : Program} {w : World} {K : PySem.W.Frag} {mg : Str → Option Value} {base : Heap} {f : Addr} {fd : FuncData}
noncomputable def handL (rs : List (Addr × R3)) (j : Int) : List Int := (rs.filter fun r => decide (r.2.1 = j)).map fun r => r.2.2.2
noncomputable def thingL (rs : List (Addr × R3)) (t : Int) : List Int := (rs.filter fun r => hasI r.2.2.1 t).map fun r => r.2.2.2
structure TownR (H : Hp) (t sd wt : Addr) (ss : List Int) (ts : List (Addr × List Int)) : Prop where
 tw : H t = some (.tup [.ref sd, .ref wt])
 sd : H sd = some (.tup (ss.map V.int))
 wt : H wt = some (.tup (ts.map fun t => V.ref t.1))
 m5 : ss.length ≤ 5
 n5 : ts.length ≤ 5
 n1 : 1 ≤ ts.length
 row : ∀ t ∈ ts, H t.1 = some (.tup (t.2.map V.int)) ∧ t.2.length = 2 ^ ss.length
theorem TownR.same {H H' : Hp} {t sd wt : Addr} {ss : List Int} {ts : List (Addr × List Int)} (R : TownR H t sd wt ss ts) (s : Same H H') : TownR H' t sd wt ss ts := ⟨s _ _ R.tw, s _ _ R.sd, s _ _ R.wt, R.m5, R.n5, R.n1, fun t ht => ⟨s _ _ (R.row t ht).1, (R.row t ht).2⟩⟩
noncomputable def BdR (rs : List (Addr × R3)) : Prop := ∀ r ∈ rs, 0 ≤ r.2.2.1 ∧ r.2.2.1 < 32 ∧ 0 ≤ r.2.2.2 ∧ r.2.2.2 ≤ 1000
theorem Rw.same {H H' : Hp} {rs : List (Addr × R3)} (R : Rw H rs) (s : Same H H') : Rw H' rs := fun r hr => s _ _ (R r hr)
noncomputable def sp_keep : Sp := fun vs H Q _ => ∃ (t sd wt a : Addr) (ss : List Int) (ts : List (Addr × List Int)) (rs : List (Addr × R3)) (b : Int), vs = [.ref t, .int b, .ref a] ∧ TownR H t sd wt ss ts ∧ H a = some (.tup (rs.map fun r => V.ref r.1)) ∧ Rw H rs ∧ rs.length ≤ 60 ∧ BdR rs ∧ (∀ j : Nat, j < ts.length → (handL rs j).sum ≤ b) ∧ (∀ j : Nat, j < ss.length → (thingL rs j).sum ≤ b) ∧ ∀ H', Same H H' → Q (.bl true) H'
noncomputable def KA (c a : Addr) (rs : List (Addr × R3)) (G : Hp) (i : Nat) (σ : St) (H : Hp) : Prop := ∃ v, σ = [v, some (.ref a)] ∧ SameX c G H ∧ H c = some (.lst (((List.range i).map fun j : Nat => (handL rs j).sum).map V.int))
noncomputable def KB (d : Addr) (rs : List (Addr × R3)) (h : Int) (G : Hp) (k : Nat) (σ : St) (H : Hp) : Prop := ∃ v1 v2 v3, σ = [v1, v2, v3, some (.int h)] ∧ SameX d G H ∧ H d = some (.lst ((handL (rs.take k) h).map V.int))
noncomputable def KC (c a : Addr) (rs : List (Addr × R3)) (G : Hp) (i : Nat) (σ : St) (H : Hp) : Prop := ∃ v, σ = [v, some (.ref a)] ∧ SameX c G H ∧ H c = some (.lst (((List.range i).map fun j : Nat => (thingL rs j).sum).map V.int))
noncomputable def KD (d : Addr) (rs : List (Addr × R3)) (h : Int) (G : Hp) (k : Nat) (σ : St) (H : Hp) : Prop := ∃ v1 v2 v3, σ = [v1, v2, v3, some (.int h)] ∧ SameX d G H ∧ H d = some (.lst ((thingL (rs.take k) h).map V.int))
theorem hand_len (rs : List (Addr × R3)) (j : Int) : (handL rs j).length ≤ rs.length := by unfold handL; rw [List.length_map]; exact List.length_filter_le _ _
theorem thing_len (rs : List (Addr × R3)) (j : Int) : (thingL rs j).length ≤ rs.length := by unfold thingL; rw [List.length_map]; exact List.length_filter_le _ _
theorem hand_more {rs : List (Addr × R3)} {k : Nat} {r : Addr × R3} {j : Int} (h : rs[k]? = some r) : handL (rs.take (k + 1)) j = handL (rs.take k) j ++ if r.2.1 = j then [r.2.2.2] else [] := by
 unfold handL
 rw [List.take_add_one, h, List.filter_append, List.map_append]
 congr 1
 by_cases c : r.2.1 = j
 ·rw [if_pos c]; simp [c]
 ·rw [if_neg c]; simp [c]
theorem thing_more {rs : List (Addr × R3)} {k : Nat} {r : Addr × R3} {j : Int} (h : rs[k]? = some r) : thingL (rs.take (k + 1)) j = thingL (rs.take k) j ++ if hasI r.2.2.1 j = true then [r.2.2.2] else [] := by
 unfold thingL
 rw [List.take_add_one, h, List.filter_append, List.map_append]
 congr 1
 by_cases c : hasI r.2.2.1 j = true
 ·rw [if_pos c]; simp [c]
 ·rw [if_neg c]; simp [c]
theorem fits_of {rs : List (Addr × R3)} {l : List Int} (bd : BdR rs) (few : rs.length ≤ 60) (ll : l.length ≤ rs.length) (h : ∀ x ∈ l, ∃ r ∈ rs, x = r.2.2.2) : sumFits l := sumFits_of (fun x hx => by
 obtain ⟨r, hr, rfl⟩ := h x hx
 have := bd r hr
 omega) (by omega)
theorem sc_keep_bounds : FnScope ["town", "by", "rows", "sides", "wants", "of_hands", "of_things"] ["town", "by", "rows"] (defScope s_keep_bounds) := ⟨rfl, rfl, rfl, by decide +kernel, rfl, by decide +kernel, by decide +kernel⟩
theorem ok_keep (F : Fun K "keep_bounds" "keep_bounds" s_keep_bounds f fd) (hm : mg "keep_bounds" = some (.ref f)) (hb : Binds K fd ["town", "by", "rows"] []) (T : Txt mg) (c_has : Cal P w K mg base "has" ["heap", "thing"] 1 sp_has) : Cal P w K mg base "keep_bounds" ["town", "by", "rows"] 2 sp_keep := by
 refine cal_of F hm hb sc_keep_bounds (fun vs H Q E h => ?_) (fun cdv A outer s H vs Q E hr h => ?_)
 ·obtain ⟨_, _, _, _, _, _, _, _, rfl, _⟩ := h; rfl
 ·obtain ⟨t, sd, wt, a, ss, ts, rs, b, rfl, W, ha, R, few, bd, kh, kt, q⟩ := h
  have sc := sc_keep_bounds
  refine ⟨_, pss_consL (ps_asg (pv 0) (pg_tup0 (n := 2) rfl (pgs_cons (pg_name (i := 3) sc.nd rfl (Or.inl rfl)) (pgs_cons (pg_name (i := 4) sc.nd rfl (Or.inl rfl)) pgs_nil))))
   (pss_consL (ps_setLCK (N := ["here", "rows"]) (fr := [none, some 2]) (i := 5) "here" sc.nd rfl (Or.inl rfl) rfl (pi_range1 rfl T.range_ (pa_cns (pe_callB len0 rfl T.len_ bt_len (pa_cns (pv 4) pa_nil)) pa_nil)) (CScope1.of rfl rfl rfl rfl (fun _ _ => rfl) (fun _ => rfl)) rfl (fun _ _ _ => ⟨pg_name (i := 0) (show List.Nodup (α := Str) ["here", "rows"] by decide +kernel) rfl (Or.inr rfl), pif_nil, pe_callB (sum0 rfl) rfl T.sum_ bt_sum (pa_cns (pe_lc (N := ["hand", "heap", "part", "here"]) (fr := [none, none, none, some 0]) rfl (pi_t0 (pv 1)) (CScope.of rfl rfl rfl) rfl (fun _ _ _ => ⟨pg_tup0 (n := 3) rfl (pgs_cons (pg_name (i := 0) (show List.Nodup (α := Str) ["hand", "heap", "part", "here"] by decide +kernel) rfl (Or.inl rfl)) (pgs_cons (pg_name (i := 1) (show List.Nodup (α := Str) ["hand", "heap", "part", "here"] by decide +kernel) rfl (Or.inl rfl)) (pgs_cons (pg_name (i := 2) (show List.Nodup (α := Str) ["hand", "heap", "part", "here"] by decide +kernel) rfl (Or.inl rfl)) pgs_nil))), pif_one (pt_cmpR op_eq (pv 0) (pv 3) (nomark _)), pv 2⟩)) pa_nil)⟩))
   (pss_consL (ps_setLCK (N := ["thing", "rows"]) (fr := [none, some 2]) (i := 6) "thing" sc.nd rfl (Or.inl rfl) rfl (pi_range1 rfl T.range_ (pa_cns (pe_callB len0 rfl T.len_ bt_len (pa_cns (pv 3) pa_nil)) pa_nil)) (CScope1.of rfl rfl rfl rfl (fun _ _ => rfl) (fun _ => rfl)) rfl (fun _ _ _ => ⟨pg_name (i := 0) (show List.Nodup (α := Str) ["thing", "rows"] by decide +kernel) rfl (Or.inr rfl), pif_nil, pe_callB (sum0 rfl) rfl T.sum_ bt_sum (pa_cns (pe_lc (N := ["hand", "heap", "part", "thing"]) (fr := [none, none, none, some 0]) rfl (pi_t0 (pv 1)) (CScope.of rfl rfl rfl) rfl (fun _ _ _ => ⟨pg_tup0 (n := 3) rfl (pgs_cons (pg_name (i := 0) (show List.Nodup (α := Str) ["hand", "heap", "part", "thing"] by decide +kernel) rfl (Or.inl rfl)) (pgs_cons (pg_name (i := 1) (show List.Nodup (α := Str) ["hand", "heap", "part", "thing"] by decide +kernel) rfl (Or.inl rfl)) (pgs_cons (pg_name (i := 2) (show List.Nodup (α := Str) ["hand", "heap", "part", "thing"] by decide +kernel) rfl (Or.inl rfl)) pgs_nil))), pif_one (pt_val (pe_cal c_has hr (pa_cns (pv 1) (pa_cns (pv 3) pa_nil)))), pv 2⟩)) pa_nil)⟩))
   (pss_one (ps_ret (pe_cmpR op_le (pe_callB (max0 rfl) rfl T.max_ bt_max (pa_cns (pe_op catL0 (pv 5) (pv 6)) pa_nil)) (pv 1) (nomark _)))))), ?_⟩
  rw [show L2.start ["town", "by", "rows", "sides", "wants", "of_hands", "of_things"] [.ref t, .int b, .ref a] = [some (.ref t), some (.int b), some (.ref a), none, none, none, none] from rfl]
  have htw := W.tw
  (push_cast only [htw])
  have hwt := sq_tup W.wt
  have n5 := W.n5
  (simp only [a_laterH])
  (push_cast only [hwt])
  refine ⟨by omega, by omega, fun c nc => ?_⟩
  have nac : a ≠ c := ne_of_none ha nc
  refine cl_range (KA c a rs H) ⟨none, rfl, SameX.upd, upd_same⟩ ?_ ?_
  ·rintro i σ H1 hi ⟨v, rfl, s1, e1⟩
   rw [Int.toNat_natCast] at hi
   have ha1 := s1 _ _ nac ha
   have S1 := s1.same nc
   (push_cast only [ha1])
   intro d nd
   have nad : a ≠ d := ne_of_none ha1 nd
   have ncd : c ≠ d := ne_of_none e1 nd
   refine cl_seq (KB d rs (i : Int) H1) ⟨none, none, none, rfl, SameX.upd, upd_same⟩ (fun j σ H' _ ⟨_, _, _, _, s, _⟩ => s _ _ nad ha1) ?_ ?_
   ·rintro k x σ H2 hx ⟨v1, v2, v3, rfl, s2, e2⟩
    rw [List.getElem?_map] at hx
    obtain ⟨r, hr', rfl⟩ := Option.map_eq_some_iff.mp hx
    have er := s1 _ _ (ne_of_none (R r (List.mem_of_getElem? hr')) nc) (R r (List.mem_of_getElem? hr'))
    have er2 : H2 r.1 = some (.tup [.int r.2.1, .int r.2.2.1, .int r.2.2.2]) := s2 _ _ (ne_of_none er nd) er
    have hl := hand_len (rs.take k) (i : Int)
    rw [List.length_take] at hl
    (push_cast only [er2])
    by_cases cc : r.2.1 = (i : Int)
    ·rw [if_pos cc]
     (push_cast only [e2])
     refine ⟨small1000 (by omega), _, _, _, rfl, s2.trans SameX.upd, ?_⟩
     rw [upd_same, hand_more hr', if_pos cc, List.map_append]
     rfl
    ·rw [if_neg cc]
     refine ⟨_, _, _, rfl, s2, ?_⟩
     rw [e2, hand_more hr', if_neg cc, List.append_nil]
   ·rintro σ H2 ⟨v1, v2, v3, rfl, s2, e2⟩
    rw [List.length_map, List.take_length] at e2
    have ec := s2 _ _ ncd e1
    refine ⟨_, sq_lst e2, fits_of bd few (hand_len rs (i : Int)) (fun x hx => ?_), ?_⟩
    ·unfold handL at hx
     obtain ⟨r, hr', rfl⟩ := List.mem_map.mp hx
     exact ⟨r, (List.mem_filter.mp hr').1, rfl⟩
    ·refine ⟨_, ec, small1000 (by rw [List.length_map, List.length_map, List.length_range]; omega), _, rfl, (s1.trans (s2.same nd).x).trans SameX.upd, ?_⟩
     rw [upd_same, List.range_succ, List.map_append, List.map_append]
     rfl
  ·rintro σ H1 ⟨v, rfl, s1, e1⟩
   rw [Int.toNat_natCast] at e1
   have S1 := s1.same nc
   have hsd := sq_tup (S1 _ _ W.sd)
   have m5 := W.m5
   (simp only [a_laterH])
   (push_cast only [hsd])
   refine ⟨by omega, by omega, fun c2 nc2 => ?_⟩
   have ha1 := S1 _ _ ha
   have nac2 : a ≠ c2 := ne_of_none ha1 nc2
   refine cl_range (KC c2 a rs H1) ⟨none, rfl, SameX.upd, upd_same⟩ ?_ ?_
   ·rintro i σ H2 hi ⟨v, rfl, s2, e2⟩
    rw [Int.toNat_natCast] at hi
    have ha2 := s2 _ _ nac2 ha1
    (push_cast only [ha2])
    intro d nd
    have nad : a ≠ d := ne_of_none ha2 nd
    have ncd : c2 ≠ d := ne_of_none e2 nd
    refine cl_seq (KD d rs (i : Int) H2) ⟨none, none, none, rfl, SameX.upd, upd_same⟩ (fun j σ H' _ ⟨_, _, _, _, s, _⟩ => s _ _ nad ha2) ?_ ?_
    ·rintro k x σ H3 hx ⟨v1, v2, v3, rfl, s3, e3⟩
     rw [List.getElem?_map] at hx
     obtain ⟨r, hr', rfl⟩ := Option.map_eq_some_iff.mp hx
     have er0 := S1 _ _ (R r (List.mem_of_getElem? hr'))
     have er1 := s2 _ _ (ne_of_none er0 nc2) er0
     have er3 : H3 r.1 = some (.tup [.int r.2.1, .int r.2.2.1, .int r.2.2.2]) := s3 _ _ (ne_of_none er1 nd) er1
     have hl := thing_len (rs.take k) (i : Int)
     rw [List.length_take] at hl
     (push_cast only [er3])
     refine ⟨_, _, rfl, by omega, ?_⟩
     (push_cast only [])
     by_cases cc : hasI r.2.2.1 (i : Int) = true
     ·rw [if_pos cc]
      (push_cast only [e3])
      refine ⟨small1000 (by omega), _, _, _, rfl, s3.trans SameX.upd, ?_⟩
      rw [upd_same, thing_more hr', if_pos cc, List.map_append]
      rfl
     ·rw [if_neg cc]
      refine ⟨_, _, _, rfl, s3, ?_⟩
      rw [e3, thing_more hr', if_neg cc, List.append_nil]
    ·rintro σ H3 ⟨v1, v2, v3, rfl, s3, e3⟩
     rw [List.length_map, List.take_length] at e3
     have ec := s3 _ _ ncd e2
     refine ⟨_, sq_lst e3, fits_of bd few (thing_len rs (i : Int)) (fun x hx => ?_), ?_⟩
     ·unfold thingL at hx
      obtain ⟨r, hr', rfl⟩ := List.mem_map.mp hx
      exact ⟨r, (List.mem_filter.mp hr').1, rfl⟩
     ·refine ⟨_, ec, small1000 (by rw [List.length_map, List.length_map, List.length_range]; omega), _, rfl, (s2.trans (s3.same nd).x).trans SameX.upd, ?_⟩
      rw [upd_same, List.range_succ, List.map_append, List.map_append]
      rfl
   ·rintro σ H2 ⟨v, rfl, s2, e2⟩
    rw [Int.toNat_natCast] at e2
    have S2 := s2.same nc2
    have e12 := S2 _ _ e1
    (simp only [a_laterH])
    (push_cast only [e12, e2])
    refine ⟨Nat.le_of_lt (small1000 (by rw [List.length_range, List.length_range]; omega)), fun p H3 n3 s3 e3 => ?_⟩
    rw [← List.map_append] at e3
    refine ⟨_, sq_lst e3, ?_, fun mx hm _ => ?_⟩
    ·have := W.n1
     intro z
     have := congrArg List.length z
     rw [List.length_append, List.length_map, List.length_map, List.length_range, List.length_range, List.length_nil] at this
     omega
    ·have le : mx ≤ b := by
      rcases List.mem_append.mp hm with z | z
      ·obtain ⟨j, hj, rfl⟩ := List.mem_map.mp z
       exact kh j (List.mem_range.mp hj)
      ·obtain ⟨j, hj, rfl⟩ := List.mem_map.mp z
       exact kt j (List.mem_range.mp hj)
     rw [decide_eq_true le]
     exact q H3 ((S1.trans S2).trans s3)
noncomputable def worthR (ts : List (Addr × List Int)) (rs : List (Addr × R3)) : List Int := rs.map fun r => r.2.2.2 * (ts.getD r.2.1.toNat (0, [])).2.getD r.2.2.1.toNat 0
noncomputable def sp_worth : Sp := fun vs H Q _ => ∃ (t sd wt a : Addr) (ss : List Int) (ts : List (Addr × List Int)) (rs : List (Addr × R3)), vs = [.ref t, .ref a] ∧ TownR H t sd wt ss ts ∧ H a = some (.tup (rs.map fun r => V.ref r.1)) ∧ Rw H rs ∧ rs.length ≤ 60 ∧ BdR rs ∧ (∀ r ∈ rs, 0 ≤ r.2.1 ∧ r.2.1 < (ts.length : Int) ∧ r.2.2.1 < ((2 ^ ss.length : Nat) : Int)) ∧ (∀ t ∈ ts, ∀ x ∈ t.2, 0 ≤ x ∧ x ≤ 10000) ∧ ∀ H', Same H H' → Q (.int (worthR ts rs).sum) H'
noncomputable def WI (c t : Addr) (ts : List (Addr × List Int)) (rs : List (Addr × R3)) (G : Hp) (k : Nat) (σ : St) (H : Hp) : Prop := ∃ v1 v2 v3, σ = [v1, v2, v3, some (.ref t)] ∧ SameX c G H ∧ H c = some (.lst ((worthR ts (rs.take k)).map V.int))
theorem sc_shares_worth : FnScope ["town", "rows"] ["town", "rows"] (defScope s_shares_worth) := ⟨rfl, rfl, rfl, by decide +kernel, rfl, by decide +kernel, by decide +kernel⟩
theorem ok_worth (F : Fun K "shares_worth" "shares_worth" s_shares_worth f fd) (hm : mg "shares_worth" = some (.ref f)) (hb : Binds K fd ["town", "rows"] []) (T : Txt mg) : Cal P w K mg base "shares_worth" ["town", "rows"] 1 sp_worth := by
 refine cal_of F hm hb sc_shares_worth (fun vs H Q E h => ?_) (fun cdv A outer s H vs Q E hr h => ?_)
 ·obtain ⟨_, _, _, _, _, _, _, rfl, _⟩ := h; rfl
 ·obtain ⟨t, sd, wt, a, ss, ts, rs, rfl, W, ha, R, few, bd, pl, wb, q⟩ := h
  have sc := sc_shares_worth
  refine ⟨_, pss_one (ps_ret (pe_callB (sum0 rfl) rfl T.sum_ bt_sum (pa_cns (pe_lc (N := ["hand", "heap", "part", "town"]) (fr := [none, none, none, some 0]) rfl (pi_t0 (pv 1)) (CScope.of rfl rfl rfl) rfl (fun _ _ _ => ⟨pg_tup0 (n := 3) rfl (pgs_cons (pg_name (i := 0) (show List.Nodup (α := Str) ["hand", "heap", "part", "town"] by decide +kernel) rfl (Or.inl rfl)) (pgs_cons (pg_name (i := 1) (show List.Nodup (α := Str) ["hand", "heap", "part", "town"] by decide +kernel) rfl (Or.inl rfl)) (pgs_cons (pg_name (i := 2) (show List.Nodup (α := Str) ["hand", "heap", "part", "town"] by decide +kernel) rfl (Or.inl rfl)) pgs_nil))), pif_nil, pe_op op_mul (pv 2) (pe_ix ix0 (pe_ix ix0 (pe_ix ix0 (pv 3) pe_int (fun _ _ => rfl)) (pv 0) (fun _ _ => rfl)) (pv 1) (fun _ _ => rfl))⟩)) pa_nil))), ?_⟩
  rw [show L2.start ["town", "rows"] [.ref t, .ref a] = [some (.ref t), some (.ref a)] from rfl]
  (push_cast only [ha])
  intro c nc
  have nac : a ≠ c := ne_of_none ha nc
  have i1 : ∀ x y : V, atI [x, y] 1 = some y := fun _ _ => rfl
  refine cl_seq (WI c t ts rs H) ⟨none, none, none, rfl, SameX.upd, upd_same⟩ (fun j σ H' _ ⟨_, _, _, _, s, _⟩ => s _ _ nac ha) ?_ ?_
  ·rintro k x σ H1 hx ⟨v1, v2, v3, rfl, s1, e1⟩
   rw [List.getElem?_map] at hx
   obtain ⟨r, hr', rfl⟩ := Option.map_eq_some_iff.mp hx
   have hm := List.mem_of_getElem? hr'
   have kl : k < rs.length := (List.getElem?_eq_some_iff.mp hr').1
   have er1 : H1 r.1 = some (.tup [.int r.2.1, .int r.2.2.1, .int r.2.2.2]) := s1 _ _ (ne_of_none (R r hm) nc) (R r hm)
   obtain ⟨p1, p2, p3⟩ := pl r hm
   obtain ⟨b1, b2, b3, b4⟩ := bd r hm
   obtain ⟨hn, ehn⟩ := Int.eq_ofNat_of_zero_le p1
   obtain ⟨hp, ehp⟩ := Int.eq_ofNat_of_zero_le b1
   have hnl : hn < ts.length := by omega
   have tw1 := sq_tup (s1 _ _ (ne_of_none W.tw nc) W.tw)
   have wt1 := sq_tup (s1 _ _ (ne_of_none W.wt nc) W.wt)
   have row := W.row ts[hn] (List.getElem_mem hnl)
   have rw1 := sq_tup (s1 _ _ (ne_of_none row.1 nc) row.1)
   have a1 : atI (ts.map fun t => V.ref t.1) r.2.1 = some (V.ref ts[hn].1) := by rw [ehn]; exact atI_nat (by simp [hnl])
   have a2 : atI (ts[hn].2.map V.int) r.2.2.1 = some (V.int (ts[hn].2.getD hp 0)) := by rw [ehp]; exact at_int (by rw [row.2]; omega)
   have gt : ts.getD r.2.1.toNat (0, []) = ts[hn] := by rw [ehn]; simp [List.getD_eq_getElem?_getD, hnl]
   have gp : r.2.2.1.toNat = hp := by rw [ehp]; rfl
   (push_cast only [er1, tw1, i1, wt1, a1, rw1, a2, e1])
   refine ⟨.inl ⟨by omega, by omega⟩, small1000 (by unfold worthR; rw [List.length_map, List.length_take]; omega), _, _, _, rfl, s1.trans SameX.upd, ?_⟩
   rw [upd_same]
   unfold worthR
   rw [List.take_add_one, hr', List.map_append, List.map_append, ← gt, ← gp]
   rfl
  ·rintro σ H1 ⟨v1, v2, v3, rfl, s1, e1⟩
   rw [List.length_map, List.take_length] at e1
   refine ⟨_, sq_lst e1, sumFits_of (fun x hx => ?_) (by unfold worthR; rw [List.length_map]; omega), ?_⟩
   ·unfold worthR at hx
    obtain ⟨r, hr', rfl⟩ := List.mem_map.mp hx
    obtain ⟨b1, b2, b3, b4⟩ := bd r hr'
    have w0 : 0 ≤ (ts.getD r.2.1.toNat (0, [])).2.getD r.2.2.1.toNat 0 ∧ (ts.getD r.2.1.toNat (0, [])).2.getD r.2.2.1.toNat 0 ≤ 10000 := by
     obtain ⟨p1, p2, p3⟩ := pl r hr'
     have hl : r.2.1.toNat < ts.length := by omega
     rw [show ts.getD r.2.1.toNat (0, []) = ts[r.2.1.toNat] by simp [List.getD_eq_getElem?_getD, hl], List.getD_eq_getElem?_getD]
     cases e : ts[r.2.1.toNat].2[r.2.2.1.toNat]? with
     | none => exact ⟨by decide, by decide⟩
     | some x => exact wb _ (List.getElem_mem hl) x (List.mem_of_getElem? e)
    have m0 := Int.mul_nonneg b3 w0.1
    have m1 := Int.mul_le_mul b4 w0.2 w0.1 (show (0 : Int) ≤ 1000 by decide)
    exact ⟨by omega, by omega⟩
   ·exact q H1 (s1.same nc)
end
end K53
end
section
set_option Elab.async false
set_option linter.all false
set_option maxRecDepth 100000
set_option maxHeartbeats 8000000
namespace K53
open PySem L2
section
variable {P : Program} {w : World} {K : PySem.W.Frag} {mg : Str → Option Value} {base : Heap} {f : Addr} {fd : FuncData}
noncomputable def RowO (H : Hp) (m n : Nat) (x : V) (o : Bool) : Prop := (RowB H x ∧ o = false) ∨ ∃ (a : Addr) (h p t : Int), x = .ref a ∧ H a = some (.tup [.int h, .int p, .int t]) ∧ o = shareB m n h p t
theorem RowO.same {H H' : Hp} {m n : Nat} {x : V} {o : Bool} (r : RowO H m n x o) (s : Same H H') : RowO H' m n x o := by
 rcases r with ⟨b, e⟩ | ⟨a, h, p, t, e1, e2, e3⟩
 ·refine .inl ⟨?_, e⟩
  rcases b with ⟨t, k1, k2⟩ | ⟨a, xs, e1, e2, kn, r⟩
  ·exact .inl ⟨t, tyN_same s k1, k2⟩
  ·exact .inr ⟨a, xs, e1, s _ _ e2, kn.same s, r⟩
 ·exact .inr ⟨a, h, p, t, e1, s _ _ e2, e3⟩
inductive Ars (H : Hp) (m n : Nat) : V → V → Bool → Prop
 | num {x y : V} {t : String} (k : tyN H x = some t) (z : isFrom 1 x = false) : Ars H m n x y false
 | kind {b : Int} {y : V} {t : String} (b1 : 1 ≤ b) (k : tyN H y = some t) (z : (t == "tuple") = false) : Ars H m n (.int b) y false
 | row {b : Int} {a : Addr} {xs : List V} {os : List Bool} (b1 : 1 ≤ b) (h : H a = some (.tup xs)) (few : xs.length ≤ 60) (ol : os.length = xs.length) (o : ∀ (i : Nat) v, xs[i]? = some v → ∃ u, os[i]? = some u ∧ RowO H m n v u) (bad : os.all id = false) : Ars H m n (.int b) (.ref a) false
 | all_ {b : Int} {a : Addr} {rs : List (Addr × R3)} {D : List (List Int)} {u : Bool} (b1 : 1 ≤ b) (h : H a = some (.tup (rs.map fun r => V.ref r.1))) (R : Rw H rs) (few : rs.length ≤ 60) (bd : BdR rs) (ok : ∀ r ∈ rs, shareB m n r.2.1 r.2.2.1 r.2.2.2 = true) (dl : D.length ≤ 4) (inD : ∀ r ∈ rs, k2 r.2 ∈ D) (ri : u = true ↔ risesR rs)
   (kh : u = true → ∀ j : Nat, j < n → (handL rs j).sum ≤ b) (kt : u = true → ∀ j : Nat, j < m → (thingL rs j).sum ≤ b) : Ars H m n (.int b) (.ref a) u
noncomputable def sp_ars : Sp := fun vs H Q _ => ∃ (t sd wt : Addr) (ss : List Int) (ts : List (Addr × List Int)) (x y : V) (u : Bool), vs = [.ref t, x, y] ∧ TownR H t sd wt ss ts ∧ Ars H ss.length ts.length x y u ∧ ∀ H', Same H H' → Q (.bl u) H'
noncomputable def AI (c sd wt : Addr) (os : List Bool) (G : Hp) (i : Nat) (σ : St) (H : Hp) : Prop := ∃ v, σ = [v, some (.ref sd), some (.ref wt)] ∧ SameX c G H ∧ H c = some (.lst ((os.take i).map V.bl))
theorem sc_are_shares : FnScope ["town", "by", "rows", "sides", "wants"] ["town", "by", "rows"] (defScope s_are_shares) := ⟨rfl, rfl, rfl, by decide +kernel, rfl, by decide +kernel, by decide +kernel⟩
theorem ok_ars (F : Fun K "are_shares" "are_shares" s_are_shares f fd) (hm : mg "are_shares" = some (.ref f)) (hb : Binds K fd ["town", "by", "rows"] []) (T : Txt mg) (c_is_whole_from : Cal P w K mg base "is_whole_from" ["thing", "least"] 2 sp_isfrom) (c_is_share : Cal P w K mg base "is_share" ["row", "many", "hands"] 3 sp_iss) (c_rise_by_place : Cal P w K mg base "rise_by_place" ["rows"] 1 sp_rise) (c_keep_bounds : Cal P w K mg base "keep_bounds" ["town", "by", "rows"] 2 sp_keep) : Cal P w K mg base "are_shares" ["town", "by", "rows"] 4 sp_ars := by
 refine cal_of F hm hb sc_are_shares (fun vs H Q E h => ?_) (fun cdv A outer s H vs Q E hr h => ?_)
 ·obtain ⟨_, _, _, _, _, _, _, _, rfl, _⟩ := h; rfl
 ·obtain ⟨t, sd, wt, ss, ts, x, y, u, rfl, W, hx, q⟩ := h
  have sc := sc_are_shares
  have htw := W.tw
  have m5 := W.m5
  have n5 := W.n5
  refine ⟨_, pss_consL (ps_if (PW.pt (pw_or (pt_not (pt_val (pe_cal c_is_whole_from hr (pa_cns (pv 1) (pa_cns pe_int pa_nil))))) (pw_or1 (pt_not (pt_val (pe_callB isi0 rfl T.isinstance_ bt_isinstance (pa_cns (pv 2) (pa_cns (pe_bltn (v := .ty "tuple") rfl T.tuple_ bt_tuple rfl) pa_nil)))))))) (pss_one (ps_ret pe_bl)) pss_nil)
   (pss_consL (ps_asg (pv 0) (pg_tup0 (n := 2) rfl (pgs_cons (pg_name (i := 3) sc.nd rfl (Or.inr rfl)) (pgs_cons (pg_name (i := 4) sc.nd rfl (Or.inr rfl)) pgs_nil))))
   (pss_consL (ps_if (pt_not (pt_val (pe_callB (all0 rfl) rfl T.all_ bt_all (pa_cns (pe_lc (N := ["row", "sides", "wants"]) (fr := [none, some 3, some 4]) rfl (pi_t0 (pv 2)) (CScope.of rfl rfl rfl) rfl (fun _ _ _ => ⟨pg_name (i := 0) (show List.Nodup (α := Str) ["row", "sides", "wants"] by decide +kernel) rfl (Or.inl rfl), pif_nil, pe_cal c_is_share hr (pa_cns (pv 0) (pa_cns (pe_callB len0 rfl T.len_ bt_len (pa_cns (pv 1) pa_nil)) (pa_cns (pe_callB len0 rfl T.len_ bt_len (pa_cns (pv 2) pa_nil)) pa_nil)))⟩)) pa_nil)))) (pss_one (ps_ret pe_bl)) pss_nil)
   (pss_one (ps_ret (pe_and (pe_cal c_rise_by_place hr (pa_cns (pv 2) pa_nil)) (pe_one (pe_cal c_keep_bounds hr (pa_cns (pv 0) (pa_cns (pv 1) (pa_cns (pv 2) pa_nil)))))))))), ?_⟩
  rw [show L2.start ["town", "by", "rows", "sides", "wants"] [.ref t, x, y] = [some (.ref t), some (x), some (y), none, none] from rfl]
  (push_cast only [])
  cases hx with
  | num k z =>
   refine ⟨_, _, _, rfl, k, ?_⟩
   rw [z]
   (push_cast only [])
   exact q H (Same.refl H)
  | @kind b y t' b1 k z =>
   refine ⟨_, _, "int", rfl, rfl, ?_⟩
   rw [show isFrom 1 (.int b) = true from decide_eq_true b1]
   (push_cast only [])
   refine ⟨_, k, ?_⟩
   rw [if_pos (by rw [z]; rfl)]
   exact q H (Same.refl H)
  | @row b a xs os b1 h few ol o bad =>
   refine ⟨_, _, "int", rfl, rfl, ?_⟩
   rw [show isFrom 1 (.int b) = true from decide_eq_true b1]
   (push_cast only [h])
   (simp only [a_laterH])
   (push_cast only [htw])
   (simp only [a_laterH])
   (push_cast only [h])
   have ol' := ol
   intro c nc
   have nac : a ≠ c := ne_of_none h nc
   have nsd := ne_of_none W.sd nc
   have nwt := ne_of_none W.wt nc
   refine cl_seq (AI c sd wt os H) ⟨none, rfl, SameX.upd, upd_same⟩ (fun j σ H' _ ⟨_, _, s, _⟩ => s _ _ nac h) ?_ ?_
   ·rintro i v σ H1 hv ⟨v0, rfl, s1, e1⟩
    have il : i < xs.length := (List.getElem?_eq_some_iff.mp hv).1
    obtain ⟨u1, hu1, ro⟩ := o i v hv
    have ro1 := ro.same (s1.same nc)
    have q1 := sq_tup (s1 _ _ nsd W.sd)
    have q2 := sq_tup (s1 _ _ nwt W.wt)
    (push_cast only [q1, q2])
    refine ⟨v, ss.length, ts.length, rfl, m5, ?_⟩
    have next : ∀ H2, Same H1 H2 → ∃ x, H2 c = some (.lst x) ∧ x.length < sizeLine ∧ AI c sd wt os H (i + 1) [some v, some (.ref sd), some (.ref wt)] (upd H2 c (.lst (x ++ [V.bl u1]))) := fun H2 s2 => by
     refine ⟨_, s2 _ _ e1, small1000 (by rw [List.length_map, List.length_take]; omega), _, rfl, (s1.trans s2.x).trans SameX.upd, ?_⟩
     rw [upd_same, List.take_add_one, hu1, List.map_append]
     rfl
    rcases ro1 with ⟨rb, e⟩ | ⟨a', h', p', t', e1', e2', e3'⟩
    ·exact .inl ⟨rb, fun H2 s2 => by rw [← e]; exact next H2 s2⟩
    ·exact .inr ⟨a', h', p', t', e1', e2', fun H2 s2 => by rw [← e3']; exact next H2 s2⟩
   ·rintro σ H1 ⟨v0, rfl, s1, e1⟩
    have S1 := s1.same nc
    rw [← ol', List.take_length] at e1
    refine ⟨_, sq_lst e1, ?_⟩
    rw [bad]
    (push_cast only [])
    exact q H1 S1
  | @all_ b a rs D u b1 h R few bd ok dl inD ri kh kt =>
   obtain ⟨os, eos⟩ : ∃ os : List Bool, os = rs.map fun _ => true := ⟨_, rfl⟩
   have ol' : os.length = (rs.map fun r => V.ref r.1).length := by rw [eos, List.length_map, List.length_map]
   have ol'' : os.length = rs.length := by rw [eos, List.length_map]
   have o : ∀ (i : Nat) v, (rs.map fun r => V.ref r.1)[i]? = some v → ∃ u, os[i]? = some u ∧ RowO H ss.length ts.length v u := fun i v hv => by
    rw [List.getElem?_map] at hv
    obtain ⟨r, hr', rfl⟩ := Option.map_eq_some_iff.mp hv
    have hm := List.mem_of_getElem? hr'
    exact ⟨true, by rw [eos, List.getElem?_map, hr']; rfl, .inr ⟨r.1, _, _, _, rfl, R r hm, (ok r hm).symm⟩⟩
   refine ⟨_, _, "int", rfl, rfl, ?_⟩
   rw [show isFrom 1 (.int b) = true from decide_eq_true b1]
   (push_cast only [h])
   (simp only [a_laterH])
   (push_cast only [htw])
   (simp only [a_laterH])
   (push_cast only [h])
   intro c nc
   have nac : a ≠ c := ne_of_none h nc
   have nsd := ne_of_none W.sd nc
   have nwt := ne_of_none W.wt nc
   refine cl_seq (AI c sd wt os H) ⟨none, rfl, SameX.upd, upd_same⟩ (fun j σ H' _ ⟨_, _, s, _⟩ => s _ _ nac h) ?_ ?_
   ·rintro i v σ H1 hv ⟨v0, rfl, s1, e1⟩
    have il : i < rs.length := by have := (List.getElem?_eq_some_iff.mp hv).1; rwa [List.length_map] at this
    obtain ⟨u1, hu1, ro⟩ := o i v hv
    have ro1 := ro.same (s1.same nc)
    have q1 := sq_tup (s1 _ _ nsd W.sd)
    have q2 := sq_tup (s1 _ _ nwt W.wt)
    (push_cast only [q1, q2])
    refine ⟨v, ss.length, ts.length, rfl, m5, ?_⟩
    have next : ∀ H2, Same H1 H2 → ∃ x, H2 c = some (.lst x) ∧ x.length < sizeLine ∧ AI c sd wt os H (i + 1) [some v, some (.ref sd), some (.ref wt)] (upd H2 c (.lst (x ++ [V.bl u1]))) := fun H2 s2 => by
     refine ⟨_, s2 _ _ e1, small1000 (by rw [List.length_map, List.length_take]; omega), _, rfl, (s1.trans s2.x).trans SameX.upd, ?_⟩
     rw [upd_same, List.take_add_one, hu1, List.map_append]
     rfl
    rcases ro1 with ⟨rb, e⟩ | ⟨a', h', p', t', e1', e2', e3'⟩
    ·exact .inl ⟨rb, fun H2 s2 => by rw [← e]; exact next H2 s2⟩
    ·exact .inr ⟨a', h', p', t', e1', e2', fun H2 s2 => by rw [← e3']; exact next H2 s2⟩
   ·rintro σ H1 ⟨v0, rfl, s1, e1⟩
    have S1 := s1.same nc
    rw [← ol', List.take_length] at e1
    refine ⟨_, sq_lst e1, ?_⟩
    rw [show os.all id = true by rw [eos, List.all_map]; simp]
    (push_cast only [])
    (simp only [a_laterH])
    (push_cast only [])
    refine ⟨a, rs, D, u, rfl, S1 _ _ h, R.same S1, few, dl, inD, ri, fun H2 s2 => ?_⟩
    cases u with
    | false =>
     (push_cast only [])
     exact q H2 (S1.trans s2)
    | true =>
     (push_cast only [])
     exact ⟨t, sd, wt, a, ss, ts, rs, b, rfl, W.same (S1.trans s2), (S1.trans s2) _ _ h, R.same (S1.trans s2), few, bd, kh rfl, kt rfl, fun H3 s3 => q H3 ((S1.trans s2).trans s3)⟩
inductive Th (H : Hp) (m : Nat) (ts : List (Addr × List Int)) : V → Bool → Prop
 | kind {x : V} {t : String} (k : tyN H x = some t) (z : (t == "tuple") = false) : Th H m ts x false
 | many {a : Addr} {xs : List V} (h : H a = some (.tup xs)) (n : xs.length ≠ 2) : Th H m ts (.ref a) false
 | no {a : Addr} {x y : V} (h : H a = some (.tup [x, y])) (r : Ars H m ts.length x y false) : Th H m ts (.ref a) false
 | yes {a a' : Addr} {b : Int} {rs : List (Addr × R3)} (h : H a = some (.tup [.int b, .ref a'])) (r : Ars H m ts.length (.int b) (.ref a') true) (b0 : 0 ≤ b) (b1 : b ≤ 1000) (hr : H a' = some (.tup (rs.map fun r => V.ref r.1))) (R : Rw H rs) (few : rs.length ≤ 60) (bd : BdR rs)
   (pl : ∀ r ∈ rs, 0 ≤ r.2.1 ∧ r.2.1 < (ts.length : Int) ∧ r.2.2.1 < ((2 ^ m : Nat) : Int)) (more : b * (dpL m (ts.map fun t => t.2)).getD (2 ^ m - 1) 0 < (worthR ts rs).sum) : Th H m ts (.ref a) true
noncomputable def sp_none : Sp := fun vs H Q _ => ∃ (t sd wt : Addr) (ss : List Int) (ts : List (Addr × List Int)) (x : V) (u : Bool), vs = [.ref t, x] ∧ TownR H t sd wt ss ts ∧ (∀ t ∈ ts, ∀ x ∈ t.2, 0 ≤ x ∧ x ≤ 10000) ∧ Th H ss.length ts x u ∧ ∀ H', Same H H' → Q (.bl u) H'
theorem sc_shows_none : FnScope ["town", "thing", "by", "rows"] ["town", "thing"] (defScope s_shows_none) := ⟨rfl, rfl, rfl, by decide +kernel, rfl, by decide +kernel, by decide +kernel⟩
theorem ok_none (F : Fun K "shows_none" "shows_none" s_shows_none f fd) (hm : mg "shows_none" = some (.ref f)) (hb : Binds K fd ["town", "thing"] []) (T : Txt mg) (c_are_shares : Cal P w K mg base "are_shares" ["town", "by", "rows"] 4 sp_ars) (c_shares_worth : Cal P w K mg base "shares_worth" ["town", "rows"] 1 sp_worth) (c_greatest : Cal P w K mg base "greatest" ["town"] 6 sp_greatest) : Cal P w K mg base "shows_none" ["town", "thing"] 7 sp_none := by
 refine cal_of F hm hb sc_shows_none (fun vs H Q E h => ?_) (fun cdv A outer s H vs Q E hr h => ?_)
 ·obtain ⟨_, _, _, _, _, _, _, rfl, _⟩ := h; rfl
 ·obtain ⟨t, sd, wt, ss, ts, x, u, rfl, W, wb, hx, q⟩ := h
  have sc := sc_shows_none
  refine ⟨_, pss_consL (ps_if (PW.pt (pw_or (pt_not (pt_val (pe_callB isi0 rfl T.isinstance_ bt_isinstance (pa_cns (pv 1) (pa_cns (pe_bltn (v := .ty "tuple") rfl T.tuple_ bt_tuple rfl) pa_nil))))) (pw_or1 (pt_cmpR op_ne (pe_callB len0 rfl T.len_ bt_len (pa_cns (pv 1) pa_nil)) pe_int (nomark _))))) (pss_one (ps_ret pe_bl)) pss_nil)
   (pss_consL (ps_asg (pv 1) (pg_tup0 (n := 2) rfl (pgs_cons (pg_name (i := 2) sc.nd rfl (Or.inl rfl)) (pgs_cons (pg_name (i := 3) sc.nd rfl (Or.inl rfl)) pgs_nil))))
   (pss_one (ps_ret (pe_and (pe_cal c_are_shares hr (pa_cns (pv 0) (pa_cns (pv 2) (pa_cns (pv 3) pa_nil)))) (pe_one (pe_cmpR op_gt (pe_cal c_shares_worth hr (pa_cns (pv 0) (pa_cns (pv 3) pa_nil))) (pe_op op_mul (pv 2) (pe_cal c_greatest hr (pa_cns (pv 0) pa_nil))) (nomark _))))))), ?_⟩
  rw [show L2.start ["town", "thing", "by", "rows"] [.ref t, x] = [some (.ref t), some (x), none, none] from rfl]
  cases hx with
  | kind k z =>
   (push_cast only [])
   refine ⟨_, k, ?_⟩
   rw [if_pos (by rw [z]; rfl)]
   exact q H (Same.refl H)
  | many h n =>
   have hs := sq_tup h
   (push_cast only [h, hs])
   rw [if_pos (by simp; omega)]
   exact q H (Same.refl H)
  | @no a x y h r =>
   have hs := sq_tup h
   (push_cast only [h, hs])
   (simp only [a_laterH])
   (push_cast only [h])
   (simp only [a_laterH])
   (push_cast only [])
   refine ⟨t, sd, wt, ss, ts, x, y, false, rfl, W, r, fun H1 s1 => ?_⟩
   (push_cast only [])
   exact q H1 s1
  | @yes a a' b rs h r b0 b1 hr' R few bd pl more =>
   have hs := sq_tup h
   (push_cast only [h, hs])
   (simp only [a_laterH])
   (push_cast only [h])
   (simp only [a_laterH])
   (push_cast only [])
   refine ⟨t, sd, wt, ss, ts, .int b, .ref a', true, rfl, W, r, fun H1 s1 => ?_⟩
   (push_cast only [])
   refine ⟨t, sd, wt, a', ss, ts, rs, rfl, W.same s1, s1 _ _ hr', R.same s1, few, bd, pl, wb, fun H2 s2 => ?_⟩
   have S2 := s1.trans s2
   have W2 := W.same S2
   (push_cast only [])
   refine ⟨t, sd, wt, ss.length, ss, ts, rfl, ⟨W2.tw, W2.sd, W2.wt, W2.m5, rfl, W2.n5, W2.row⟩, fun H3 s3 => ?_⟩
   (push_cast only [])
   refine ⟨.inl ⟨by omega, by omega⟩, ?_⟩
   rw [decide_eq_true more]
   exact q H3 (S2.trans s3)
end
end K53
end
section
set_option Elab.async false
set_option linter.all false
set_option maxRecDepth 100000
set_option maxHeartbeats 8000000
namespace K53
open PySem L2
section
variable {P : Program} {w : World} {K : PySem.W.Frag} {mg : Str → Option Value} {base : Heap} {f : Addr} {fd : FuncData}
noncomputable def wantZ (W o : Int) (i : Nat) : List Int := (List.range i).map fun h : Nat => W * (if Builtin.bitAnd (h : Int) o = o then 1 else 0)
noncomputable def prZ (f : Nat) (h : Nat) : Int := [3, 6, 5].getD ((h + f) % 3) 0
noncomputable def rowZ (b : Int) (f : Nat) (h : Nat) : R3 := ((h : Int), prZ f h, b / 2)
structure Ring (H : Hp) (tw th : Addr) (W b : Int) (fi : Nat) (sd wt ra : Addr) (ss : List Int) (ts : List (Addr × List Int)) (rs : List (Addr × R3)) : Prop where
 T : TownR H tw sd wt ss ts
 th : H th = some (.tup [.int b, .ref ra])
 ra : H ra = some (.tup (rs.map fun r => V.ref r.1))
 R : Rw H rs
 s3 : ss.length = 3
 ws : ts.map (·.2) = (List.range 3).map fun h => wantZ W (prZ fi h) 8
 rs3 : rs.map (·.2) = (List.range 3).map fun h => rowZ b fi h
noncomputable def sp_ring : Sp := fun vs H Q _ => ∃ (p l : Addr), vs = [.ref p] ∧ Spool H p l ∧ ∀ (o tw th sd wt ra : Addr) (W b : Int) (fi : Nat) (ss : List Int) (ts : List (Addr × List Int)) (rs : List (Addr × R3)) (H' : Hp), 2 ≤ W → W ≤ 41 → (b = 2 ∨ b = 4 ∨ b = 6) → fi < 3 → Ring H' tw th W b fi sd wt ra ss ts rs → Spool H' p l → SameX p H H' → H' o = some (.tup [.ref tw, .ref th]) → Q (.ref o) H'
noncomputable def GI (p l pa wa : Addr) (W : Int) (fi : Nat) (G : Hp) (i : Nat) (σ : St) (H : Hp) : Prop := ∃ (v5 v6 : Option V) (ts : List (Addr × List Int)), σ = [some (.ref p), some (.int W), some (.ref pa), some (.int (fi : Int)), some (.ref wa), v5, v6, none, none, none] ∧ SameX wa G H ∧ H wa = some (.lst (ts.map fun t => V.ref t.1)) ∧ (∀ t ∈ ts, H t.1 = some (.tup (t.2.map V.int))) ∧ ts.map (·.2) = (List.range i).map fun h => wantZ W (prZ fi h) 8
noncomputable def GR (c pa : Addr) (fi : Nat) (b : Int) (G : Hp) (i : Nat) (σ : St) (H : Hp) : Prop := ∃ (v : Option V) (rs : List (Addr × R3)), σ = [v, some (.ref pa), some (.int (fi : Int)), some (.int b)] ∧ SameX c G H ∧ H c = some (.lst (rs.map fun r => V.ref r.1)) ∧ Rw H rs ∧ rs.map (·.2) = (List.range i).map fun h => rowZ b fi h
noncomputable def GW (c : Addr) (W o : Int) (G : Hp) (i : Nat) (σ : St) (H : Hp) : Prop := ∃ v, σ = [v, some (.int W), some (.int o)] ∧ SameX c G H ∧ H c = some (.lst ((wantZ W o i).map V.int))
theorem Spool.net {H : Hp} {p l x : Addr} {M : List V} (sp : Spool H p l) (e : H x = some (.tup M)) : x ≠ p := by
 obtain ⟨_, _, _, _, _, _, h, _⟩ := sp
 rintro rfl
 rw [h] at e
 cases e
theorem pr_at (h f : Nat) : atI [V.int 3, V.int 6, V.int 5] (((h : Int) + (f : Int)) % 3) = some (V.int (prZ f h)) := by
 have e : ((h : Int) + (f : Int)) % 3 = (((h + f) % 3 : Nat) : Int) := by omega
 rw [e]
 unfold prZ
 have h3 : (h + f) % 3 = 0 ∨ (h + f) % 3 = 1 ∨ (h + f) % 3 = 2 := by omega
 rcases h3 with z | z | z <;> rw [z] <;> rfl
theorem pr_in (h f : Nat) : prZ f h = 3 ∨ prZ f h = 6 ∨ prZ f h = 5 := by
 unfold prZ
 have h3 : (h + f) % 3 = 0 ∨ (h + f) % 3 = 1 ∨ (h + f) % 3 = 2 := by omega
 rcases h3 with z | z | z <;> rw [z]
 ·exact .inl rfl
 ·exact .inr (.inl rfl)
 ·exact .inr (.inr rfl)
theorem sc__law_ring_town : FnScope ["_law_spool_here", "_law_worth", "_law_pairs", "_law_first", "_law_wants", "_law_hand", "_law_one", "_law_by", "_law_rows", "_law_sides"] ["_law_spool_here"] (defScope s__law_ring_town) := ⟨rfl, rfl, rfl, by decide +kernel, rfl, by decide +kernel, by decide +kernel⟩
theorem ok_ring (F : Fun K "_law_ring_town" "_law_ring_town" s__law_ring_town f fd) (hm : mg "_law_ring_town" = some (.ref f)) (hb : Binds K fd ["_law_spool_here"] []) (T : Txt mg) (c__law_draw : Cal P w K mg base "_law_draw" ["_law_spool_here", "_law_many"] 2 spDraw) : Cal P w K mg base "_law_ring_town" ["_law_spool_here"] 3 sp_ring := by
 refine cal_of F hm hb sc__law_ring_town (fun vs H Q E h => ?_) (fun cdv A outer s H vs Q E hr h => ?_)
 ·obtain ⟨_, _, rfl, _⟩ := h; rfl
 ·obtain ⟨p, l, rfl, sp, q⟩ := h
  have sc := sc__law_ring_town
  refine ⟨_, pss_consL (ps_set (i := 1) sc.nd rfl (Or.inr rfl) (pe_op op_add pe_int (pe_cal c__law_draw hr (pa_cns (pv 0) (pa_cns pe_int pa_nil)))))
   (pss_consL (ps_set (i := 2) sc.nd rfl (Or.inr rfl) (pe_lstA (pa_cns pe_int (pa_cns pe_int (pa_cns pe_int pa_nil)))))
   (pss_consL (ps_set (i := 3) sc.nd rfl (Or.inr rfl) (pe_cal c__law_draw hr (pa_cns (pv 0) (pa_cns pe_int pa_nil))))
   (pss_consL (ps_set (i := 4) sc.nd rfl (Or.inl rfl) (pe_lstA pa_nil))
   (pss_consL (ps_for PassesOwn.never rfl (pi_range1 rfl T.range_ (pa_cns pe_int pa_nil)) (pg_name (i := 5) sc.nd rfl (Or.inl rfl))
    (pss_consL (ps_set (i := 6) sc.nd rfl (Or.inr rfl) (pe_ix ix0 (pv 2) (pe_op op_mod (pe_op op_add (pv 5) (pv 3)) pe_int) (fun _ _ => rfl)))
   (pss_one (ps_expr (pe_append (pv 4) (pa_cns (pe_callTy tupA0 rfl T.tuple_ bt_tuple (pa_cns (pe_lc (N := ["_law_heap", "_law_worth", "_law_one"]) (fr := [none, some 1, some 6]) rfl (pi_range1 rfl T.range_ (pa_cns pe_int pa_nil)) (CScope.of rfl rfl rfl) rfl (fun _ _ _ => ⟨pg_name (i := 0) (show List.Nodup (α := Str) ["_law_heap", "_law_worth", "_law_one"] by decide +kernel) rfl (Or.inl rfl), pif_nil, pe_op op_mul (pv 1) (pe_callTy call_int1 rfl T.int_ bt_int (pa_cns (pe_cmpR op_eq (pe_op op_and (pv 0) (pv 2)) (pv 2) (nomark _)) pa_nil))⟩)) pa_nil)) pa_nil))))))
   (pss_consL (ps_set (i := 7) sc.nd rfl (Or.inr rfl) (pe_op op_mul pe_int (pe_op op_add pe_int (pe_cal c__law_draw hr (pa_cns (pv 0) (pa_cns pe_int pa_nil))))))
   (pss_consL (ps_set (i := 8) sc.nd rfl (Or.inl rfl) (pe_callTy tupA0 rfl T.tuple_ bt_tuple (pa_cns (pe_lc (N := ["_law_hand", "_law_pairs", "_law_first", "_law_by"]) (fr := [none, some 2, some 3, some 7]) rfl (pi_range1 rfl T.range_ (pa_cns pe_int pa_nil)) (CScope.of rfl rfl rfl) rfl (fun _ _ _ => ⟨pg_name (i := 0) (show List.Nodup (α := Str) ["_law_hand", "_law_pairs", "_law_first", "_law_by"] by decide +kernel) rfl (Or.inl rfl), pif_nil, pe_tupA (pa_cns (pv 0) (pa_cns (pe_ix ix0 (pv 1) (pe_op op_mod (pe_op op_add (pv 0) (pv 2)) pe_int) (fun _ _ => rfl)) (pa_cns (pe_op op_fdiv (pv 3) pe_int) pa_nil)))⟩)) pa_nil)))
   (pss_consL (ps_set (i := 9) sc.nd rfl (Or.inl rfl) (pe_callTy tupA0 rfl T.tuple_ bt_tuple (pa_cns (pe_lc (N := ["_law_thing", "_law_spool_here"]) (fr := [none, some 0]) rfl (pi_range1 rfl T.range_ (pa_cns pe_int pa_nil)) (CScope.of rfl rfl rfl) rfl (fun _ _ _ => ⟨pg_name (i := 0) (show List.Nodup (α := Str) ["_law_thing", "_law_spool_here"] by decide +kernel) rfl (Or.inl rfl), pif_nil, pe_cal c__law_draw hr (pa_cns (pv 1) (pa_cns pe_int pa_nil))⟩)) pa_nil)))
   (pss_one (ps_ret (pe_tupA (pa_cns (pe_tupA (pa_cns (pv 9) (pa_cns (pe_callTy tupA0 rfl T.tuple_ bt_tuple (pa_cns (pv 4) pa_nil)) pa_nil))) (pa_cns (pe_tupA (pa_cns (pv 7) (pa_cns (pv 8) pa_nil))) pa_nil)))))))))))), ?_⟩
  rw [show L2.start ["_law_spool_here", "_law_worth", "_law_pairs", "_law_first", "_law_wants", "_law_hand", "_law_one", "_law_by", "_law_rows", "_law_sides"] [.ref p] = [some (.ref p), none, none, none, none, none, none, none, none, none] from rfl]
  (push_cast only [])
  refine ⟨p, l, 40, rfl, sp, by decide, by decide, fun r1 H1 r10 r11 sp1 sx1 => ?_⟩
  (push_cast only [])
  (simp only [a_laterH])
  (push_cast only [])
  refine ⟨by decide, fun pa H2 npa s2 e2 => ?_⟩
  (simp only [a_laterH])
  (push_cast only [])
  refine ⟨p, l, 3, rfl, sp1.same s2, by decide, by decide, fun r2 H3 r20 r21 sp3 sx3 => ?_⟩
  have npap : pa ≠ p := fun z => (sp1.nep npa) z.symm
  have e3 := sx3 _ _ npap e2
  obtain ⟨fi, rfl⟩ := Int.eq_ofNat_of_zero_le r20
  (push_cast only [])
  (simp only [a_laterH])
  (push_cast only [])
  refine ⟨by decide, fun wa H4 nwa s4 e4 => ?_⟩
  (simp only [a_laterH])
  (push_cast only [])
  have e34 := s4 _ _ e3
  have nwapa : pa ≠ wa := ne_of_none e3 nwa
  refine ⟨by decide, by decide, fl_range (GI p l pa wa (2 + r1) fi H4) ⟨_, _, [], rfl, SameX.refl, e4, (fun t ht => by cases ht), rfl⟩ ?_ ?_⟩
  ·rintro i σ H5 hi ⟨v5, v6, ts, rfl, s5, e5, T5, d5⟩
   have hi3 : i < 3 := hi
   have tl : ts.length = i := by have := congrArg List.length d5; simpa using this
   have q5 := sq_lst (s5 _ _ nwapa e34)
   have hat := pr_at i fi
   (push_cast only [q5, hat])
   (simp only [a_laterH])
   (push_cast only [e5])
   refine ⟨by decide, by decide, fun c nc => ?_⟩
   have nwc : wa ≠ c := ne_of_none e5 nc
   refine cl_range (GW c (2 + r1) (prZ fi i) H5) ⟨none, rfl, SameX.upd, upd_same⟩ ?_ ?_
   ·rintro j σ H6 hj ⟨v, rfl, s6, e6⟩
    have hj8 : j < 8 := hj
    (push_cast only [e6])
    refine ⟨.inl ⟨by omega, by omega⟩, small1000 (by unfold wantZ; rw [List.length_map, List.length_range]; omega), _, rfl, s6.trans SameX.upd, ?_⟩
    rw [upd_same]
    unfold wantZ
    rw [List.range_succ, List.map_append, List.map_append]
    simp
   ·rintro σ H6 ⟨v, rfl, s6, e6⟩
    have S6 := s6.same nc
    refine ⟨_, e6, fun t H7 nt s7 e7 => ?_⟩
    have S7 := S6.trans s7
    have ew := S7 _ _ e5
    have e7' : H7 t = some (.tup ((wantZ (2 + r1) (prZ fi i) 8).map V.int)) := e7
    refine ⟨_, ew, small1000 (by rw [List.length_map]; omega), _, _, ts ++ [(t, wantZ (2 + r1) (prZ fi i) 8)], rfl, (s5.trans S7.x).trans SameX.upd, by rw [upd_same, List.map_append]; rfl, fun y hy => ?_, ?_⟩
    ·have hy7 : H7 y.1 = some (.tup (y.2.map V.int)) := by
      rcases List.mem_append.mp hy with z | z
      ·exact S7 _ _ (T5 y z)
      ·rw [List.mem_singleton.mp z]; exact e7'
     rw [upd_ne (fun z => by rw [z, ew] at hy7; cases hy7)]
     exact hy7
    ·rw [List.map_append, d5, List.range_succ, List.map_append]
     rfl
  ·rintro σ H5 ⟨v5, v6, ts, rfl, s5, e5, T5, d5⟩
   have d5' : ts.map (·.2) = (List.range 3).map fun h => wantZ (2 + r1) (prZ fi h) 8 := d5
   have nwp : wa ≠ p := fun z => (sp3.nep nwa) z.symm
   have sp5 : Spool H5 p l := by
    obtain ⟨ns, a1, g1, f1, m1, x1, h1, h2, h3, h4⟩ := sp3.same s4
    exact ⟨ns, a1, g1, f1, m1, x1, s5 _ _ (fun z => nwp z.symm) h1, s5 _ _ (fun z => (sp3.nel nwa) z) h2, h3, h4⟩
   (simp only [a_laterH])
   (push_cast only [])
   refine ⟨p, l, 3, rfl, sp5, by decide, by decide, fun r3 H6 r30 r31 sp6 sx6 => ?_⟩
   obtain ⟨b3, rfl⟩ := Int.eq_ofNat_of_zero_le r30
   have e56 := sx6 _ _ npap (s5 _ _ nwapa e34)
   have ew6 := sx6 _ _ nwp e5
   have T6 : ∀ t ∈ ts, H6 t.1 = some (.tup (t.2.map V.int)) := fun t ht => sx6 _ _ (sp5.net (T5 t ht)) (T5 t ht)
   (push_cast only [])
   refine ⟨.inl ⟨by omega, by omega⟩, ?_⟩
   (simp only [a_laterH])
   (push_cast only [])
   refine ⟨by decide, by decide, fun c nc => ?_⟩
   have npc : pa ≠ c := ne_of_none e56 nc
   refine cl_range (GR c pa fi (2 * (1 + (b3 : Int))) H6) ⟨none, [], rfl, SameX.upd, upd_same, (fun r hr => by cases hr), rfl⟩ ?_ ?_
   ·rintro j σ H7 hj ⟨v, rs, rfl, s7, e7, R7, d7⟩
    have hj3 : j < 3 := hj
    have rl : rs.length = j := by have := congrArg List.length d7; simpa using this
    have q7 := sq_lst (s7 _ _ npc e56)
    have hat := pr_at j fi
    (push_cast only [q7, hat])
    refine ⟨⟨by decide, by decide⟩, by decide, fun t H8 nt s8 e8 => ?_⟩
    have ec := s8 _ _ e7
    have e8' : H8 t = some (.tup ((k3 (rowZ (2 * (1 + (b3 : Int))) fi j)).map V.int)) := e8
    refine ⟨_, ec, small1000 (by rw [List.length_map]; omega), _, rs ++ [(t, rowZ (2 * (1 + (b3 : Int))) fi j)], rfl, (s7.trans s8.x).trans SameX.upd, by rw [upd_same, List.map_append]; rfl, fun y hy => ?_, ?_⟩
    ·have hy8 : H8 y.1 = some (.tup ((k3 y.2).map V.int)) := by
      rcases List.mem_append.mp hy with z | z
      ·exact s8 _ _ (R7 y z)
      ·rw [List.mem_singleton.mp z]; exact e8'
     rw [upd_ne (fun z => by rw [z, ec] at hy8; cases hy8)]
     exact hy8
    ·rw [List.map_append, d7, List.range_succ, List.map_append]
     rfl
   ·rintro σ H7 ⟨v, rs, rfl, s7, e7, R7, d7⟩
    have d7' : rs.map (·.2) = (List.range 3).map fun h => rowZ (2 * (1 + (b3 : Int))) fi h := d7
    have S7 := s7.same nc
    refine ⟨_, e7, fun ra H8 nra s8 e8 => ?_⟩
    have S8 := S7.trans s8
    have sp8 := sp6.same S8
    have ew8 := S8 _ _ ew6
    (simp only [a_laterH])
    (push_cast only [])
    refine ⟨by decide, by decide, fun d nd => ?_⟩
    have ndp := sp8.nep nd
    have ndl := sp8.nel nd
    have nwd : wa ≠ d := ne_of_none ew8 nd
    refine cl_range (MadeS p l d (fun x => x = 0 ∨ x = 1) [some (.ref p)] H8) (MadeS.zero sp8 nd) ?_ ?_
    ·rintro i σ H9 hi ⟨v, ws, rfl, hl, hbd, sp9, k9, e9⟩
     have hi3 : i < 3 := hi
     (push_cast only [])
     refine ⟨p, l, 2, rfl, sp9, by omega, by omega, fun r H10 r0 r1' sp10 sx10 => ?_⟩
     have e10 := sx10 _ _ ndp.symm e9
     subst hl
     (push_cast only [e10])
     exact ⟨small1000 (by omega), MadeS.more ndp ndl hbd k9 sx10 sp10 (by omega)⟩
    ·rintro σ H9 ⟨v, ss, rfl, hl, hbd, sp9, k9, e9⟩
     have hl3 : ss.length = 3 := hl
     refine ⟨_, e9, fun sd H10 nsd s10 e10 => ?_⟩
     have k10 : ∀ b o, b ≠ p → H8 b = some o → H10 b = some o := fun b o np e => s10 _ _ (k9 b o np (ne_of_none e nd) e)
     have ew10 := k10 _ _ nwp ew8
     (simp only [a_laterH])
     (push_cast only [ew10])
     refine fun wt H11 n11 s11 e11 => ⟨by decide, fun tw H12 n12 s12 e12 => ⟨by decide, fun th H13 n13 s13 e13 => ⟨by decide, fun o H14 n14 s14 e14 => ?_⟩⟩⟩
     have Sf : Same H10 H14 := ((s11.trans s12).trans s13).trans s14
     have kf : ∀ b x, b ≠ p → H6 b = some x → H14 b = some x := fun b x np e => Sf _ _ (k10 b x np (S8 _ _ e))
     have tl : ts.length = 3 := by have := congrArg List.length d5'; simpa using this
     have Tf : ∀ t ∈ ts, H14 t.1 = some (.tup (t.2.map V.int)) := fun t ht => kf _ _ (sp6.net (T6 t ht)) (T6 t ht)
     refine q o tw th sd wt ra (2 + r1) (2 * (1 + (b3 : Int))) fi ss ts rs H14 (by omega) (by omega) (by omega) (by omega) ⟨⟨s14 _ _ (s13 _ _ e12), Sf _ _ e10, s14 _ _ (s13 _ _ (s12 _ _ e11)), by omega, by omega, by omega, fun t ht => ⟨Tf t ht, ?_⟩⟩, s14 _ _ e13, Sf _ _ (k10 _ _ (sp8.net e8) e8), fun r hr' => Sf _ _ (k10 _ _ (sp8.net (s8 _ _ (R7 r hr'))) (s8 _ _ (R7 r hr'))), hl3, d5', d7'⟩ (sp9.same (s10.trans Sf)) (fun b x np e => ?_) e14
     ·have hm : t.2 ∈ (List.range 3).map fun h => wantZ (2 + r1) (prZ fi h) 8 := d5' ▸ List.mem_map_of_mem ht
      obtain ⟨h, _, e⟩ := List.mem_map.mp hm
      rw [← e, hl3]
      unfold wantZ
      rw [List.length_map, List.length_range]
     ·have x3 := sx3 _ _ np (s2 _ _ (sx1 _ _ np e))
      have x4 := s4 _ _ x3
      exact kf _ _ np (sx6 _ _ np (s5 _ _ (ne_of_none x3 nwa) x4))
end
end K53
end
section
set_option Elab.async false
set_option linter.all false
set_option maxRecDepth 100000
set_option maxHeartbeats 8000000
namespace K53
open PySem L2
section
variable {P : Program} {w : World} {K : PySem.W.Frag} {mg : Str → Option Value} {base : Heap} {f : Addr} {fd : FuncData}
noncomputable def handK (l : List R3) (j : Int) : List Int := (l.filter fun r => decide (r.1 = j)).map fun r => r.2.2
noncomputable def thingK (l : List R3) (t : Int) : List Int := (l.filter fun r => hasI r.2.1 t).map fun r => r.2.2
theorem handK_eq (rs : List (Addr × R3)) (j : Int) : handL rs j = handK (rs.map (·.2)) j := by
 unfold handL handK
 rw [List.filter_map, List.map_map]
 rfl
theorem thingK_eq (rs : List (Addr × R3)) (j : Int) : thingL rs j = thingK (rs.map (·.2)) j := by
 unfold thingL thingK
 rw [List.filter_map, List.map_map]
 rfl
noncomputable def rowsZ (b : Int) (fi : Nat) : List R3 := (List.range 3).map fun h => rowZ b fi h
noncomputable def three (b : Int) : Prop := b = 2 ∨ b = 4 ∨ b = 6
theorem all_b {Pd : Int → Nat → Prop} (h2 : ∀ fi : _root_.Fin 3, Pd 2 fi.val) (h4 : ∀ fi : _root_.Fin 3, Pd 4 fi.val) (h6 : ∀ fi : _root_.Fin 3, Pd 6 fi.val) {b : Int} {fi : Nat} (hb : three b) (hf : fi < 3) : Pd b fi := by
 rcases hb with rfl | rfl | rfl
 ·exact h2 ⟨fi, hf⟩
 ·exact h4 ⟨fi, hf⟩
 ·exact h6 ⟨fi, hf⟩
theorem hand_ok {b : Int} {fi : Nat} (hb : three b) (hf : fi < 3) : ∀ j : Nat, j < 3 → (handK (rowsZ b fi) j).sum ≤ b := by
 refine all_b (Pd := fun b fi => ∀ j : Nat, j < 3 → (handK (rowsZ b fi) j).sum ≤ b) ?_ ?_ ?_ hb hf <;> decide +kernel
theorem thing_ok {b : Int} {fi : Nat} (hb : three b) (hf : fi < 3) : ∀ j : Nat, j < 3 → (thingK (rowsZ b fi) j).sum ≤ b := by
 refine all_b (Pd := fun b fi => ∀ j : Nat, j < 3 → (thingK (rowsZ b fi) j).sum ≤ b) ?_ ?_ ?_ hb hf <;> decide +kernel
theorem rows_ok {b : Int} {fi : Nat} (hb : three b) (hf : fi < 3) : ∀ r ∈ rowsZ b fi, (0 ≤ r.2.1 ∧ r.2.1 < 32 ∧ 0 ≤ r.2.2 ∧ r.2.2 ≤ 1000) ∧ shareB 3 3 r.1 r.2.1 r.2.2 = true ∧ 0 ≤ r.1 ∧ r.1 < 3 ∧ r.2.1 < 8 := by
 refine all_b (Pd := fun b fi => ∀ r ∈ rowsZ b fi, (0 ≤ r.2.1 ∧ r.2.1 < 32 ∧ 0 ≤ r.2.2 ∧ r.2.2 ≤ 1000) ∧ shareB 3 3 r.1 r.2.1 r.2.2 = true ∧ 0 ≤ r.1 ∧ r.1 < 3 ∧ r.2.1 < 8) ?_ ?_ ?_ hb hf <;> decide +kernel
theorem rise_yes {b : Int} {fi : Nat} (hb : three b) (hf : fi < 3) : ((rowsZ b fi).map k2).Pairwise fun x y => lexT x y = true := by
 refine all_b (Pd := fun b fi => ((rowsZ b fi).map k2).Pairwise fun x y => lexT x y = true) ?_ ?_ ?_ hb hf <;> decide +kernel
theorem rise_rev {b : Int} {fi : Nat} (hb : three b) (hf : fi < 3) : ¬ ((rowsZ b fi).reverse.map k2).Pairwise fun x y => lexT x y = true := by
 refine all_b (Pd := fun b fi => ¬ ((rowsZ b fi).reverse.map k2).Pairwise fun x y => lexT x y = true) ?_ ?_ ?_ hb hf <;> decide +kernel
theorem rise_two {b : Int} {fi : Nat} (hb : three b) (hf : fi < 3) : ¬ ((rowsZ b fi ++ rowsZ b fi).map k2).Pairwise fun x y => lexT x y = true := by
 refine all_b (Pd := fun b fi => ¬ ((rowsZ b fi ++ rowsZ b fi).map k2).Pairwise fun x y => lexT x y = true) ?_ ?_ ?_ hb hf <;> decide +kernel
noncomputable def indZ (fi h : Nat) (hp : Nat) : Int := if Builtin.bitAnd (hp : Int) (prZ fi h) = prZ fi h then 1 else 0
theorem one_hand : ∀ (fi : _root_.Fin 3) (a b c : _root_.Fin 4), indZ fi.val 0 (hos [(a.val : Int) - 1, (b.val : Int) - 1, (c.val : Int) - 1] 0 3) + indZ fi.val 1 (hos [(a.val : Int) - 1, (b.val : Int) - 1, (c.val : Int) - 1] 1 3) + indZ fi.val 2 (hos [(a.val : Int) - 1, (b.val : Int) - 1, (c.val : Int) - 1] 2 3) ≤ 1 := by decide +kernel
theorem want_at (W o : Int) {h : Nat} (hh : h < 8) : (wantZ W o 8).getD h 0 = W * (if Builtin.bitAnd (h : Int) o = o then 1 else 0) := by
 unfold wantZ
 rw [List.getD_eq_getElem?_getD, List.getElem?_map, List.getElem?_range hh]
 rfl
noncomputable def wssZ (W : Int) (fi : Nat) : List (List Int) := (List.range 3).map fun h => wantZ W (prZ fi h) 8
theorem great_le {W : Int} {fi : Nat} (w0 : 0 ≤ W) (hf : fi < 3) : (dpL 3 (wssZ W fi)).getD 7 0 ≤ W := by
 obtain ⟨ds, d1, d2, _, d4⟩ := dp_at (m := 3) (by decide) (wssZ W fi) 3 (by unfold wssZ; simp) 7 (by decide)
 have tk : (wssZ W fi).take 3 = wssZ W fi := List.take_of_length_le (by unfold wssZ; simp)
 rw [tk] at d4
 rw [← d4]
 obtain ⟨x, y, z, rfl⟩ : ∃ x y z, ds = [x, y, z] := by
  match ds, d1 with
  | [x, y, z], _ => exact ⟨x, y, z, rfl⟩
 have bx := d2 x (by simp)
 have by' := d2 y (by simp)
 have bz := d2 z (by simp)
 have key := one_hand ⟨fi, hf⟩ ⟨(x + 1).toNat, by omega⟩ ⟨(y + 1).toNat, by omega⟩ ⟨(z + 1).toNat, by omega⟩
 simp only at key
 rw [show (((x + 1).toNat : Nat) : Int) - 1 = x by omega, show (((y + 1).toNat : Nat) : Int) - 1 = y by omega, show (((z + 1).toNat : Nat) : Int) - 1 = z by omega] at key
 have at3 : ∀ h, h < 3 → ((wssZ W fi).getD h []).getD (hos [x, y, z] (h : Int) 3) 0 = W * indZ fi h (hos [x, y, z] (h : Int) 3) := fun h hh => by
  have : (wssZ W fi).getD h [] = wantZ W (prZ fi h) 8 := by
   unfold wssZ
   rw [List.getD_eq_getElem?_getD, List.getElem?_map, List.getElem?_range hh]
   rfl
  rw [this, want_at W _ (hos_lt [x, y, z] (h : Int) 3)]
  rfl
 have e : wsum (wssZ W fi) [x, y, z] 3 = W * indZ fi 0 (hos [x, y, z] 0 3) + W * indZ fi 1 (hos [x, y, z] 1 3) + W * indZ fi 2 (hos [x, y, z] 2 3) := by
  rw [wsum_succ, wsum_succ, wsum_succ]
  have a0 := at3 0 (by decide)
  have a1 := at3 1 (by decide)
  have a2 := at3 2 (by decide)
  simp only [List.length_cons, List.length_nil] at *
  rw [a0, a1, a2]
  show wsum (wssZ W fi) [x, y, z] 0 + _ + _ + _ = _
  rw [show wsum (wssZ W fi) [x, y, z] 0 = 0 from rfl, Int.zero_add]
  rfl
 rw [e, ← Int.mul_add, ← Int.mul_add]
 have := Int.mul_le_mul_of_nonneg_left key w0
 rw [Int.mul_one] at this
 exact this
theorem Ars.same {H H' : Hp} {m n : Nat} {x y : V} {u : Bool} (r : Ars H m n x y u) (s : Same H H') : Ars H' m n x y u := by
 cases r with
 | num k z => exact .num (tyN_same s k) z
 | kind b1 k z => exact .kind b1 (tyN_same s k) z
 | row b1 h few ol o bad => exact .row b1 (s _ _ h) few ol (fun i v hv => let ⟨u, h1, h2⟩ := o i v hv; ⟨u, h1, h2.same s⟩) bad
 | all_ b1 h R few bd ok dl inD ri kh kt => exact .all_ b1 (s _ _ h) (R.same s) few bd ok dl inD ri kh kt
theorem Th.same {H H' : Hp} {m : Nat} {ts : List (Addr × List Int)} {x : V} {u : Bool} (r : Th H m ts x u) (s : Same H H') : Th H' m ts x u := by
 cases r with
 | kind k z => exact .kind (tyN_same s k) z
 | many h n => exact .many (s _ _ h) n
 | no h r => exact .no (s _ _ h) (r.same s)
 | yes h r b0 b1 hr R few bd pl more => exact .yes (s _ _ h) (r.same s) b0 b1 (s _ _ hr) (R.same s) few bd pl more
theorem ars_of {H : Hp} {b : Int} {fi : Nat} {a : Addr} {rs : List (Addr × R3)} {u : Bool} (hb : three b) (hf : fi < 3) (h : H a = some (.tup (rs.map fun r => V.ref r.1))) (R : Rw H rs) (few : rs.length ≤ 60) (sub : ∀ r ∈ rs, r.2 ∈ rowsZ b fi) (ri : u = true ↔ risesR rs)
  (kh : u = true → ∀ j : Nat, j < 3 → (handL rs j).sum ≤ b) (kt : u = true → ∀ j : Nat, j < 3 → (thingL rs j).sum ≤ b) : Ars H 3 3 (.int b) (.ref a) u := by
 have b1 : 1 ≤ b := by unfold three at hb; omega
 refine .all_ (D := (rowsZ b fi).map k2) b1 h R few (fun r hr => (rows_ok hb hf r.2 (sub r hr)).1) (fun r hr => (rows_ok hb hf r.2 (sub r hr)).2.1) (by unfold rowsZ; simp) (fun r hr => List.mem_map_of_mem (sub r hr)) ri kh kt
theorem worth_is {W b : Int} {fi : Nat} {ts : List (Addr × List Int)} {rs : List (Addr × R3)} (ws : ts.map (·.2) = wssZ W fi) (rz : rs.map (·.2) = rowsZ b fi) : (worthR ts rs).sum = 3 * (b / 2 * W) := by
 have gt : ∀ h : Nat, (ts.getD h (0, [])).2 = (wssZ W fi).getD h [] := fun h => by
  rw [← ws, List.getD_eq_getElem?_getD, List.getD_eq_getElem?_getD, List.getElem?_map]
  cases ts[h]? <;> rfl
 have e : worthR ts rs = (rs.map (·.2)).map fun r : R3 => r.2.2 * ((wssZ W fi).getD r.1.toNat []).getD r.2.1.toNat 0 := by
  unfold worthR
  rw [List.map_map]
  refine List.map_congr_left fun r _ => ?_
  show _ = r.2.2.2 * _
  rw [gt]
 have at3 : ∀ h : Nat, h < 3 → ((wssZ W fi).getD h []).getD (prZ fi h).toNat 0 = W := fun h hh => by
  have : (wssZ W fi).getD h [] = wantZ W (prZ fi h) 8 := by
   unfold wssZ
   rw [List.getD_eq_getElem?_getD, List.getElem?_map, List.getElem?_range hh]
   rfl
  rw [this]
  rcases pr_in h fi with z | z | z <;> rw [z]
  ·rw [want_at W 3 (h := (3 : Int).toNat) (by decide), if_pos (by decide)]; omega
  ·rw [want_at W 6 (h := (6 : Int).toNat) (by decide), if_pos (by decide)]; omega
  ·rw [want_at W 5 (h := (5 : Int).toNat) (by decide), if_pos (by decide)]; omega
 rw [e, rz]
 unfold rowsZ rowZ
 rw [show List.range 3 = [0, 1, 2] from rfl]
 simp only [List.map_cons, List.map_nil, List.sum_cons, List.sum_nil, Int.toNat_natCast]
 rw [at3 0 (by decide), at3 1 (by decide), at3 2 (by decide)]
 omega
theorem Ring.good {H : Hp} {tw th : Addr} {W b : Int} {fi : Nat} {sd wt ra : Addr} {ss : List Int} {ts : List (Addr × List Int)} {rs : List (Addr × R3)} (r : Ring H tw th W b fi sd wt ra ss ts rs) (w2 : 2 ≤ W) (hb : three b) (hf : fi < 3) : Th H 3 ts (.ref th) true := by
 have rz : rs.map (·.2) = rowsZ b fi := r.rs3
 have rl : rs.length = 3 := by have := congrArg List.length rz; unfold rowsZ at this; simpa using this
 have tl : ts.length = 3 := by have := congrArg List.length r.ws; simpa using this
 have sub : ∀ x ∈ rs, x.2 ∈ rowsZ b fi := fun x hx => rz ▸ List.mem_map_of_mem hx
 have ri : risesR rs := by
  unfold risesR
  have : (rs.map fun x => k2 x.2) = (rowsZ b fi).map k2 := by rw [← rz, List.map_map]; rfl
  rw [this]
  exact rise_yes hb hf
 refine .yes (rs := rs) r.th (tl ▸ ars_of hb hf r.ra r.R (by omega) sub ⟨fun _ => ri, fun _ => rfl⟩ (fun _ j hj => by rw [handK_eq, rz]; exact hand_ok hb hf j hj) (fun _ j hj => by rw [thingK_eq, rz]; exact thing_ok hb hf j hj)) (by unfold three at hb; omega) (by unfold three at hb; omega) r.ra r.R (by omega) (fun x hx => (rows_ok hb hf x.2 (sub x hx)).1) (fun x hx => ?_) ?_
 ·obtain ⟨_, _, p1, p2, p3⟩ := rows_ok hb hf x.2 (sub x hx)
  rw [tl]
  exact ⟨p1, p2, p3⟩
 ·rw [worth_is r.ws rz]
  have g := great_le (W := W) (fi := fi) (by omega) hf
  have ew : ts.map (fun t => t.2) = wssZ W fi := r.ws
  rw [ew]
  show b * (dpL 3 (wssZ W fi)).getD 7 0 < _
  have m1 := Int.mul_le_mul_of_nonneg_left g (show 0 ≤ b by unfold three at hb; omega)
  rcases hb with rfl | rfl | rfl
  ·rw [show (2 : Int) / 2 = 1 from rfl]; omega
  ·rw [show (4 : Int) / 2 = 2 from rfl]; omega
  ·rw [show (6 : Int) / 2 = 3 from rfl]; omega
end
end K53
end
section
set_option Elab.async false
set_option linter.all false
set_option maxRecDepth 100000
set_option maxHeartbeats 8000000
namespace K53
open PySem L2
section
variable {P : Program} {w : World} {K : PySem.W.Frag} {mg : Str → Option Value} {base : Heap} {f : Addr} {fd : FuncData}
theorem qe_ix {X : Cx} {a b : Expr} {ta tb : TE} {pos : Pos} {r : R2} (hr : IxR X r) (ha : QE X a ta) (hb : QE X b tb) (hs : PlainIx b) : QE X (.Subscript a b pos) (tOp r ta tb) := ⟨pe_ix hr ha.get hb.get hs⟩
theorem qe_op {X : Cx} {op : Operator} {r : R2} {a b : Expr} {ta tb : TE} {pos : Pos} (ho : OpR X (binaryOp op) r) (ha : QE X a ta) (hb : QE X b tb) : QE X (.BinOp a op b pos) (tOp r ta tb) := ⟨pe_op ho ha.get hb.get⟩
theorem qs_if {X : Cx} {c : Expr} {a b : List Stmt} {tc : TT} {t u : TS} {pos : Pos} (hc : PT X c tc) (ha : QSs X a t) (hb : QSs X b u) : QS X (.If c a b pos) (tIfS tc t u) := ⟨ps_if hc ha.get hb.get⟩
theorem qs_ret {X : Cx} {e : Expr} {te : TE} {pos : Pos} (he : QE X e te) : QS X (.Return (some e) pos) (tRet te) := ⟨ps_ret he.get⟩
theorem qss_nil {X : Cx} : QSs X [] tNext := ⟨pss_nil⟩
theorem Spool.netx {H : Hp} {p l c : Addr} {L : List V} (sp : Spool H p l) (h : H c = some (.tup L)) : c ≠ p := fun z => by
 obtain ⟨_, _, _, _, _, _, y, _⟩ := sp
 rw [z, y] at h
 cases h
theorem Spool.nelx {H : Hp} {p l c : Addr} {L : List V} (sp : Spool H p l) (h : H c = some (.lst L)) : c ≠ p := fun z => by
 obtain ⟨_, _, _, _, _, _, y, _⟩ := sp
 rw [z, y] at h
 cases h
theorem tyDx {H H' : Hp} {p l a : Addr} (sp : Spool H p l) (s : SameX p H H') (h : H a = some (.dK [])) : tyN H' (.ref a) = some "dict" := by
 have ne : a ≠ p := fun z => by
  obtain ⟨_, _, _, _, _, _, y1, _⟩ := sp
  rw [z, y1] at h
  injection h with h
  injection h with h
  cases h
 simp [tyN, s _ _ ne h]
theorem tyN_sx {H H' : Hp} {p l : Addr} {x : V} {t : String} (sp : Spool H p l) (sp' : Spool H' p l) (s : SameX p H H') (k : tyN H x = some t) : tyN H' x = some t := by
 cases x with
 | ref a =>
  by_cases e : a = p
  ·subst e
   obtain ⟨_, _, _, _, _, _, y, _⟩ := sp
   obtain ⟨_, _, _, _, _, _, y', _⟩ := sp'
   simp [tyN, y] at k
   simp [tyN, y', k]
  ·cases h : H a with
   | none => simp [tyN, h] at k
   | some o =>
    have h' := s _ _ e h
    simp only [tyN, h] at k
    simp only [tyN, h']
    exact k
 | _ => exact k
theorem RowO.sx {H H' : Hp} {p l : Addr} {m n : Nat} {x : V} {o : Bool} (r : RowO H m n x o) (sp : Spool H p l) (sp' : Spool H' p l) (s : SameX p H H') : RowO H' m n x o := by
 rcases r with ⟨b, e⟩ | ⟨a, h, q, t, e1, e2, e3⟩
 ·refine .inl ⟨?_, e⟩
  rcases b with ⟨t, k1, k2⟩ | ⟨a, xs, e1, e2, kn, r⟩
  ·exact .inl ⟨t, tyN_sx sp sp' s k1, k2⟩
  ·exact .inr ⟨a, xs, e1, s _ _ (sp.netx e2) e2, fun y hy => let ⟨t, k⟩ := kn y hy; ⟨t, tyN_sx sp sp' s k⟩, r⟩
 ·exact .inr ⟨a, h, q, t, e1, s _ _ (sp.netx e2) e2, e3⟩
theorem ars_odd {H : Hp} {b : Int} {fi : Nat} {a : Addr} {x : V} {rs : List (Addr × R3)} (hb : three b) (hf : fi < 3) (h : H a = some (.tup (x :: rs.map fun r => V.ref r.1))) (R : Rw H rs) (few : rs.length = 3) (sub : ∀ r ∈ rs, r.2 ∈ rowsZ b fi) (ox : RowO H 3 3 x false) : Ars H 3 3 (.int b) (.ref a) false := by
 have b1 : 1 ≤ b := by unfold three at hb; omega
 refine .row (os := false :: rs.map fun _ => true) b1 h (by simp; omega) (by simp) (fun i v hv => ?_) rfl
 cases i with
 | zero =>
  rw [List.getElem?_cons_zero] at hv
  injection hv with hv
  subst hv
  exact ⟨false, rfl, ox⟩
 | succ i =>
  rw [List.getElem?_cons_succ, List.getElem?_map] at hv
  cases hr : rs[i]? with
  | none => rw [hr] at hv; cases hv
  | some r =>
   rw [hr] at hv
   injection hv with hv
   subst hv
   have hm := List.mem_of_getElem? hr
   refine ⟨true, by rw [List.getElem?_cons_succ, List.getElem?_map, hr]; rfl, .inr ⟨r.1, r.2.1, r.2.2.1, r.2.2.2, rfl, R r hm, ?_⟩⟩
   exact (rows_ok hb hf r.2 (sub r hm)).2.1.symm
theorem ars_row {H : Hp} {b : Int} {a : Addr} {x y z : Int} (b1 : 1 ≤ b) (h : H a = some (.tup [.int x, .int y, .int z])) : Ars H 3 3 (.int b) (.ref a) false := by
 refine .row (os := [false, false, false]) b1 h (by simp) rfl (fun i v hv => ?_) rfl
 have iv : ∀ n : Int, RowO H 3 3 (.int n) false := fun n => .inl ⟨.inl ⟨"int", rfl, rfl⟩, rfl⟩
 match i, hv with
 | 0, hv => injection hv with hv; subst hv; exact ⟨false, rfl, iv _⟩
 | 1, hv => injection hv with hv; subst hv; exact ⟨false, rfl, iv _⟩
 | 2, hv => injection hv with hv; subst hv; exact ⟨false, rfl, iv _⟩
 | i + 3, hv => cases hv
noncomputable def DP (p th ra : Addr) (b wy : Int) (G : Hp) (_ : Nat) (σ : St) (H : Hp) : Prop := ∃ v5 v6 v8 d zs, σ = [some (.ref p), some (.ref th), some (.int b), some (.ref ra), some (.int wy), v5, v6, some (.ref d), v8] ∧ Same G H ∧ H d = some (.tup zs) ∧ zs.length ≤ 1
noncomputable def flat : V → Bool
 | .int _ => true
 | .bl _ => true
 | .str _ => true
 | .non => true
 | _ => false
theorem kn_flat {H : Hp} {xs : List V} (h : xs.all flat = true) : Kn H xs := fun x hx => by
 have := List.all_eq_true.mp h x hx
 cases x <;> first | exact ⟨_, rfl⟩ | cases this
noncomputable abbrev Odd (H : Hp) (x : V) : Prop := RowO H 3 3 x false
theorem odd_tup {H : Hp} {a : Addr} {xs : List V} (h : H a = some (.tup xs)) (k : xs.all flat = true) (few : xs.length < 1000) (r : (decide ((xs.length : Int) = 3) && xs.all isI) = false) : Odd H (.ref a) := .inl ⟨.inr ⟨a, xs, rfl, h, kn_flat k, few, r⟩, rfl⟩
theorem odd_ty {H : Hp} {x : V} {t : String} (h : tyN H x = some t) (n : (t == "tuple") = false) : Odd H x := .inl ⟨.inl ⟨t, h, n⟩, rfl⟩
theorem odd_row {H : Hp} {a : Addr} {h p t : Int} (e : H a = some (.tup [.int h, .int p, .int t])) (n : shareB 3 3 h p t = false) : Odd H (.ref a) := .inr ⟨a, h, p, t, rfl, e, n.symm⟩
theorem tyT {H : Hp} {a : Addr} {L : List V} (h : H a = some (.tup L)) : tyN H (.ref a) = some "tuple" := by simp [tyN, h]
theorem tyL {H : Hp} {a : Addr} {L : List V} (h : H a = some (.lst L)) : tyN H (.ref a) = some "list" := by simp [tyN, h]
theorem pick_mem {L : List V} {r : Int} (r0 : 0 ≤ r) (r1 : r < (L.length : Int)) : ∃ x, atI L r = some x ∧ x ∈ L := by
 obtain ⟨n, rfl⟩ := Int.eq_ofNat_of_zero_le r0
 have h : n < L.length := by omega
 exact ⟨L[n], atI_nat (List.getElem?_eq_getElem h), List.getElem_mem _⟩
noncomputable def sp_bad : Sp := fun vs H Q _ => ∃ (p l th ra : Addr) (b : Int) (fi : Nat) (ts : List (Addr × List Int)) (rs : List (Addr × R3)), vs = [.ref p, .ref th] ∧ Spool H p l ∧ H th = some (.tup [.int b, .ref ra]) ∧ H ra = some (.tup (rs.map fun r => V.ref r.1)) ∧ Rw H rs ∧ rs.map (·.2) = rowsZ b fi ∧ three b ∧ fi < 3 ∧ ts.length = 3 ∧ ∀ (x : V) (H' : Hp), Spool H' p l → SameX p H H' → Th H' 3 ts x false → Q x H'
theorem sc__law_bad : FnScope ["_law_spool_here", "_law_thing", "_law_by", "_law_rows", "_law_way", "_law_odd", "_law_some", "_law_deep", "_law_k"] ["_law_spool_here", "_law_thing"] (defScope s__law_bad) := ⟨rfl, rfl, rfl, by decide +kernel, rfl, by decide +kernel, by decide +kernel⟩
theorem ok_bad (F : Fun K "_law_bad" "_law_bad" s__law_bad f fd) (hm : mg "_law_bad" = some (.ref f)) (hb : Binds K fd ["_law_spool_here", "_law_thing"] []) (T : Txt mg) (c__law_draw : Cal P w K mg base "_law_draw" ["_law_spool_here", "_law_many"] 2 spDraw) : Cal P w K mg base "_law_bad" ["_law_spool_here", "_law_thing"] 3 sp_bad := by
 refine cal_of F hm hb sc__law_bad (fun vs H Q E h => ?_) (fun cdv A outer s H vs Q E hr h => ?_)
 ·obtain ⟨_, _, _, _, _, _, _, _, rfl, _⟩ := h; rfl
 ·obtain ⟨p, l, th, ra, b, fi, ts, rs, rfl, sp, hth, hra, R, rz, hb3, hf, tl, q⟩ := h
  have sc := sc__law_bad
  refine ⟨_, QSs.get (qss_cons (qs_of (ps_asg (pv 1) (pg_tup0 (n := 2) rfl (pgs_cons (pg_name (i := 2) sc.nd rfl (Or.inl rfl)) (pgs_cons (pg_name (i := 3) sc.nd rfl (Or.inl rfl)) pgs_nil)))))
   (qss_cons (qs_of (ps_set (i := 4) sc.nd rfl (Or.inl rfl) (pe_cal c__law_draw hr (pa_cns (pv 0) (pa_cns pe_int pa_nil)))))
   (qss_cons (qs_if (pt_cmpR op_eq (pv 4) pe_int (nomark _)) (qss_one (qs_ret (qe_tup (qa_cns (qe_ix ix0 (qe_lst (qa_cns (qe_of pe_int) (qa_cns (qe_of (pe_un un_neg (pv 2))) (qa_cns (qe_of pe_bl) (qa_cns (qe_of pe_non) (qa_cns (qe_of (pe_callTy strI0 rfl T.str_ bt_str (pa_cns (pv 2) pa_nil))) (qa_cns (qe_tup (qa_cns (qe_of (pv 2)) qa_nil)) (qa_cns (qe_lst (qa_cns (qe_of (pv 2)) qa_nil)) qa_nil)))))))) (qe_of (pe_cal c__law_draw hr (pa_cns (pv 0) (pa_cns pe_int pa_nil)))) (fun _ _ => rfl)) (qa_cns (qe_of (pv 3)) qa_nil))))) qss_nil)
   (qss_cons (qs_if (pt_cmpR op_eq (pv 4) pe_int (nomark _)) (qss_cons (qs_set (i := 5) sc.nd rfl (Or.inl rfl) (qe_lst (qa_cns (qe_tup (qa_cns (qe_of pe_int) (qa_cns (qe_of pe_int) qa_nil))) (qa_cns (qe_tup (qa_cns (qe_of pe_int) (qa_cns (qe_of pe_int) (qa_cns (qe_of pe_int) (qa_cns (qe_of pe_int) qa_nil))))) (qa_cns (qe_lst (qa_cns (qe_of pe_int) (qa_cns (qe_of pe_int) (qa_cns (qe_of pe_int) qa_nil)))) (qa_cns (qe_tup (qa_cns (qe_of pe_int) (qa_cns (qe_of pe_int) (qa_cns (qe_of pe_non) qa_nil)))) (qa_cns (qe_tup (qa_cns (qe_of pe_bl) (qa_cns (qe_of pe_int) (qa_cns (qe_of pe_int) qa_nil)))) (qa_cns (qe_tup (qa_cns (qe_of pe_int) (qa_cns (qe_of pe_bl) (qa_cns (qe_of pe_int) qa_nil)))) qa_nil))))))))
   (qss_cons (qs_set (i := 5) sc.nd rfl (Or.inl rfl) (qe_op catL0 (qe_of (pv 5)) (qe_lst (qa_cns (qe_tup (qa_cns (qe_of pe_str) (qa_cns (qe_of pe_int) (qa_cns (qe_of pe_int) qa_nil)))) (qa_cns (qe_of pe_non) (qa_cns (qe_of pe_int) (qa_cns (qe_tup (qa_cns (qe_of pe_int) (qa_cns (qe_of pe_int) (qa_cns (qe_of pe_int) qa_nil)))) qa_nil)))))))
   (qss_cons (qs_set (i := 5) sc.nd rfl (Or.inl rfl) (qe_op catL0 (qe_of (pv 5)) (qe_lst (qa_cns (qe_tup (qa_cns (qe_of pe_int) (qa_cns (qe_of pe_int) (qa_cns (qe_of pe_int) qa_nil)))) (qa_cns (qe_tup (qa_cns (qe_of (pe_un un_neg pe_int)) (qa_cns (qe_of pe_int) (qa_cns (qe_of pe_int) qa_nil)))) (qa_cns (qe_tup (qa_cns (qe_of pe_int) (qa_cns (qe_of pe_int) (qa_cns (qe_of pe_int) qa_nil)))) (qa_cns (qe_tup (qa_cns (qe_of pe_int) (qa_cns (qe_of pe_int) (qa_cns (qe_of pe_int) qa_nil)))) (qa_cns (qe_tup (qa_cns (qe_of pe_int) (qa_cns (qe_of pe_int) (qa_cns (qe_of (pe_un un_neg pe_int)) qa_nil)))) qa_nil))))))))
   (qss_cons (qs_set (i := 6) sc.nd rfl (Or.inl rfl) (qe_lst (qa_cns (qe_of (pe_op catA0 (pe_tupA (pa_cns (pe_ix ix0 (pv 5) (pe_cal c__law_draw hr (pa_cns (pv 0) (pa_cns pe_int pa_nil))) (fun _ _ => rfl)) pa_nil)) (pv 3))) (qa_cns (qe_of (pe_callTy listA0 rfl T.list_ bt_list (pa_cns (pv 3) pa_nil))) (qa_cns (qe_of pe_non) (qa_cns (qe_of pe_dict0) (qa_cns (qe_of (pe_rev (pv 3) (pe_un un_neg pe_int) (fun _ _ _ h => ⟨_, rfl, h⟩))) (qa_cns (qe_of (pe_op catA0 (pv 3) (pv 3))) (qa_cns (qe_of (pe_ix ix0 (pv 3) pe_int (fun _ _ => rfl))) qa_nil)))))))))
   (qss_one (qs_ret (qe_tup (qa_cns (qe_of (pv 2)) (qa_cns (qe_of (pe_ix ix0 (pv 6) (pe_cal c__law_draw hr (pa_cns (pv 0) (pa_cns pe_int pa_nil))) (fun _ _ => rfl))) qa_nil))))))))) qss_nil)
   (qss_cons (qs_of (ps_set (i := 7) sc.nd rfl (Or.inl rfl) (pe_tupA pa_nil)))
   (qss_cons (qs_of (ps_for PassesOwn.never rfl (pi_range1 rfl T.range_ (pa_cns pe_int pa_nil)) (pg_name (i := 8) sc.nd rfl (Or.inl rfl))
    (pss_one (ps_set (i := 7) sc.nd rfl (Or.inl rfl) (pe_tupA (pa_cns (pv 7) pa_nil))))))
   (qss_cons (qs_set (i := 6) sc.nd rfl (Or.inl rfl) (qe_lst (qa_cns (qe_tup (qa_cns (qe_of (pv 2)) qa_nil)) (qa_cns (qe_tup (qa_cns (qe_of (pv 2)) (qa_cns (qe_of (pv 3)) (qa_cns (qe_of pe_int) qa_nil)))) (qa_cns (qe_lst (qa_cns (qe_of (pv 2)) (qa_cns (qe_of (pv 3)) qa_nil))) (qa_cns (qe_tup (qa_cns (qe_of (pv 3)) (qa_cns (qe_of (pv 2)) qa_nil))) (qa_cns (qe_tup (qa_cns (qe_of (pv 1)) qa_nil)) (qa_cns (qe_of pe_non) (qa_cns (qe_of pe_bl) (qa_cns (qe_of pe_int) (qa_cns (qe_of pe_str) (qa_cns (qe_of (pe_tupA pa_nil)) (qa_cns (qe_of (pe_lstA pa_nil)) (qa_cns (qe_of pe_dict0) (qa_cns (qe_of (pv 7)) (qa_cns (qe_of (pv 3)) qa_nil))))))))))))))))
   (qss_one (qs_ret (qe_of (pe_ix ix0 (pv 6) (pe_cal c__law_draw hr (pa_cns (pv 0) (pa_cns pe_int pa_nil))) (fun _ _ => rfl)))))))))))), ?_⟩
  rw [show L2.start ["_law_spool_here", "_law_thing", "_law_by", "_law_rows", "_law_way", "_law_odd", "_law_some", "_law_deep", "_law_k"] [.ref p, .ref th] = [some (.ref p), some (.ref th), none, none, none, none, none, none, none] from rfl]
  (push_cast only [hth])
  (simp only [a_laterH])
  (push_cast only [])
  refine ⟨p, l, 3, rfl, sp, by decide, by decide, fun w0 H1 w00 w01 sp1 sx1 => ?_⟩
  (push_cast only [])
  (simp only [a_laterH])
  (push_cast only [])
  have tk : ∀ {x : Addr} {L : List V}, H x = some (.tup L) → H1 x = some (.tup L) := fun {x L} e => sx1 _ _ (sp.netx e) e
  have hra1 := tk hra
  have hth1 := tk hth
  have R1 : Rw H1 rs := fun r hr => tk (R r hr)
  have rl : rs.length = 3 := by have := congrArg List.length rz; unfold rowsZ at this; simpa using this
  have b1 : 1 ≤ b := by unfold three at hb3; omega
  by_cases w0' : w0 = 0
  ·rw [if_pos w0']
   (push_cast only [])
   refine ⟨by unfold three at hb3; omega, by decide, fun t1 H3 n3 s3 e3 => ⟨by decide, fun t2 H4 n4 s4 e4 => ⟨by decide, fun t3 H5 n5 s5 e5 => ?_⟩⟩⟩
   have S5 := (s3.trans s4).trans s5
   refine ⟨p, l, 7, rfl, sp1.same S5, by decide, by decide, fun r H6 r0 r1 sp6 sx6 => ?_⟩
   obtain ⟨x, hx, xm⟩ := pick_mem r0 (show r < (([V.int 0, V.int (-b), V.bl true, V.non, V.str (Str.ofString (toString b)), V.ref t1, V.ref t2] : List V).length : Int) from r1)
   have e5a := s5 _ _ (s4 _ _ e3)
   have e5b := s5 _ _ e4
   have e6a := sx6 _ _ ((sp1.same S5).netx e5a) e5a
   have e6b := sx6 _ _ ((sp1.same S5).nelx e5b) e5b
   have e6c := sx6 _ _ ((sp1.same S5).nelx e5) e5
   refine ⟨_, _, rfl, sq_lst e6c, x, hx, by decide, fun rr H7 n7 s7 e7 => ?_⟩
   have od : ∃ t, tyN H7 x = some t ∧ isFrom 1 x = false := by
    simp only [List.mem_cons, List.not_mem_nil, or_false] at xm
    rcases xm with rfl | rfl | rfl | rfl | rfl | rfl | rfl
    ·exact ⟨"int", rfl, by decide⟩
    ·exact ⟨"int", rfl, decide_eq_false (by omega)⟩
    ·exact ⟨"bool", rfl, rfl⟩
    ·exact ⟨"NoneType", rfl, rfl⟩
    ·exact ⟨"str", rfl, rfl⟩
    ·exact ⟨"tuple", tyT (s7 _ _ e6a), rfl⟩
    ·exact ⟨"list", tyL (s7 _ _ e6b), rfl⟩
   obtain ⟨t, k1, k2⟩ := od
   exact q _ H7 (sp6.same s7) (((sx1.trans S5.x).trans sx6).trans s7.x) (.no e7 (.num k1 k2))
  rw [if_neg w0']
  (simp only [a_laterH])
  (push_cast only [])
  by_cases w1' : w0 = 1
  ·rw [if_pos w1']
   (push_cast only [])
   refine ⟨by decide, fun o1 G1 _ s1 e1 => ⟨by decide, fun o2 G2 _ s2 e2 => ⟨by decide, fun o3 G3 _ s3 e3 => ⟨by decide, fun o4 G4 _ s4 e4 => ⟨by decide, fun o5 G5 _ s5 e5 => ⟨by decide, fun o6 G6 _ s6 e6 => ⟨by decide, fun l1 G7 _ s7 e7 => ?_⟩⟩⟩⟩⟩⟩⟩
   have a1 : ∀ v ∈ [V.ref o1, V.ref o2, V.ref o3, V.ref o4, V.ref o5, V.ref o6], Odd G7 v := by
    intro v hv
    simp only [List.mem_cons, List.not_mem_nil, or_false] at hv
    rcases hv with rfl | rfl | rfl | rfl | rfl | rfl
    ·exact odd_tup (s7 _ _ (s6 _ _ (s5 _ _ (s4 _ _ (s3 _ _ (s2 _ _ e1)))))) rfl (by simp) (by decide)
    ·exact odd_tup (s7 _ _ (s6 _ _ (s5 _ _ (s4 _ _ (s3 _ _ e2))))) rfl (by simp) (by decide)
    ·exact odd_ty (tyL (s7 _ _ (s6 _ _ (s5 _ _ (s4 _ _ e3))))) rfl
    ·exact odd_tup (s7 _ _ (s6 _ _ (s5 _ _ e4))) rfl (by simp) (by decide)
    ·exact odd_tup (s7 _ _ (s6 _ _ e5)) rfl (by simp) (by decide)
    ·exact odd_tup (s7 _ _ e6) rfl (by simp) (by decide)
   have S7 := ((((((s1.trans s2).trans s3).trans s4).trans s5).trans s6).trans s7)
   (simp only [a_laterH])
   (push_cast only [])
   refine ⟨by decide, fun o7 G8 _ s8 e8 => ⟨by decide, fun o8 G9 _ s9 e9 => ⟨by decide, fun l2 G10 _ s10 e10 => ⟨_, ((s8.trans s9).trans s10) _ _ e7, _, e10, by show 10 ≤ sizeLine; decide, fun l3 G11 _ s11 e11 => ?_⟩⟩⟩⟩
   have S11 := ((s8.trans s9).trans s10).trans s11
   have a2 : ∀ v ∈ [V.ref o1, V.ref o2, V.ref o3, V.ref o4, V.ref o5, V.ref o6] ++ [V.ref o7, V.non, V.int 0, V.ref o8], Odd G11 v := by
    intro v hv
    rcases List.mem_append.mp hv with hv | hv
    ·exact (a1 v hv).same S11
    simp only [List.mem_cons, List.not_mem_nil, or_false] at hv
    rcases hv with rfl | rfl | rfl | rfl
    ·exact odd_tup (s11 _ _ (s10 _ _ (s9 _ _ e8))) rfl (by simp) (by decide)
    ·exact odd_ty (t := "NoneType") rfl rfl
    ·exact odd_ty (t := "int") rfl rfl
    ·exact odd_row (s11 _ _ (s10 _ _ e9)) (by decide)
   (simp only [a_laterH])
   (push_cast only [])
   refine ⟨by decide, fun o9 G12 _ s12 f1 => ⟨by decide, fun o10 G13 _ s13 f2 => ⟨by decide, fun o11 G14 _ s14 f3 => ⟨by decide, fun o12 G15 _ s15 f4 => ⟨by decide, fun o13 G16 _ s16 f5 => ⟨by decide, fun l4 G17 _ s17 f6 => ⟨_, (((((s12.trans s13).trans s14).trans s15).trans s16).trans s17) _ _ e11, _, f6, by show 15 ≤ sizeLine; decide, fun l5 G18 _ s18 f7 => ?_⟩⟩⟩⟩⟩⟩⟩
   have S18 := (((((s12.trans s13).trans s14).trans s15).trans s16).trans s17).trans s18
   have ol : ∃ L, G18 l5 = some (.lst L) ∧ (L.length : Int) = 15 ∧ ∀ v ∈ L, Odd G18 v := by
    refine ⟨_, f7, rfl, fun v hv => ?_⟩
    rcases List.mem_append.mp hv with hv | hv
    ·exact (a2 v hv).same S18
    simp only [List.mem_cons, List.not_mem_nil, or_false] at hv
    rcases hv with rfl | rfl | rfl | rfl | rfl
    ·exact odd_row (s18 _ _ (s17 _ _ (s16 _ _ (s15 _ _ (s14 _ _ (s13 _ _ f1)))))) (by decide)
    ·exact odd_row (s18 _ _ (s17 _ _ (s16 _ _ (s15 _ _ (s14 _ _ f2))))) (by decide)
    ·exact odd_row (s18 _ _ (s17 _ _ (s16 _ _ (s15 _ _ f3)))) (by decide)
    ·exact odd_row (s18 _ _ (s17 _ _ (s16 _ _ f4))) (by decide)
    ·exact odd_row (s18 _ _ (s17 _ _ f5)) (by decide)
   obtain ⟨L, hL, ll, aL⟩ := ol
   have SA : Same H1 G18 := (S7.trans S11).trans S18
   have spA := sp1.same SA
   clear f7 a1 a2 e1 e2 e3 e4 e5 e6 e7 e8 e9 e10 e11 f1 f2 f3 f4 f5 f6
   (simp only [a_laterH])
   (push_cast only [])
   refine ⟨p, l, 15, rfl, spA, by decide, by decide, fun r H6 r0 r1 sp6 sx6 => ?_⟩
   obtain ⟨x, hx, xm⟩ := pick_mem r0 (show r < (L.length : Int) by omega)
   have hL6 := sx6 _ _ (spA.nelx hL) hL
   have tk6 : ∀ {x : Addr} {L : List V}, H1 x = some (.tup L) → H6 x = some (.tup L) := fun {x L} e => sx6 _ _ (spA.netx (SA _ _ e)) (SA _ _ e)
   have hra6 := tk6 hra1
   (push_cast only [hra6])
   obtain ⟨qa, rt, hrs⟩ : ∃ q rt, rs = q :: rt := by
    cases rs with
    | nil => cases rl
    | cons q rt => exact ⟨q, rt, rfl⟩
   have sub : ∀ r ∈ rs, r.2 ∈ rowsZ b fi := fun r hr => rz ▸ List.mem_map_of_mem hr
   have at0' : atI (rs.map fun r => V.ref r.1) ((0 : Nat) : Int) = some (V.ref qa.1) := atI_nat (by rw [hrs]; rfl)
   refine ⟨L, sq_lst hL6, x, hx, by decide, fun t1 K1 _ u1 f1 => ⟨_, f1, _, u1 _ _ hra6, by show 1 + (rs.map fun r => V.ref r.1).length ≤ sizeLine; rw [List.length_map, rl]; decide, fun c1 K2 u2 f2 => ⟨_, sq_tup ((u1.trans u2) _ _ hra6), fun c2 K3 _ u3 f3 => fun c3 K4 _ u4 f4 => ⟨_, (((u1.trans u2).trans u3).trans u4) _ _ hra6, fun c4 K5 _ u5 f5 => ?_⟩⟩⟩⟩
   have U5 := ((((u1.trans u2).trans u3).trans u4).trans u5)
   refine ⟨_, U5 _ _ hra6, _, U5 _ _ hra6, by rw [List.length_map, rl]; decide, fun c5 K6 u6 f6 => ⟨_, sq_tup ((U5.trans u6) _ _ hra6), _, at0', by decide, fun so K7 _ u7 f7 => ?_⟩⟩
   have z6 := u7
   have z5 := u6.trans z6
   have z4 := u5.trans z5
   have z3 := u4.trans z4
   have z2 := u3.trans z3
   have U7 := (U5.trans u6).trans u7
   have sp7 := sp6.same U7
   (simp only [a_laterH])
   (push_cast only [])
   refine ⟨p, l, 7, rfl, sp7, by decide, by decide, fun r' H8 r0' r1' sp8 sx8 => ?_⟩
   obtain ⟨y, hy, ym⟩ := pick_mem r0' (show r' < (([V.ref c1, V.ref c2, V.non, V.ref c3, V.ref c4, V.ref c5, V.ref qa.1] : List V).length : Int) from r1')
   have f8 := sx8 _ _ (sp7.nelx f7) f7
   refine ⟨_, _, rfl, sq_lst f8, y, hy, by decide, fun rr H9 n9 s9 e9 => ?_⟩
   have up : ∀ {x : Addr} {L : List V}, K7 x = some (.tup L) → H9 x = some (.tup L) := fun e => s9 _ _ (sx8 _ _ (sp7.netx e) e)
   have R9 : Rw H9 rs := fun r hr => up (U7 _ _ (tk6 (R1 r hr)))
   have ar : Ars H9 3 3 (.int b) y false := by
    simp only [List.mem_cons, List.not_mem_nil, or_false] at ym
    rcases ym with rfl | rfl | rfl | rfl | rfl | rfl | rfl
    ·exact ars_odd hb3 hf (up (z2 _ _ f2)) R9 rl sub ((((aL x xm).sx spA sp6 sx6).same U7).sx sp7 sp8 sx8 |>.same s9)
    ·have f3' := z3 _ _ f3
     exact .kind b1 (tyL (s9 _ _ (sx8 _ _ (sp7.nelx f3') f3'))) rfl
    ·exact .kind (t := "NoneType") b1 rfl rfl
    ·exact .kind (t := "dict") b1 (tyN_same s9 (tyDx sp7 sx8 (z4 _ _ f4))) rfl
    ·refine ars_of (rs := rs.reverse) hb3 hf (by rw [List.map_reverse]; exact up (z5 _ _ f5)) (fun r hr => R9 r (List.mem_reverse.mp hr)) (by rw [List.length_reverse, rl]; decide) (fun r hr => sub r (List.mem_reverse.mp hr)) ⟨(fun h => nomatch h), fun h => ?_⟩ (fun h => nomatch h) (fun h => nomatch h)
     refine absurd ?_ (rise_rev hb3 hf)
     rw [← rz, ← List.map_reverse, List.map_map]
     exact h
    ·refine ars_of (rs := rs ++ rs) hb3 hf (by rw [List.map_append]; exact up (z6 _ _ f6)) (fun r hr => R9 r ((List.mem_append.mp hr).elim id id)) (by rw [List.length_append, rl]; decide) (fun r hr => sub r ((List.mem_append.mp hr).elim id id)) ⟨(fun h => nomatch h), fun h => ?_⟩ (fun h => nomatch h) (fun h => nomatch h)
     refine absurd ?_ (rise_two hb3 hf)
     rw [← rz, ← List.map_append, List.map_map]
     exact h
    ·exact ars_row b1 (R9 qa (by rw [hrs]; exact List.mem_cons_self ..))
   exact q _ H9 (sp8.same s9) (((((sx1.trans SA.x).trans sx6).trans U7.x).trans sx8).trans s9.x) (.no e9 (by rw [tl]; exact ar))
  rw [if_neg w1']
  (simp only [a_laterH])
  (push_cast only [])
  refine ⟨by decide, fun d0 H3 n3 s3 e3 => ?_⟩
  (simp only [a_laterH])
  (push_cast only [])
  refine ⟨by decide, by decide, fl_range (DP p th ra b w0 H3) ⟨_, _, _, d0, [], rfl, Same.refl _, e3, by decide⟩ ?_ ?_⟩
  ·rintro i σ H4 hi ⟨v5, v6, v8, d, zs, rfl, s4, e4, zl⟩
   (push_cast only [])
   refine ⟨by decide, fun d2 H5 n5 s5 e5 => ?_⟩
   exact ⟨_, _, _, d2, _, rfl, s4.trans s5, e5, by simp⟩
  ·rintro σ H4 ⟨v5, v6, v8, d, zs, rfl, s4, e4, zl⟩
   have S4 := s3.trans s4
   (simp only [a_laterH])
   (push_cast only [])
   refine ⟨by decide, fun t1 K1 n1 u1 f1 => ⟨by decide, fun t2 K2 n2 u2 f2 => ⟨by decide, fun t3 K3 n3 u3 f3 => ⟨by decide, fun t4 K4 n4 u4 f4 => ⟨by decide, fun t5 K5 n5 u5 f5 => ⟨by decide, fun t6 K6 n6 u6 f6 => ⟨by decide, fun t7 K7 n7 u7 f7 => fun t8 K8 n8 u8 f8 => ⟨by decide, fun l2 K9 n9 u9 f9 => ?_⟩⟩⟩⟩⟩⟩⟩⟩
   have z8 := u9
   have z7 := u8.trans z8
   have z6 := u7.trans z7
   have z5 := u6.trans z6
   have z4 := u5.trans z5
   have z3 := u4.trans z4
   have z2 := u3.trans z3
   have z1 := u2.trans z2
   have U9 := u1.trans z1
   have sp9 := sp1.same (S4.trans U9)
   (simp only [a_laterH])
   (push_cast only [])
   refine ⟨p, l, 14, rfl, sp9, by decide, by decide, fun r H8 r0 r1 sp8 sx8 => ?_⟩
   have f10 := sx8 _ _ (sp9.nelx f9) f9
   obtain ⟨y, hy, ym⟩ := pick_mem r0 (show r < (([V.ref t1, V.ref t2, V.ref t3, V.ref t4, V.ref t5, V.non, V.bl true, V.int 0, V.str (Str.ofString "1"), V.ref t6, V.ref t7, V.ref t8, V.ref d, V.ref ra] : List V).length : Int) from r1)
   refine ⟨_, _, rfl, sq_lst f10, y, hy, ?_⟩
   have up : ∀ {x : Addr} {L : List V}, K9 x = some (.tup L) → H8 x = some (.tup L) := fun e => sx8 _ _ (sp9.netx e) e
   have upl : ∀ {x : Addr} {L : List V}, K9 x = some (.lst L) → H8 x = some (.lst L) := fun e => sx8 _ _ (sp9.nelx e) e
   have hra8 := up (U9 _ _ (S4 _ _ hra1))
   have sh : Th H8 3 ts y false := by
    simp only [List.mem_cons, List.not_mem_nil, or_false] at ym
    rcases ym with rfl | rfl | rfl | rfl | rfl | rfl | rfl | rfl | rfl | rfl | rfl | rfl | rfl | rfl
    ·exact .many (up (z1 _ _ f1)) (by simp)
    ·exact .many (up (z2 _ _ f2)) (by simp)
    ·exact .kind (tyL (upl (z3 _ _ f3))) rfl
    ·exact .no (up (z4 _ _ f4)) (.num (tyT hra8) rfl)
    ·exact .many (up (z5 _ _ f5)) (by simp)
    ·exact .kind (t := "NoneType") rfl rfl
    ·exact .kind (t := "bool") rfl rfl
    ·exact .kind (t := "int") rfl rfl
    ·exact .kind (t := "str") rfl rfl
    ·exact .many (up (z6 _ _ f6)) (by simp)
    ·exact .kind (tyL (upl (z7 _ _ f7))) rfl
    ·exact .kind (t := "dict") (tyDx sp9 sx8 (z8 _ _ f8)) rfl
    ·exact .many (up (U9 _ _ e4)) (by omega)
    ·exact .many hra8 (by rw [List.length_map, rl]; decide)
   exact q y H8 sp8 (((sx1.trans S4.x).trans U9.x).trans sx8) sh
end
end K53
end
section
set_option Elab.async false
set_option linter.all false
set_option maxRecDepth 100000
set_option maxHeartbeats 8000000
namespace K53
open PySem L2
section
variable {P : Program} {w : World} {K : PySem.W.Frag} {mg : Str → Option Value} {base : Heap} {f : Addr} {fd : FuncData}
theorem want_bd {W o x : Int} (w0 : 0 ≤ W) (w1 : W ≤ 41) {n : Nat} (h : x ∈ wantZ W o n) : 0 ≤ x ∧ x ≤ 10000 := by
 unfold wantZ at h
 obtain ⟨k, _, rfl⟩ := List.mem_map.mp h
 split <;> omega
theorem Ring.bd {H : Hp} {tw th : Addr} {W b : Int} {fi : Nat} {sd wt ra : Addr} {ss : List Int} {ts : List (Addr × List Int)} {rs : List (Addr × R3)} (r : Ring H tw th W b fi sd wt ra ss ts rs) (w0 : 2 ≤ W) (w1 : W ≤ 41) : ∀ t ∈ ts, ∀ x ∈ t.2, 0 ≤ x ∧ x ≤ 10000 := by
 intro t ht x hx
 have m : t.2 ∈ ts.map (·.2) := List.mem_map_of_mem ht
 rw [r.ws] at m
 obtain ⟨h, _, e⟩ := List.mem_map.mp m
 rw [← e] at hx
 exact want_bd (by omega) w1 hx
theorem Ring.x {H H' : Hp} {p l : Addr} {tw th : Addr} {W b : Int} {fi : Nat} {sd wt ra : Addr} {ss : List Int} {ts : List (Addr × List Int)} {rs : List (Addr × R3)} (r : Ring H tw th W b fi sd wt ra ss ts rs) (sp : Spool H p l) (s : SameX p H H') : Ring H' tw th W b fi sd wt ra ss ts rs := by
 have k : ∀ {x : Addr} {L : List V}, H x = some (.tup L) → H' x = some (.tup L) := fun e => s _ _ (sp.netx e) e
 exact ⟨⟨k r.T.tw, k r.T.sd, k r.T.wt, r.T.m5, r.T.n5, r.T.n1, fun t ht => ⟨k (r.T.row t ht).1, (r.T.row t ht).2⟩⟩, k r.th, k r.ra, fun q hq => k (r.R q hq), r.s3, r.ws, r.rs3⟩
noncomputable def sp_law (K : PySem.W.Frag) : Sp := fun vs H Q _ => ∃ (a : Addr) (ns : List Int), vs = [.ref a] ∧ Scr K a ns H ∧ ns.length ≤ 63 ∧ ∀ H', Q (.bl true) H'
noncomputable def J0 (a p l : Addr) (_ : Nat) (σ : St) (H : Hp) : Prop := ∃ v2 v3 v4 v5 : Option V, σ = [some (.ref a), some (.ref p), v2, v3, v4, v5] ∧ Spool H p l
noncomputable def J1 (a p l tw th : Addr) (W b : Int) (fi : Nat) (sd wt ra : Addr) (ss : List Int) (ts : List (Addr × List Int)) (rs : List (Addr × R3)) (k : Int) (_ : Nat) (σ : St) (H : Hp) : Prop := ∃ v5 : Option V, σ = [some (.ref a), some (.ref p), some (.int k), some (.ref tw), some (.ref th), v5] ∧ Spool H p l ∧ Ring H tw th W b fi sd wt ra ss ts rs
theorem sc_law : FnScope ["_law_script", "_law_spool_here", "_law_k", "_law_town", "_law_thing", "_law_turn"] ["_law_script"] (defScope s_law) := ⟨rfl, rfl, rfl, by decide +kernel, rfl, by decide +kernel, by decide +kernel⟩
theorem ok_law (F : Fun K "law" "law" s_law f fd) (T : Txt mg) (c__law_spool : Cal P w K mg base "_law_spool" ["_law_script"] 1 (sp_spool K)) (c__law_ring_town : Cal P w K mg base "_law_ring_town" ["_law_spool_here"] 3 sp_ring) (c__law_bad : Cal P w K mg base "_law_bad" ["_law_spool_here", "_law_thing"] 3 sp_bad) (c_shows_none : Cal P w K mg base "shows_none" ["town", "thing"] 7 sp_none) :
  FnOk P w K mg base CX0 8 f fd ["_law_script"] (sp_law K) := by
 refine F.ok sc_law (fun vs H Q E h => ?_) (fun cdv A outer s H vs Q E hr h => ?_)
 ·obtain ⟨_, _, rfl, _⟩ := h; rfl
 ·obtain ⟨a, ns, rfl, hq, hlen, q⟩ := h
  have sc := sc_law
  refine ⟨_, pss_consL (ps_set (i := 1) sc.nd rfl (Or.inl rfl) (pe_cal c__law_spool hr (pa_cns (pv 0) pa_nil)))
   (pss_consL (ps_for PassesOwn.never rfl (pi_range1 rfl T.range_ (pa_cns (pe_op op_add pe_int (pe_op op_fdiv (pe_callB call_len_seq rfl T.len_ bt_len (pa_cons (pv 0) pa_nil)) pe_int)) pa_nil)) (pg_name (i := 2) sc.nd rfl (Or.inl rfl))
    (pss_consL (ps_asg (pe_cal c__law_ring_town hr (pa_cns (pv 1) pa_nil)) (pg_tup0 (n := 2) rfl (pgs_cons (pg_name (i := 3) sc.nd rfl (Or.inl rfl)) (pgs_cons (pg_name (i := 4) sc.nd rfl (Or.inl rfl)) pgs_nil))))
   (pss_one (ps_for PassesOwn.never rfl (pi_range1 rfl T.range_ (pa_cns pe_int pa_nil)) (pg_name (i := 5) sc.nd rfl (Or.inl rfl))
    (pss_consL (ps_if (pt_cmpR isnot_bl (pe_cal c_shows_none hr (pa_cns (pv 3) (pa_cns (pe_cal c__law_bad hr (pa_cns (pv 1) (pa_cns (pv 4) pa_nil))) pa_nil))) pe_bl (nomark _)) (pss_one (ps_ret pe_bl)) pss_nil)
   (pss_one (ps_if (pt_cmpR isnot_bl (pe_cal c_shows_none hr (pa_cns (pv 3) (pa_cns (pv 4) pa_nil))) pe_bl (nomark _)) (pss_one (ps_ret pe_bl)) pss_nil)))))))
   (pss_one (ps_ret pe_bl))), ?_⟩
  rw [show L2.start ["_law_script", "_law_spool_here", "_law_k", "_law_town", "_law_thing", "_law_turn"] [.ref a] = [some (.ref a), none, none, none, none, none] from rfl]
  (push_cast only [])
  refine ⟨a, ns, rfl, hq, fun p l H1 np nl s1 sp1 => ?_⟩
  have hq1 := hq.keep np fun b o n e => s1 _ _ e
  (push_cast only [])
  (simp only [a_laterH])
  (push_cast only [])
  refine ⟨_, .inl hq1, ?_⟩
  (push_cast only [])
  refine ⟨⟨by decide, by decide⟩, by omega, by omega, fl_range (J0 a p l) ⟨_, _, _, _, rfl, sp1⟩ ?_ ?_⟩
  ·rintro i σ H2 hi ⟨v2, v3, v4, v5, rfl, sp2⟩
   (push_cast only [])
   refine ⟨p, l, rfl, sp2, fun o tw th sd wt ra W b fi ss ts rs H3 w2 w41 hb3 hf g3 sp3 sx3 eo => ?_⟩
   (push_cast only [eo])
   (simp only [a_laterH])
   (push_cast only [])
   have tl : ts.length = 3 := by have := congrArg List.length g3.ws; simpa using this
   have bd := g3.bd w2 w41
   have s3 := g3.s3
   refine ⟨by decide, by decide, fl_range (J1 a p l tw th W b fi sd wt ra ss ts rs (i : Int)) ⟨_, rfl, sp3, g3⟩ ?_ ?_⟩
   ·rintro j σ H4 hj ⟨v5, rfl, sp4, g4⟩
    (push_cast only [])
    refine ⟨p, l, th, ra, b, fi, ts, rs, rfl, sp4, g4.th, g4.ra, g4.R, g4.rs3, hb3, hf, tl, fun x H5 sp5 sx5 sh => ?_⟩
    have g5 := g4.x sp4 sx5
    (push_cast only [])
    refine ⟨tw, sd, wt, ss, ts, x, false, rfl, g5.T, bd, by rw [s3]; exact sh, fun H6 s6 => ?_⟩
    have sp6 := sp5.same s6
    have g6 := g5.x sp5 s6.x
    (push_cast only [])
    (simp only [a_laterH])
    (push_cast only [])
    refine ⟨tw, sd, wt, ss, ts, .ref th, true, rfl, g6.T, bd, by rw [s3]; exact g6.good w2 hb3 hf, fun H7 s7 => ?_⟩
    (push_cast only [])
    exact ⟨_, rfl, sp6.same s7, g6.x sp6 s7.x⟩
   ·rintro σ H4 ⟨v5, rfl, sp4, _⟩
    exact ⟨_, _, _, _, rfl, sp4⟩
  ·rintro σ H2 ⟨v2, v3, v4, v5, rfl, sp2⟩
   (simp only [a_laterH])
   (push_cast only [])
   exact q H2
end
theorem all_mk {l : PySem.W.OpenLaw} {w : World} {K : PySem.W.Frag} {h : Heap} {mg : Str → Option Value} {fa : Addr} (X : K.In h) (G : h.Ns mainGlobals mg) (hfa : mg "law" = some (.ref fa))
  {f0 : Addr} {od0 an0 : Option Addr} {sl0 : Array (Option Value)} {oc0 kV0 dc0 pm0 cd0 ct0 : Value}
  (a0 : PySem.W.nsIn K mainGlobals "has" = some (some (.ref f0))) (l0 : K.lookup f0 = some ⟨oc0, od0, .func (PySem.W.fnOf "has" "has" (defArgs s_has) (defBody s_has) (defScope s_has) .none kV0 dc0 pm0 an0 cd0 ct0), sl0⟩) (c0 : PySem.W.codeIn K cd0 "has" = true) (k0 : PySem.W.keepIn K (.ref f0) = true)
  {f1 : Addr} {od1 an1 : Option Addr} {sl1 : Array (Option Value)} {oc1 kV1 dc1 pm1 cd1 ct1 : Value}
  (a1 : PySem.W.nsIn K mainGlobals "less" = some (some (.ref f1))) (l1 : K.lookup f1 = some ⟨oc1, od1, .func (PySem.W.fnOf "less" "less" (defArgs s_less) (defBody s_less) (defScope s_less) .none kV1 dc1 pm1 an1 cd1 ct1), sl1⟩) (c1 : PySem.W.codeIn K cd1 "less" = true) (k1 : PySem.W.keepIn K (.ref f1) = true)
  {f2 : Addr} {od2 an2 : Option Addr} {sl2 : Array (Option Value)} {oc2 kV2 dc2 pm2 cd2 ct2 : Value}
  (a2 : PySem.W.nsIn K mainGlobals "is_within" = some (some (.ref f2))) (l2 : K.lookup f2 = some ⟨oc2, od2, .func (PySem.W.fnOf "is_within" "is_within" (defArgs s_is_within) (defBody s_is_within) (defScope s_is_within) .none kV2 dc2 pm2 an2 cd2 ct2), sl2⟩) (c2 : PySem.W.codeIn K cd2 "is_within" = true) (k2 : PySem.W.keepIn K (.ref f2) = true)
  {f3 : Addr} {od3 an3 : Option Addr} {sl3 : Array (Option Value)} {oc3 kV3 dc3 pm3 cd3 ct3 : Value}
  (a3 : PySem.W.nsIn K mainGlobals "is_whole" = some (some (.ref f3))) (l3 : K.lookup f3 = some ⟨oc3, od3, .func (PySem.W.fnOf "is_whole" "is_whole" (defArgs s_is_whole) (defBody s_is_whole) (defScope s_is_whole) .none kV3 dc3 pm3 an3 cd3 ct3), sl3⟩) (c3 : PySem.W.codeIn K cd3 "is_whole" = true) (k3 : PySem.W.keepIn K (.ref f3) = true)
  {f4 : Addr} {od4 an4 : Option Addr} {sl4 : Array (Option Value)} {oc4 kV4 dc4 pm4 cd4 ct4 : Value}
  (a4 : PySem.W.nsIn K mainGlobals "is_whole_from" = some (some (.ref f4))) (l4 : K.lookup f4 = some ⟨oc4, od4, .func (PySem.W.fnOf "is_whole_from" "is_whole_from" (defArgs s_is_whole_from) (defBody s_is_whole_from) (defScope s_is_whole_from) .none kV4 dc4 pm4 an4 cd4 ct4), sl4⟩) (c4 : PySem.W.codeIn K cd4 "is_whole_from" = true) (k4 : PySem.W.keepIn K (.ref f4) = true)
  {f5 : Addr} {od5 an5 : Option Addr} {sl5 : Array (Option Value)} {oc5 kV5 dc5 pm5 cd5 ct5 : Value}
  (a5 : PySem.W.nsIn K mainGlobals "are_wholes" = some (some (.ref f5))) (l5 : K.lookup f5 = some ⟨oc5, od5, .func (PySem.W.fnOf "are_wholes" "are_wholes" (defArgs s_are_wholes) (defBody s_are_wholes) (defScope s_are_wholes) .none kV5 dc5 pm5 an5 cd5 ct5), sl5⟩) (c5 : PySem.W.codeIn K cd5 "are_wholes" = true) (k5 : PySem.W.keepIn K (.ref f5) = true)
  {f6 : Addr} {od6 an6 : Option Addr} {sl6 : Array (Option Value)} {oc6 kV6 dc6 pm6 cd6 ct6 : Value}
  (a6 : PySem.W.nsIn K mainGlobals "joined" = some (some (.ref f6))) (l6 : K.lookup f6 = some ⟨oc6, od6, .func (PySem.W.fnOf "joined" "joined" (defArgs s_joined) (defBody s_joined) (defScope s_joined) .none kV6 dc6 pm6 an6 cd6 ct6), sl6⟩) (c6 : PySem.W.codeIn K cd6 "joined" = true) (k6 : PySem.W.keepIn K (.ref f6) = true)
  {f7 : Addr} {od7 an7 : Option Addr} {sl7 : Array (Option Value)} {oc7 kV7 dc7 pm7 cd7 ct7 : Value}
  (a7 : PySem.W.nsIn K mainGlobals "most_parted" = some (some (.ref f7))) (l7 : K.lookup f7 = some ⟨oc7, od7, .func (PySem.W.fnOf "most_parted" "most_parted" (defArgs s_most_parted) (defBody s_most_parted) (defScope s_most_parted) .none kV7 dc7 pm7 an7 cd7 ct7), sl7⟩) (c7 : PySem.W.codeIn K cd7 "most_parted" = true) (k7 : PySem.W.keepIn K (.ref f7) = true)
  {f8 : Addr} {od8 an8 : Option Addr} {sl8 : Array (Option Value)} {oc8 kV8 dc8 pm8 cd8 ct8 : Value}
  (a8 : PySem.W.nsIn K mainGlobals "greatest" = some (some (.ref f8))) (l8 : K.lookup f8 = some ⟨oc8, od8, .func (PySem.W.fnOf "greatest" "greatest" (defArgs s_greatest) (defBody s_greatest) (defScope s_greatest) .none kV8 dc8 pm8 an8 cd8 ct8), sl8⟩) (c8 : PySem.W.codeIn K cd8 "greatest" = true) (k8 : PySem.W.keepIn K (.ref f8) = true)
  {f9 : Addr} {od9 an9 : Option Addr} {sl9 : Array (Option Value)} {oc9 kV9 dc9 pm9 cd9 ct9 : Value}
  (a9 : PySem.W.nsIn K mainGlobals "greatest_sums" = some (some (.ref f9))) (l9 : K.lookup f9 = some ⟨oc9, od9, .func (PySem.W.fnOf "greatest_sums" "greatest_sums" (defArgs s_greatest_sums) (defBody s_greatest_sums) (defScope s_greatest_sums) .none kV9 dc9 pm9 an9 cd9 ct9), sl9⟩) (c9 : PySem.W.codeIn K cd9 "greatest_sums" = true) (k9 : PySem.W.keepIn K (.ref f9) = true)
  {f10 : Addr} {od10 an10 : Option Addr} {sl10 : Array (Option Value)} {oc10 kV10 dc10 pm10 cd10 ct10 : Value}
  (a10 : PySem.W.nsIn K mainGlobals "shows_none" = some (some (.ref f10))) (l10 : K.lookup f10 = some ⟨oc10, od10, .func (PySem.W.fnOf "shows_none" "shows_none" (defArgs s_shows_none) (defBody s_shows_none) (defScope s_shows_none) .none kV10 dc10 pm10 an10 cd10 ct10), sl10⟩) (c10 : PySem.W.codeIn K cd10 "shows_none" = true) (k10 : PySem.W.keepIn K (.ref f10) = true)
  {f11 : Addr} {od11 an11 : Option Addr} {sl11 : Array (Option Value)} {oc11 kV11 dc11 pm11 cd11 ct11 : Value}
  (a11 : PySem.W.nsIn K mainGlobals "are_shares" = some (some (.ref f11))) (l11 : K.lookup f11 = some ⟨oc11, od11, .func (PySem.W.fnOf "are_shares" "are_shares" (defArgs s_are_shares) (defBody s_are_shares) (defScope s_are_shares) .none kV11 dc11 pm11 an11 cd11 ct11), sl11⟩) (c11 : PySem.W.codeIn K cd11 "are_shares" = true) (k11 : PySem.W.keepIn K (.ref f11) = true)
  {f12 : Addr} {od12 an12 : Option Addr} {sl12 : Array (Option Value)} {oc12 kV12 dc12 pm12 cd12 ct12 : Value}
  (a12 : PySem.W.nsIn K mainGlobals "is_share" = some (some (.ref f12))) (l12 : K.lookup f12 = some ⟨oc12, od12, .func (PySem.W.fnOf "is_share" "is_share" (defArgs s_is_share) (defBody s_is_share) (defScope s_is_share) .none kV12 dc12 pm12 an12 cd12 ct12), sl12⟩) (c12 : PySem.W.codeIn K cd12 "is_share" = true) (k12 : PySem.W.keepIn K (.ref f12) = true)
  {f13 : Addr} {od13 an13 : Option Addr} {sl13 : Array (Option Value)} {oc13 kV13 dc13 pm13 cd13 ct13 : Value}
  (a13 : PySem.W.nsIn K mainGlobals "rise_by_place" = some (some (.ref f13))) (l13 : K.lookup f13 = some ⟨oc13, od13, .func (PySem.W.fnOf "rise_by_place" "rise_by_place" (defArgs s_rise_by_place) (defBody s_rise_by_place) (defScope s_rise_by_place) .none kV13 dc13 pm13 an13 cd13 ct13), sl13⟩) (c13 : PySem.W.codeIn K cd13 "rise_by_place" = true) (k13 : PySem.W.keepIn K (.ref f13) = true)
  {f14 : Addr} {od14 an14 : Option Addr} {sl14 : Array (Option Value)} {oc14 kV14 dc14 pm14 cd14 ct14 : Value}
  (a14 : PySem.W.nsIn K mainGlobals "keep_bounds" = some (some (.ref f14))) (l14 : K.lookup f14 = some ⟨oc14, od14, .func (PySem.W.fnOf "keep_bounds" "keep_bounds" (defArgs s_keep_bounds) (defBody s_keep_bounds) (defScope s_keep_bounds) .none kV14 dc14 pm14 an14 cd14 ct14), sl14⟩) (c14 : PySem.W.codeIn K cd14 "keep_bounds" = true) (k14 : PySem.W.keepIn K (.ref f14) = true)
  {f15 : Addr} {od15 an15 : Option Addr} {sl15 : Array (Option Value)} {oc15 kV15 dc15 pm15 cd15 ct15 : Value}
  (a15 : PySem.W.nsIn K mainGlobals "shares_worth" = some (some (.ref f15))) (l15 : K.lookup f15 = some ⟨oc15, od15, .func (PySem.W.fnOf "shares_worth" "shares_worth" (defArgs s_shares_worth) (defBody s_shares_worth) (defScope s_shares_worth) .none kV15 dc15 pm15 an15 cd15 ct15), sl15⟩) (c15 : PySem.W.codeIn K cd15 "shares_worth" = true) (k15 : PySem.W.keepIn K (.ref f15) = true)
  {f16 : Addr} {od16 an16 : Option Addr} {sl16 : Array (Option Value)} {oc16 kV16 dc16 pm16 cd16 ct16 : Value}
  (a16 : PySem.W.nsIn K mainGlobals "_law_spool" = some (some (.ref f16))) (l16 : K.lookup f16 = some ⟨oc16, od16, .func (PySem.W.fnOf "_law_spool" "_law_spool" (defArgs s__law_spool) (defBody s__law_spool) (defScope s__law_spool) .none kV16 dc16 pm16 an16 cd16 ct16), sl16⟩) (c16 : PySem.W.codeIn K cd16 "_law_spool" = true) (k16 : PySem.W.keepIn K (.ref f16) = true)
  {f17 : Addr} {od17 an17 : Option Addr} {sl17 : Array (Option Value)} {oc17 kV17 dc17 pm17 cd17 ct17 : Value}
  (a17 : PySem.W.nsIn K mainGlobals "_law_wound" = some (some (.ref f17))) (l17 : K.lookup f17 = some ⟨oc17, od17, .func (PySem.W.fnOf "_law_wound" "_law_wound" (defArgs s__law_wound) (defBody s__law_wound) (defScope s__law_wound) .none kV17 dc17 pm17 an17 cd17 ct17), sl17⟩) (c17 : PySem.W.codeIn K cd17 "_law_wound" = true) (k17 : PySem.W.keepIn K (.ref f17) = true)
  {f18 : Addr} {od18 an18 : Option Addr} {sl18 : Array (Option Value)} {oc18 kV18 dc18 pm18 cd18 ct18 : Value}
  (a18 : PySem.W.nsIn K mainGlobals "_law_draw" = some (some (.ref f18))) (l18 : K.lookup f18 = some ⟨oc18, od18, .func (PySem.W.fnOf "_law_draw" "_law_draw" (defArgs s__law_draw) (defBody s__law_draw) (defScope s__law_draw) .none kV18 dc18 pm18 an18 cd18 ct18), sl18⟩) (c18 : PySem.W.codeIn K cd18 "_law_draw" = true) (k18 : PySem.W.keepIn K (.ref f18) = true)
  {f19 : Addr} {od19 an19 : Option Addr} {sl19 : Array (Option Value)} {oc19 kV19 dc19 pm19 cd19 ct19 : Value}
  (a19 : PySem.W.nsIn K mainGlobals "_law_ring_town" = some (some (.ref f19))) (l19 : K.lookup f19 = some ⟨oc19, od19, .func (PySem.W.fnOf "_law_ring_town" "_law_ring_town" (defArgs s__law_ring_town) (defBody s__law_ring_town) (defScope s__law_ring_town) .none kV19 dc19 pm19 an19 cd19 ct19), sl19⟩) (c19 : PySem.W.codeIn K cd19 "_law_ring_town" = true) (k19 : PySem.W.keepIn K (.ref f19) = true)
  {f20 : Addr} {od20 an20 : Option Addr} {sl20 : Array (Option Value)} {oc20 kV20 dc20 pm20 cd20 ct20 : Value}
  (a20 : PySem.W.nsIn K mainGlobals "_law_bad" = some (some (.ref f20))) (l20 : K.lookup f20 = some ⟨oc20, od20, .func (PySem.W.fnOf "_law_bad" "_law_bad" (defArgs s__law_bad) (defBody s__law_bad) (defScope s__law_bad) .none kV20 dc20 pm20 an20 cd20 ct20), sl20⟩) (c20 : PySem.W.codeIn K cd20 "_law_bad" = true) (k20 : PySem.W.keepIn K (.ref f20) = true)
  {f21 : Addr} {od21 an21 : Option Addr} {sl21 : Array (Option Value)} {oc21 kV21 dc21 pm21 cd21 ct21 : Value}
  (a21 : PySem.W.nsIn K mainGlobals "law" = some (some (.ref f21))) (l21 : K.lookup f21 = some ⟨oc21, od21, .func (PySem.W.fnOf "law" "law" (defArgs s_law) (defBody s_law) (defScope s_law) .none kV21 dc21 pm21 an21 cd21 ct21), sl21⟩) (c21 : PySem.W.codeIn K cd21 "law" = true) (k21 : PySem.W.keepIn K (.ref f21) = true)
  (z_len : PySem.W.nsIn K mainGlobals "len" = some none)
  (z_sum : PySem.W.nsIn K mainGlobals "sum" = some none)
  (z_isinstance : PySem.W.nsIn K mainGlobals "isinstance" = some none)
  (z_max : PySem.W.nsIn K mainGlobals "max" = some none)
  (z_range : PySem.W.nsIn K mainGlobals "range" = some none)
  (z_tuple : PySem.W.nsIn K mainGlobals "tuple" = some none)
  (z_list : PySem.W.nsIn K mainGlobals "list" = some none)
  (z_int : PySem.W.nsIn K mainGlobals "int" = some none)
  (z_bool : PySem.W.nsIn K mainGlobals "bool" = some none)
  (z_str : PySem.W.nsIn K mainGlobals "str" = some none)
  (z_set : PySem.W.nsIn K mainGlobals "set" = some none)
  (z_sorted : PySem.W.nsIn K mainGlobals "sorted" = some none)
  (z_all : PySem.W.nsIn K mainGlobals "all" = some none)
  : ∃ fd : FuncData, (∀ (s : Shared) (v : Value), BindsTo s fd ⟨[v], []⟩ [("_law_script", v)]) ∧ ∀ base : Heap, K.In base → base.Ns mainGlobals mg → FnOk l.prog w K mg base CX0 8 fa fd ["_law_script"] (sp_law K) := by
 have e := hfa.symm.trans (PySem.W.mg_of X G a21)
 cases e
 have T : Txt mg := ⟨PySem.W.mg_none_of X G z_len, PySem.W.mg_none_of X G z_sum, PySem.W.mg_none_of X G z_isinstance, PySem.W.mg_none_of X G z_max, PySem.W.mg_none_of X G z_range, PySem.W.mg_none_of X G z_tuple, PySem.W.mg_none_of X G z_list, PySem.W.mg_none_of X G z_int, PySem.W.mg_none_of X G z_bool, PySem.W.mg_none_of X G z_str, PySem.W.mg_none_of X G z_set, PySem.W.mg_none_of X G z_sorted, PySem.W.mg_none_of X G z_all⟩
 have F_has := fun_mk (st := s_has) l0 c0 k0
 have m_has := PySem.W.mg_of X G a0
 have b_has := F_has.binds (ps := ["heap", "thing"]) fun _ _ _ _ _ _ => L2.us2 (fun _ _ => rfl)
 have F_less := fun_mk (st := s_less) l1 c1 k1
 have m_less := PySem.W.mg_of X G a1
 have b_less := F_less.binds (ps := ["one", "other"]) fun _ _ _ _ _ _ => L2.us2 (fun _ _ => rfl)
 have F_is_within := fun_mk (st := s_is_within) l2 c2 k2
 have m_is_within := PySem.W.mg_of X G a2
 have b_is_within := F_is_within.binds (ps := ["one", "other"]) fun _ _ _ _ _ _ => L2.us2 (fun _ _ => rfl)
 have F_is_whole := fun_mk (st := s_is_whole) l3 c3 k3
 have m_is_whole := PySem.W.mg_of X G a3
 have b_is_whole := F_is_whole.binds (ps := ["thing"]) fun _ _ _ _ _ _ => L2.us1 (fun _ => rfl)
 have F_is_whole_from := fun_mk (st := s_is_whole_from) l4 c4 k4
 have m_is_whole_from := PySem.W.mg_of X G a4
 have b_is_whole_from := F_is_whole_from.binds (ps := ["thing", "least"]) fun _ _ _ _ _ _ => L2.us2 (fun _ _ => rfl)
 have F_are_wholes := fun_mk (st := s_are_wholes) l5 c5 k5
 have m_are_wholes := PySem.W.mg_of X G a5
 have b_are_wholes := F_are_wholes.binds (ps := ["thing", "many"]) fun _ _ _ _ _ _ => L2.us2 (fun _ _ => rfl)
 have F_joined := fun_mk (st := s_joined) l6 c6 k6
 have m_joined := PySem.W.mg_of X G a6
 have b_joined := F_joined.binds (ps := ["one", "other"]) fun _ _ _ _ _ _ => L2.us2 (fun _ _ => rfl)
 have F_most_parted := fun_mk (st := s_most_parted) l7 c7 k7
 have m_most_parted := PySem.W.mg_of X G a7
 have b_most_parted := F_most_parted.binds (ps := ["one", "other", "heap"]) fun _ _ _ _ _ _ => L2.us3 (fun _ _ _ => rfl)
 have F_greatest := fun_mk (st := s_greatest) l8 c8 k8
 have m_greatest := PySem.W.mg_of X G a8
 have b_greatest := F_greatest.binds (ps := ["town"]) fun _ _ _ _ _ _ => L2.us1 (fun _ => rfl)
 have F_greatest_sums := fun_mk (st := s_greatest_sums) l9 c9 k9
 have m_greatest_sums := PySem.W.mg_of X G a9
 have b_greatest_sums := F_greatest_sums.binds (ps := ["wants", "many"]) fun _ _ _ _ _ _ => L2.us2 (fun _ _ => rfl)
 have F_shows_none := fun_mk (st := s_shows_none) l10 c10 k10
 have m_shows_none := PySem.W.mg_of X G a10
 have b_shows_none := F_shows_none.binds (ps := ["town", "thing"]) fun _ _ _ _ _ _ => L2.us2 (fun _ _ => rfl)
 have F_are_shares := fun_mk (st := s_are_shares) l11 c11 k11
 have m_are_shares := PySem.W.mg_of X G a11
 have b_are_shares := F_are_shares.binds (ps := ["town", "by", "rows"]) fun _ _ _ _ _ _ => L2.us3 (fun _ _ _ => rfl)
 have F_is_share := fun_mk (st := s_is_share) l12 c12 k12
 have m_is_share := PySem.W.mg_of X G a12
 have b_is_share := F_is_share.binds (ps := ["row", "many", "hands"]) fun _ _ _ _ _ _ => L2.us3 (fun _ _ _ => rfl)
 have F_rise_by_place := fun_mk (st := s_rise_by_place) l13 c13 k13
 have m_rise_by_place := PySem.W.mg_of X G a13
 have b_rise_by_place := F_rise_by_place.binds (ps := ["rows"]) fun _ _ _ _ _ _ => L2.us1 (fun _ => rfl)
 have F_keep_bounds := fun_mk (st := s_keep_bounds) l14 c14 k14
 have m_keep_bounds := PySem.W.mg_of X G a14
 have b_keep_bounds := F_keep_bounds.binds (ps := ["town", "by", "rows"]) fun _ _ _ _ _ _ => L2.us3 (fun _ _ _ => rfl)
 have F_shares_worth := fun_mk (st := s_shares_worth) l15 c15 k15
 have m_shares_worth := PySem.W.mg_of X G a15
 have b_shares_worth := F_shares_worth.binds (ps := ["town", "rows"]) fun _ _ _ _ _ _ => L2.us2 (fun _ _ => rfl)
 have F__law_spool := fun_mk (st := s__law_spool) l16 c16 k16
 have m__law_spool := PySem.W.mg_of X G a16
 have b__law_spool := F__law_spool.binds (ps := ["_law_script"]) fun _ _ _ _ _ _ => L2.us1 (fun _ => rfl)
 have F__law_wound := fun_mk (st := s__law_wound) l17 c17 k17
 have m__law_wound := PySem.W.mg_of X G a17
 have b__law_wound := F__law_wound.binds (ps := ["_law_number", "_law_turn"]) fun _ _ _ _ _ _ => L2.us2 (fun _ _ => rfl)
 have F__law_draw := fun_mk (st := s__law_draw) l18 c18 k18
 have m__law_draw := PySem.W.mg_of X G a18
 have b__law_draw := F__law_draw.binds (ps := ["_law_spool_here", "_law_many"]) fun _ _ _ _ _ _ => L2.us2 (fun _ _ => rfl)
 have F__law_ring_town := fun_mk (st := s__law_ring_town) l19 c19 k19
 have m__law_ring_town := PySem.W.mg_of X G a19
 have b__law_ring_town := F__law_ring_town.binds (ps := ["_law_spool_here"]) fun _ _ _ _ _ _ => L2.us1 (fun _ => rfl)
 have F__law_bad := fun_mk (st := s__law_bad) l20 c20 k20
 have m__law_bad := PySem.W.mg_of X G a20
 have b__law_bad := F__law_bad.binds (ps := ["_law_spool_here", "_law_thing"]) fun _ _ _ _ _ _ => L2.us2 (fun _ _ => rfl)
 have F_law := fun_mk (st := s_law) l21 c21 k21
 have m_law := PySem.W.mg_of X G a21
 have b_law := F_law.binds (ps := ["_law_script"]) fun _ _ _ _ _ _ => L2.us1 (fun _ => rfl)
 refine ⟨PySem.W.fnOf "law" "law" (defArgs s_law) (defBody s_law) (defScope s_law) .none kV21 dc21 pm21 an21 cd21 ct21, fun s v => .of_eq rfl, fun base _ _ => ?_⟩
 have c_has := ok_has (P := l.prog) (w := w) (base := base) F_has m_has b_has T
 have c_less := ok_less (P := l.prog) (w := w) (base := base) F_less m_less b_less T
 have c_isw := ok_isw (P := l.prog) (w := w) (base := base) F_is_within m_is_within b_is_within T c_less
 have c_parted := ok_parted (P := l.prog) (w := w) (base := base) F_most_parted m_most_parted b_most_parted T c_less c_isw
 have c_joined := ok_joined (P := l.prog) (w := w) (base := base) F_joined m_joined b_joined T c_parted
 have c_gsums := ok_gsums (P := l.prog) (w := w) (base := base) F_greatest_sums m_greatest_sums b_greatest_sums T c_joined
 have c_greatest := ok_greatest (P := l.prog) (w := w) (base := base) F_greatest m_greatest b_greatest T c_gsums
 have c_whole := ok_whole (P := l.prog) (w := w) (base := base) F_is_whole m_is_whole b_is_whole T
 have c_wholes := ok_wholes (P := l.prog) (w := w) (base := base) F_are_wholes m_are_wholes b_are_wholes T c_whole
 have c_isfrom := ok_isfrom (P := l.prog) (w := w) (base := base) F_is_whole_from m_is_whole_from b_is_whole_from T c_whole
 have c_iss := ok_iss (P := l.prog) (w := w) (base := base) F_is_share m_is_share b_is_share T c_wholes
 have c_rise := ok_rise (P := l.prog) (w := w) (base := base) F_rise_by_place m_rise_by_place b_rise_by_place T
 have c_keep := ok_keep (P := l.prog) (w := w) (base := base) F_keep_bounds m_keep_bounds b_keep_bounds T c_has
 have c_worth := ok_worth (P := l.prog) (w := w) (base := base) F_shares_worth m_shares_worth b_shares_worth T
 have c_ars := ok_ars (P := l.prog) (w := w) (base := base) F_are_shares m_are_shares b_are_shares T c_isfrom c_iss c_rise c_keep
 have c_none := ok_none (P := l.prog) (w := w) (base := base) F_shows_none m_shows_none b_shows_none T c_ars c_worth c_greatest
 have c_wound := ok_wound (P := l.prog) (w := w) (base := base) F__law_wound m__law_wound b__law_wound T
 have c_draw := ok_draw (P := l.prog) (w := w) (base := base) F__law_draw m__law_draw b__law_draw T c_wound
 have c_spool := ok_spool (P := l.prog) (w := w) (base := base) F__law_spool m__law_spool b__law_spool T
 have c_ring := ok_ring (P := l.prog) (w := w) (base := base) F__law_ring_town m__law_ring_town b__law_ring_town T c_draw
 have c_bad := ok_bad (P := l.prog) (w := w) (base := base) F__law_bad m__law_bad b__law_bad T c_draw
 exact ok_law (P := l.prog) (w := w) (base := base) F_law T c_spool c_ring c_bad c_none
theorem walk {l : PySem.W.OpenLaw} {q : Program} {loose : List Str} {XP : (Str → Option Value) → Heap → Prop} {YP : World → Heap → Prop} {d : DefRec} {K : Params → PySem.W.Frag} (hn : l.most = some 63) (hdf : d.params.defaults = [])
  (hY : ∀ (w : World) (h : Heap), YP w h → (K w.params).In h)
  (F : ∀ (w : World) (mg : Str → Option Value) (fa : Addr) (h : Heap), (K w.params).In h → h.Ns mainGlobals mg → mg d.name = some (.ref fa) →
   ∃ fd : FuncData, (∀ (s : Shared) (u : Value), BindsTo s fd ⟨[u], []⟩ [("_law_script", u)]) ∧ ∀ base : Heap, (K w.params).In base → base.Ns mainGlobals mg → FnOk l.prog w (K w.params) mg base CX0 8 fa fd ["_law_script"] (sp_law (K w.params))) :
  PySem.W.WalkO q loose XP YP l.row.toRowW d [] (fun f vs => PySem.call f vs) :=
 L2.walk_of (n := 63) (k := 8) (x := "_law_script") (CX := fun _ => CX0) (sp := fun w => sp_law (K w.params)) hn (by decide) hdf ⟨rfl, by decide, by decide, rfl⟩ hY F (fun w H a ns hl hO hS => ⟨a, ns, rfl, hS, hl, fun _ => rfl⟩) fun _ _ _ _ _ z => z
end K53
end
end
end
section
set_option Elab.async false
set_option linter.all false
open PySem PySem.W PyProof.Rows
set_option maxRecDepth 100000 in
set_option maxHeartbeats 0 in
theorem PySem.Challenge.cw_wantprices_k53_none_of_any_kind_holds : PySem.Challenge.rw_wantprices_k53_none_of_any_kind.Holds := by
 w_on; o_law; k_head; (case hw => w_witness2)
 k_fill
 refine K53.walk (l := PySem.Challenge.rw_wantprices_k53_none_of_any_kind) rfl rfl (fun w h Y => by first | exact PySem.W.kIn_of Y | exact PySem.W.km_in_of Y) ?F
 case F =>
  intro w mg fa h KX G hmg
  refine' K53.all_mk KX G hmg ?a0 ?l0 ?c0 ?k0 ?a1 ?l1 ?c1 ?k1 ?a2 ?l2 ?c2 ?k2 ?a3 ?l3 ?c3 ?k3 ?a4 ?l4 ?c4 ?k4 ?a5 ?l5 ?c5 ?k5 ?a6 ?l6 ?c6 ?k6 ?a7 ?l7 ?c7 ?k7 ?a8 ?l8 ?c8 ?k8 ?a9 ?l9 ?c9 ?k9 ?a10 ?l10 ?c10 ?k10 ?a11 ?l11 ?c11 ?k11 ?a12 ?l12 ?c12 ?k12 ?a13 ?l13 ?c13 ?k13 ?a14 ?l14 ?c14 ?k14 ?a15 ?l15 ?c15 ?k15 ?a16 ?l16 ?c16 ?k16 ?a17 ?l17 ?c17 ?k17 ?a18 ?l18 ?c18 ?k18 ?a19 ?l19 ?c19 ?k19 ?a20 ?l20 ?c20 ?k20 ?a21 ?l21 ?c21 ?k21 ?z_len ?z_sum ?z_isinstance ?z_max ?z_range ?z_tuple ?z_list ?z_int ?z_bool ?z_str ?z_set ?z_sorted ?z_all
  (case a0 => k_is)
  (case l0 => k_is)
  (case c0 => k_is)
  (case k0 => k_is)
  (case a1 => k_is)
  (case l1 => k_is)
  (case c1 => k_is)
  (case k1 => k_is)
  (case a2 => k_is)
  (case l2 => k_is)
  (case c2 => k_is)
  (case k2 => k_is)
  (case a3 => k_is)
  (case l3 => k_is)
  (case c3 => k_is)
  (case k3 => k_is)
  (case a4 => k_is)
  (case l4 => k_is)
  (case c4 => k_is)
  (case k4 => k_is)
  (case a5 => k_is)
  (case l5 => k_is)
  (case c5 => k_is)
  (case k5 => k_is)
  (case a6 => k_is)
  (case l6 => k_is)
  (case c6 => k_is)
  (case k6 => k_is)
  (case a7 => k_is)
  (case l7 => k_is)
  (case c7 => k_is)
  (case k7 => k_is)
  (case a8 => k_is)
  (case l8 => k_is)
  (case c8 => k_is)
  (case k8 => k_is)
  (case a9 => k_is)
  (case l9 => k_is)
  (case c9 => k_is)
  (case k9 => k_is)
  (case a10 => k_is)
  (case l10 => k_is)
  (case c10 => k_is)
  (case k10 => k_is)
  (case a11 => k_is)
  (case l11 => k_is)
  (case c11 => k_is)
  (case k11 => k_is)
  (case a12 => k_is)
  (case l12 => k_is)
  (case c12 => k_is)
  (case k12 => k_is)
  (case a13 => k_is)
  (case l13 => k_is)
  (case c13 => k_is)
  (case k13 => k_is)
  (case a14 => k_is)
  (case l14 => k_is)
  (case c14 => k_is)
  (case k14 => k_is)
  (case a15 => k_is)
  (case l15 => k_is)
  (case c15 => k_is)
  (case k15 => k_is)
  (case a16 => k_is)
  (case l16 => k_is)
  (case c16 => k_is)
  (case k16 => k_is)
  (case a17 => k_is)
  (case l17 => k_is)
  (case c17 => k_is)
  (case k17 => k_is)
  (case a18 => k_is)
  (case l18 => k_is)
  (case c18 => k_is)
  (case k18 => k_is)
  (case a19 => k_is)
  (case l19 => k_is)
  (case c19 => k_is)
  (case k19 => k_is)
  (case a20 => k_is)
  (case l20 => k_is)
  (case c20 => k_is)
  (case k20 => k_is)
  (case a21 => k_is)
  (case l21 => k_is)
  (case c21 => k_is)
  (case k21 => k_is)
  (case z_len => k_is)
  (case z_sum => k_is)
  (case z_isinstance => k_is)
  (case z_max => k_is)
  (case z_range => k_is)
  (case z_tuple => k_is)
  (case z_list => k_is)
  (case z_int => k_is)
  (case z_bool => k_is)
  (case z_str => k_is)
  (case z_set => k_is)
  (case z_sorted => k_is)
  (case z_all => k_is)
end
