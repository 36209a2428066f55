import PyProof.Rows.All
import Wide.All
import OpenK.AllK
import Wide.FinOn
import Lean
import PyProof.EqAt
import PyProof.EqKinds
import PyProof.TupleCall
import PyProof.MinMaxWalk
import KE.KSortTup
import KE.KDictList
import PySem.Challenge.RW_wantprices_k73_what_hands_pay
section
set_option Elab.async false
set_option linter.all false
set_option maxRecDepth 100000
namespace L2
open PySem PySem.Spec PyProof.Rows
noncomputable abbrev Key := Sum Int Str
noncomputable def keyIs : Key → Value → Bool
 | .inl k, v => Value.isInt k v
 | .inr x, v => Value.isStrOf x v
noncomputable def keyH (w : World) : Key → Int
 | .inl k => hashInt k
 | .inr x => hashStr w x
theorem keyIs_shape : ∀ {k : Key} {v : Value}, keyIs k v = true → (∃ i t, k = Sum.inl i ∧ v = Value.int i t) ∨ (∃ x t, k = Sum.inr x ∧ v = Value.str x t)
 | .inl i, v, h => by
  obtain ⟨t, e⟩ := Value.isInt_shape (k := i) (v := v) h
  exact .inl ⟨i, t, rfl, e⟩
 | .inr x, v, h => by
  obtain ⟨t, e⟩ := Value.isStrOf_shape (x := x) (v := v) h
  exact .inr ⟨x, t, rfl, e⟩
theorem key_ll (a b : Int) : decide ((Sum.inl a : Key) = Sum.inl b) = (a == b) := by
 by_cases e : a = b
 ·subst e; simp
 ·have h : ¬ (Sum.inl a : Key) = Sum.inl b := fun q => e (Sum.inl.inj q)
  rw [decide_eq_false h]
  exact (beq_eq_false_iff_ne.mpr e).symm
theorem key_rr (a b : Str) : decide ((Sum.inr a : Key) = Sum.inr b) = decide (a = b) := by
 by_cases e : a = b
 ·subst e; simp
 ·have h : ¬ (Sum.inr a : Key) = Sum.inr b := fun q => e (Sum.inr.inj q)
  rw [decide_eq_false h, decide_eq_false e]
theorem key_lr (a : Int) (b : Str) : decide ((Sum.inl a : Key) = Sum.inr b) = false := decide_eq_false (fun q => nomatch q)
theorem key_rl (a : Str) (b : Int) : decide ((Sum.inr a : Key) = Sum.inl b) = false := decide_eq_false (fun q => nomatch q)
noncomputable def mixKind (prog : Program) (w : World) : PySem.KeyKind prog w Key where
 is := keyIs
 hash := keyH w
 inj := fun v a b ha hb => by
  rcases keyIs_shape ha with ⟨i, t, rfl, rfl⟩ | ⟨x, t, rfl, rfl⟩
  ·rcases keyIs_shape hb with ⟨j, u, rfl, e⟩ | ⟨y, u, rfl, e⟩
   ·injection e with e1 _; rw [e1]
   ·exact nomatch e
  ·rcases keyIs_shape hb with ⟨j, u, rfl, e⟩ | ⟨y, u, rfl, e⟩
   ·exact nomatch e
   ·injection e with e1 _; rw [e1]
 byValue := fun k v h => by
  rcases keyIs_shape h with ⟨i, t, rfl, rfl⟩ | ⟨x, t, rfl, rfl⟩ <;> rfl
 pyHash := fun hv h => by
  rcases keyIs_shape hv with ⟨i, t, rfl, rfl⟩ | ⟨x, t, rfl, rfl⟩
  ·exact wpAny_pyHash_int h
  ·exact wpAny_pyHash_str h
 eqBool := fun hu hv h => by
  rcases keyIs_shape hu with ⟨i, t, rfl, rfl⟩ | ⟨x, t, rfl, rfl⟩
  ·rcases keyIs_shape hv with ⟨j, u, rfl, rfl⟩ | ⟨y, u, rfl, rfl⟩
   ·rw [key_ll] at h; exact wpAny_eqBool_int h
   ·rw [key_lr] at h; exact SeqAt.EqAt.int_str i t y u _ _ _ _ h
  ·rcases keyIs_shape hv with ⟨j, u, rfl, rfl⟩ | ⟨y, u, rfl, rfl⟩
   ·rw [key_rl] at h; exact SeqAt.EqAt.str_int x t j u _ _ _ _ h
   ·rw [key_rr] at h; exact wpAny_eqBool_str h
 «strs» := fun k x t v h => by
  rcases keyIs_shape h with ⟨i, u, rfl, e⟩ | ⟨y, u, rfl, e⟩
  ·exact nomatch e
  ·injection e with e1 _
   subst e1
   cases v <;> rfl
end L2
namespace L2
open PySem PySem.Spec PyProof.Rows
inductive V where
 | non | bl (b : Bool) | int (i : Int) | str (x : Str) | byt (b : Array UInt8) | flt (b : UInt64) | ref (a : Addr) | ty (n : String)
 deriving DecidableEq
noncomputable def RelV : V → Value → Prop
 | .non, u => u = Value.none
 | .bl b, u => u = Value.bool b
 | .int i, u => ∃ t, u = Value.int i t
 | .str x, u => ∃ t, u = Value.str x t
 | .byt b, u => ∃ t, u = Value.bytes b t
 | .flt b, u => ∃ t, u = Value.float b t
 | .ref a, u => u = Value.ref a
 | .ty n, u => u = Value.type n
noncomputable abbrev Vals : List V → List Value → Prop := Paired RelV
theorem Vals.length {xs : List V} {us : List Value} (r : Vals xs us) : xs.length = us.length := Paired.length r
theorem Vals.get : ∀ {xs : List V} {us : List Value} {i : Nat} {x : V}, Vals xs us → xs[i]? = some x → ∃ u, us[i]? = some u ∧ RelV x u
 | _, _, _, _, .nil, e => by simp at e
 | _, _, 0, _, .cons r _, e => by simp at e; subst e; exact ⟨_, rfl, r⟩
 | _, _, i + 1, x, .cons _ t, e => by
  obtain ⟨u, h1, h2⟩ := Vals.get (i := i) (x := x) t (by simpa using e)
  exact ⟨u, by simpa using h1, h2⟩
theorem Vals.set {x : V} {u : Value} (r : RelV x u) : ∀ {xs : List V} {us : List Value} (i : Nat), Vals xs us → Vals (xs.set i x) (us.set i u)
 | _, _, _, .nil => .nil
 | _, _, 0, .cons _ t => .cons r t
 | _, _, i + 1, .cons q t => .cons q (Vals.set r i t)
theorem Vals.append : ∀ {xs ys : List V} {us ws : List Value}, Vals xs us → Vals ys ws → Vals (xs ++ ys) (us ++ ws)
 | _, _, _, _, .nil, s => s
 | _, _, _, _, .cons r t, s => .cons r (Vals.append t s)
theorem Vals.take : ∀ {xs : List V} {us : List Value} (n : Nat), Vals xs us → Vals (xs.take n) (us.take n)
 | _, _, 0, _ => .nil
 | _, _, _ + 1, .nil => .nil
 | _, _, n + 1, .cons r t => .cons r (Vals.take n t)
theorem Vals.drop : ∀ {xs : List V} {us : List Value} (n : Nat), Vals xs us → Vals (xs.drop n) (us.drop n)
 | _, _, 0, r => r
 | _, _, _ + 1, .nil => .nil
 | _, _, n + 1, .cons _ t => Vals.drop n t
noncomputable def RelO : Option V → Option Value → Prop
 | some v, some u => RelV v u
 | none, none => True
 | _, _ => False
noncomputable def KV {κ : Type} : List (κ × V) → List (κ × Value) → Prop := Paired fun (p : κ × V) (q : κ × Value) => p.1 = q.1 ∧ RelV p.2 q.2
noncomputable def kV : Key → V
 | .inl i => .int i
 | .inr x => .str x
inductive HO where
 | lst (xs : List V)
 | tup (xs : List V)
 | dK (kvs : List (Key × V)) | dT (kvs : List (List Key × V))
 | set (S : Int → Bool) (n : Nat)
 | ins (C dx : Addr) (fs : List (Str × V))
 | own (x : Addr)
 | xd (fs : List (Str × V))
 | met (f x : Addr)
 | rng (lo hi : Int)
 | frz (o : Obj) (u : HO)
 | tbl (ps : Array Value)
 | ext (φ : Heap → Prop)
noncomputable abbrev Hp := Addr → Option HO
noncomputable def upd (H : Hp) (a : Addr) (o : HO) : Hp := fun b => if b = a then some o else H b
theorem upd_same {H : Hp} {a : Addr} {o : HO} : upd H a o a = some o := by unfold upd; rw [if_pos rfl]
theorem upd_ne {H : Hp} {a b : Addr} {o : HO} (h : b ≠ a) : upd H a o b = H b := by unfold upd; rw [if_neg h]
theorem upd_upd {H : Hp} {a : Addr} {o u : HO} : upd (upd H a o) a u = upd H a u := by
 funext b; unfold upd; split <;> rfl
theorem ne_of_none {H : Hp} {a b : Addr} {o : HO} (h : H a = some o) (h' : H b = none) : a ≠ b := by
 intro e; subst e; rw [h] at h'; cases h'
section
variable (P : Program) (w : World)
noncomputable def ObjOk (H : Hp) (h : Heap) (a : Addr) : HO → Prop
 | .lst xs => xs.length ≤ sizeLine ∧ ∃ (its : List Value) (n : Nat), Vals xs its ∧ h.get? a = some { cls := .type "list", data := .seq its.toArray n }
 | .tup xs => xs.length ≤ sizeLine ∧ ∃ its : List Value, Vals xs its ∧ IsTup h a its.toArray
 | .dK kvs => kvs.length ≤ sizeLine ∧ (a == sysModules) = false ∧ ∃ vs, KV kvs vs ∧ h.DictOf (mixKind P w) a vs
 | .dT kvs => kvs.length ≤ sizeLine ∧ (a == sysModules) = false ∧ ∃ xs : List (List Key × Addr × Value),
   Paired (fun (p : List Key × V) (q : List Key × Addr × Value) => p.1 = q.1 ∧ H q.2.1 = some (.tup (p.1.map kV)) ∧ RelV p.2 q.2.2) kvs xs ∧
   ∃ o es ep, h.get? a = some o ∧ o.ExactDict ∧ o.data = .dict es ep ∧ es.toList = xs.map (entryOfKey (tupleKind (mixKind P w))) ∧ (xs.map (·.1)).Nodup
 | .set S n => h.SetOf (intKind P w) a S n
 | .ins C dx fs => H dx = some (.own a) ∧ fs.length ≤ 1000 ∧ dx ≠ a ∧ h.get? a = some (PySem.W.instObj C dx) ∧
   ∃ mA, h.Ns1 dx mA ∧ (∀ f, RelO (fs.lookup f) (mA f)) ∧ PySem.Within mA (fs.map (·.1))
 | .own _ => ∃ o, h.get? a = some o
 | .xd fs => ∃ mA, h.Ns1 a mA ∧ ∀ f, RelO (fs.lookup f) (mA f)
 | .rng lo hi => ∃ t u v, h.get? a = some { cls := .type "range", data := .fields #[.int lo t, .int hi u, .int 1 v] }
 | .frz o u => h.get? a = some o ∧ ObjOk H h a u
 | .tbl ps => h.get? a = some { cls := .none, data := .fields ps }
 | .met f x => h.get? a = some (PySem.W.methodObj (.ref f) (.ref x))
 | .ext φ => φ h ∧ (∃ o, h.get? a = some o) ∧ ∀ h1 h2 : Heap, φ h1 → (∀ o, h1.get? a = some o → h2.get? a = some o) → φ h2
noncomputable def HOk (H : Hp) (h : Heap) : Prop := ∀ a o, H a = some o → ObjOk P w H h a o
end
section
variable {P : Program} {w : World} {H H' : Hp} {h h' : Heap} {a : Addr} {o : HO}
theorem ObjOk.lt (x : ObjOk P w H h a o) : a < h.objs.size := by
 cases o with
 | lst xs => obtain ⟨_, _, _, _, e⟩ := x; exact Heap.lt_size e
 | tup xs => obtain ⟨_, _, _, p⟩ := x; exact p.lt
 | dK kvs => obtain ⟨_, _, _, _, o, _, _, e, _⟩ := x; exact Heap.lt_size e
 | dT kvs => obtain ⟨_, _, _, _, o, _, _, e, _⟩ := x; exact Heap.lt_size e
 | set S n => obtain ⟨o, _, _, _, e, _⟩ := x; exact Heap.lt_size e
 | ins C dx fs => obtain ⟨_, _, _, e, _⟩ := x; exact Heap.lt_size e
 | own y => obtain ⟨_, e⟩ := x; exact Heap.lt_size e
 | xd fs => obtain ⟨_, ⟨_, _, _, e, _⟩, _⟩ := x; exact Heap.lt_size e
 | rng lo hi => obtain ⟨_, _, _, e⟩ := x; exact Heap.lt_size e
 | frz ob u => obtain ⟨e, _⟩ := x; exact Heap.lt_size e
 | tbl ps => exact Heap.lt_size (show h.get? a = some _ from x)
 | met f y => exact Heap.lt_size (show h.get? a = some _ from x)
 | ext φ => obtain ⟨_, ⟨_, e⟩, _⟩ := x; exact Heap.lt_size e
theorem Paired.mapP {α β : Type} {F G : α → β → Prop} : ∀ {l₁ : List α} {l₂ : List β}, Paired F l₁ l₂ → (∀ a b, F a b → G a b) → Paired G l₁ l₂
 | _, _, .nil, _ => .nil
 | _, _, .cons r t, f => .cons (f _ _ r) (Paired.mapP t f)
theorem ObjOk.stay (x : ObjOk P w H h a o) (k : ∀ b u, (b = a ∨ H b = some (.own a)) → h.get? b = some u → h'.get? b = some u)
  (ho : ∀ b, H b = some (.own a) → H' b = some (.own a)) (ht : ∀ b xs, H b = some (.tup xs) → H' b = some (.tup xs)) : ObjOk P w H' h' a o := by
 induction o with
 | lst xs => obtain ⟨z, its, n, r, e⟩ := x; exact ⟨z, its, n, r, k _ _ (.inl rfl) e⟩
 | tup xs => obtain ⟨z, its, r, ob, e, c⟩ := x; exact ⟨z, its, r, ob, k _ _ (.inl rfl) e, c⟩
 | dK kvs => obtain ⟨z, y, vs, r, ob, es, ep, e, c⟩ := x; exact ⟨z, y, vs, r, ob, es, ep, k _ _ (.inl rfl) e, c⟩
 | dT kvs =>
  obtain ⟨z, y, xs, r, ob, es, ep, e, c⟩ := x
  exact ⟨z, y, xs, Paired.mapP r fun p q z => ⟨z.1, ht _ _ z.2.1, z.2.2⟩, ob, es, ep, k _ _ (.inl rfl) e, c⟩
 | set S n => obtain ⟨ob, es, ep, t, e, c⟩ := x; exact ⟨ob, es, ep, t, k _ _ (.inl rfl) e, c⟩
 | ins C dx fs =>
  obtain ⟨d, z, ne, e, mA, ⟨od, es, ep, e2, c⟩, r⟩ := x
  exact ⟨ho _ d, z, ne, k _ _ (.inl rfl) e, mA, ⟨od, es, ep, k _ _ (.inr d) e2, c⟩, r⟩
 | own y => obtain ⟨ob, e⟩ := x; exact ⟨ob, k _ _ (.inl rfl) e⟩
 | xd fs => obtain ⟨mA, ⟨od, es, ep, e, c⟩, r⟩ := x; exact ⟨mA, ⟨od, es, ep, k _ _ (.inl rfl) e, c⟩, r⟩
 | rng lo hi => obtain ⟨t, u, v, e⟩ := x; exact ⟨t, u, v, k _ _ (.inl rfl) e⟩
 | frz ob u ih => obtain ⟨e, q⟩ := x; exact ⟨k _ _ (.inl rfl) e, ih q⟩
 | tbl ps =>
  have e : h.get? a = some { cls := .none, data := .fields ps } := x
  show h'.get? a = some { cls := .none, data := .fields ps }
  exact k a _ (.inl rfl) e
 | met f y =>
  have e : h.get? a = some (PySem.W.methodObj (.ref f) (.ref y)) := x
  show h'.get? a = some (PySem.W.methodObj (.ref f) (.ref y))
  exact k a _ (.inl rfl) e
 | ext φ => obtain ⟨p, ⟨o, e⟩, st⟩ := x; exact ⟨st _ _ p fun o q => k _ _ (.inl rfl) q, ⟨o, k _ _ (.inl rfl) e⟩, st⟩
theorem HOk.lt (x : HOk P w H h) (e : H a = some o) : a < h.objs.size := (x a o e).lt
theorem HOk.fresh (x : HOk P w H h) (e : h.objs.size ≤ a) : H a = none := by
 cases q : H a with
 | none => rfl
 | some u => exact absurd (Nat.lt_of_lt_of_le (x.lt q) e) (Nat.lt_irrefl _)
theorem HOk.kept (x : HOk P w H h) (k : ∀ b u, h.get? b = some u → h'.get? b = some u) : HOk P w H h' := fun a o e =>
 (x a o e).stay (fun b u _ q => k b u q) (fun _ q => q) fun _ _ q => q
theorem HOk.laid (x : HOk P w H h) (k : ∀ b u, h.get? b = some u → h'.get? b = some u) (hp : h.objs.size ≤ a) (new : ObjOk P w (upd H a o) h' a o) : HOk P w (upd H a o) h' := fun b u e => by
 have hn := x.fresh hp
 by_cases hb : b = a
 ·subst hb; rw [upd_same] at e; cases e; exact new
 ·rw [upd_ne hb] at e
  exact (x b u e).stay (fun c v _ q => k c v q) (fun c q => by rw [upd_ne (ne_of_none q hn)]; exact q) fun c xs q => by rw [upd_ne (ne_of_none q hn)]; exact q
end
noncomputable def Rd (H : Hp) (a : Addr) (u : HO) : Prop := H a = some u ∨ ∃ o, H a = some (.frz o u)
theorem Rd.ok {P : Program} {w : World} {H : Hp} {h : Heap} {a : Addr} {u : HO} (r : Rd H a u) (x : HOk P w H h) : ObjOk P w H h a u := by
 rcases r with r | ⟨o, r⟩
 ·exact x a u r
 ·obtain ⟨_, q⟩ := x a _ r
  exact q
noncomputable def Mut : Option HO → Prop
 | some (.lst _) => True
 | some (.dK _) => True
 | some (.dT _) => True
 | some (.set _ _) => True
 | some (.ins _ _ _) => True
 | some (.ext _) => True
 | _ => False
section
variable {P : Program} {w : World} {H : Hp} {h h' : Heap} {x e : Addr} {o' : HO}
theorem HOk.write (ok : HOk P w H h) (mu : Mut (H x)) (he : e = x ∨ H e = some (.own x)) (k : ∀ b u, b ≠ e → h.get? b = some u → h'.get? b = some u) (heo : ∃ u, h'.get? e = some u)
  (new : ObjOk P w (upd H x o') h' x o') : HOk P w (upd H x o') h' := fun b u q => by
 have nown : ∀ c y, H c = some (.own y) → c ≠ x := fun c y r z => by subst z; rw [r] at mu; exact mu
 have ntup : ∀ c xs, H c = some (.tup xs) → c ≠ x := fun c xs r z => by subst z; rw [r] at mu; exact mu
 by_cases hb : b = x
 ·subst hb; rw [upd_same] at q; cases q; exact new
 ·rw [upd_ne hb] at q
  by_cases hbe : b = e
  ·have q' : H b = some (.own x) := by
    rcases he with z | z
    ·exact absurd (hbe.trans z) hb
    ·rw [hbe]; exact z
   rw [q] at q'; cases q'
   obtain ⟨v, hv⟩ := heo
   exact ⟨v, by rw [hbe]; exact hv⟩
  ·refine (ok b u q).stay (fun c v hc r => k c v ?_ r) (fun c r => by rw [upd_ne (nown c b r)]; exact r) fun c xs r => by rw [upd_ne (ntup c xs r)]; exact r
   rcases hc with rfl | hc
   ·exact hbe
   ·rintro rfl
    rcases he with z | z
    ·exact nown c b hc z
    ·rw [hc] at z; cases z; exact hb rfl
end
structure Un (fs ex : List Addr) (H H' : Hp) (h h' : Heap) : Prop where
 keep : ∀ b o, h.get? b = some o → H b = none → b ∉ fs → b ∉ ex → h'.get? b = some o
 slot : ∀ b o, h.get? b = some o → H b = none → b ∈ fs → b ∉ ex → ∃ sl, h'.get? b = some { o with slots := sl }
 free : ∀ b o, h.get? b = some o → H b = none → b ∉ ex → H' b = none
 there : ∀ b o, h.get? b = some o → b ∉ ex → ∃ o', h'.get? b = some o'
 tups : ∀ b xs, H b = some (.tup xs) → H' b = some (.tup xs)
 frzs : ∀ b o u, H b = some (.frz o u) → H' b = some (.frz o u)
 tbls : ∀ b ps, H b = some (.tbl ps) → ∃ more, H' b = some (.tbl (ps ++ more))
section
variable {fs fs' ex ex' : List Addr} {H H1 H2 : Hp} {h h1 h2 h' : Heap} {a x e : Addr} {o : HO}
theorem Un.any (u : Un fs ex H H1 h h1) {b : Addr} {ob : Obj} (q : h.get? b = some ob) (n : H b = none) (hx : b ∉ ex) : ∃ sl, h1.get? b = some { ob with slots := sl } := by
 by_cases hb : b ∈ fs
 ·exact u.slot b ob q n hb hx
 ·exact ⟨ob.slots, u.keep b ob q n hb hx⟩
theorem Un.kept (k : ∀ b u, h.get? b = some u → h'.get? b = some u) : Un fs ex H H h h' :=
 ⟨fun b ob q _ _ _ => k b ob q, fun b ob q _ _ _ => ⟨ob.slots, k b ob q⟩, fun _ _ _ n _ => n, fun b ob q _ => ⟨ob, k b ob q⟩, fun _ _ q => q, fun _ _ _ q => q, fun _ ps q => ⟨#[], by rw [q]; simp⟩⟩
theorem Un.refl : Un fs ex H H h h := Un.kept fun _ _ q => q
theorem Un.laid (k : ∀ b u, h.get? b = some u → h'.get? b = some u) (hp : h.objs.size ≤ a) (hn : H a = none) : Un fs ex H (upd H a o) h h' where
 keep := fun b u q _ _ _ => k b u q
 slot := fun b u q _ _ _ => ⟨u.slots, k b u q⟩
 free := fun b u q n _ => by rw [upd_ne (Nat.ne_of_lt (Nat.lt_of_lt_of_le (Heap.lt_size q) hp))]; exact n
 there := fun b u q _ => ⟨u, k b u q⟩
 tups := fun b xs q => by rw [upd_ne (ne_of_none q hn)]; exact q
 frzs := fun b u xs q => by rw [upd_ne (ne_of_none q hn)]; exact q
 tbls := fun b ps q => ⟨#[], by rw [upd_ne (ne_of_none q hn), q]; simp⟩
theorem Un.write (mu : Mut (H x)) (he : e = x ∨ H e = some (.own x)) (k : ∀ b u, b ≠ e → h.get? b = some u → h'.get? b = some u) (heo : ∃ u, h'.get? e = some u) : Un fs ex H (upd H x o) h h' := by
 have hx : ∀ b, H b = none → b ≠ x := fun b n z => by subst z; rw [n] at mu; exact mu
 have hb : ∀ b, H b = none → b ≠ e := fun b n z => by
  subst z
  rcases he with r | r
  ·exact hx b n r
  ·rw [n] at r; cases r
 have hm : ∀ b u, H b = some u → ¬ Mut (some u) → b ≠ x := fun b u q nm z => by subst z; rw [q] at mu; exact nm mu
 refine ⟨fun b u q n _ _ => k b u (hb b n) q, fun b u q n _ _ => ⟨u.slots, k b u (hb b n) q⟩, fun b u q n _ => by rw [upd_ne (hx b n)]; exact n, fun b u q _ => ?_,
  fun b xs q => by rw [upd_ne (hm b _ q fun z => z)]; exact q, fun b u xs q => by rw [upd_ne (hm b _ q fun z => z)]; exact q, fun b ps q => ⟨#[], by rw [upd_ne (hm b _ q fun z => z), q]; simp⟩⟩
 by_cases hbe : b = e
 ·subst hbe; exact heo
 ·exact ⟨u, k b u hbe q⟩
end
noncomputable def trk (h : Heap) (H : Hp) : List Addr := (List.range h.objs.size).filter fun a => (H a).isSome
noncomputable def hidT (h : Heap) (H : Hp) : Heap := PySem.W.hideAll h (trk h H)
theorem hidT_size (h : Heap) (H : Hp) : (hidT h H).objs.size = h.objs.size := PySem.W.hideAll_size _ _
theorem hidT_get {h : Heap} {H : Hp} {b : Addr} {o : Obj} (e : h.get? b = some o) (n : H b = none) : (hidT h H).get? b = some o :=
 PySem.W.hideAll_get _ e fun hm => by
  have q : (H b).isSome = true := (List.mem_filter.mp hm).2
  rw [n] at q; simp at q
theorem of_hidT {h : Heap} {H : Hp} {b : Addr} {o : Obj} (e : (hidT h H).get? b = some o) : h.get? b = some o ∧ H b = none := by
 have e' : h.get? b = some o := PySem.W.of_hideAll (trk h H) e
 refine ⟨e', ?_⟩
 cases q : H b with
 | none => rfl
 | some x =>
  have hm : b ∈ trk h H := List.mem_filter.mpr ⟨List.mem_range.mpr (Heap.lt_size e'), by simp [q]⟩
  have z : (hidT h H).get? b = none := PySem.W.hideAll_none (trk h H) hm
  rw [z] at e; cases e
noncomputable def allNews (g h : Heap) (L : Addr) : List (Addr × Obj) := (List.range h.objs.size).filterMap fun a => if a = L ∨ (g.get? a).isSome = true then none else (h.get? a).map fun o => (a, o)
noncomputable def rest (g h : Heap) (L d : Addr) : List (Addr × Obj) := (allNews g h L).filter fun p => decide (p.1 ≠ d)
end L2
namespace L2
open PySem PySem.Spec PyProof.Rows
structure Mod (K : PySem.W.Frag) (mg : Str → Option Value) (base : Heap) : Prop where
 kin : K.In base
 glob : base.Ns mainGlobals mg
 blt : ∃ mb, base.Ns builtinsNs mb ∧ ∀ x : Str, x ≠ "__name__" → mb x = bootBuiltins x
 nolimit : base.NoLimit
structure Cx where
 prog : Program
 w : World
 K : PySem.W.Frag
 mg : Str → Option Value
 base : Heap
 A : Around
 N : List Str
 s₀ : Shared
 H₀ : Hp
 env : Env
 outer : List Env
 stack : List Env
 ex : List Addr
 fn : Str → Bool
 calm : Bool
 pn : List (Addr × Obj)
 xe : Value → Shared → Prop
noncomputable def frs (l : List Env) : List Addr := l.filterMap (·.frame)
noncomputable abbrev Cx.fs (X : Cx) : List Addr := frs X.outer
noncomputable def Vis (sc : Scope) (x : Str) : Prop := sc.names.lookup x = some .local ∨ sc.names.lookup x = some .cell ∨ sc.names.lookup x = some .free
noncomputable def Loc (sc : Scope) (x : Str) : Prop := sc.names.lookup x = some .local ∨ sc.names.lookup x = some .cell
noncomputable def Look (env : Env) (h : Heap) (m : Str → Option Value) (x : Str) (u : Value) : Prop :=
 (env.kindOf x = some .local ∧ m x = some u) ∨ ((env.kindOf x = some .cell ∨ env.kindOf x = some .free) ∧ ∃ c, env.cells.lookup x = some c ∧ h.IsCell c (some u))
structure Cx.Ok (X : Cx) : Prop where
 mod : Mod X.K X.mg X.base
 kind : X.env.scope.kind = .function
 glob : X.env.globals = mainGlobals
 blt : X.env.builtins = builtinsNs
 above : X.s₀.heap.objs.size ≤ X.env.locals
 inj : ∀ x y c, X.env.cells.lookup x = some c → X.env.cells.lookup y = some c → x = y
 has : ∀ x, (X.env.kindOf x = some .cell ∨ X.env.kindOf x = some .free) → ∃ c, X.env.cells.lookup x = some c
 cab : ∀ x c, X.fn x = true → X.env.cells.lookup x = some c → X.s₀.heap.objs.size ≤ c
 hd : X.calm = true → X.A.handled = none
 frames : X.A.frames = some X.stack
 stk : X.stack = X.outer ∨ (X.stack = X.env :: X.outer ∧ X.env.frame = some X.env.locals)
 exf : ∀ b ∈ X.ex, b ≠ X.env.locals ∧ ∀ x c, X.env.cells.lookup x = some c → c ≠ b
 bs : ∀ b o, X.base.get? b = some o → X.s₀.heap.get? b = some o ∧ X.H₀ b = none
 bsz : X.base.objs.size ≤ X.s₀.heap.objs.size
 noex : ∀ b o, X.base.get? b = some o → b ∉ X.ex
 exfs : ∀ b ∈ X.ex, b ∉ X.fs
 funs : X.s₀.heap.FunFrames X.base X.outer
 frf : ∀ b ∈ X.fs, X.H₀ b = none
structure Inv (X : Cx) (pins : List (Addr × Obj)) (σ : List (Option V)) (H : Hp) (s : Shared) : Prop where
 ok : X.Ok
 os : s.os = X.s₀.os
 bare : AllBare s.gens
 base : Un X.fs X.ex X.H₀ H X.s₀.heap s.heap
 loc : ∃ m, s.heap.Ns X.env.locals m ∧ ∀ (i : Nat) (x : Str) (v : V), X.N[i]? = some x → σ[i]? = some (some v) → Vis X.env.scope x → ∃ u, RelV v u ∧ Look X.env s.heap m x u
 cell : ∀ x c, X.env.cells.lookup x = some c → ∃ v, s.heap.IsCell c v
 free : H X.env.locals = none
 freeC : ∀ x c, X.env.cells.lookup x = some c → H c = none
 pin : ∀ p ∈ X.pn ++ pins, s.heap.get? p.1 = some p.2 ∧ H p.1 = none ∧ p.1 ≠ X.env.locals ∧ p.1 ∉ X.fs ∧ ∀ v, p.2.data ≠ .cell v
 hok : HOk X.prog X.w H s.heap
 len : σ.length = X.N.length
section
variable {X : Cx} {pins : List (Addr × Obj)} {σ : List (Option V)} {H H' : Hp} {s : Shared} {h' : Heap}
theorem Cx.Ok.nofr (ok : X.Ok) {b : Addr} {o : Obj} (e : X.base.get? b = some o) : b ∉ X.fs := fun hb => by
 have := (ok.funs.mem hb).1
 rw [e] at this; cases this
theorem Inv.bs (I : Inv X pins σ H s) : ∀ b o, X.base.get? b = some o → s.heap.get? b = some o ∧ H b = none := fun b o e =>
 ⟨I.base.keep b o (I.ok.bs b o e).1 (I.ok.bs b o e).2 (I.ok.nofr e) (I.ok.noex b o e), I.base.free b o (I.ok.bs b o e).1 (I.ok.bs b o e).2 (I.ok.noex b o e)⟩
theorem Inv.bk (I : Inv X pins σ H s) : ∀ b o, X.base.get? b = some o → s.heap.get? b = some o := fun b o e => (I.bs b o e).1
theorem Inv.mod (I : Inv X pins σ H s) : Mod X.K X.mg X.base := I.ok.mod
theorem Inv.kIn (I : Inv X pins σ H s) : X.K.In s.heap := I.ok.mod.kin.keeps I.bk
theorem Inv.lt (I : Inv X pins σ H s) : X.env.locals < s.heap.objs.size := let ⟨_, hn, _⟩ := I.loc; hn.lt
theorem Inv.sz (I : Inv X pins σ H s) : X.s₀.heap.objs.size ≤ s.heap.objs.size := Nat.le_trans I.ok.above (Nat.le_of_lt I.lt)
theorem Inv.nofs (I : Inv X pins σ H s) {a : Addr} (h : s.heap.objs.size ≤ a) : a ∉ X.fs := fun hb => by
 obtain ⟨_, o, ho, _⟩ := I.ok.funs.mem hb
 exact absurd (Nat.lt_of_lt_of_le (Heap.lt_size ho) (Nat.le_trans I.sz h)) (Nat.lt_irrefl _)
theorem Inv.cne (I : Inv X pins σ H s) : ∀ x c, X.env.cells.lookup x = some c → c ≠ X.env.locals := fun x c e z => by
 obtain ⟨v, o, ho, hd⟩ := I.cell x c e
 obtain ⟨m, ⟨o', es, ep, ho', hd', _⟩, _⟩ := I.loc
 rw [z, ho'] at ho; cases ho; rw [hd'] at hd; cases hd
theorem Inv.funs (I : Inv X pins σ H s) : s.heap.FunFrames X.base X.outer := by
 have all : ∀ (l : List Env), (∀ b ∈ frs l, b ∈ X.fs) → X.s₀.heap.FunFrames X.base l → s.heap.FunFrames X.base l := by
  intro l
  induction l with
  | nil => intro _ _; trivial
  | cons env r ih =>
   intro hs hl
   obtain ⟨hk, ⟨L, o, hf, hn, ho, hd⟩, hr⟩ := hl
   have hL : L ∈ X.fs := hs L (by unfold frs; rw [List.filterMap_cons, hf]; exact List.mem_cons_self)
   obtain ⟨sl, e⟩ := I.base.slot L o ho (I.ok.frf L hL) hL fun z => I.ok.exfs L z hL
   exact ⟨hk, ⟨L, _, hf, hn, e, hd⟩, ih (fun b hb => hs b (by unfold frs; rw [List.filterMap_cons, hf]; exact List.mem_cons_of_mem _ hb)) hr⟩
 exact all X.outer (fun _ hb => hb) I.ok.funs
theorem Inv.stack (I : Inv X pins σ H s) : s.heap.FunFrames X.base X.stack := by
 rcases I.ok.stk with e | ⟨e, hf⟩
 ·rw [e]; exact I.funs
 ·rw [e]
  obtain ⟨m, hn, _⟩ := I.loc
  refine .cons (by rw [I.ok.kind]; decide) hf hn ?_ I.funs
  exact Heap.get?_none_of_le (Nat.le_trans I.ok.bsz I.ok.above)
theorem Inv.stkSub (I : Inv X pins σ H s) : ∀ b ∈ frs X.stack, b ∈ X.env.locals :: X.fs := fun b hb => by
 rcases I.ok.stk with e | ⟨e, hf⟩
 ·rw [e] at hb; exact List.mem_cons_of_mem _ hb
 ·rw [e] at hb
  unfold frs at hb
  rw [List.filterMap_cons, hf] at hb
  exact hb
theorem Inv.stkFree (I : Inv X pins σ H s) : ∀ b ∈ frs X.stack, H b = none := fun b hb => by
 rcases List.mem_cons.mp (I.stkSub b hb) with e | hb
 ·rw [e]; exact I.free
 ·obtain ⟨_, o, ho, _⟩ := I.ok.funs.mem hb
  exact I.base.free b o ho (I.ok.frf b hb) fun z => I.ok.exfs b z hb
theorem Inv.step {g' : Array GenState} {t' : Nat} {d' : Drawn} {ch : List Addr} (I : Inv X pins σ H s)
  (hch : ∀ b ∈ ch, (b ∈ X.ex ∨ X.s₀.heap.objs.size ≤ b) ∧ b ≠ X.env.locals ∧ (∀ x c, X.env.cells.lookup x = some c → c ≠ b) ∧ ∀ p ∈ X.pn ++ pins, p.1 ≠ b)
  (keep : ∀ b o, b ≠ X.env.locals → b ∉ X.fs → b ∉ ch → s.heap.get? b = some o → H b = none → h'.get? b = some o)
  (slot : ∀ b o, b ≠ X.env.locals → b ∈ X.fs → b ∉ ch → s.heap.get? b = some o → H b = none → ∃ sl, h'.get? b = some { o with slots := sl }) (free : ∀ b o, b ∉ ch → s.heap.get? b = some o → H b = none → H' b = none)
  (there : ∀ b o, b ∉ ch → s.heap.get? b = some o → ∃ o', h'.get? b = some o')
  (tups : ∀ b xs, H b = some (.tup xs) → H' b = some (.tup xs)) (frzs : ∀ b o u, H b = some (.frz o u) → H' b = some (.frz o u)) (tbls : ∀ b ps, H b = some (.tbl ps) → ∃ more, H' b = some (.tbl (ps ++ more)))
  (ns : ∀ m, s.heap.Ns X.env.locals m → h'.Ns X.env.locals m) (hok : HOk X.prog X.w H' h') (hg : AllBare g') :
  Inv X pins σ H' { s with heap := h', gens := g', drawn := d', toks := t' } := by
 have neL : ∀ b o, X.s₀.heap.get? b = some o → b ≠ X.env.locals := fun b o e => Nat.ne_of_lt (Nat.lt_of_lt_of_le (Heap.lt_size e) I.ok.above)
 have neC : ∀ b o, X.s₀.heap.get? b = some o → b ∉ X.ex → b ∉ ch := fun b o e hx hb => by
  rcases (hch b hb).1 with z | z
  ·exact hx z
  ·exact absurd (Nat.lt_of_lt_of_le (Heap.lt_size e) z) (Nat.lt_irrefl _)
 have cellK : ∀ x c, X.env.cells.lookup x = some c → ∀ v, s.heap.IsCell c v → h'.IsCell c v := fun x c e v ⟨o, ho, hd⟩ => by
  have nch : c ∉ ch := fun z => (hch c z).2.2.1 x c e rfl
  by_cases hc : c ∈ X.fs
  ·obtain ⟨sl, q⟩ := slot c o (I.cne x c e) hc nch ho (I.freeC x c e)
   exact ⟨_, q, hd⟩
  ·exact ⟨o, keep c o (I.cne x c e) hc nch ho (I.freeC x c e), hd⟩
 refine ⟨I.ok, I.os, hg, ⟨fun b o e n hb hx => ?_, fun b o e n hb hx => ?_, fun b o e n hx => ?_, fun b o e hx => ?_, fun b xs e => tups b xs (I.base.tups b xs e), fun b o xs e => frzs b o xs (I.base.frzs b o xs e), fun b ps e => ?_⟩, ?_, fun x c e => ?_, ?_, fun x c e => ?_, fun p hp => ?_, hok, I.len⟩
 ·exact keep b o (neL b o e) hb (neC b o e hx) (I.base.keep b o e n hb hx) (I.base.free b o e n hx)
 ·obtain ⟨sl, e1⟩ := I.base.slot b o e n hb hx
  obtain ⟨sl', e2⟩ := slot b _ (neL b o e) hb (neC b o e hx) e1 (I.base.free b o e n hx)
  exact ⟨sl', e2⟩
 ·obtain ⟨o', e1⟩ := I.base.there b o e hx
  exact free b o' (neC b o e hx) e1 (I.base.free b o e n hx)
 ·obtain ⟨o', e1⟩ := I.base.there b o e hx
  exact there b o' (neC b o e hx) e1
 ·obtain ⟨m1, e1⟩ := I.base.tbls b ps e
  obtain ⟨m2, e2⟩ := tbls b _ e1
  exact ⟨m1 ++ m2, by rw [e2, Array.append_assoc]⟩
 ·obtain ⟨m, hn, hl⟩ := I.loc
  refine ⟨m, ns m hn, fun i x v e1 e2 e3 => ?_⟩
  obtain ⟨u, r, l⟩ := hl i x v e1 e2 e3
  refine ⟨u, r, ?_⟩
  rcases l with l | ⟨k, c, e, z⟩
  ·exact .inl l
  ·exact .inr ⟨k, c, e, cellK x c e _ z⟩
 ·obtain ⟨v, z⟩ := I.cell x c e
  exact ⟨v, cellK x c e v z⟩
 ·obtain ⟨m, ⟨o, _, _, ho, _⟩, _⟩ := I.loc
  exact free _ o (fun z => (hch _ z).2.1 rfl) ho I.free
 ·obtain ⟨v, o, ho, hd⟩ := I.cell x c e
  exact free c o (fun z => (hch c z).2.2.1 x c e rfl) ho (I.freeC x c e)
 ·obtain ⟨e, n, ne, nf, d⟩ := I.pin p hp
  have nch : p.1 ∉ ch := fun z => (hch p.1 z).2.2.2 p hp rfl
  exact ⟨keep p.1 p.2 ne nf nch e n, free p.1 p.2 nch e n, ne, nf, d⟩
theorem Inv.un {t' : Nat} (I : Inv X pins σ H s) (u : Un X.fs [] H H' s.heap h') (hok : HOk X.prog X.w H' h') : Inv X pins σ H' { s with heap := h', toks := t' } := by
 obtain ⟨m, ⟨o, es, ep, ho, r⟩, _⟩ := id I.loc
 obtain ⟨sl, hL⟩ := u.any ho I.free (by simp)
 exact I.step (g' := s.gens) (d' := s.drawn) (ch := []) (fun _ z => nomatch z) (fun b o _ hb _ e n => u.keep b o e n hb (by simp)) (fun b o _ hb _ e n => u.slot b o e n hb (by simp)) (fun b o _ e n => u.free b o e n (by simp)) (fun b o _ e => u.there b o e (by simp)) u.tups u.frzs u.tbls (fun m' hm => by
  obtain ⟨o', es', ep', ho', r'⟩ := hm
  rw [ho] at ho'; cases ho'
  exact ⟨_, es', ep', hL, r'⟩) hok I.bare
theorem Inv.call {g' : Array GenState} {t' : Nat} {d' : Drawn} {ch : List Addr} (I : Inv X pins σ H s) (u : Un (frs X.stack) ch H H' s.heap h') (hok : HOk X.prog X.w H' h') (hg : AllBare g')
  (hch : ∀ b ∈ ch, (b ∈ X.ex ∨ X.s₀.heap.objs.size ≤ b) ∧ b ≠ X.env.locals ∧ (∀ x c, X.env.cells.lookup x = some c → c ≠ b) ∧ ∀ p ∈ X.pn ++ pins, p.1 ≠ b) :
  Inv X pins σ H' { s with heap := h', gens := g', drawn := d', toks := t' } := by
 obtain ⟨m, ⟨o, es, ep, ho, r⟩, _⟩ := id I.loc
 obtain ⟨sl, hL⟩ := u.any ho I.free fun z => (hch _ z).2.1 rfl
 exact I.step (ch := ch) hch (fun b o hL hb hc e n => u.keep b o e n (fun z => (List.mem_cons.mp (I.stkSub b z)).elim hL hb) hc) (fun b o _ _ hc e n => u.any e n hc) (fun b o hc e n => u.free b o e n hc) (fun b o hc e => u.there b o e hc) u.tups u.frzs u.tbls (fun m' hm => by
  obtain ⟨o', es', ep', ho', r'⟩ := hm
  rw [ho] at ho'; cases ho'
  exact ⟨_, es', ep', hL, r'⟩) hok hg
theorem Inv.turned {t' : Nat} {it : Addr} (I : Inv X pins σ H s) (k : ∀ b o, b ≠ it → s.heap.get? b = some o → h'.get? b = some o) (hn : H it = none) (hL : it ≠ X.env.locals)
  (h1 : it ∈ X.ex ∨ X.s₀.heap.objs.size ≤ it) (h2 : ∀ x c, X.env.cells.lookup x = some c → c ≠ it) (h3 : ∀ p ∈ X.pn ++ pins, p.1 ≠ it) : Inv X pins σ H { s with heap := h', toks := t' } := by
 have nit : ∀ b u, H b = some u → b ≠ it := fun b u e z => by rw [z, hn] at e; cases e
 refine I.step (g' := s.gens) (d' := s.drawn) (ch := [it]) (fun b hb => ?_) (fun b o _ _ hc e _ => k b o (fun z => hc (by simp [z])) e) (fun b o _ _ hc e _ => ⟨o.slots, k b o (fun z => hc (by simp [z])) e⟩) (fun _ _ _ _ n => n)
  (fun b o hc e => ⟨o, k b o (fun z => hc (by simp [z])) e⟩) (fun _ _ e => e) (fun _ _ _ e => e) (fun b ps e => ⟨#[], by rw [e]; simp⟩) (fun m hm => ?_) (fun b u e => ?_) I.bare
 ·have e : b = it := by simpa using hb
  subst e
  exact ⟨h1, hL, h2, h3⟩
 ·obtain ⟨o, es, ep, ho, r⟩ := hm
  exact ⟨o, es, ep, k _ o (Ne.symm hL) ho, r⟩
 ·refine (I.hok b u e).stay (fun c v hc q => k c v ?_ q) (fun _ q => q) fun _ _ q => q
  rcases hc with z | z
  ·rw [z]; exact nit b u e
  ·exact nit c _ z
theorem Inv.tok (I : Inv X pins σ H s) (t : Nat) : Inv X pins σ H { s with toks := t } := I.un (h' := s.heap) (t' := t) Un.refl I.hok
theorem Inv.kept {t' : Nat} (I : Inv X pins σ H s) (k : ∀ b u, s.heap.get? b = some u → h'.get? b = some u) : Inv X pins σ H { s with heap := h', toks := t' } := I.un (Un.kept k) (I.hok.kept k)
theorem Inv.laid {a : Addr} {o : HO} {t' : Nat} (I : Inv X pins σ H s) (k : ∀ b u, s.heap.get? b = some u → h'.get? b = some u) (hp : s.heap.objs.size ≤ a) (new : ObjOk X.prog X.w (upd H a o) h' a o) :
  Inv X pins σ (upd H a o) { s with heap := h', toks := t' } := I.un (Un.laid k hp (I.hok.fresh hp)) (I.hok.laid k hp new)
theorem Inv.write {x e : Addr} {o : HO} {t' : Nat} (I : Inv X pins σ H s) (mu : Mut (H x)) (he : e = x ∨ H e = some (.own x)) (k : ∀ b u, b ≠ e → s.heap.get? b = some u → h'.get? b = some u) (heo : ∃ u, h'.get? e = some u)
  (new : ObjOk X.prog X.w (upd H x o) h' x o) : Inv X pins σ (upd H x o) { s with heap := h', toks := t' } := I.un (Un.write mu he k heo) (I.hok.write mu he k heo new)
theorem Inv.pins_of {pins' : List (Addr × Obj)} (I : Inv X pins σ H s) (h : ∀ p ∈ pins', s.heap.get? p.1 = some p.2 ∧ H p.1 = none ∧ p.1 ≠ X.env.locals ∧ p.1 ∉ X.fs ∧ ∀ v, p.2.data ≠ .cell v) : Inv X pins' σ H s :=
 ⟨I.ok, I.os, I.bare, I.base, I.loc, I.cell, I.free, I.freeC, fun p hp => (List.mem_append.mp hp).elim (fun z => I.pin p (List.mem_append_left _ z)) (h p), I.hok, I.len⟩
theorem nodup_ix {N : List Str} (hN : N.Nodup) {i j : Nat} {x : Str} (a : N[i]? = some x) (b : N[j]? = some x) : i = j := by
 obtain ⟨h1, e1⟩ := List.getElem?_eq_some_iff.mp a
 obtain ⟨h2, e2⟩ := List.getElem?_eq_some_iff.mp b
 exact (List.getElem_inj hN).mp (e1.trans e2.symm)
theorem store_ok2 {M : Model} {A : Around} {E : Value → Shared → Prop} {i : Nat} {x : Str} {v : V} {u : Value} {Q : Unit → Shared → Prop} (I : Inv X pins σ H s) (hN : X.N.Nodup) (hi : X.N[i]? = some x) (hx : Loc X.env.scope x) (r : RelV v u)
  (h : ∀ s', Inv X pins (σ.set i (some v)) H s' → (∃ a, Heap.SameBut a s.heap s'.heap ∧ (a = X.env.locals ∨ X.env.cells.lookup x = some a)) → Q () s') (hf : X.fn x = true ∨ X.env.scope.names.lookup x = some .local := by first | exact .inl rfl | exact .inr rfl | assumption) : wpAny M A (storeName X.env x u) Q E s := by
 obtain ⟨m, hn, hl⟩ := id I.loc
 have hcls : (X.env.scope.kind == .class || (X.env.scope.kind == .module && X.env.locals != X.env.globals)) = false := by rw [I.ok.kind]; rfl
 have hiσ : i < σ.length := by rw [I.len]; exact (List.getElem?_eq_some_iff.mp hi).1
 have cne := I.cne
 have tracked : ∀ {a : Addr} {h' : Heap}, (∃ o, s.heap.get? a = some o ∧ H a = none) → Heap.SameBut a s.heap h' → HOk X.prog X.w H h' := fun {a h'} ha hs b ob e => by
  obtain ⟨_, _, hfree⟩ := ha
  refine (I.hok b ob e).stay (fun c w' hc q => (hs.2 c ?_).trans q) (fun _ q => q) fun _ _ q => q
  rintro rfl
  rcases hc with rfl | hc
  ·rw [hfree] at e; cases e
  ·rw [hfree] at hc; cases hc
 rcases hx with hk | hk
 ·refine wpAny_storeName_local hk hn (fun h' hn' hs => ?_) hcls
  obtain ⟨oL, _, _, hoL, _⟩ := id hn
  refine h _ ⟨I.ok, I.os, I.bare, ⟨fun b o e n hb hx => ?_, fun b o e n hb hx => ?_, I.base.free, fun b o e hx => ?_, I.base.tups, I.base.frzs, I.base.tbls⟩, ⟨_, hn', fun j y v' e1 e2 e3 => ?_⟩, fun y c e => ?_, I.free, I.freeC, fun p hp => ?_, tracked ⟨oL, hoL, I.free⟩ hs, by simpa using I.len⟩ ⟨_, hs, .inl rfl⟩
  ·exact (hs.2 b (Nat.ne_of_lt (Nat.lt_of_lt_of_le (Heap.lt_size e) I.ok.above))).trans (I.base.keep b o e n hb hx)
  ·obtain ⟨sl, e1⟩ := I.base.slot b o e n hb hx
   exact ⟨sl, (hs.2 b (Nat.ne_of_lt (Nat.lt_of_lt_of_le (Heap.lt_size e) I.ok.above))).trans e1⟩
  ·obtain ⟨o', e1⟩ := I.base.there b o e hx
   exact ⟨o', (hs.2 b (Nat.ne_of_lt (Nat.lt_of_lt_of_le (Heap.lt_size e) I.ok.above))).trans e1⟩
  ·by_cases hj : j = i
   ·subst hj
    rw [hi] at e1; cases e1
    rw [List.getElem?_set_self hiσ] at e2
    cases e2
    exact ⟨u, r, .inl ⟨hk, by simp⟩⟩
   ·rw [List.getElem?_set_ne (Ne.symm hj)] at e2
    obtain ⟨u', r', q⟩ := hl j y v' e1 e2 e3
    refine ⟨u', r', ?_⟩
    rcases q with ⟨k, e⟩ | ⟨k, c, e, z⟩
    ·refine .inl ⟨k, ?_⟩
     have : y ≠ x := fun e => hj (nodup_ix hN e1 (e ▸ hi))
     simp [this, e]
    ·exact .inr ⟨k, c, e, z.sameBut hs (cne y c e)⟩
  ·obtain ⟨w', z⟩ := I.cell y c e
   exact ⟨w', z.sameBut hs (cne y c e)⟩
  ·obtain ⟨e, n, ne, nf, d⟩ := I.pin p hp
   exact ⟨(hs.2 p.1 ne).trans e, n, ne, nf, d⟩
 ·have hfn : X.fn x = true := by
   rcases hf with z | z
   ·exact z
   ·rw [z] at hk; cases hk
  obtain ⟨c, hc⟩ := I.ok.has x (.inl hk)
  obtain ⟨w', z⟩ := I.cell x c hc
  refine wpAny_storeName_cell I.ok.kind hk hc z (fun h' hc' hs => ?_)
  obtain ⟨oc, hoc, hocd⟩ := id z
  refine h { s with heap := h' } ⟨I.ok, I.os, I.bare, ⟨fun b o e n hb hx => ?_, fun b o e n hb hx => ?_, I.base.free, fun b o e hx => ?_, I.base.tups, I.base.frzs, I.base.tbls⟩, ⟨m, hn.sameBut hs (Ne.symm (cne x c hc)), fun j y v' e1 e2 e3 => ?_⟩, fun y c' e => ?_, I.free, I.freeC, fun p hp => ?_, tracked ⟨oc, hoc, I.freeC x c hc⟩ hs, by simpa using I.len⟩ ⟨c, hs, .inr hc⟩
  ·exact (hs.2 b (Nat.ne_of_lt (Nat.lt_of_lt_of_le (Heap.lt_size e) (I.ok.cab x c hfn hc)))).trans (I.base.keep b o e n hb hx)
  ·obtain ⟨sl, e1⟩ := I.base.slot b o e n hb hx
   exact ⟨sl, (hs.2 b (Nat.ne_of_lt (Nat.lt_of_lt_of_le (Heap.lt_size e) (I.ok.cab x c hfn hc)))).trans e1⟩
  ·obtain ⟨o', e1⟩ := I.base.there b o e hx
   exact ⟨o', (hs.2 b (Nat.ne_of_lt (Nat.lt_of_lt_of_le (Heap.lt_size e) (I.ok.cab x c hfn hc)))).trans e1⟩
  ·by_cases hj : j = i
   ·subst hj
    rw [hi] at e1; cases e1
    rw [List.getElem?_set_self hiσ] at e2
    cases e2
    exact ⟨u, r, .inr ⟨.inl hk, c, hc, hc'⟩⟩
   ·rw [List.getElem?_set_ne (Ne.symm hj)] at e2
    obtain ⟨u', r', q⟩ := hl j y v' e1 e2 e3
    refine ⟨u', r', ?_⟩
    rcases q with q | ⟨k, c', e, z'⟩
    ·exact .inl q
    ·refine .inr ⟨k, c', e, z'.sameBut hs ?_⟩
     rintro rfl
     exact hj (nodup_ix hN e1 (I.ok.inj _ _ _ e hc ▸ hi))
  ·by_cases hcc : c' = c
   ·subst hcc; exact ⟨_, hc'⟩
   ·obtain ⟨w2, z2⟩ := I.cell y c' e
    exact ⟨w2, z2.sameBut hs hcc⟩
  ·obtain ⟨e, n, ne, nf, d⟩ := I.pin p hp
   refine ⟨(hs.2 p.1 ?_).trans e, n, ne, nf, d⟩
   intro q
   rw [q, hoc] at e
   have q' : oc = p.2 := Option.some.inj e
   exact d w' (by rw [← q']; exact hocd)
theorem store_ok {M : Model} {A : Around} {E : Value → Shared → Prop} {i : Nat} {x : Str} {v : V} {u : Value} {Q : Unit → Shared → Prop} (I : Inv X pins σ H s) (hN : X.N.Nodup) (hi : X.N[i]? = some x) (hx : Loc X.env.scope x) (r : RelV v u)
  (h : ∀ s', Inv X pins (σ.set i (some v)) H s' → Q () s') (hf : X.fn x = true ∨ X.env.scope.names.lookup x = some .local := by first | exact .inl rfl | exact .inr rfl | assumption) : wpAny M A (storeName X.env x u) Q E s :=
 store_ok2 I hN hi hx r (fun s' I' _ => h s' I') hf
theorem Inv.call' {s' : Shared} {ch : List Addr} (I : Inv X pins σ H s) (ho : s'.os = s.os) (u : Un (frs X.stack) ch H H' s.heap s'.heap) (hok : HOk X.prog X.w H' s'.heap) (hg : AllBare s'.gens)
  (hch : ∀ b ∈ ch, (b ∈ X.ex ∨ X.s₀.heap.objs.size ≤ b) ∧ b ≠ X.env.locals ∧ (∀ x c, X.env.cells.lookup x = some c → c ≠ b) ∧ ∀ p ∈ X.pn ++ pins, p.1 ≠ b) : Inv X pins σ H' s' := by
 obtain ⟨h', g', d', t', o'⟩ := s'
 have e : o' = s.os := ho
 subst e
 exact I.call (g' := g') (t' := t') (d' := d') u hok hg hch
end
noncomputable abbrev XK := Value → Option Addr → Hp → Prop
noncomputable abbrev St := List (Option V)
noncomputable abbrev VK := V → Hp → Prop
noncomputable abbrev TE := St → Hp → VK → Prop
noncomputable abbrev TT := St → Hp → (Bool → Hp → Prop) → Prop
noncomputable abbrev TA := St → Hp → (List V → Hp → Prop) → Prop
structure Ends where
 nx : St → Hp → Prop
 rt : VK
 bk : St → Hp → Prop := fun _ _ => False
 ct : St → Hp → Prop := fun _ _ => False
noncomputable abbrev TS := Ends → St → Hp → Prop
noncomputable def EP (X : Cx) (pins : List (Addr × Obj)) (σ : St) (Q : VK) (u : Value) (s' : Shared) : Prop := ∃ v H', Inv X pins σ H' s' ∧ RelV v u ∧ Q v H'
noncomputable def TP (X : Cx) (pins : List (Addr × Obj)) (σ : St) (Q : Bool → Hp → Prop) (b : Bool) (s' : Shared) : Prop := ∃ H', Inv X pins σ H' s' ∧ Q b H'
noncomputable def AP (X : Cx) (pins : List (Addr × Obj)) (σ : St) (Q : List V → Hp → Prop) (us : List Value) (s' : Shared) : Prop := ∃ vs H', Inv X pins σ H' s' ∧ Vals vs us ∧ Q vs H'
noncomputable def SP (X : Cx) (pins : List (Addr × Obj)) (D : Ends) (f : Flow) (s' : Shared) : Prop :=
 match f with
 | .next => ∃ σ' H', Inv X pins σ' H' s' ∧ D.nx σ' H'
 | .brk => ∃ σ' H', Inv X pins σ' H' s' ∧ D.bk σ' H'
 | .cont => ∃ σ' H', Inv X pins σ' H' s' ∧ D.ct σ' H'
 | .ret u => ∃ v σ' H', Inv X pins σ' H' s' ∧ RelV v u ∧ D.rt v H'
noncomputable def PE (X : Cx) (e : Expr) (t : TE) : Prop :=
 ∀ (pins : List (Addr × Obj)) (s : Shared) (σ : St) (H : Hp) (Q : VK), Inv X pins σ H s → t σ H Q → wpAny (model X.prog X.w) X.A (eval e X.env) (EP X pins σ Q) X.xe s
noncomputable def PT (X : Cx) (e : Expr) (t : TT) : Prop :=
 ∀ (pins : List (Addr × Obj)) (s : Shared) (σ : St) (H : Hp) (Q : Bool → Hp → Prop), Inv X pins σ H s → t σ H Q → wpAny (model X.prog X.w) X.A (isTrue e X.env (eval e X.env)) (TP X pins σ Q) X.xe s
noncomputable def PW (X : Cx) (e : Expr) (t : TT) : Prop :=
 ∀ (whole : Sem Value) (pins : List (Addr × Obj)) (s : Shared) (σ : St) (H : Hp) (Q : Bool → Hp → Prop), Inv X pins σ H s → t σ H Q → wpAny (model X.prog X.w) X.A (isTrue e X.env whole) (TP X pins σ Q) X.xe s
theorem PW.pt {X : Cx} {e : Expr} {t : TT} (h : PW X e t) : PT X e t := h _
noncomputable def PA (X : Cx) (es : List Expr) (t : TA) : Prop :=
 ∀ (pos : Pos) (pins : List (Addr × Obj)) (s : Shared) (σ : St) (H : Hp) (Q : List V → Hp → Prop), Inv X pins σ H s → t σ H Q → wpAny (model X.prog X.w) X.A (spliced (backTo pos (starEach es X.env))) (AP X pins σ Q) X.xe s
noncomputable def PS (X : Cx) (st : Stmt) (t : TS) : Prop :=
 ∀ (pins : List (Addr × Obj)) (s : Shared) (σ : St) (H : Hp) (D : Ends), Inv X pins σ H s → t D σ H → wpAny (model X.prog X.w) X.A (exec st X.env) (SP X pins D) X.xe s
noncomputable def PSs (X : Cx) (st : List Stmt) (t : TS) : Prop :=
 ∀ (pins : List (Addr × Obj)) (s : Shared) (σ : St) (H : Hp) (D : Ends), Inv X pins σ H s → t D σ H → wpAny (model X.prog X.w) X.A (execs st X.env) (SP X pins D) X.xe s
theorem thn {α : Type} {t : Sem α} {Q Q' : α → Shared → Prop} {M : Model} {A : Around} {E : Value → Shared → Prop} {s : Shared} (h : wpAny M A t Q E s) (hQ : ∀ a s, Q a s → Q' a s) : wpAny M A t Q' E s := wpAny_mono h hQ fun _ _ x => x
end L2
namespace L2
open PySem PySem.Spec PyProof.Rows
section
variable {X : Cx}
noncomputable def tVar (i : Nat) : TE := fun σ H Q => ∃ v, σ[i]? = some (some v) ∧ Q v H
noncomputable def tC (v : V) : TE := fun _ H Q => Q v H
theorem pe_var {i : Nat} {x : Str} {pos : Pos} (hN : X.N[i]? = some x) (hv : Vis X.env.scope x) (hd : (x == ("__debug__" : Str)) = false := by decide) (hcd : (x == ("__classdict__" : Str)) = false := by decide) : PE X (.Name x pos) (tVar i) := by
 intro pins s σ H Q I h
 obtain ⟨v, e, h⟩ := h
 obtain ⟨m, hn, hl⟩ := I.loc
 obtain ⟨u, r, l⟩ := hl i x v hN e hv
 have fin : EP X pins σ Q u s := ⟨v, H, I, r, h⟩
 rcases l with ⟨hk, hm⟩ | ⟨hk, c, hc, hcell⟩
 ·exact wpAny_Name (wpAny_loadName_local I.ok.kind hk hn hm fin) hd
 ·rcases hk with hk | hk
  ·exact wpAny_Name (wpAny_loadName_cell I.ok.kind hk hc hcell fin) hd
  ·exact wpAny_Name (wpAny_loadName_free I.ok.kind hk hc hcell fin hcd) hd
theorem pe_int {i j pos} : PE X (.Constant (.int i) j pos) (tC (.int i)) := fun _ _ _ H _ I h => wpAny_Constant_int ⟨.int i, H, I.tok _, ⟨_, rfl⟩, h⟩
theorem pe_bl {b j pos} : PE X (.Constant (.bool b) j pos) (tC (.bl b)) := fun _ _ _ H _ I h => Constant_bool ⟨.bl b, H, I, rfl, h⟩
theorem pe_non {j pos} : PE X (.Constant .none j pos) (tC .non) := fun _ _ _ H _ I h => Constant_none ⟨.non, H, I, rfl, h⟩
noncomputable def Gl (X : Cx) (x : Str) : Prop := X.env.kindOf x = some .globalImplicit
theorem ld_glob {E : Value → Shared → Prop} {pins : List (Addr × Obj)} {s : Shared} {σ : St} {H : Hp} {x : Str} {u : Value} {pos : Pos} {Q : Value → Shared → Prop} (I : Inv X pins σ H s) (hg : Gl X x) (hm : X.mg x = some u) (h : Q u s)
  (hd : (x == ("__debug__" : Str)) = false := by decide) : wpAny (model X.prog X.w) X.A (eval (.Name x pos) X.env) Q E s :=
 Calls.Name_function_global I.ok.kind hg (Calls.loadGlobal_global (by rw [I.ok.glob]; exact I.mod.glob.keeps I.bk) hm h) hd
theorem ld_blt {E : Value → Shared → Prop} {pins : List (Addr × Obj)} {s : Shared} {σ : St} {H : Hp} {x : Str} {u : Value} {pos : Pos} {Q : Value → Shared → Prop} (I : Inv X pins σ H s) (hg : Gl X x) (hm : X.mg x = none) (hv : bootBuiltins x = some u) (h : Q u s)
  (hn : x ≠ "__name__" := by decide) (hd : (x == ("__debug__" : Str)) = false := by decide) : wpAny (model X.prog X.w) X.A (eval (.Name x pos) X.env) Q E s := by
 obtain ⟨mb, h1, h2⟩ := I.mod.blt
 exact Calls.Name_function_global I.ok.kind hg (Calls.loadGlobal_builtin (by rw [I.ok.glob]; exact I.mod.glob.keeps I.bk) hm (by rw [I.ok.blt]; exact h1.keeps I.bk) ((h2 x hn).trans hv) h) hd
theorem pe_bltn {x : Str} {v : V} {u : Value} {pos : Pos} (hg : Gl X x) (hm : X.mg x = none) (hv : bootBuiltins x = some u) (r : RelV v u) (hn : x ≠ "__name__" := by decide) (hd : (x == ("__debug__" : Str)) = false := by decide) : PE X (.Name x pos) (tC v) :=
 fun _ _ _ H _ I h => ld_blt I hg hm hv ⟨v, H, I, r, h⟩ hn hd
variable {a b : Expr} {ta tb : TE} {pos : Pos}
noncomputable def tB (t : TE) : TT := fun σ H Q => t σ H fun x H1 => ∃ c, x = .bl c ∧ Q c H1
theorem pt_val {e : Expr} {t : TE} (h : PE X e t) (he : ∀ whole, isTrue e X.env whole = (do let v ← whole; standAt e.pos; holding [v] (truthy v)) := by intro _; rfl) : PT X e (tB t) := by
 intro pins s σ H Q I hw
 refine isTrue_plain (thn (h pins s σ H _ I hw) fun v s1 ⟨x, H1, I1, r1, q1⟩ => ?_) (he _)
 obtain ⟨d, rfl, q⟩ := q1
 cases r1
 exact wpAny_truthy_bool ⟨H1, I1, q⟩
variable {tA tB' : TT} {rest : List Expr}
noncomputable def tAnd (t u : TT) : TT := fun σ H Q => t σ H fun c H1 => if c = true then u σ H1 Q else Q false H1
noncomputable def tOr (t u : TT) : TT := fun σ H Q => t σ H fun c H1 => if c = true then Q true H1 else u σ H1 Q
noncomputable def tNot (t : TT) : TT := fun σ H Q => t σ H fun c H1 => Q (!c) H1
theorem pw_and1 (ha : PT X a tA) : PW X (.BoolOp .And [a] pos) tA := by
 intro wh pins s σ H Q I h
 refine isTrue_and (thn (ha pins s σ H Q I h) fun c s1 e => ?_)
 cases c with
 | true => exact isTrue_and_nil e
 | false => exact e
theorem pw_or1 (ha : PT X a tA) : PW X (.BoolOp .Or [a] pos) tA := by
 intro wh pins s σ H Q I h
 refine isTrue_or (thn (ha pins s σ H Q I h) fun c s1 e => ?_)
 cases c with
 | false => exact isTrue_or_nil e
 | true => exact e
theorem pw_and (ha : PT X a tA) (hb : PW X (.BoolOp .And (b :: rest) pos) tB') : PW X (.BoolOp .And (a :: b :: rest) pos) (tAnd tA tB') := by
 intro wh pins s σ H Q I h
 refine isTrue_and (thn (ha pins s σ H _ I h) fun c s1 ⟨H1, I1, q1⟩ => ?_)
 cases c with
 | true => exact hb wh pins s1 σ H1 Q I1 q1
 | false => exact ⟨H1, I1, q1⟩
theorem pw_or (ha : PT X a tA) (hb : PW X (.BoolOp .Or (b :: rest) pos) tB') : PW X (.BoolOp .Or (a :: b :: rest) pos) (tOr tA tB') := by
 intro wh pins s σ H Q I h
 refine isTrue_or (thn (ha pins s σ H _ I h) fun c s1 ⟨H1, I1, q1⟩ => ?_)
 cases c with
 | true => exact ⟨H1, I1, q1⟩
 | false => exact hb wh pins s1 σ H1 Q I1 q1
theorem pt_not (ha : PT X a tA) : PT X (.UnaryOp .Not a pos) (tNot tA) := by
 intro pins s σ H Q I h
 exact isTrue_not (ha pins s σ H (fun c H1 => Q (!c) H1) I h)
noncomputable def tAndV (ta tb : TE) : TE := fun σ H Q => ta σ H fun x H1 => ∃ c, x = .bl c ∧ if c = true then tb σ H1 Q else Q (.bl false) H1
theorem pe_one {op} {t : TE} (h : PE X a t) : PE X (.BoolOp op [a] pos) t := fun pins s σ H Q I hw => BoolOp_one (h pins s σ H Q I hw)
theorem pe_and (ha : PE X a ta) (hb : PE X (.BoolOp .And (b :: rest) pos) tb) : PE X (.BoolOp .And (a :: b :: rest) pos) (tAndV ta tb) := by
 intro pins s σ H Q I h
 refine BoolOp_and (thn (ha pins s σ H _ I h) fun v s1 ⟨x, H1, I1, r1, q1⟩ => ?_)
 obtain ⟨c, rfl, q1⟩ := q1
 cases r1
 refine wpAny_truthy_bool ?_
 cases c with
 | true => exact hb pins s1 σ H1 Q I1 q1
 | false => exact ⟨.bl false, H1, I1, rfl, q1⟩
noncomputable def tIf (t : TT) (ta tb : TE) : TE := fun σ H Q => t σ H fun c H1 => if c = true then ta σ H1 Q else tb σ H1 Q
theorem pe_ifExp {c : Expr} (hc : PT X c tA) (ha : PE X a ta) (hb : PE X b tb) : PE X (.IfExp c a b pos) (tIf tA ta tb) := by
 intro pins s σ H Q I h
 refine wpAny_IfExp (thn (hc pins s σ H _ I h) fun d s1 ⟨H1, I1, q1⟩ => ?_)
 cases d with
 | true => exact ha pins s1 σ H1 Q I1 q1
 | false => exact hb pins s1 σ H1 Q I1 q1
end
end L2
namespace L2
open PySem PySem.Spec PyProof.Rows
noncomputable def SqL (K : PySem.W.Frag) (H : Hp) (a : Addr) (xs : List V) : Prop :=
 Rd H a (.lst xs) ∨
  ∃ (o : Obj) (its : Array Value) (n : Nat), K.lookup a = some o ∧ o.cls = .type "list" ∧ o.dict = none ∧ o.data = .seq its n ∧ its.size ≤ sizeLine ∧ Vals xs its.toList
noncomputable def SqT (K : PySem.W.Frag) (H : Hp) (a : Addr) (xs : List V) : Prop :=
 Rd H a (.tup xs) ∨
  ∃ (o : Obj) (its : Array Value) (n : Nat), K.lookup a = some o ∧ o.cls = .type "tuple" ∧ o.data = .seq its n ∧ its.size ≤ sizeLine ∧ Vals xs its.toList
noncomputable def absV : Value → Option V
 | .none => some .non
 | .bool b => some (.bl b)
 | .int i _ => some (.int i)
 | .str x _ => some (.str x)
 | .bytes b _ => some (.byt b)
 | .float b _ => some (.flt b)
 | .ref a => some (.ref a)
 | .type n => some (.ty n)
 | _ => none
theorem RelV.abs {x : V} {u : Value} (r : RelV x u) : absV u = some x := by
 cases x with
 | non => cases r; rfl
 | bl _ => cases r; rfl
 | int _ => obtain ⟨t, rfl⟩ := r; rfl
 | str _ => obtain ⟨t, rfl⟩ := r; rfl
 | byt _ => obtain ⟨t, rfl⟩ := r; rfl
 | flt _ => obtain ⟨t, rfl⟩ := r; rfl
 | ref _ => cases r; rfl
 | ty _ => cases r; rfl
theorem RelV.inj {x y : V} {u : Value} (r : RelV x u) (q : RelV y u) : x = y := Option.some.inj (r.abs.symm.trans q.abs)
theorem Vals.inj : ∀ {xs ys : List V} {us : List Value}, Vals xs us → Vals ys us → xs = ys
 | _, _, _, .nil, .nil => rfl
 | _, _, _, .cons r t, .cons r' t' => by rw [r.inj r', Vals.inj t t']
section
variable {X : Cx} {pins : List (Addr × Obj)} {σ : St} {H : Hp} {s : Shared} {a : Addr} {xs ys : List V}
theorem SqL.of {K : PySem.W.Frag} (h : H a = some (.lst xs)) : SqL K H a xs := .inl (.inl h)
theorem SqT.of {K : PySem.W.Frag} (h : H a = some (.tup xs)) : SqT K H a xs := .inl (.inl h)
theorem Inv.list (I : Inv X pins σ H s) (h : SqL X.K H a xs) : ∃ its : List Value, Vals xs its ∧ PlainL s.heap a its.toArray ∧ xs.length ≤ sizeLine := by
 rcases h with h | ⟨o, its, n, hk, hc, hd, hs, hz, r⟩
 ·obtain ⟨z, its, n, r, e⟩ := h.ok I.hok
  exact ⟨its, r, ⟨_, n, e, rfl, rfl, rfl⟩, z⟩
 ·refine ⟨its.toList, r, ⟨o, n, I.kIn a o hk, hc, hd, by simpa using hs⟩, ?_⟩
  have e := r.length
  simp only [Array.length_toList] at e
  omega
theorem Inv.tuple (I : Inv X pins σ H s) (h : SqT X.K H a xs) : ∃ its : List Value, Vals xs its ∧ IsTup s.heap a its.toArray ∧ xs.length ≤ sizeLine := by
 rcases h with h | ⟨o, its, n, hk, hc, hs, hz, r⟩
 ·obtain ⟨z, its, r, p⟩ := h.ok I.hok
  exact ⟨its, r, p, z⟩
 ·refine ⟨its.toList, r, ⟨o, I.kIn a o hk, hc, n, by simpa using hs⟩, ?_⟩
  have e := r.length
  simp only [Array.length_toList] at e
  omega
theorem Inv.list_inj (I : Inv X pins σ H s) (h : SqL X.K H a xs) (h' : SqL X.K H a ys) : xs = ys := by
 obtain ⟨its, r, ⟨o, n, e, _, _, d⟩, _⟩ := I.list h
 obtain ⟨its', r', ⟨o', n', e', _, _, d'⟩, _⟩ := I.list h'
 rw [e] at e'; cases e'
 rw [d] at d'
 injection d' with d1 _
 have : its = its' := by simpa using congrArg Array.toList d1
 subst this
 exact r.inj r'
theorem Inv.tuple_inj (I : Inv X pins σ H s) (h : SqT X.K H a xs) (h' : SqT X.K H a ys) : xs = ys := by
 obtain ⟨its, r, ⟨o, e, _, n, d⟩, _⟩ := I.tuple h
 obtain ⟨its', r', ⟨o', e', _, n', d'⟩, _⟩ := I.tuple h'
 rw [e] at e'; cases e'
 rw [d] at d'
 injection d' with d1 _
 have : its = its' := by simpa using congrArg Array.toList d1
 subst this
 exact r.inj r'
end
noncomputable abbrev Cx.wish (X : Cx) (E : Value → Shared → Prop) : Cx := { X with xe := E }
noncomputable abbrev Cx.nox (X : Cx) : Cx := X.wish fun _ _ => False
theorem Cx.Ok.wish {X : Cx} (ok : X.Ok) (E : Value → Shared → Prop) : (X.wish E).Ok :=
 ⟨ok.mod, ok.kind, ok.glob, ok.blt, ok.above, ok.inj, ok.has, ok.cab, ok.hd, ok.frames, ok.stk, ok.exf, ok.bs, ok.bsz, ok.noex, ok.exfs, ok.funs, ok.frf⟩
theorem Cx.Ok.unwish {X : Cx} {E : Value → Shared → Prop} (ok : (X.wish E).Ok) : X.Ok :=
 ⟨ok.mod, ok.kind, ok.glob, ok.blt, ok.above, ok.inj, ok.has, ok.cab, ok.hd, ok.frames, ok.stk, ok.exf, ok.bs, ok.bsz, ok.noex, ok.exfs, ok.funs, ok.frf⟩
section
variable {X : Cx} {pins : List (Addr × Obj)} {σ : St} {H : Hp} {s : Shared} {E : Value → Shared → Prop}
theorem Inv.wish (I : Inv X pins σ H s) (E : Value → Shared → Prop) : Inv (X.wish E) pins σ H s := ⟨I.ok.wish E, I.os, I.bare, I.base, I.loc, I.cell, I.free, I.freeC, I.pin, I.hok, I.len⟩
theorem Inv.unwish (I : Inv (X.wish E) pins σ H s) : Inv X pins σ H s := ⟨I.ok.unwish, I.os, I.bare, I.base, I.loc, I.cell, I.free, I.freeC, I.pin, I.hok, I.len⟩
theorem SP.unwish {D : Ends} {f : Flow} {s' : Shared} (h : SP (X.wish E) pins D f s') : SP X pins D f s' := by
 cases f with
 | next => obtain ⟨σ', H', I, q⟩ := h; exact ⟨σ', H', I.unwish, q⟩
 | brk => obtain ⟨σ', H', I, q⟩ := h; exact ⟨σ', H', I.unwish, q⟩
 | cont => obtain ⟨σ', H', I, q⟩ := h; exact ⟨σ', H', I.unwish, q⟩
 | ret u => obtain ⟨v, σ', H', I, r, q⟩ := h; exact ⟨v, σ', H', I.unwish, r, q⟩
theorem PSs.nox {st : List Stmt} {t : TS} (h : PSs X.nox st t) : PSs X st t := fun pins s σ H D I hw =>
 wpAny_mono (h pins s σ H D (I.wish _) hw) (fun _ _ q => q.unwish) fun _ _ z => False.elim z
end
section
variable {X : Cx} {st : Stmt} {rest : List Stmt} {t u : TS} {e : Expr} {te : TE} {pos : Pos}
noncomputable def tNext : TS := fun D σ H => D.nx σ H
noncomputable def tSeq (t u : TS) : TS := fun D σ H => t { D with nx := u D } σ H
theorem pss_nil : PSs X [] tNext := fun _ _ σ H _ I h => wpAny_execs_nil ⟨σ, H, I, h⟩
theorem pss_cons (h1 : PS X st t) (h2 : PSs X rest u) : PSs X (st :: rest) (tSeq t u) := by
 intro pins s σ H D I h
 refine wpAny_execs_cons (thn (h1 pins s σ H { D with nx := u D } I h) fun f s1 q => ?_)
 cases f with
 | next =>
  obtain ⟨σ', H', I', q⟩ := q
  exact h2 pins s1 σ' H' D I' q
 | ret v => exact q
 | brk => exact q
 | cont => exact q
theorem pss_one (h1 : PS X st t) : PSs X [st] t := by
 intro pins s σ H D I h
 refine wpAny_execs_cons (thn (h1 pins s σ H D I h) fun f s1 q => ?_)
 cases f with
 | next => exact wpAny_execs_nil q
 | ret v => exact q
 | brk => exact q
 | cont => exact q
theorem Inv.quiet {pins : List (Addr × Obj)} {σ : St} {H : Hp} {s : Shared} (I : Inv X pins σ H s) : interactive X.env = false := by simp [interactive, I.ok.kind]
noncomputable def tDrop (te : TE) : TS := fun D σ H => te σ H fun _ H1 => D.nx σ H1
theorem ps_expr (he : PE X e te) (hs : swapsWith e none pos.line X.env = pure false := by rfl) : PS X (.Expr e pos) (tDrop te) := by
 intro pins s σ H D I h
 exact wpAny_Expr_any (thn (he pins s σ H _ I h) fun v s1 ⟨x, H1, I1, r1, q1⟩ => ⟨σ, H1, I1, q1⟩) I.quiet hs
noncomputable def tRet (te : TE) : TS := fun D σ H => te σ H D.rt
theorem ps_ret (he : PE X e te) : PS X (.Return (some e) pos) (tRet te) := by
 intro pins s σ H D I h
 exact wpAny_Return_some (thn (he pins s σ H _ I h) fun v s1 ⟨x, H1, I1, r1, q1⟩ => ⟨x, σ, H1, I1, r1, q1⟩)
noncomputable def tIfS (c : TT) (t u : TS) : TS := fun D σ H => c σ H fun b H1 => if b = true then t D σ H1 else u D σ H1
theorem ps_if {c : Expr} {a b : List Stmt} {tc : TT} (hc : PT X c tc) (ha : PSs X a t) (hb : PSs X b u) : PS X (.If c a b pos) (tIfS tc t u) := by
 intro pins s σ H D I h
 refine wpAny_If (thn (hc pins s σ H _ I h) fun d s1 ⟨H1, I1, q1⟩ => ?_)
 cases d with
 | true => exact ha pins s1 σ H1 D I1 q1
 | false => exact hb pins s1 σ H1 D I1 q1
end
noncomputable abbrev TG := V → St → Hp → (St → Hp → Prop) → Prop
noncomputable abbrev TGs := List V → St → Hp → (St → Hp → Prop) → Prop
noncomputable def PG (X : Cx) (target : Expr) (t : TG) : Prop :=
 ∀ (pins : List (Addr × Obj)) (s : Shared) (σ : St) (H : Hp) (v : V) (u : Value) (Q : St → Hp → Prop), Inv X pins σ H s → RelV v u → t v σ H Q →
  wpAny (model X.prog X.w) X.A (assign target X.env u) (fun _ s' => ∃ σ' H', Inv X pins σ' H' s' ∧ Q σ' H') X.xe s
noncomputable def PGs (X : Cx) (ts : List Expr) (t : TGs) : Prop :=
 ∀ (pins : List (Addr × Obj)) (s : Shared) (σ : St) (H : Hp) (vs : List V) (us : List Value) (Q : St → Hp → Prop), Inv X pins σ H s → Vals vs us → t vs σ H Q →
  wpAny (model X.prog X.w) X.A (assignInOrder ((assignEach ts X.env).map (·.2)) us) (fun _ s' => ∃ σ' H', Inv X pins σ' H' s' ∧ Q σ' H') X.xe s
noncomputable abbrev TSet := V → V → V → Hp → (Hp → Prop) → Prop
noncomputable def PSet (X : Cx) (t : TSet) : Prop :=
 ∀ (pins : List (Addr × Obj)) (s : Shared) (σ : St) (H : Hp) (o i v : V) (ov iv u : Value) (Q : Hp → Prop), Inv X pins σ H s → RelV o ov → RelV i iv → RelV v u → t o i v H Q →
  wpAny (model X.prog X.w) X.A (setItem ov iv u) (fun _ s' => ∃ H', Inv X pins σ H' s' ∧ Q H') X.xe s
section
variable {X : Cx} {pos : Pos}
noncomputable def gName (i : Nat) : TG := fun v σ H Q => Q (σ.set i (some v)) H
theorem pg_name {i : Nat} {x : Str} (hN : X.N.Nodup) (hi : X.N[i]? = some x) (hx : Loc X.env.scope x) (hf : X.fn x = true ∨ X.env.scope.names.lookup x = some .local := by first | exact .inl rfl | exact .inr rfl | assumption) : PG X (.Name x pos) (gName i) := by
 intro pins s σ H v u Q I r h
 exact wpAny_assign_Name (store_ok I hN hi hx r (fun s' I' => ⟨_, H, I', h⟩) hf)
noncomputable def gNil : TGs := fun vs σ H Q => vs = [] ∧ Q σ H
noncomputable def gCons (t : TG) (u : TGs) : TGs := fun vs σ H Q => ∃ v r, vs = v :: r ∧ t v σ H fun σ' H' => u r σ' H' Q
theorem pgs_nil : PGs X [] gNil := by
 intro pins s σ H vs us Q I r h
 obtain ⟨e, h⟩ := h
 subst e
 cases r
 exact assignInOrder_nil ⟨σ, H, I, h⟩
theorem pgs_cons {e : Expr} {es : List Expr} {t : TG} {u : TGs} (h1 : PG X e t) (h2 : PGs X es u)
  (hs : (assignEach (e :: es) X.env).map (·.2) = assign e X.env :: (assignEach es X.env).map (·.2) := by rfl) : PGs X (e :: es) (gCons t u) := by
 intro pins s σ H vs us Q I r h
 obtain ⟨v, vr, e1, h⟩ := h
 subst e1
 cases r with
 | cons r rr =>
  rw [hs]
  refine assignInOrder_cons (thn (h1 pins s σ H _ _ _ I r h) fun _ s1 ⟨σ1, H1, I1, q1⟩ => ?_)
  exact h2 pins s1 σ1 H1 _ _ Q I1 rr q1
noncomputable def gTup (K : PySem.W.Frag) (n : Nat) (t : TGs) : TG := fun v σ H Q => ∃ a xs, v = .ref a ∧ SqT K H a xs ∧ xs.length = n ∧ t xs σ H Q
theorem pg_tup {es : List Expr} {k : Nat} {t : TGs} {n : Nat} (hc : X.calm = true) (h : PGs X es t)
  (hn : (assignEach es X.env).length = n := by rfl) (hst : (assignEach es X.env).findIdx? (·.1) = none := by rfl) : PG X (.Tuple es k pos) (gTup X.K n t) := by
 intro pins s σ H v u Q I r hw
 obtain ⟨a, xs, e1, hq, hl, hw⟩ := hw
 subst e1
 cases r
 obtain ⟨its, rv, ht, hz⟩ := I.tuple hq
 refine assign_Tuple_tuple (I.ok.hd hc) ht (by simp [hn, ← hl, rv.length]) hst fun h' hx => ?_
 have I1 : Inv X pins σ H { s with heap := h' } := I.kept (t' := s.toks) fun b o e => hx b o (Nat.ne_of_lt (Heap.lt_size e)) e
 exact h pins _ σ H xs _ Q I1 (by simpa using rv) hw
noncomputable def gSub (to ti : TE) (t : TSet) : TG := fun v σ H Q => to σ H fun o H1 => ti σ H1 fun i H2 => t o i v H2 fun H3 => Q σ H3
theorem pg_sub {o i : Expr} {to ti : TE} {t : TSet} (ho : PE X o to) (hi : PE X i ti) (hs : PSet X t)
  (ha : ∀ v, assign (.Subscript o i pos) X.env v = (do
   let ov ← holding [v] (eval o X.env)
   let iv ← holding [v, ov] (eval i X.env)
   standAt pos
   holding [v, ov, iv] (setItem ov iv v)
   release [v, ov, iv] []) := by intro _; rfl) : PG X (.Subscript o i pos) (gSub to ti t) := by
 intro pins s σ H v u Q I r h
 rw [ha]
 refine wpAny_bind (wpAny_holding (thn (ho pins s σ H _ I h) fun ov s1 ⟨x, H1, I1, r1, q1⟩ => ?_))
 refine wpAny_bind (wpAny_holding (thn (hi pins s1 σ H1 _ I1 q1) fun iv s2 ⟨y, H2, I2, r2, q2⟩ => ?_))
 refine wpAny_bind (wpAny_standAt (wpAny_bind (wpAny_holding (thn (hs pins s2 σ H2 x y v ov iv u _ I2 r1 r2 r q2) fun _ s3 ⟨H3, I3, q3⟩ => ?_))))
 exact wpAny_release ⟨σ, H3, I3, q3⟩
noncomputable def tAsg (te : TE) (g : TG) : TS := fun D σ H => te σ H fun x H1 => g x σ H1 D.nx
theorem ps_asg {tg e : Expr} {te : TE} {g : TG} (he : PE X e te) (hg : PG X tg g) (hs : swapsWithSole [tg] e pos.line X.env = pure false := by rfl) (hw : swappedStores [tg] e X.env = pure none := by rfl)
  (h1 : (assignEach [tg] X.env).map (·.2) = [assign tg X.env] := by rfl) : PS X (.Assign [tg] e pos) (tAsg te g) := by
 intro pins s σ H D I h
 refine wpAny_Assign_stores (thn (he pins s σ H _ I h) fun v s1 ⟨x, H1, I1, r1, q1⟩ => ?_) hs hw
 rw [h1]
 exact thn (hg pins s1 σ H1 x v _ I1 r1 q1) fun _ s2 q => q
theorem ps_set {i : Nat} {x : Str} {e : Expr} {te : TE} {pos' : Pos} (hN : X.N.Nodup) (hi : X.N[i]? = some x) (hx : Loc X.env.scope x) (he : PE X e te) (hs : swapsWith e (some (.Name x pos')) pos.line X.env = pure false := by rfl) (hf : X.fn x = true ∨ X.env.scope.names.lookup x = some .local := by first | exact .inl rfl | exact .inr rfl | assumption) :
  PS X (.Assign [.Name x pos'] e pos) (tAsg te (gName i)) := by
 intro pins s σ H D I h
 refine wpAny_Assign_Name (thn (he pins s σ H _ I h) fun v s1 ⟨y, H1, I1, r1, q1⟩ => ?_) hs
 exact store_ok I1 hN hi hx r1 (fun s2 I2 => ⟨_, H1, I2, q1⟩) hf
end
section
variable {X : Cx} {pos : Pos}
end
structure It where
 go : Nat → Hp → Prop
 yld : Nat → Hp → V → Hp → Prop
 stop : Nat → Hp → Prop
noncomputable def FpOk (X : Cx) (pins : List (Addr × Obj)) (H : Hp) (b : Addr) : Prop :=
 H b = none ∧ b ≠ X.env.locals ∧ b ∉ X.fs ∧ (b ∈ X.ex ∨ X.s₀.heap.objs.size ≤ b) ∧ (∀ x c, X.env.cells.lookup x = some c → c ≠ b) ∧ ∀ p ∈ X.pn ++ pins, p.1 ≠ b
theorem Inv.fpOk {X : Cx} {pins : List (Addr × Obj)} {σ : St} {H H' : Hp} {s : Shared} {b : Addr} (I : Inv X pins σ H s) (hb : s.heap.objs.size ≤ b) (hn : H' b = none) : FpOk X pins H' b := by
 refine ⟨hn, Nat.ne_of_gt (Nat.lt_of_lt_of_le I.lt hb), I.nofs hb, .inr (Nat.le_trans I.sz hb), fun x c e z => ?_, fun p hp z => ?_⟩
 ·obtain ⟨v, q⟩ := I.cell x c e
  exact absurd (Nat.lt_of_lt_of_le q.lt (by rw [z]; exact hb)) (Nat.lt_irrefl _)
 ·exact absurd (Nat.lt_of_lt_of_le (Heap.lt_size (I.pin p hp).1) (by rw [z]; exact hb)) (Nat.lt_irrefl _)
structure Turn (P : Program) (w : World) (K : PySem.W.Frag) (tg : Expr) (J : It) (fp : List Addr) (it : Addr) (tn : Nat → Heap → Prop) : Prop where
 mem : it ∈ fp
 obj : ∀ i h, tn i h → ∀ b ∈ fp, ∃ o, h.get? b = some o ∧ ∀ v, o.data ≠ .cell v
 keep : ∀ i h h', tn i h → (∀ b ∈ fp, ∀ o, h.get? b = some o → h'.get? b = some o) → tn i h'
 item : ∀ (X : Cx), X.prog = P → X.w = w → X.K = K → X.calm = true → ∀ (i : Nat) (pins : List (Addr × Obj)) (s : Shared) (σ : St) (H : Hp) (E : Value → Shared → Prop), Inv X pins σ H s → (∀ b ∈ fp, FpOk X pins H b) → tn i s.heap → J.go i H →
  wpAny (model P w) X.A (pyNext (.ref it)) (fun r s1 => ∃ u, r = some u ∧
   wpAny (model P w) X.A (letOwnedTupleGo tg (.ref it) u) (fun _ s2 => ∃ x H', Inv X pins σ H' s2 ∧ RelV x u ∧ J.yld i H x H' ∧ tn (i + 1) s2.heap ∧ ∀ b ∈ fp, H' b = none) E s1) E s
 done : ∀ (X : Cx), X.prog = P → X.w = w → X.K = K → X.calm = true → ∀ (i : Nat) (pins : List (Addr × Obj)) (s : Shared) (σ : St) (H : Hp) (E : Value → Shared → Prop), Inv X pins σ H s → (∀ b ∈ fp, FpOk X pins H b) → tn i s.heap → J.stop i H →
  wpAny (model P w) X.A (pyNext (.ref it)) (fun r s1 => r = none ∧ Inv X pins σ H s1) E s
 self : ∀ (A : Around) (i : Nat) (s : Shared) (Q : Value → Shared → Prop) (E : Value → Shared → Prop), tn i s.heap → Q (.ref it) s → wpAny (model P w) A (pyIter (.ref it)) Q E s
noncomputable abbrev TI := St → Hp → (It → Hp → Prop) → Prop
noncomputable def PIE (X : Cx) (pins : List (Addr × Obj)) (σ : St) (tg : Expr) (R : It → Hp → Prop) (itv : Value) (s2 : Shared) : Prop :=
 ∃ (it : Addr) (fp : List Addr) (tn : Nat → Heap → Prop) (J : It) (H' : Hp), itv = .ref it ∧ Inv X pins σ H' s2 ∧ Turn X.prog X.w X.K tg J fp it tn ∧ tn 0 s2.heap ∧ (∀ b ∈ fp, FpOk X pins H' b) ∧ R J H'
noncomputable def PI (X : Cx) (tg iter : Expr) (wi : TI) : Prop :=
 ∀ (pins : List (Addr × Obj)) (s : Shared) (σ : St) (H : Hp) (R : It → Hp → Prop), Inv X pins σ H s → wi σ H R →
  wpAny (model X.prog X.w) X.A (eval iter X.env) (fun v s1 => wpAny (model X.prog X.w) X.A (pyIter v) (PIE X pins σ tg R) X.xe s1) X.xe s
theorem go_of {M : Model} {A : Around} {E : Value → Shared → Prop} {s : Shared} {tg : Expr} {it : Addr} {u : Value} {o : Obj} {n : String} {vs : Array Value} {Q : Unit → Shared → Prop} (ho : s.heap.get? it = some o) (hc : o.cls = .type n) (hd : o.data = .fields vs)
    (hn : ["enumerate", "zip", "dict_itemiterator", "dict_reverseitemiterator", "odict_iterator", "itertools.zip_longest", "itertools.pairwise"].contains n = false) (hQ : Q () s) : wpAny M A (letOwnedTupleGo tg (.ref it) u) Q E s := by
  unfold letOwnedTupleGo
  cases tg <;> first
    | exact wpAny_pure hQ
    | (cases u <;> first
        | exact wpAny_pure hQ
        | (refine wpAny_bind (wpAny_load ho ?_)
           rw [hc, hd]
           show wpAny M A (if (["enumerate", "zip", "dict_itemiterator", "dict_reverseitemiterator", "odict_iterator", "itertools.zip_longest", "itertools.pairwise"].contains n && vs[0]? == some (rawInt _)) = true then _ else _) Q E s
           rw [if_neg (by intro h; rw [hn, Bool.false_and] at h; cases h)]
           exact wpAny_pure hQ))
noncomputable def Itl (K : PySem.W.Frag) (a : Addr) : It :=
 ⟨fun i H => ∃ xs x, SqL K H a xs ∧ xs[i]? = some x, fun i H x H' => H' = H ∧ ∀ xs, SqL K H a xs → xs[i]? = some x, fun i H => ∃ xs, SqL K H a xs ∧ xs.length ≤ i⟩
noncomputable def Itt (K : PySem.W.Frag) (a : Addr) : It :=
 ⟨fun i H => ∃ xs x, SqT K H a xs ∧ xs[i]? = some x, fun i H x H' => H' = H ∧ ∀ xs, SqT K H a xs → xs[i]? = some x, fun i H => ∃ xs, SqT K H a xs ∧ xs.length ≤ i⟩
noncomputable def Itr (lo : Int) (n : Nat) : It := ⟨fun i _ => i < n, fun i H x H' => H' = H ∧ x = .int (lo + i), fun i _ => n ≤ i⟩
theorem turn_list {P : Program} {w : World} {K : PySem.W.Frag} {tg : Expr} (a it : Addr) : Turn P w K tg (Itl K a) [it] it (fun i h => h.IsListIter it a i) where
 mem := by simp
 obj := fun i h st b hb => by
  have e : b = it := by simpa using hb
  subst e
  obtain ⟨o, e, c, d⟩ := st
  exact ⟨o, e, fun v z => by rw [d] at z; cases z⟩
 keep := fun i h h' st k => st.at fun o e => k it (by simp) o e
 item := by
  intro X hP hw hK hc i pins s σ H E I hf st hg
  subst hP hw hK
  obtain ⟨xs, x, hq, hx⟩ := hg
  obtain ⟨its, rv, p, hz⟩ := I.list hq
  obtain ⟨u, hu, ru⟩ := rv.get hx
  obtain ⟨f0, f1, f2, f3, f4, f5⟩ := hf it (by simp)
  refine wpAny_pyNext_list_item st p.isList (x := u) (by simpa using hu) fun h' st' sb => ?_
  have I1 : Inv X pins σ H { s with heap := h' } := I.turned (t' := s.toks) (fun b o hb e => (sb.2 b hb).trans e) f0 f1 f3 f4 f5
  obtain ⟨o, e, c, d⟩ := id st'
  exact ⟨u, rfl, go_of (s := { s with heap := h' }) e c d (by decide) ⟨x, H, I1, ru, ⟨rfl, fun ys hy => by rw [I.list_inj hy hq]; exact hx⟩, st', fun b hb => (hf b hb).1⟩⟩
 done := by
  intro X hP hw hK hc i pins s σ H E I hf st hg
  subst hP hw hK
  obtain ⟨xs, hq, hx⟩ := hg
  obtain ⟨its, rv, p, hz⟩ := I.list hq
  obtain ⟨f0, f1, f2, f3, f4, f5⟩ := hf it (by simp)
  have hl := rv.length
  exact wpAny_pyNext_list_end (I.ok.hd hc) st p.isList (by simp; omega) fun h' eb => ⟨rfl, I.turned (t' := s.toks) (fun b o hb e => eb b o hb e) f0 f1 f3 f4 f5⟩
 self := fun _ _ _ _ _ st h => wpAny_pyIter_listiter st h
theorem turn_tuple {P : Program} {w : World} {K : PySem.W.Frag} {tg : Expr} (a it : Addr) : Turn P w K tg (Itt K a) [it] it (fun i h => h.IsTupleIter it a i) where
 mem := by simp
 obj := fun i h st b hb => by
  have e : b = it := by simpa using hb
  subst e
  obtain ⟨o, e, c, d⟩ := st
  exact ⟨o, e, fun v z => by rw [d] at z; cases z⟩
 keep := fun i h h' st k => st.at fun o e => k it (by simp) o e
 item := by
  intro X hP hw hK hc i pins s σ H E I hf st hg
  subst hP hw hK
  obtain ⟨xs, x, hq, hx⟩ := hg
  obtain ⟨its, rv, p, hz⟩ := I.tuple hq
  obtain ⟨u, hu, ru⟩ := rv.get hx
  obtain ⟨f0, f1, f2, f3, f4, f5⟩ := hf it (by simp)
  refine wpAny_pyNext_tuple_item st (show s.heap.IsTuple a its.toArray from p) (x := u) (by simpa using hu) fun h' st' sb => ?_
  have I1 : Inv X pins σ H { s with heap := h' } := I.turned (t' := s.toks) (fun b o hb e => (sb.2 b hb).trans e) f0 f1 f3 f4 f5
  obtain ⟨o, e, c, d⟩ := id st'
  exact ⟨u, rfl, go_of (s := { s with heap := h' }) e c d (by decide) ⟨x, H, I1, ru, ⟨rfl, fun ys hy => by rw [I.tuple_inj hy hq]; exact hx⟩, st', fun b hb => (hf b hb).1⟩⟩
 done := by
  intro X hP hw hK hc i pins s σ H E I hf st hg
  subst hP hw hK
  obtain ⟨xs, hq, hx⟩ := hg
  obtain ⟨its, rv, p, hz⟩ := I.tuple hq
  obtain ⟨f0, f1, f2, f3, f4, f5⟩ := hf it (by simp)
  have hl := rv.length
  exact wpAny_pyNext_tuple_end (I.ok.hd hc) st (show s.heap.IsTuple a its.toArray from p) (by simp; omega) fun h' eb => ⟨rfl, I.turned (t' := s.toks) (fun b o hb e => eb b o hb e) f0 f1 f3 f4 f5⟩
 self := fun _ _ _ _ _ st h => wpAny_pyIter_tupleiter st h
theorem turn_range {P : Program} {w : World} {K : PySem.W.Frag} {tg : Expr} (it : Addr) (lo : Int) (n : Nat) : Turn P w K tg (Itr lo n) [it] it (fun i h => IsRangeIter h it (lo + (i : Nat) * 1) ((n : Int) - (i : Nat)) 1) where
 mem := by simp
 obj := fun i h st b hb => by
  have e : b = it := by simpa using hb
  subst e
  exact ⟨_, st, fun v z => by
   have z' : Data.fields _ = Data.cell v := z
   cases z'⟩
 keep := fun i h h' st k => k it (by simp) _ st
 item := by
  intro X hP hw hK hc i pins s σ H E I hf st hg
  subst hP hw hK
  obtain ⟨f0, f1, f2, f3, f4, f5⟩ := hf it (by simp)
  have W := Walks.range (prog := X.prog) (w := X.w) (I.ok.hd hc) it lo 1 n
  refine W.item i s _ _ hg st fun v h' tk hv st' kk => ?_
  obtain ⟨t, rfl⟩ := hv
  have I1 : Inv X pins σ H { s with heap := h', toks := tk } := I.turned (fun b o hb e => kk b o (by simpa using hb) e) f0 f1 f3 f4 f5
  refine ⟨_, rfl, go_of (s := { s with heap := h', toks := tk }) (n := "range_iterator") st' rfl rfl (by decide) ⟨.int (lo + i), H, I1, ⟨t, ?_⟩, ⟨rfl, rfl⟩, st', fun b hb => (hf b hb).1⟩⟩
  rw [Int.mul_one]
 done := by
  intro X hP hw hK hc i pins s σ H E I hf st hg
  subst hP hw hK
  obtain ⟨f0, f1, f2, f3, f4, f5⟩ := hf it (by simp)
  exact wpAny_pyNext_range_end (I.ok.hd hc) st (by have : n ≤ i := hg; omega) fun h' eb => ⟨rfl, I.turned (t' := s.toks) (fun b o hb e => eb b o hb e) f0 f1 f3 f4 f5⟩
 self := fun _ _ _ _ _ st h => wpAny_pyIter_rangeiter st h
end L2
namespace L2
open PySem PySem.Spec PyProof.Rows
section
variable {X : Cx} {tg : Expr}
theorem range_it {pins : List (Addr × Obj)} {σ : St} {H : Hp} {s : Shared} {R : It → Hp → Prop} {E : Value → Shared → Prop} {lo hi : Int} {t u v : Tok} {tk : Nat} (I : Inv X pins σ H s) (h1 : -(2 ^ 62) ≤ lo) (h2 : lo < 2 ^ 62) (h3 : -(2 ^ 62) ≤ hi) (h4 : hi < 2 ^ 62)
  (q : R (Itr lo (hi - lo).toNat) H) : wpAny (model X.prog X.w) X.A (pyIter (.ref s.heap.objs.size)) (PIE X pins σ tg R) E { s with heap := s.heap.push { cls := .type "range", data := .fields #[.int lo t, .int hi u, .int 1 v] }, toks := tk } := by
 refine wpAny_pyIter_range (IsRange.new ..) (small_one h1 h2 h3 h4) ?_
 have I1 : Inv X pins σ H { s with heap := s.heap.push { cls := .type "range", data := .fields #[.int lo t, .int hi u, .int 1 v] }, toks := tk } := I.kept fun b o e => Heap.get?_push_of_some _ e
 refine ⟨(s.heap.push { cls := .type "range", data := .fields #[.int lo t, .int hi u, .int 1 v] }).objs.size, [(s.heap.push { cls := .type "range", data := .fields #[.int lo t, .int hi u, .int 1 v] }).objs.size], _, _, H, rfl,
  I1.kept (t' := tk) fun b o e => Heap.get?_push_of_some _ e, turn_range _ lo (hi - lo).toNat, ?_, fun b hb => ?_, q⟩
 ·have e1 : lo + ((0 : Nat) : Int) * 1 = lo := by simp
  have e2 : (((hi - lo).toNat : Nat) : Int) - ((0 : Nat) : Int) = Builtin.Range.rangeSize lo hi 1 := by rw [rangeSize_one]; split <;> omega
  show IsRangeIter _ _ (lo + ((0 : Nat) : Int) * 1) ((((hi - lo).toNat : Nat) : Int) - ((0 : Nat) : Int)) 1
  rw [e1, e2]
  exact Heap.get?_push_size _ rfl
 ·have e : b = (s.heap.push { cls := .type "range", data := .fields #[.int lo t, .int hi u, .int 1 v] }).objs.size := by simpa using hb
  subst e
  exact I1.fpOk (Nat.le_refl _) (I1.hok.fresh (Nat.le_refl _))
noncomputable def iRng1 (ta : TA) : TI := fun σ H R => ta σ H fun vs H1 => ∃ j : Int, vs = [.int j] ∧ -(2 ^ 62) ≤ j ∧ j < 2 ^ 62 ∧ R (Itr 0 j.toNat) H1
noncomputable def iRng2 (ta : TA) : TI := fun σ H R => ta σ H fun vs H1 => ∃ i j : Int, vs = [.int i, .int j] ∧ (-(2 ^ 62) ≤ i ∧ i < 2 ^ 62 ∧ -(2 ^ 62) ≤ j ∧ j < 2 ^ 62) ∧ R (Itr i (j - i).toNat) H1
theorem pi_range1 {a : Expr} {ta : TA} {p pos : Pos} (hg : Gl X "range") (hm : X.mg "range" = none) (ha : PA X [a] ta) (hs : starEach [a] X.env = [(false, eval a X.env)] := by rfl) : PI X tg (.Call (.Name "range" p) [a] [] pos) (iRng1 ta) := by
 intro pins s σ H R I h
 refine Call_ (ld_blt I hg hm boot_range (PyProof.Rows.callWith_type1 (thn (ha pos pins s σ H _ I h) fun us s1 ⟨vs, H1, I1, r1, q1⟩ => ?_) hs rfl))
 obtain ⟨j, e, q1, q2, q⟩ := q1
 subst e
 cases r1 with
 | cons r rr =>
  cases rr
  obtain ⟨t, rfl⟩ := r
  exact call_range_1 (range_it I1 (by omega) (by omega) q1 q2 (by simpa using q))
theorem pi_range2 {a b : Expr} {ta : TA} {p pos : Pos} (hg : Gl X "range") (hm : X.mg "range" = none) (ha : PA X [a, b] ta) (hs : starEach [a, b] X.env = [(false, eval a X.env), (false, eval b X.env)] := by rfl) (hs2 : starEach [b] X.env = [(false, eval b X.env)] := by rfl) :
  PI X tg (.Call (.Name "range" p) [a, b] [] pos) (iRng2 ta) := by
 intro pins s σ H R I h
 refine Call_ (ld_blt I hg hm boot_range (PyProof.Rows.callWith_type1 (thn (ha pos pins s σ H _ I h) fun us s1 ⟨vs, H1, I1, r1, q1⟩ => ?_) (by rw [hs, hs2]) (by rw [hs2]; rfl)))
 obtain ⟨i, j, e, ⟨q1, q2, q3, q4⟩, q⟩ := q1
 subst e
 cases r1 with
 | cons r rr =>
  cases rr with
  | cons r' rr =>
   cases rr
   obtain ⟨t, rfl⟩ := r
   obtain ⟨t', rfl⟩ := r'
   exact call_range_2 (range_it I1 q1 q2 q3 q4 q)
noncomputable def tFor (wi : TI) (g : TG) (tb : TS) : TS := fun D σ H => wi σ H fun J H1 => ∃ W : Nat → Nat → St → Hp → Prop, (∃ m, W 0 m σ H1) ∧ ∀ i m σ H, W i m σ H →
 (J.stop i H ∧ D.nx σ H) ∨ (J.go i H ∧ ∃ N : St → Hp → Prop, (∀ σ' H', N σ' H' → ∃ m', m' < m ∧ W (i + 1) m' σ' H') ∧ ∀ x H', J.yld i H x H' → g x σ H' fun σ2 H2 => tb { D with nx := N, ct := N, bk := D.nx } σ2 H2)
noncomputable def pinsAt (fp : List Addr) (h : Heap) : List (Addr × Obj) := fp.filterMap fun b => (h.get? b).map fun o => (b, o)
theorem mem_pinsAt {fp : List Addr} {h : Heap} {b : Addr} {o : Obj} (hb : b ∈ fp) (e : h.get? b = some o) : (b, o) ∈ pinsAt fp h := List.mem_filterMap.mpr ⟨b, hb, by rw [e]; rfl⟩
theorem of_pinsAt {fp : List Addr} {h : Heap} {p : Addr × Obj} (hp : p ∈ pinsAt fp h) : p.1 ∈ fp ∧ h.get? p.1 = some p.2 := by
 obtain ⟨b, hb, e⟩ := List.mem_filterMap.mp hp
 cases q : h.get? b with
 | none => rw [q] at e; cases e
 | some o =>
  rw [q] at e
  have e' : (b, o) = p := Option.some.inj e
  subst e'
  exact ⟨hb, q⟩
theorem Inv.pinned {pins : List (Addr × Obj)} {σ : St} {H : Hp} {s : Shared} {fp : List Addr} (I : Inv X pins σ H s) (hf : ∀ b ∈ fp, FpOk X pins H b) (ho : ∀ b ∈ fp, ∃ o, s.heap.get? b = some o ∧ ∀ v, o.data ≠ .cell v) : Inv X (pins ++ pinsAt fp s.heap) σ H s :=
 I.pins_of fun p hp => (List.mem_append.mp hp).elim (fun z => I.pin p (List.mem_append_right _ z)) fun z => by
  obtain ⟨hb, e⟩ := of_pinsAt z
  obtain ⟨f0, f1, f2, _⟩ := hf p.1 hb
  obtain ⟨o, e', d⟩ := ho p.1 hb
  rw [e] at e'; cases e'
  exact ⟨e, f0, f1, f2, d⟩
theorem Inv.unpinned {pins pl : List (Addr × Obj)} {σ : St} {H : Hp} {s : Shared} (I : Inv X (pins ++ pl) σ H s) : Inv X pins σ H s := I.pins_of fun p hp => I.pin p (List.mem_append_right _ (List.mem_append_left _ hp))
theorem ps_for {iter : Expr} {body : List Stmt} {wi : TI} {g : TG} {tb : TS} {pos : Pos} (hp : PassesOwn (model X.prog X.w) X.A X.env X.xe) (hc : X.calm = true) (hi : PI X tg iter wi) (hg : PG X tg g) (hb : PSs X body tb)
  (hs : ∀ x, foldedSetIterable iter X.env x = pure x := by intro _; rfl) : PS X (.For tg iter body [] pos) (tFor wi g tb) := by
 intro pins s σ H D I h
 refine wpAny_For (thn (hi pins s σ H _ I h) fun v s1 h1 => thn h1 fun itv s2 h2 => ?_) hs
 obtain ⟨it, fp, tn, J, H2, e, I2, T, st2, f2, W, ⟨m0, w0⟩, turn⟩ := h2
 subst e
 have stat : ∀ {H' : Hp}, (∀ b ∈ fp, H' b = none) → ∀ b ∈ fp, FpOk X pins H' b := fun hn b hb => ⟨hn b hb, (f2 b hb).2⟩
 refine codeAny_forLoop_any (fun n s' => ∃ i σ' H', Inv X pins σ' H' s' ∧ tn i s'.heap ∧ (∀ b ∈ fp, H' b = none) ∧ W i n σ' H') ?_ m0 ⟨0, σ, H2, I2, st2, fun b hb => (f2 b hb).1, w0⟩
 rintro n s3 ⟨i, σ3, H3, I3, st3, fr3, w3⟩
 rcases turn i n σ3 H3 w3 with ⟨stop, qn⟩ | ⟨go, N, hN, step⟩
 ·refine wpAny_passesOwn hp (thn (T.done X rfl rfl rfl hc i pins s3 σ3 H3 X.xe I3 (stat fr3) st3 stop) fun r s4 ⟨hr, I4⟩ => ?_)
  subst hr
  exact wpAny_execs_nil ⟨σ3, H3, I4, qn⟩
 ·refine wpAny_passesOwn hp (thn (T.item X rfl rfl rfl hc i pins s3 σ3 H3 X.xe I3 (stat fr3) st3 go) fun r s4 ⟨u, hr, h4⟩ => ?_)
  subst hr
  refine wpAny_passesOwn hp (thn h4 fun _ s5 ⟨x, H5, I5, r5, y5, st5, fr5⟩ => ?_)
  have I5' := I5.pinned (stat fr5) (T.obj _ _ st5)
  refine wpAny_passesOwn hp (thn (hg _ s5 σ3 H5 x u _ I5' r5 (step x H5 y5)) fun _ s6 ⟨σ6, H6, I6, q6⟩ => ?_)
  refine wpAny_passesOwn hp (thn (hb _ s6 σ6 H6 _ I6 q6) fun f s7 q7 => ?_)
  have again : ∀ {σ7 : St} {H7 : Hp}, Inv X (pins ++ pinsAt fp s5.heap) σ7 H7 s7 → N σ7 H7 → ∃ m, m < n ∧ ∃ i σ' H', Inv X pins σ' H' s7 ∧ tn i s7.heap ∧ (∀ b ∈ fp, H' b = none) ∧ W i m σ' H' := fun {σ7 H7} I7 n7 => by
   obtain ⟨m', hm, w7⟩ := hN σ7 H7 n7
   refine ⟨m', hm, i + 1, σ7, H7, I7.unpinned, T.keep _ _ _ st5 fun b hb o e => (I7.pin (b, o) (List.mem_append_right _ (List.mem_append_right _ (mem_pinsAt hb e)))).1, fun b hb => ?_, w7⟩
   obtain ⟨o, e, d⟩ := T.obj _ _ st5 b hb
   exact (I7.pin (b, o) (List.mem_append_right _ (List.mem_append_right _ (mem_pinsAt hb e)))).2.1
  cases f with
  | next => obtain ⟨σ7, H7, I7, n7⟩ := q7; exact again I7 n7
  | cont => obtain ⟨σ7, H7, I7, n7⟩ := q7; exact again I7 n7
  | brk => obtain ⟨σ7, H7, I7, q7⟩ := q7; exact ⟨σ7, H7, I7.unpinned, q7⟩
  | ret v => obtain ⟨x7, σ7, H7, I7, r7, q7⟩ := q7; exact ⟨x7, σ7, H7, I7.unpinned, r7, q7⟩
end
theorem for_range {lo : Int} {n : Nat} {g : TG} {tb : TS} {D : Ends} {σ : St} {H : Hp} (Pv : Nat → St → Hp → Prop) (h0 : Pv 0 σ H)
  (hs : ∀ i σ H, i < n → Pv i σ H → g (.int (lo + i)) σ H fun σ2 H2 => tb { D with nx := Pv (i + 1), ct := Pv (i + 1), bk := D.nx } σ2 H2) (hd : ∀ σ H, Pv n σ H → D.nx σ H) :
  ∃ W : Nat → Nat → St → Hp → Prop, (∃ m, W 0 m σ H) ∧ ∀ i m σ H, W i m σ H →
   ((Itr lo n).stop i H ∧ D.nx σ H) ∨ ((Itr lo n).go i H ∧ ∃ N : St → Hp → Prop, (∀ σ' H', N σ' H' → ∃ m', m' < m ∧ W (i + 1) m' σ' H') ∧ ∀ x H', (Itr lo n).yld i H x H' → g x σ H' fun σ2 H2 => tb { D with nx := N, ct := N, bk := D.nx } σ2 H2) := by
 refine ⟨fun i m σ H => m = n - i ∧ i ≤ n ∧ Pv i σ H, ⟨n, by simp, Nat.zero_le _, h0⟩, ?_⟩
 rintro i m σ H ⟨rfl, hi, p⟩
 by_cases hlt : i < n
 ·refine .inr ⟨hlt, Pv (i + 1), fun σ' H' p' => ⟨n - (i + 1), by omega, rfl, hlt, p'⟩, fun x H' y => ?_⟩
  obtain ⟨e, y⟩ := y
  subst e y
  exact hs i σ _ hlt p
 ·have e : i = n := by omega
  subst e
  exact .inl ⟨Nat.le_refl _, hd σ H p⟩
end L2
namespace L2
open PySem PySem.Spec PyProof.Rows
noncomputable abbrev R2 := V → V → Hp → VK → Prop
noncomputable def OpR (X : Cx) (f : Value → Value → Sem Value) (r : R2) : Prop :=
 ∀ (pins : List (Addr × Obj)) (s : Shared) (σ : St) (H : Hp) (x y : V) (v u : Value) (Q : VK), Inv X pins σ H s → RelV x v → RelV y u → r x y H Q →
  wpAny (model X.prog X.w) X.A (f v u) (EP X pins σ Q) X.xe s
noncomputable def UnR (X : Cx) (f : Value → Sem Value) (r : V → Hp → VK → Prop) : Prop :=
 ∀ (pins : List (Addr × Obj)) (s : Shared) (σ : St) (H : Hp) (x : V) (v : Value) (Q : VK), Inv X pins σ H s → RelV x v → r x H Q →
  wpAny (model X.prog X.w) X.A (f v) (EP X pins σ Q) X.xe s
noncomputable def CallR (X : Cx) (f : Value) (r : List V → Hp → VK → Prop) : Prop :=
 ∀ (pins : List (Addr × Obj)) (s : Shared) (σ : St) (H : Hp) (xs : List V) (us : List Value) (Q : VK), Inv X pins σ H s → Vals xs us → r xs H Q →
  wpAny (model X.prog X.w) X.A (call f us) (EP X pins σ Q) X.xe s
noncomputable def tOp (r : R2) (ta tb : TE) : TE := fun σ H Q => ta σ H fun x H1 => tb σ H1 fun y H2 => r x y H2 Q
noncomputable def tUn (r : V → Hp → VK → Prop) (ta : TE) : TE := fun σ H Q => ta σ H fun x H1 => r x H1 Q
noncomputable def rI (C : Int → Int → Prop) (g : Int → Int → V) : R2 := fun x y H Q => ∃ i j, x = .int i ∧ y = .int j ∧ C i j ∧ Q (g i j) H
noncomputable def rI0 (g : Int → Int → V) : R2 := fun x y H Q => ∃ i j, x = .int i ∧ y = .int j ∧ Q (g i j) H
noncomputable def rU (g : Int → V) : V → Hp → VK → Prop := fun x H Q => ∃ i, x = .int i ∧ Q (g i) H
section
variable {X : Cx} {a b c : Expr} {ta tb tc : TE} {pos : Pos}
theorem binT (ha : PE X a ta) (hb : PE X b tb) {pins : List (Addr × Obj)} {s : Shared} {σ : St} {H : Hp} {R : V → V → Hp → Prop} (I : Inv X pins σ H s)
  (h : ta σ H fun x H1 => tb σ H1 fun y H2 => R x y H2) {Q : Value → Shared → Prop} {f : Value → Value → Sem Value}
  (hf : ∀ v u s2 x y H2, Inv X pins σ H2 s2 → RelV x v → RelV y u → R x y H2 → wpAny (model X.prog X.w) X.A (f v u) Q X.xe s2) :
  wpAny (model X.prog X.w) X.A (eval a X.env) (fun v s₁ => wpAny (model X.prog X.w) X.A (eval b X.env) (fun u s₂ => wpAny (model X.prog X.w) X.A (f v u) Q X.xe s₂) X.xe s₁) X.xe s := by
 refine thn (ha pins s σ H _ I h) fun v s1 ⟨x, H1, I1, r1, q1⟩ => ?_
 refine thn (hb pins s1 σ H1 _ I1 q1) fun u s2 ⟨y, H2, I2, r2, q2⟩ => ?_
 exact hf v u s2 x y H2 I2 r1 r2 q2
theorem pe_op {op : Operator} {r : R2} (ho : OpR X (binaryOp op) r) (ha : PE X a ta) (hb : PE X b tb) : PE X (.BinOp a op b pos) (tOp r ta tb) := by
 intro pins s σ H Q I h
 exact wpAny_BinOp (binT ha hb I h fun v u s2 x y H2 I2 rx ry q => ho pins s2 σ H2 x y v u Q I2 rx ry q)
theorem pe_un {op : UnaryOp} {r : V → Hp → VK → Prop} (ho : UnR X (unaryOp op) r) (ha : PE X a ta) : PE X (.UnaryOp op a pos) (tUn r ta) := by
 intro pins s σ H Q I h
 exact UnaryOp_ (thn (ha pins s σ H _ I h) fun v s1 ⟨x, H1, I1, r1, q1⟩ => ho pins s1 σ H1 x v Q I1 r1 q1)
theorem opI {f : Value → Value → Sem Value} {C : Int → Int → Prop} {g : Int → Int → Int}
  (rule : ∀ (i j : Int) (t u : Tok) (s : Shared) (Q : Value → Shared → Prop) (E : Value → Shared → Prop), C i j → Q (.int (g i j) s.toks) { s with toks := s.toks + 1 } → wpAny (model X.prog X.w) X.A (f (.int i t) (.int j u)) Q E s) :
  OpR X f (rI C fun i j => .int (g i j)) := by
 intro pins s σ H x y v u Q I rx ry h
 obtain ⟨i, j, rfl, rfl, hc, q⟩ := h
 obtain ⟨t, rfl⟩ := rx
 obtain ⟨t', rfl⟩ := ry
 exact rule i j t t' s _ _ hc ⟨.int (g i j), H, I.tok _, ⟨_, rfl⟩, q⟩
theorem opI0 {f : Value → Value → Sem Value} {g : Int → Int → Int}
  (rule : ∀ (i j : Int) (t u : Tok) (s : Shared) (Q : Value → Shared → Prop) (E : Value → Shared → Prop), Q (.int (g i j) s.toks) { s with toks := s.toks + 1 } → wpAny (model X.prog X.w) X.A (f (.int i t) (.int j u)) Q E s) :
  OpR X f (rI0 fun i j => .int (g i j)) := by
 intro pins s σ H x y v u Q I rx ry h
 obtain ⟨i, j, rfl, rfl, q⟩ := h
 obtain ⟨t, rfl⟩ := rx
 obtain ⟨t', rfl⟩ := ry
 exact rule i j t t' s _ _ ⟨.int (g i j), H, I.tok _, ⟨_, rfl⟩, q⟩
theorem opB0 {f : Value → Value → Sem Value} {g : Int → Int → Bool}
  (rule : ∀ (i j : Int) (t u : Tok) (s : Shared) (Q : Value → Shared → Prop) (E : Value → Shared → Prop), Q (.bool (g i j)) s → wpAny (model X.prog X.w) X.A (f (.int i t) (.int j u)) Q E s) :
  OpR X f (rI0 fun i j => .bl (g i j)) := by
 intro pins s σ H x y v u Q I rx ry h
 obtain ⟨i, j, rfl, rfl, q⟩ := h
 obtain ⟨t, rfl⟩ := rx
 obtain ⟨t', rfl⟩ := ry
 exact rule i j t t' s _ _ ⟨.bl (g i j), H, I, rfl, q⟩
noncomputable def CDiv (i j : Int) : Prop := 0 < j ∧ j < 1073741824
noncomputable def CPow (i j : Int) : Prop := 0 ≤ j ∧ j ≤ 1000000 ∧ i.natAbs < 2 ^ 64
noncomputable def CMul (i j : Int) : Prop := (-(2 ^ 64) < i ∧ i < 2 ^ 64) ∨ (-(2 ^ 64) < j ∧ j < 2 ^ 64)
theorem CMul.ok {i j : Int} (h : CMul i j) : IntMulOk i j := by
 rcases h with ⟨h1, h2⟩ | ⟨h1, h2⟩
 ·exact .of_left (intBits_le_64 h1 h2)
 ·exact .of_right (intBits_le_64 h1 h2)
theorem two_pow_nn (k : Nat) : (0 : Int) ≤ 2 ^ k := by
 rw [two_pow_cast]
 exact Int.natCast_nonneg _
theorem op_add : OpR X (binaryOp .Add) (rI0 fun i j => .int (i + j)) := opI0 fun _ _ _ _ _ _ _ q => add_int q
theorem op_sub : OpR X (binaryOp .Sub) (rI0 fun i j => .int (i - j)) := opI0 fun _ _ _ _ _ _ _ q => sub_int q
theorem op_mul : OpR X (binaryOp .Mult) (rI CMul fun i j => .int (i * j)) := opI fun _ _ _ _ _ _ _ hc q => mul_int q hc.ok
theorem op_fdiv : OpR X (binaryOp .FloorDiv) (rI CDiv fun i j => .int (i / j)) := opI fun i j _ _ _ _ _ hc q => by
 have h1 : (0 : Int) < j := hc.1
 have h2 : j < 1073741824 := hc.2
 exact floordiv_int (by omega) (by rw [Int.fdiv_eq_ediv_of_nonneg i (by omega)]; exact q) (.inl (PyProof.noPylong_small (by omega)))
theorem op_mod : OpR X (binaryOp .Mod) (rI (fun _ j => 0 < j) fun i j => .int (i % j)) := opI fun i j _ _ _ _ _ hc q => by
 have h1 : (0 : Int) < j := hc
 exact mod_int' (by omega) (by rw [Int.fmod_eq_emod_of_nonneg i (by omega)]; exact q)
theorem op_pow : OpR X (binaryOp .Pow) (rI CPow fun i j => .int (i ^ j.toNat)) := opI fun _ _ _ _ _ _ _ hc q => pow_int_small hc.1 hc.2.1 hc.2.2 q
theorem op_shl : OpR X (binaryOp .LShift) (rI CPow fun i j => .int (i * 2 ^ j.toNat)) := opI fun _ _ _ _ _ _ _ hc q => lshift_int_small hc.1 hc.2.1 hc.2.2 q
theorem op_shr : OpR X (binaryOp .RShift) (rI (fun _ j => 0 ≤ j) fun i j => .int (i / 2 ^ j.toNat)) := opI fun i j _ _ _ _ _ hc q =>
 rshift_int hc (by rw [Int.fdiv_eq_ediv_of_nonneg i (two_pow_nn _)]; exact q)
theorem op_and : OpR X (binaryOp .BitAnd) (rI0 fun i j => .int (Builtin.bitAnd i j)) := opI0 fun _ _ _ _ _ _ _ q => and_int q
theorem unI {f : Value → Sem Value} {g : Int → Int}
  (rule : ∀ (i : Int) (t : Tok) (s : Shared) (Q : Value → Shared → Prop) (E : Value → Shared → Prop), Q (.int (g i) s.toks) { s with toks := s.toks + 1 } → wpAny (model X.prog X.w) X.A (f (.int i t)) Q E s) :
  UnR X f (rU fun i => .int (g i)) := by
 intro pins s σ H x v Q I rx h
 obtain ⟨i, rfl, q⟩ := h
 obtain ⟨t, rfl⟩ := rx
 exact rule i t s _ _ ⟨.int (g i), H, I.tok _, ⟨_, rfl⟩, q⟩
theorem un_neg : UnR X (unaryOp .USub) (rU fun i => .int (-i)) := unI fun _ _ _ _ _ q => neg_int q
end
noncomputable def scal : V → V → Bool
 | .non, .non => true | .non, .int _ => true | .int _, .non => true | .non, .bl _ => true | .bl _, .non => true | .non, .str _ => true | .str _, .non => true
 | .int _, .int _ => true | .bl _, .bl _ => true | .str _, .str _ => true | .byt _, .byt _ => true
 | .int _, .str _ => true | .str _, .int _ => true | .bl _, .str _ => true | .str _, .bl _ => true
 | _, _ => false
noncomputable def rEq : R2 := fun x y H Q => scal x y = true ∧ Q (.bl (decide (x = y))) H
noncomputable def rNe : R2 := fun x y H Q => scal x y = true ∧ Q (.bl (!decide (x = y))) H
theorem dec_int {i j : Int} : decide (V.int i = V.int j) = (i == j) := by
 rw [Bool.eq_iff_iff]
 simp
theorem dec_bl {i j : Bool} : decide (V.bl i = V.bl j) = (i == j) := by
 rw [Bool.eq_iff_iff]
 simp
theorem dec_str {i j : Str} : decide (V.str i = V.str j) = (i == j) := by
 rw [Bool.eq_iff_iff]
 simp
theorem dec_byt {i j : Array UInt8} : decide (V.byt i = V.byt j) = (i.toList == j.toList) := by
 rw [Bool.eq_iff_iff]
 cases i
 cases j
 simp
section
variable {X : Cx} {a b c : Expr} {ta tb tc : TE} {pos : Pos}
theorem fin_bl {pins : List (Addr × Obj)} {σ : St} {H : Hp} {s : Shared} {Q : VK} {k k' : Bool} (I : Inv X pins σ H s) (q : Q (.bl k) H) (e : k = k') : EP X pins σ Q (.bool k') s := by
 subst e
 exact ⟨.bl k, H, I, rfl, q⟩
theorem op_eq : OpR X (compareOp .Eq) rEq := by
 intro pins s σ H x y v u Q I rx ry h
 obtain ⟨hs, q⟩ := h
 cases x with
 | non =>
  cases rx
  cases y with
  | non => cases ry; exact PySem.EqNone.eq_none_none (fin_bl I q (by simp))
  | bl j => cases ry; exact PySem.EqNone.eq_none_bool (fin_bl I q (by simp))
  | int j => obtain ⟨t', rfl⟩ := ry; exact PySem.EqNone.eq_none_int (fin_bl I q (by simp))
  | str j => obtain ⟨t', rfl⟩ := ry; exact PySem.EqNone.eq_none_str (fin_bl I q (by simp))
  | _ => exact absurd (show false = true from hs) Bool.false_ne_true
 | bl i =>
  cases rx
  cases y with
  | non => cases ry; exact PySem.EqNone.eq_bool_none (fin_bl I q (by simp))
  | bl j => cases ry; exact eq_bool (fin_bl I q dec_bl)
  | str j => obtain ⟨t', rfl⟩ := ry; exact PySem.EqMixed.eq_bool_str (fin_bl I q (by simp))
  | _ => exact absurd (show false = true from hs) Bool.false_ne_true
 | int i =>
  obtain ⟨t, rfl⟩ := rx
  cases y with
  | non => cases ry; exact PySem.EqNone.eq_int_none (fin_bl I q (by simp))
  | int j => obtain ⟨t', rfl⟩ := ry; exact eq_int (fin_bl I q dec_int)
  | str j => obtain ⟨t', rfl⟩ := ry; exact PySem.EqMixed.eq_int_str (fin_bl I q (by simp))
  | _ => exact absurd (show false = true from hs) Bool.false_ne_true
 | str i =>
  obtain ⟨t, rfl⟩ := rx
  cases y with
  | non => cases ry; exact PySem.EqNone.eq_str_none (fin_bl I q (by simp))
  | bl j => cases ry; exact PySem.EqMixed.eq_str_bool (fin_bl I q (by simp))
  | int j => obtain ⟨t', rfl⟩ := ry; exact PySem.EqMixed.eq_str_int (fin_bl I q (by simp))
  | str j => obtain ⟨t', rfl⟩ := ry; exact eq_str (fin_bl I q dec_str)
  | _ => exact absurd (show false = true from hs) Bool.false_ne_true
 | byt i =>
  obtain ⟨t, rfl⟩ := rx
  cases y with
  | byt j => obtain ⟨t', rfl⟩ := ry; exact PySem.W.eq_bytes (fin_bl I q dec_byt)
  | _ => exact absurd (show false = true from hs) Bool.false_ne_true
 | _ => cases y <;> exact absurd (show false = true from hs) Bool.false_ne_true
theorem op_ne : OpR X (compareOp .NotEq) rNe := by
 intro pins s σ H x y v u Q I rx ry h
 obtain ⟨hs, q⟩ := h
 cases x with
 | non =>
  cases rx
  cases y with
  | non => cases ry; exact PySem.EqNone.ne_none_none (fin_bl I q (by simp))
  | bl j => cases ry; exact PySem.EqNone.ne_none_bool (fin_bl I q (by simp))
  | int j => obtain ⟨t', rfl⟩ := ry; exact PySem.EqNone.ne_none_int (fin_bl I q (by simp))
  | str j => obtain ⟨t', rfl⟩ := ry; exact PySem.EqNone.ne_none_str (fin_bl I q (by simp))
  | _ => exact absurd (show false = true from hs) Bool.false_ne_true
 | bl i =>
  cases rx
  cases y with
  | non => cases ry; exact PySem.EqNone.ne_bool_none (fin_bl I q (by simp))
  | bl j => cases ry; exact ne_bool (fin_bl I q (congrArg not dec_bl))
  | str j => obtain ⟨t', rfl⟩ := ry; exact PySem.EqMixed.ne_bool_str (fin_bl I q (by simp))
  | _ => exact absurd (show false = true from hs) Bool.false_ne_true
 | int i =>
  obtain ⟨t, rfl⟩ := rx
  cases y with
  | non => cases ry; exact PySem.EqNone.ne_int_none (fin_bl I q (by simp))
  | int j => obtain ⟨t', rfl⟩ := ry; exact ne_int (fin_bl I q (congrArg not dec_int))
  | str j => obtain ⟨t', rfl⟩ := ry; exact PySem.EqMixed.ne_int_str (fin_bl I q (by simp))
  | _ => exact absurd (show false = true from hs) Bool.false_ne_true
 | str i =>
  obtain ⟨t, rfl⟩ := rx
  cases y with
  | non => cases ry; exact PySem.EqNone.ne_str_none (fin_bl I q (by simp))
  | bl j => cases ry; exact PySem.EqMixed.ne_str_bool (fin_bl I q (by simp))
  | int j => obtain ⟨t', rfl⟩ := ry; exact PySem.EqMixed.ne_str_int (fin_bl I q (by simp))
  | str j => obtain ⟨t', rfl⟩ := ry; exact ne_str (fin_bl I q (congrArg not dec_str))
  | _ => exact absurd (show false = true from hs) Bool.false_ne_true
 | byt i =>
  obtain ⟨t, rfl⟩ := rx
  cases y with
  | byt j => obtain ⟨t', rfl⟩ := ry; exact PySem.W.ne_bytes (fin_bl I q (congrArg not dec_byt))
  | _ => exact absurd (show false = true from hs) Bool.false_ne_true
 | _ => cases y <;> exact absurd (show false = true from hs) Bool.false_ne_true
theorem op_lt : OpR X (compareOp .Lt) (rI0 fun i j => .bl (decide (i < j))) := opB0 fun _ _ _ _ _ _ _ q => lt_int q
theorem op_gt : OpR X (compareOp .Gt) (rI0 fun i j => .bl (decide (j < i))) := opB0 fun _ _ _ _ _ _ _ q => gt_int q
theorem op_isN : OpR X (compareOp .Is) (fun x y H Q => y = .non ∧ Q (.bl (decide (x = .non))) H) := by
 intro pins s σ H x y v u Q I rx ry h
 obtain ⟨rfl, q⟩ := h
 cases ry
 refine is_none_gen (fin_bl I q ?_)
 cases x <;> first
  | (cases rx; rfl)
  | (obtain ⟨t, rfl⟩ := rx; rfl)
theorem nomark (b : Expr) {op : CmpOp} (h : op ≠ .In := by decide) (h2 : op ≠ .NotIn := by decide) : behindInMarks op b = false := by
 have e1 : (op == CmpOp.In) = false := by cases op <;> first | rfl | exact absurd rfl h
 have e2 : (op == CmpOp.NotIn) = false := by cases op <;> first | rfl | exact absurd rfl h2
 cases b <;> simp [behindInMarks, e1, e2]
theorem pe_cmpR {op : CmpOp} {r : R2} (ho : OpR X (compareOp op) r) (ha : PE X a ta) (hb : PE X b tb) (hm : behindInMarks op b = false) : PE X (.Compare a [op] [b] pos) (tOp r ta tb) := by
 intro pins s σ H Q I h
 exact wpAny_Compare1 (binT ha hb I h fun v u s2 x y H2 I2 rx ry q => ho pins s2 σ H2 x y v u Q I2 rx ry q) hm
noncomputable def tTest (t : TE) : TT := fun σ H Q => t σ H fun x H' => ∃ k, x = .bl k ∧ Q k H'
theorem pt_cmpR {op : CmpOp} {r : R2} (ho : OpR X (compareOp op) r) (ha : PE X a ta) (hb : PE X b tb) (hm : behindInMarks op b = false) : PT X (.Compare a [op] [b] pos) (tTest (tOp r ta tb)) := by
 intro pins s σ H Q I h
 refine wpAny_isTrue_Compare1 (thn (ha pins s σ H _ I h) fun v s1 ⟨x, H1, I1, r1, q1⟩ => thn (hb pins s1 σ H1 _ I1 q1) fun u s2 ⟨y, H2, I2, r2, q2⟩ =>
  thn (ho pins s2 σ H2 x y v u _ I2 r1 r2 q2) fun c s3 ⟨z, H3, I3, r3, k, e, q3⟩ => ?_) hm
 subst e
 cases r3
 exact wpAny_truthy_bool ⟨H3, I3, q3⟩
theorem line63 : (sizeLine : Nat) < 2 ^ 63 := by rw [sizeLine_eq]; decide
theorem vals1 {x : V} {us : List Value} (r : Vals [x] us) : ∃ u, us = [u] ∧ RelV x u := by
 cases r with
 | cons r1 r2 => cases r2; exact ⟨_, rfl, r1⟩
theorem vals2 {x y : V} {us : List Value} (r : Vals [x, y] us) : ∃ u w', us = [u, w'] ∧ RelV x u ∧ RelV y w' := by
 cases r with
 | cons r1 r2 =>
  cases r2 with
  | cons r3 r4 => cases r4; exact ⟨_, _, rfl, r1, r3⟩
theorem call_max2 (hc : X.calm = true) : CallR X (.builtin "max") (fun xs H Q => ∃ i j, xs = [.int i, .int j] ∧ Q (.int (if j > i then j else i)) H) := by
 intro pins s σ H xs us Q I r h
 obtain ⟨i, j, rfl, q⟩ := h
 obtain ⟨u, w', rfl, ⟨t, rfl⟩, ⟨t', rfl⟩⟩ := vals2 r
 refine max_two_ints (I.ok.hd hc) fun h' tk k => ⟨_, H, I.kept k, ?_, q⟩
 by_cases hj : j > i
 ·rw [if_pos hj, if_pos hj]; exact ⟨_, rfl⟩
 ·rw [if_neg hj, if_neg hj]; exact ⟨_, rfl⟩
theorem call_min2 (hc : X.calm = true) : CallR X (.builtin "min") (fun xs H Q => ∃ i j, xs = [.int i, .int j] ∧ Q (.int (if j < i then j else i)) H) := by
 intro pins s σ H xs us Q I r h
 obtain ⟨i, j, rfl, q⟩ := h
 obtain ⟨u, w', rfl, ⟨t, rfl⟩, ⟨t', rfl⟩⟩ := vals2 r
 refine min_two_ints (I.ok.hd hc) fun h' tk k => ⟨_, H, I.kept k, ?_, q⟩
 by_cases hj : j < i
 ·rw [if_pos hj, if_pos hj]; exact ⟨_, rfl⟩
 ·rw [if_neg hj, if_neg hj]; exact ⟨_, rfl⟩
theorem call_int1 : CallR X (.type "int") (fun xs H Q => (∃ i, xs = [.int i] ∧ Q (.int i) H) ∨ ∃ k, xs = [.bl k] ∧ Q (.int (if k then 1 else 0)) H) := by
 intro pins s σ H xs us Q I r h
 rcases h with ⟨i, rfl, q⟩ | ⟨k, rfl, q⟩
 ·obtain ⟨u, rfl, t, rfl⟩ := vals1 r
  exact call_int_int ⟨.int i, H, I, ⟨_, rfl⟩, q⟩
 ·obtain ⟨u, rfl, r1⟩ := vals1 r
  cases r1
  exact call_int_bool ⟨.int (if k then 1 else 0), H, I.tok _, ⟨_, rfl⟩, q⟩
end
end L2
namespace L2
open PySem PySem.Spec PyProof.Rows
structure ObjM (h : Heap) (x dx C : Addr) (mA : Str → Option Value) : Prop where
 obj : h.get? x = some (PySem.W.instObj C dx)
 ns : h.Ns1 dx mA
 ne : dx ≠ x
theorem lookIn_ns {h : Heap} {dx : Addr} {mA : Str → Option Value} (n : h.Ns1 dx mA) : ∃ od, h.get? dx = some od ∧ ∀ name, PySem.W.lookIn name od = some (mA name) := by
 obtain ⟨o, es, ep, ho, hd, hk, _, hm⟩ := n
 refine ⟨o, ho, fun name => ?_⟩
 have e := hm name
 unfold nsFind findBy at e
 rw [← Array.find?_toList] at e
 unfold PySem.W.lookIn
 rw [hd]
 dsimp only
 split
 ·rename_i y q
  rw [q] at e
  exact congrArg some e
 ·rename_i q
  rw [q] at e
  have a : es.toList.any (·.refKey) = false := by
   rw [List.any_eq_false]
   intro y hy
   obtain ⟨z, t, hkey⟩ := hk y (Array.mem_toList_iff.mp hy)
   simp [DictEntry.refKey, hkey]
  have a' : ¬ es.toList.any (·.refKey) = true := by rw [a]; exact Bool.false_ne_true
  rw [if_neg a']
  exact congrArg some e
theorem ObjM.look {h : Heap} {x dx C : Addr} {mA : Str → Option Value} (I : ObjM h x dx C mA) : ∃ od, PySem.W.InstAt h x (PySem.W.instObj C dx) C (some od) ∧ ∀ name, PySem.W.lookIn name od = some (mA name) :=
 let ⟨od, ho, hl⟩ := lookIn_ns I.ns
 ⟨od, ⟨I.obj, rfl, rfl, ho⟩, hl⟩
section
variable {prog : Program} {w : World} {A : Around} {E : Value → Shared → Prop} {s : Shared} {K : PySem.W.Frag} {x dx C f : Addr} {mA : Str → Option Value} {name : Str} {v : Value}
end
section
variable {P : Program} {w : World} {H H' : Hp} {h h' : Heap} {a C dx : Addr} {fs fs' : List (Str × V)}
theorem ins_get (hok : HOk P w H h) (e : H a = some (.ins C dx fs)) : ∃ mA, ObjM h a dx C mA ∧ (∀ f, RelO (fs.lookup f) (mA f)) ∧ PySem.Within mA (fs.map (·.1)) ∧ fs.length ≤ 1000 ∧ H dx = some (.own a) := by
 obtain ⟨d, z, ne, ob, mA, n, r, q⟩ := (show ObjOk P w H h a (.ins C dx fs) from hok a _ e)
 exact ⟨mA, ⟨ob, n, ne⟩, r, q, z, d⟩
end
structure Cls (K : PySem.W.Frag) (C : Addr) : Prop where
 pg : PySem.W.plainGet K C Str.empty = true
 hd : PySem.W.hasDictIn K C = true
 po : PySem.W.plainOver K C = true
 sa : PySem.W.findIn K (.ref C) "__setattr__" = some (some (.builtin "object.__setattr__"))
theorem Cls.get {K : PySem.W.Frag} {C : Addr} (c : Cls K C) (f : Str) : PySem.W.plainGet K C f = true := c.pg
structure Con (K : PySem.W.Frag) (C : Addr) (f : Str) (v : V) (u : Value) : Prop where
 at_ : PySem.W.findIn K (.ref C) f = some (some u)
 rel : RelV v u
 get : PySem.W.specialIn K u "__get__" = some none
 cp : PySem.W.copiedNames.contains f = false
structure Meth (K : PySem.W.Frag) (C : Addr) (m : Str) (f : Addr) : Prop where
 at_ : PySem.W.findIn K (.ref C) m = some (some (.ref f))
 fn : PySem.W.isFn K (.ref f) = true
 kp : PySem.W.keepIn K (.ref f) = true
section
variable {X : Cx} {pins : List (Addr × Obj)} {σ : St} {H : Hp} {s : Shared} {a C dx : Addr} {fs : List (Str × V)} {f : Str} {v : V} {A : Around} {E : Value → Shared → Prop}
end
section
variable {X : Cx} {o e value : Expr} {f : Str} {pos pos' tpos : Pos} {ta tv : TE}
end
section
variable {X : Cx} {pins : List (Addr × Obj)} {σ : St} {H : Hp} {s : Shared} {A : Around} {E : Value → Shared → Prop} {Q : Value → Shared → Prop} {c : Value} {b : Bool}
inductive TyOf (K : PySem.W.Frag) (H : Hp) : V → Value → Prop where
 | non : TyOf K H .non (.type "NoneType")
 | bl (x : Bool) : TyOf K H (.bl x) (.type "bool")
 | int (i : Int) : TyOf K H (.int i) (.type "int")
 | str (x : Str) : TyOf K H (.str x) (.type "str")
 | flt (x : UInt64) : TyOf K H (.flt x) (.type "float")
 | lst {a : Addr} {xs : List V} (e : H a = some (.lst xs)) : TyOf K H (.ref a) (.type "list")
 | frz {a : Addr} {o : Obj} {xs : List V} (e : H a = some (.frz o (.lst xs))) : TyOf K H (.ref a) (.type "list")
 | tup {a : Addr} {xs : List V} (e : H a = some (.tup xs)) : TyOf K H (.ref a) (.type "tuple")
 | dK {a : Addr} {kvs : List (Key × V)} (e : H a = some (.dK kvs)) : TyOf K H (.ref a) (.type "dict")
 | dT {a : Addr} {kvs : List (List Key × V)} (e : H a = some (.dT kvs)) : TyOf K H (.ref a) (.type "dict")
 | ins {a C dx : Addr} {fs : List (Str × V)} (e : H a = some (.ins C dx fs)) (cl : Cls K C) (ha : PySem.W.findIn K (.ref C) "__class__" = some (some (.builtin "object.__class__")))
   (hn : PySem.W.specialIn K (.builtin "object.__class__") "__get__" = some (some (.builtin "getset_descriptor.__get__"))) (htk : PySem.W.takesIn K (.builtin "object.__class__") = some true)
   (hm : PySem.W.mroIn K C (.type "object") = some true) : TyOf K H (.ref a) (.ref C)
theorem isinst_ok {x : V} {u t : Value} (I : Inv X pins σ H s) (rx : RelV x u) (ty : TyOf X.K H x t) (e : PySem.W.kitOne X.K t c = some b) (h : ∀ tk, Q (.bool b) { s with toks := tk }) :
  wpAny (model X.prog X.w) A (call (.builtin "isinstance") [u, c]) Q E s := by
 cases ty with
 | non => cases (show u = Value.none from rx); exact PySem.W.kia_one PySem.W.kitx_none I.kIn True.intro e (fun z => nomatch z) h
 | bl y => cases (show u = Value.bool y from rx); exact PySem.W.kia_one PySem.W.kitx_bool I.kIn True.intro e (fun z => nomatch z) h
 | int i => obtain ⟨t, q⟩ := (show ∃ t, u = Value.int i t from rx); cases q; exact PySem.W.kia_one PySem.W.kitx_int I.kIn True.intro e (fun z => nomatch z) h
 | str y => obtain ⟨t, q⟩ := (show ∃ t, u = Value.str y t from rx); cases q; exact PySem.W.kia_one PySem.W.kitx_str I.kIn True.intro e (fun z => nomatch z) h
 | flt y => obtain ⟨t, q⟩ := (show ∃ t, u = Value.float y t from rx); cases q; exact PySem.W.kia_one PySem.W.kitx_float I.kIn True.intro e (fun z => nomatch z) h
 | @lst a xs ea =>
  cases (show u = Value.ref a from rx)
  obtain ⟨_, _, n, _, h1⟩ := (show ObjOk X.prog X.w H s.heap a (.lst xs) from I.hok a _ ea)
  exact PySem.W.kia_one PySem.W.kitx_list I.kIn ⟨_, h1, rfl⟩ e (fun z => nomatch z) h
 | @frz a ob xs ea =>
  cases (show u = Value.ref a from rx)
  obtain ⟨_, _, _, n, _, h1⟩ := (show ObjOk X.prog X.w H s.heap a (.frz ob (.lst xs)) from I.hok a _ ea)
  exact PySem.W.kia_one PySem.W.kitx_list I.kIn ⟨_, h1, rfl⟩ e (fun z => nomatch z) h
 | @tup a xs ea =>
  cases (show u = Value.ref a from rx)
  obtain ⟨_, _, _, p⟩ := (show ObjOk X.prog X.w H s.heap a (.tup xs) from I.hok a _ ea)
  obtain ⟨o, h1, h2, _⟩ := p
  exact PySem.W.kia_one PySem.W.kitx_tuple I.kIn ⟨o, h1, h2⟩ e (fun z => nomatch z) h
 | @dK a kvs ea =>
  cases (show u = Value.ref a from rx)
  obtain ⟨_, _, vs, _, p⟩ := (show ObjOk X.prog X.w H s.heap a (.dK kvs) from I.hok a _ ea)
  obtain ⟨o, es, ep, h1, h2, _⟩ := p
  exact PySem.W.kia_one PySem.W.kitx_dict I.kIn ⟨o, h1, h2.1⟩ e (fun z => nomatch z) h
 | @dT a kvs ea =>
  cases (show u = Value.ref a from rx)
  obtain ⟨_, _, xs, _, o, es, ep, h1, h2, _⟩ := (show ObjOk X.prog X.w H s.heap a (.dT kvs) from I.hok a _ ea)
  exact PySem.W.kia_one PySem.W.kitx_dict I.kIn ⟨o, h1, h2.1⟩ e (fun z => nomatch z) h
 | @ins a C dx fs ea cl ha hn htk hm =>
  cases (show u = Value.ref a from rx)
  obtain ⟨mA, O, _⟩ := ins_get I.hok ea
  obtain ⟨od, J, _⟩ := O.look
  exact PySem.W.kia_one (PySem.W.kitx_own (cl.get _) cl.hd ha hn htk hm) I.kIn J e (fun z => nomatch z) h
end
end L2
namespace L2
open PySem PySem.Spec PyProof.Rows
structure Room (k : Nat) (A : Around) : Prop where
 hd : A.handled = none
 dp : A.depth + 3 * k + 5 < recursionLimit
 un : A.units + 16 * k + 200 < cLine
 gd : A.guards = some []
theorem Room.mono {j k : Nat} {A : Around} (r : Room k A) (h : j ≤ k) : Room j A := ⟨r.hd, by have := r.dp; omega, by have := r.un; omega, by first | exact r.gd | (simp [Around.under, Code.guards, Code.isGuard, guardIds]; exact r.gd)⟩
theorem Room.deeper {k : Nat} {A : Around} (r : Room (k + 1) A) (env : Env) : Room k (A.deeper env) :=
 ⟨r.hd, by have := r.dp; show A.depth + 1 + 3 * k + 5 < _; omega, by have := r.un; show A.units + 3 + 16 * k + 200 < _; omega, by first | exact r.gd | (simp [Around.under, Code.guards, Code.isGuard, guardIds]; exact r.gd)⟩
theorem Room.depth {k : Nat} {A : Around} (r : Room k A) : A.depth < recursionLimit := by have := r.dp; omega
noncomputable def tNil : TA := fun _ H Q => Q [] H
noncomputable def tCons (ta : TE) (tr : TA) : TA := fun σ H Q => ta σ H fun x H1 => tr σ H1 fun xs H2 => Q (x :: xs) H2
section
variable {X : Cx} {e : Expr} {es : List Expr} {te : TE} {t : TA} {pos : Pos}
theorem pa_nil : PA X [] tNil := fun _ _ _ _ H Q I h => Calls.spliced_nil ⟨[], H, I, .nil, h⟩
theorem pa_cons (ha : PE X e te) (hr : PA X es t) (hs : starEach (e :: es) X.env = (false, eval e X.env) :: starEach es X.env := by rfl) : PA X (e :: es) (tCons te t) := by
 intro pos pins s σ H Q I h
 rw [hs]
 show wpAny _ _ (spliced ((false, eval e X.env) :: backTo pos (starEach es X.env))) _ _ s
 refine Calls.spliced_cons (thn (ha pins s σ H _ I h) fun u s1 ⟨x, H1, I1, r1, q1⟩ => ?_)
 exact thn (hr pos pins s1 σ H1 _ I1 q1) fun us s2 ⟨xs, H2, I2, r2, q2⟩ => ⟨x :: xs, H2, I2, .cons r1 r2, q2⟩
noncomputable def tLst (t : TA) : TE := fun σ H Q => t σ H fun xs H1 => xs.length ≤ sizeLine ∧ ∀ p, H1 p = none → Q (.ref p) (upd H1 p (.lst xs))
theorem pe_lst (h : PA X es t) : PE X (.List es pos) (tLst t) := by
 intro pins s σ H Q I hq
 refine wpAny_List_spliced (thn (h pos pins s σ H _ I hq) fun us s1 ⟨xs, H1, I1, r, z, q⟩ => ⟨by rw [← r.length]; exact z, ?_⟩)
 have hf : H1 s1.heap.objs.size = none := I1.hok.fresh (Nat.le_refl _)
 refine ⟨.ref s1.heap.objs.size, upd H1 s1.heap.objs.size (.lst xs), I1.laid (t' := s1.toks) (fun b u e => Heap.get?_push_of_some _ e) (Nat.le_refl _) ?_, rfl, q _ hf⟩
 exact ⟨z, us, 0, r, Heap.get?_push_size _ rfl⟩
end
noncomputable abbrev Sp := List V → Hp → VK → XK → Prop
noncomputable abbrev CXT := List Env → Hp → Shared → XK → Value → Shared → Prop
structure Env0 (P : Program) (w : World) (K : PySem.W.Frag) (mg : Str → Option Value) (base : Heap) (A : Around) (outer : List Env) (s : Shared) (H : Hp) : Prop where
 frames : A.frames = some outer
 mod : Mod K mg base
 bs : ∀ b o, base.get? b = some o → s.heap.get? b = some o ∧ H b = none
 bsz : base.objs.size ≤ s.heap.objs.size
 funs : s.heap.FunFrames base outer
 frf : ∀ b ∈ frs outer, H b = none
 hok : HOk P w H s.heap
 bare : AllBare s.gens
noncomputable def CE (outer : List Env) (P : Program) (w : World) (H : Hp) (s : Shared) (Q : VK) (u : Value) (s' : Shared) : Prop :=
 ∃ v H', s'.os = s.os ∧ AllBare s'.gens ∧ Un (frs outer) [] H H' s.heap s'.heap ∧ HOk P w H' s'.heap ∧ RelV v u ∧ Q v H'
noncomputable def CR (CX : CXT) (outer : List Env) (P : Program) (w : World) (H : Hp) (s : Shared) (Q : VK) (E : XK) (r : Result) (s' : Shared) : Prop :=
 match r with
 | .ok (.ret u) => CE outer P w H s Q u s'
 | .ok _ => False
 | .error e => CX outer H s E e s'
structure FnOk (P : Program) (w : World) (K : PySem.W.Frag) (mg : Str → Option Value) (base : Heap) (CX : CXT) (k : Nat) (f : Addr) (fd : FuncData) (ps : List Str) (sp : Sp) : Prop where
 len : ∀ vs H Q E, sp vs H Q E → vs.length = ps.length
 run : ∀ (A : Around) (outer : List Env) (s : Shared) (H : Hp) (args : Args) (us : List Value) (vs : List V) (Q : VK) (E : XK), Room k A → Env0 P w K mg base A outer s H → BindsTo s fd args (ps.zip us) → Vals vs us → sp vs H Q E →
  codeAny (model P w) A (.call (.ref f) args) (CR CX outer P w H s Q E) s
section
variable {X : Cx} {pins : List (Addr × Obj)} {σ : St} {H : Hp} {s s' : Shared}
theorem Inv.env0 (I : Inv X pins σ H s) : Env0 X.prog X.w X.K X.mg X.base X.A X.stack s H :=
 ⟨I.ok.frames, I.ok.mod, I.bs, Nat.le_trans I.ok.bsz I.sz, I.stack, I.stkFree, I.hok, I.bare⟩
theorem Inv.after {Q : VK} {u : Value} (I : Inv X pins σ H s) (h : CE X.stack X.prog X.w H s Q u s') : EP X pins σ Q u s' := by
 obtain ⟨v, H', os, bare, un, hok, r, q⟩ := h
 obtain ⟨hh, g, d, t, os'⟩ := s'
 obtain rfl : os' = s.os := os
 exact ⟨v, H', I.call (h' := hh) (g' := g) (d' := d) (t' := t) (ch := []) un hok bare (fun b z => absurd z (by simp)), r, q⟩
end
noncomputable def tCall (sp : Sp) (dvs : List V) (E : XK) (t : TA) : TE := fun σ H Q => t σ H fun vs H1 => sp (vs ++ dvs) H1 Q E
noncomputable def Binds (K : PySem.W.Frag) (fd : FuncData) (ps : List Str) (ds : List Value) : Prop :=
 ∀ (s : Shared) (us : List Value), K.In s.heap → (us ++ ds).length = ps.length → BindsTo s fd ⟨us, []⟩ (ps.zip (us ++ ds))
theorem Binds.all {K : PySem.W.Frag} {fd : FuncData} {ps : List Str} (h : ∀ us : List Value, us.length = ps.length → bindArgs fd ⟨us, []⟩ = pure (ps.zip us)) : Binds K fd ps [] := fun s us _ hl => by
 rw [List.append_nil] at hl ⊢
 exact .of_eq (h us hl)
noncomputable def Passes (CX : CXT) (X : Cx) (E : XK) : Prop := ∀ (pins : List (Addr × Obj)) (σ : St) (H : Hp) (s : Shared) (e : Value) (s' : Shared), Inv X pins σ H s → CX X.stack H s E e s' → X.xe e s'
section
variable {X : Cx} {CX : CXT} {k : Nat} {f C : Addr} {fd : FuncData} {ps : List Str} {sp : Sp} {dvs : List V} {ds : List Value} {E : XK} {x m : Str} {p pos apos : Pos} {e o : Expr} {es : List Expr} {ta : TE} {t : TA}
theorem run_fn {pins : List (Addr × Obj)} {σ : St} {H : Hp} {s : Shared} {Q : VK} {us : List Value} {vs : List V} (F : FnOk X.prog X.w X.K X.mg X.base CX k f fd ps sp) (hr : Room k X.A) (hb : Binds X.K fd ps ds) (hd : Vals dvs ds) (hx : Passes CX X E)
  (I : Inv X pins σ H s) (r : Vals vs us) (h : sp (vs ++ dvs) H Q E) : wpAny (model X.prog X.w) X.A (call (.ref f) us) (EP X pins σ Q) X.xe s := by
 have r2 : Vals (vs ++ dvs) (us ++ ds) := r.append hd
 have hl : (us ++ ds).length = ps.length := by rw [← r2.length]; exact F.len _ _ _ _ h
 refine wpAny_call (codeAny_mono (F.run X.A X.stack s H ⟨us, []⟩ (us ++ ds) (vs ++ dvs) Q E hr I.env0 (hb s us I.kIn hl) r2 h) fun r s' hq => ?_)
 cases r with
 | error e => exact hx pins σ H s e s' I hq
 | ok fl =>
  cases fl with
  | ret u => exact I.after hq
  | next => exact False.elim hq
  | brk => exact False.elim hq
  | cont => exact False.elim hq
theorem pe_call (F : FnOk X.prog X.w X.K X.mg X.base CX k f fd ps sp) (hr : Room k X.A) (hg : Gl X x) (hm : X.mg x = some (.ref f)) (hk : PySem.W.keepIn X.K (.ref f) = true) (hb : Binds X.K fd ps ds) (hd : Vals dvs ds) (hx : Passes CX X E)
  (ha : PA X (e :: es) t) (hdb : (x == ("__debug__" : Str)) = false := by decide) (he : starEach (e :: es) X.env = (false, eval e X.env) :: starEach es X.env := by rfl) (hpl : (backTo pos (starEach es X.env)).any (·.1) = false := by rfl) :
  PE X (.Call (.Name x p) (e :: es) [] pos) (tCall sp dvs E t) := by
 intro pins s σ H Q I h
 refine wpAny_Call_Name_kw (ld_glob I hg hm ?_ hdb)
 refine PySem.W.callWith_K (h₀ := X.base) I.ok.mod.kin hk (thn (ha pos pins s σ H _ I h) fun us s1 ⟨vs, H1, I1, r, q⟩ => ⟨I1.kIn, ?_⟩) he hpl
 exact run_fn F hr hb hd hx I1 r q
structure Mk (K : PySem.W.Frag) (C f : Addr) : Prop where
 makes : PySem.W.makesIn K C = true
 init : PySem.W.findIn K (.ref C) "__init__" = some (some (.ref f))
 fn : PySem.W.isFn K (.ref f) = true
 kp : PySem.W.keepIn K (.ref C) = true
end
section
variable {X : Cx} {CX : CXT} {k : Nat} {f C : Addr} {fd : FuncData} {ps ks : List Str} {sp : Sp} {E : XK} {x m : Str} {p pos apos kpos : Pos} {e o : Expr} {es : List Expr} {kws : List Keyword} {te ta : TE} {t tk : TA} {nm : Option Str}
structure KBinds (K : PySem.W.Frag) (fd : FuncData) (ps ks : List Str) (g : List Value → List Value → List Value) (gV : List V → List V → List V) : Prop where
 to : ∀ (s : Shared) (us ws : List Value), K.In s.heap → (g us ws).length = ps.length → BindsTo s fd ⟨us, ks.zip ws⟩ (ps.zip (g us ws))
 rel : ∀ {vs : List V} {us : List Value} {zs : List V} {ws : List Value}, Vals vs us → Vals zs ws → Vals (gV vs zs) (g us ws)
variable {g : List Value → List Value → List Value} {gV : List V → List V → List V}
end
structure FnScope (N P : List Str) (sc : Scope) : Prop where
 kind : sc.kind = .function
 co : sc.isCoroutine = false
 gen : sc.isGenerator = false
 nd : N.Nodup
 pre : N.take P.length = P
 par : ∀ x ∈ P, sc.names.lookup x = some .local ∨ sc.names.lookup x = some .cell
 nofree : ∀ y ∈ sc.names, y.2 ≠ .free
theorem bindL_out {kindOf : Str → Option NameKind} {x : Str} : ∀ {binds : List (Str × Value)} {m : Str → Option Value}, (∀ v, (x, v) ∉ binds) → bindL kindOf binds m x = m x
 | [], _, _ => rfl
 | (n, v) :: r, m, h => by
  unfold bindL
  rw [bindL_out fun w hw => h w (List.mem_cons_of_mem _ hw)]
  split
  ·have : x ≠ n := by rintro rfl; exact h v List.mem_cons_self
   simp [this]
  ·rfl
theorem bindC_out {kindOf : Str → Option NameKind} {x : Str} : ∀ {binds : List (Str × Value)} {m : Str → Option Value}, (∀ v, (x, v) ∉ binds) → bindC kindOf binds m x = m x
 | [], _, _ => rfl
 | (n, v) :: r, m, h => by
  unfold bindC
  rw [bindC_out fun w hw => h w (List.mem_cons_of_mem _ hw)]
  split
  ·rfl
  ·have : x ≠ n := by rintro rfl; exact h v List.mem_cons_self
   simp [this]
theorem bindL_get {kindOf : Str → Option NameKind} {x : Str} {v : Value} : ∀ {P : List Str} {vs : List Value} {i : Nat} {m : Str → Option Value}, P.Nodup → P[i]? = some x → vs[i]? = some v → kindOf x = some .local →
  bindL kindOf (P.zip vs) m x = some v
 | [], _, _, _, _, h, _, _ => by simp at h
 | _ :: _, [], _, _, _, _, h, _ => by simp at h
 | p :: P, w :: vs, 0, m, nd, h1, h2, hk => by
  simp at h1 h2; subst h1; subst h2
  show bindL kindOf ((p, w) :: P.zip vs) m p = _
  unfold bindL
  rw [bindL_out fun v hv => (List.nodup_cons.mp nd).1 (List.of_mem_zip hv).1, if_pos hk]
  simp
 | p :: P, w :: vs, i + 1, m, nd, h1, h2, hk => by
  show bindL kindOf ((p, w) :: P.zip vs) m x = _
  unfold bindL
  exact bindL_get (i := i) (List.nodup_cons.mp nd).2 (by simpa using h1) (by simpa using h2) hk
theorem bindC_get {kindOf : Str → Option NameKind} {x : Str} {v : Value} : ∀ {P : List Str} {vs : List Value} {i : Nat} {m : Str → Option Value}, P.Nodup → P[i]? = some x → vs[i]? = some v → kindOf x ≠ some .local →
  bindC kindOf (P.zip vs) m x = some v
 | [], _, _, _, _, h, _, _ => by simp at h
 | _ :: _, [], _, _, _, _, h, _ => by simp at h
 | p :: P, w :: vs, 0, m, nd, h1, h2, hk => by
  simp at h1 h2; subst h1; subst h2
  show bindC kindOf ((p, w) :: P.zip vs) m p = _
  unfold bindC
  rw [bindC_out fun v hv => (List.nodup_cons.mp nd).1 (List.of_mem_zip hv).1, if_neg hk]
  simp
 | p :: P, w :: vs, i + 1, m, nd, h1, h2, hk => by
  show bindC kindOf ((p, w) :: P.zip vs) m x = _
  unfold bindC
  exact bindC_get (i := i) (List.nodup_cons.mp nd).2 (by simpa using h1) (by simpa using h2) hk
noncomputable def start (N : List Str) (vs : List V) : St := vs.map some ++ List.replicate (N.length - vs.length) none
noncomputable def cxOf (CX : CXT) (P : Program) (w : World) (K : PySem.W.Frag) (mg : Str → Option Value) (base : Heap) (N : List Str) (qual : Str) (scope : Scope) (f : Addr) (cd : Value) (A : Around) (outer : List Env) (s : Shared) (H : Hp) (E : XK) : Cx where
 prog := P
 w := w
 K := K
 mg := mg
 base := base
 A := A.deeper (envOfC qual scope s.heap.objs.size f cd)
 N := N
 s₀ := s
 H₀ := H
 env := envOfC qual scope s.heap.objs.size f cd
 outer := outer
 stack := envOfC qual scope s.heap.objs.size f cd :: outer
 ex := []
 calm := true
 fn := fun _ => true
 pn := []
 xe := fun e s' => wpAny (model P w) (A.deeper (envOfC qual scope s.heap.objs.size f cd)) (leaving (envOfC qual scope s.heap.objs.size f cd) e) (fun _ s'' => CX outer H s E e s'') (fun e' s'' => CX outer H s E e' s'') s'
theorem cell_has {sc : Scope} {n : Nat} {x : Str} (h : sc.names.lookup x = some .cell) : ∃ c, (cellsFrom n sc.names []).lookup x = some c := by
 have q := PySem.W.cellsFrom_some sc.names n [] (.inl h)
 exact Option.isSome_iff_exists.mp q
theorem inv_start {CX : CXT} {P : Program} {w : World} {K : PySem.W.Frag} {mg : Str → Option Value} {base : Heap} {N ps : List Str} {qual : Str} {scope : Scope} {f : Addr} {cd : Value} {A : Around} {outer : List Env} {s s1 : Shared} {H : Hp} {E : XK} {us : List Value} {vs : List V}
  (S : FnScope N ps scope) (hd : A.handled = none) (e0 : Env0 P w K mg base A outer s H) (hl : vs.length = ps.length) (r : Vals vs us)
  (x : InCallC s s.heap.objs.size (bindL (envOfC qual scope s.heap.objs.size f cd).kindOf (ps.zip us) fun _ => none) (cellsFrom (s.heap.objs.size + 1) scope.names []) (bindC (envOfC qual scope s.heap.objs.size f cd).kindOf (ps.zip us) fun _ => none) s1) :
  Inv (cxOf CX P w K mg base N qual scope f cd A outer s H E) [] (start N vs) H s1 := by
 have hpl : ps.length ≤ N.length := by have := congrArg List.length S.pre; rw [List.length_take] at this; omega
 obtain ⟨h1, tk, rfl, hk⟩ := x.done
 have noA : ∀ b : Addr, b ∉ (cxOf CX P w K mg base N qual scope f cd A outer s H E).ex := fun b z => absurd (show b ∈ ([] : List Addr) from z) (by simp)
 refine ⟨⟨e0.mod, S.kind, rfl, rfl, Nat.le_refl _, fun y z c h1 h2 => ?_, fun y hy => ?_, fun y c _ h => ?_, fun _ => hd, Around.frames_deeper e0.frames, .inr ⟨rfl, rfl⟩, fun b z => absurd z (noA b), e0.bs, e0.bsz, fun b _ _ => noA b, fun b z => absurd z (noA b), e0.funs, e0.frf⟩,
  rfl, e0.bare, Un.kept hk, ⟨_, x.toInCall.ns, fun i y v h1 h2 h3 => ?_⟩, fun y c h => ⟨_, x.cell y c h⟩, e0.hok.fresh (Nat.le_refl _), fun y c h => ?_, fun p hp => absurd (show p ∈ ([] : List (Addr × Obj)) from hp) (by simp), e0.hok.kept hk, ?_⟩
 ·exact name_of_addr x.apart (PySem.mem_of_lookup h1) (PySem.mem_of_lookup h2)
 ·have hy : scope.names.lookup y = some .cell ∨ scope.names.lookup y = some .free := hy
  rcases hy with hy | hy
  ·exact cell_has hy
  ·exact absurd rfl (S.nofree _ (PySem.mem_of_lookup hy))
 ·exact Nat.le_of_lt (x.above y c (PySem.mem_of_lookup h))
 ·have hi : i < vs.length := by
   unfold start at h2
   by_cases hi : i < vs.length
   ·exact hi
   ·rw [List.getElem?_append_right (by simpa using hi)] at h2
    rw [List.getElem?_replicate] at h2
    split at h2 <;> cases h2
  have ha : vs[i]? = some v := by
   unfold start at h2
   rw [List.getElem?_append_left (by simpa using hi), List.getElem?_map] at h2
   cases e : vs[i]? with
   | none => rw [e] at h2; cases h2
   | some a => rw [e] at h2; cases h2; rfl
  obtain ⟨u, hu, rv⟩ := r.get ha
  have hp : ps[i]? = some y := by
   rw [← S.pre, List.getElem?_take_of_lt (by omega)]; exact h1
  have ndP : ps.Nodup := by rw [← S.pre]; exact S.nd.sublist (List.take_sublist _ _)
  refine ⟨u, rv, ?_⟩
  rcases S.par y (List.mem_of_getElem? hp) with k | k
  ·exact .inl ⟨k, bindL_get ndP hp hu k⟩
  ·obtain ⟨c, e⟩ := cell_has (n := s.heap.objs.size + 1) k
   refine .inr ⟨.inl k, c, e, ?_⟩
   have q := x.cell y c e
   rw [bindC_get ndP hp hu (by show scope.names.lookup y ≠ _; rw [k]; decide)] at q
   exact q
 ·exact e0.hok.fresh (Nat.le_of_lt (x.above y c (PySem.mem_of_lookup h)))
 ·unfold start
  show _ = N.length
  rw [List.length_append, List.length_map, List.length_replicate]
  omega
theorem fn_of {CX : CXT} {P : Program} {w : World} {K : PySem.W.Frag} {mg : Str → Option Value} {base : Heap} {k : Nat} {f : Addr} {name qual : Str} {params : Arguments} {body : List Stmt} {scope : Scope} {dV kV doc pm cdv ct oc : Value} {an od : Option Addr}
  {osl : Array (Option Value)} {N ps : List Str} {sp : Sp} (lk : K.lookup f = some ⟨oc, od, .func (PySem.W.fnOf name qual params body scope dV kV doc pm an cdv ct), osl⟩) (hcd : PySem.W.codeIn K cdv qual = true) (S : FnScope N ps scope)
  (len : ∀ vs H Q E, sp vs H Q E → vs.length = ps.length)
  (hbody : ∀ (A : Around) (outer : List Env) (s : Shared) (H : Hp) (vs : List V) (Q : VK) (E : XK), Room k (A.deeper (envOfC qual scope s.heap.objs.size f cdv)) → sp vs H Q E →
   ∃ t, PSs (cxOf CX P w K mg base N qual scope f cdv A outer s H E) body t ∧ t { nx := fun _ H' => Q .non H', rt := Q } (start N vs) H) :
  FnOk P w K mg base CX (k + 1) f (PySem.W.fnOf name qual params body scope dV kV doc pm an cdv ct) ps sp := by
 refine ⟨len, fun A outer s H args us vs Q E hr e0 hb r hsp => ?_⟩
 have hl := len _ _ _ _ hsp
 have KX : K.In s.heap := e0.mod.kin.keeps fun b o e => (e0.bs b o e).1
 have lim : s.heap.NoLimit := e0.mod.nolimit.keeps fun b o e => (e0.bs b o e).1
 have hkind : ∀ y ∈ ps.zip us, scope.names.lookup y.1 = some .local ∨ (scope.names.lookup y.1 = some .cell ∧ ((cellsFrom (s.heap.objs.size + 1) scope.names []).lookup y.1).isSome = true) := fun ⟨n, v⟩ hy => by
  rcases S.par n (List.of_mem_zip hy).1 with q | q
  ·exact .inl q
  ·exact .inr ⟨q, PySem.W.cellsFrom_some _ _ _ (.inl q)⟩
 refine codeAny_call_function hr.depth (KX _ _ lk) rfl S.co S.gen rfl (PySem.W.codeRec_of KX hcd) (hb _ _ _ _ ?_)
 refine wpAny_newFunctionEnv_cells S.kind hkind fun env he s1 x => ?_
 subst he
 refine ⟨lim.keeps x.toInCall.keep, codeAny_func ?_⟩
 obtain ⟨t, ht, hq⟩ := hbody A outer s H vs Q E (hr.deeper _) hsp
 have I : Inv (cxOf CX P w K mg base N qual scope f cdv A outer s H E) [] (start N vs) H s1 := inv_start S hr.hd e0 hl r x
 refine wpAny_mono (ht [] s1 (start N vs) H _ I hq) (fun fl s' hs => ?_) fun e s' hs => hs
 have fin : ∀ {σ' : St} {H' : Hp} {v : V} {u : Value}, Inv (cxOf CX P w K mg base N qual scope f cdv A outer s H E) [] σ' H' s' → RelV v u → Q v H' → CE outer P w H s Q u s' :=
  fun {σ' H' v u} J rv q => ⟨v, H', J.os, J.bare, J.base, J.hok, rv, q⟩
 cases fl with
 | ret u =>
  obtain ⟨v, σ', H', J, rv, q⟩ := hs
  exact fin J rv q
 | next =>
  obtain ⟨σ', H', J, q⟩ := hs
  exact fin (v := V.non) (u := Value.none) J rfl q
 | brk =>
  obtain ⟨_, _, _, q⟩ := hs
  exact False.elim q
 | cont =>
  obtain ⟨_, _, _, q⟩ := hs
  exact False.elim q
end L2
namespace L2
open PySem PySem.Spec PyProof.Rows
section
variable {X : Cx} {x : Str} {p pos : Pos} {e : Expr} {es : List Expr} {t : TA} {id T : String} {r : List V → Hp → VK → Prop}
noncomputable def tCB (r : List V → Hp → VK → Prop) (t : TA) : TE := fun σ H Q => t σ H fun vs H1 => r vs H1 Q
theorem pe_callB (hc : CallR X (.builtin id) r) (hg : Gl X x) (hm : X.mg x = none) (hv : bootBuiltins x = some (.builtin id)) (ha : PA X (e :: es) t) (hn : x ≠ "__name__" := by decide) (hdb : (x == ("__debug__" : Str)) = false := by decide)
  (he : starEach (e :: es) X.env = (false, eval e X.env) :: starEach es X.env := by rfl) (hpl : (backTo pos (starEach es X.env)).any (·.1) = false := by rfl) : PE X (.Call (.Name x p) (e :: es) [] pos) (tCB r t) := by
 intro pins s σ H Q I h
 refine wpAny_Call_Name_kw (ld_blt I hg hm hv ?_ hn hdb)
 exact PyProof.Rows.callWith_builtin1 (thn (ha pos pins s σ H _ I h) fun us s1 ⟨vs, H1, I1, r1, q1⟩ => hc pins s1 σ H1 vs us Q I1 r1 q1) he hpl
theorem pe_callTy (hc : CallR X (.type T) r) (hg : Gl X x) (hm : X.mg x = none) (hv : bootBuiltins x = some (.type T)) (ha : PA X (e :: es) t) (hn : x ≠ "__name__" := by decide) (hdb : (x == ("__debug__" : Str)) = false := by decide)
  (he : starEach (e :: es) X.env = (false, eval e X.env) :: starEach es X.env := by rfl) (hpl : (backTo pos (starEach es X.env)).any (·.1) = false := by rfl) : PE X (.Call (.Name x p) (e :: es) [] pos) (tCB r t) := by
 intro pins s σ H Q I h
 refine wpAny_Call_Name_kw (ld_blt I hg hm hv ?_ hn hdb)
 exact PyProof.Rows.callWith_type1 (thn (ha pos pins s σ H _ I h) fun us s1 ⟨vs, H1, I1, r1, q1⟩ => hc pins s1 σ H1 vs us Q I1 r1 q1) he hpl
end
end L2
namespace HT
open PySem PyProof.Rows
noncomputable def lexLt : List Int → List Int → Bool
 | [], [] => false
 | [], _ :: _ => true
 | _ :: _, [] => false
 | x :: xs, y :: ys => if x = y then lexLt xs ys else decide (x < y)
theorem lexLt_cons (x y : Int) (xs ys : List Int) : lexLt (x :: xs) (y :: ys) = if x = y then lexLt xs ys else decide (x < y) := rfl
theorem lexLt_nil_nil : lexLt [] [] = false := rfl
section
open PySem.SeqAt
open PySem.AutoSeq1 (wpAny_loadPart')
open PySem.MeetsSeq PySem.MeetsSeq2 PySem.MeetsSeq3
end
section
variable {prog : Program} {w : World} {A : Around} {E : Value → Shared → Prop} {s : Shared}
theorem cat_tup {t b : Addr} {vs ws : List Value} {Q : Value → Shared → Prop} (ht : IsTup s.heap t vs.toArray) (hb : IsTup s.heap b ws.toArray) (hv : vs ≠ [])
  (h1 : ws = [] → Q (.ref t) s) (h2 : ws ≠ [] → Q (.ref s.heap.objs.size) { s with heap := s.heap.push { cls := .type "tuple", data := .seq (vs ++ ws).toArray } })
  (hsz : vs.length + ws.length ≤ sizeLine) : wpAny (model prog w) A (binaryOp .Add (.ref t) (.ref b)) Q E s := by
 obtain ⟨⟨cls, dd, data, sl⟩, ho, hc, n, hd⟩ := id ht
 obtain ⟨⟨cls2, dd2, data2, sl2⟩, ho2, hc2, n2, hd2⟩ := id hb
 simp only at hc hd hc2 hd2
 subst hc hd hc2 hd2
 have e : vs.toArray ++ ws.toArray = (vs ++ ws).toArray := by simp
 by_cases hw : ws = []
 ·exact concat_meets ⟨_, ho, rfl⟩ ⟨_, ho2, rfl⟩ noFill_tuple_add seq_tuple_add PySem.F.slot_tuple_add PySem.F.entry_tuple_add (PySem.F.args_tuple_add_2 _ _)
   (tuple_addW1 t b vs.toArray ws.toArray n n2 dd dd2 sl sl2 (by simpa using hv) (by simp [hw])) ⟨ho, ho2, h1 hw⟩
 ·refine concat_meets ⟨_, ho, rfl⟩ ⟨_, ho2, rfl⟩ noFill_tuple_add seq_tuple_add PySem.F.slot_tuple_add PySem.F.entry_tuple_add (PySem.F.args_tuple_add_2 _ _)
   (tuple_addW2 t b vs.toArray ws.toArray n n2 dd dd2 sl sl2 (by simpa using hv) (by simpa using hw) (by rw [List.size_toArray, List.size_toArray]; exact hsz)) ⟨ho, ho2, ?_⟩
  rw [e]
  exact h2 hw
noncomputable def sIx (n d : Nat) : Option Int → Nat
 | none => d
 | some v => if v < 0 then (v + (n : Int)).toNat else min v.toNat n
theorem sIx_none (n d : Nat) : sIx n d none = d := rfl
theorem sIx_nat (n d k : Nat) : sIx n d (some (k : Int)) = min k n := by
 show (if (k : Int) < 0 then ((k : Int) + (n : Int)).toNat else min (k : Int).toNat n) = min k n
 rw [if_neg (by omega), Int.toNat_natCast]
theorem sIx_le (n d : Nat) (hd : d ≤ n) (o : Option Int) : sIx n d o ≤ n := by
 cases o with
 | none => exact hd
 | some v =>
  show (if v < 0 then (v + (n : Int)).toNat else min v.toNat n) ≤ n
  by_cases hv : v < 0
  ·rw [if_pos hv]; omega
  ·rw [if_neg hv]; exact Nat.min_le_right _ _
theorem clip_eq (v : Int) (n d : Nat) : (if v < 0 then max (v + (n : Int)) 0 else min v (n : Int)) = ((sIx n d (some v) : Nat) : Int) := by
 show (if v < 0 then max (v + (n : Int)) 0 else min v (n : Int)) = (((if v < 0 then (v + (n : Int)).toNat else min v.toNat n) : Nat) : Int)
 by_cases hv : v < 0
 ·simp only [if_pos hv]; omega
 ·simp only [if_neg hv]; omega
theorem adjust_gen (lo hi : Option Int) (n : Nat) : Builtin.Slice.sliceAdjust lo hi 1 (n : Int) = (((sIx n 0 lo : Nat) : Int), ((sIx n n hi : Nat) : Int)) := by
 have h1 : ¬ ((1 : Int) < 0) := by omega
 unfold Builtin.Slice.sliceAdjust
 simp only [h1, if_false]
 refine Prod.ext ?_ ?_
 ·cases lo with
  | none => rfl
  | some v => exact clip_eq v n 0
 ·cases hi with
  | none => rfl
  | some v => exact clip_eq v n n
theorem places_gen (i j : Nat) : Builtin.Slice.slicePlaces (i : Int) (j : Int) 1 = j - i := by
 unfold Builtin.Slice.slicePlaces
 have h1 : (1 : Int) > 0 := by omega
 simp only [h1, if_true, Int.ediv_one]
 split <;> omega
theorem slicePart_ {v : Value} {o : Option Int} {Q : Option Int → Shared → Prop} (p : IsPart v o) (h : Q o s) : wpAny (model prog w) A (Builtin.Slice.slicePartIndex v) Q E s := by
 cases p with
 | none => exact slicePart_none h
 | int i t => exact slicePart_int h
theorem sliceApplied_gen {sl : Addr} {vl vu : Value} {lo hi : Option Int} {n : Nat} {Q : Int × Int × Nat → Shared → Prop} (hs : s.heap.IsSliceOf sl vl vu .none) (pl : IsPart vl lo) (pu : IsPart vu hi)
  (h : Q (((sIx n 0 lo : Nat) : Int), 1, sIx n n hi - sIx n 0 lo) s) : wpAny (model prog w) A (Builtin.Slice.sliceApplied (.ref sl) (pure (n : Int))) Q E s := by
 obtain ⟨os, hos, hcs, hds⟩ := id hs
 unfold Builtin.Slice.sliceApplied Builtin.Slice.sliceFields
 refine wpAny_bind (wpAny_bind (wpAny_field hos hds (x := vl) rfl (wpAny_bind (wpAny_field hos hds (x := vu) rfl (wpAny_bind (wpAny_field hos hds (x := .none) rfl (wpAny_pure ?_)))))))
 refine wpAny_bind (slicePart_none ?_)
 show wpAny _ _ (if ((1 : Int) == 0) = true then _ else _) _ _ s
 rw [if_neg (by decide)]
 refine wpAny_bind (slicePart_ pl (wpAny_bind (slicePart_ pu (wpAny_bind (wpAny_pure ?_)))))
 show wpAny _ _ (match Builtin.Slice.sliceAdjust lo hi 1 (n : Int) with | (lo, hi) => pure (lo, (1 : Int), Builtin.Slice.slicePlaces lo hi 1)) _ _ s
 rw [adjust_gen lo hi n]
 show wpAny _ _ (pure (((sIx n 0 lo : Nat) : Int), (1 : Int), Builtin.Slice.slicePlaces ((sIx n 0 lo : Nat) : Int) ((sIx n n hi : Nat) : Int) 1)) _ _ s
 rw [places_gen]
 exact wpAny_pure h
theorem pick_gen (xs : Array Value) (i k : Nat) : ((List.range k).filterMap fun (m : Nat) => xs[((i : Int) + (m : Int) * 1).toNat]?).toArray = ((xs.toList.drop i).take k).toArray := by
 have e : (fun (m : Nat) => xs[((i : Int) + (m : Int) * 1).toNat]?) = fun m => xs[i + m]? := by
  funext m
  have : ((i : Int) + (m : Int) * 1).toNat = i + m := by omega
  rw [this]
 rw [e]
 have := pick_run xs i k
 rw [List.filterMap_map] at this
 have e2 : ((fun x => xs[x]?) ∘ fun x => i + x) = fun m => xs[i + m]? := rfl
 rw [e2] at this
 rw [this]
theorem getItem_tuple_cut {t sl : Addr} {items : Array Value} {vl vu : Value} {lo hi : Option Int} {Q : Value → Shared → Prop} (ht : IsTup s.heap t items) (hs : s.heap.IsSliceOf sl vl vu .none) (pl : IsPart vl lo) (pu : IsPart vu hi)
  (hw : ¬ (sIx items.size 0 lo = 0 ∧ sIx items.size items.size hi = items.size))
  (h : Q (.ref s.heap.objs.size) { s with heap := s.heap.push { cls := .type "tuple", data := .seq ((items.toList.drop (sIx items.size 0 lo)).take (sIx items.size items.size hi - sIx items.size 0 lo)).toArray } })
  (hsz : items.size ≤ sizeLine) : wpAny (model prog w) A (getItem (.ref t) (.ref sl)) Q E s := by
 have htake : sizeOk (.seq ((items.toList.drop (sIx items.size 0 lo)).take (sIx items.size items.size hi - sIx items.size 0 lo)).toArray) := by
  show ((items.toList.drop (sIx items.size 0 lo)).take (sIx items.size items.size hi - sIx items.size 0 lo)).toArray.size ≤ sizeLine
  rw [List.size_toArray, List.length_take, List.length_drop, Array.length_toList]
  omega
 have hj : sIx items.size items.size hi ≤ items.size := sIx_le _ _ (Nat.le_refl _) hi
 obtain ⟨os, hos, hcs, hds⟩ := id hs
 have hTs : s.TypeIs (.ref sl) "slice" := ⟨os, hos, hcs⟩
 unfold getItem
 try with_reducible refine wpAny_holding ?_
 first | refine wpAny_bind (wpAny_pure ?_) | skip
 refine wpAny_bind (wpAny_sequenceKey ht.typeIs (by decide) ?_)
 refine wpAny_bind (wpAny_callSpecial?_slot (name := Str.ofString "__getitem__") ht.typeIs PyProof.Rows.slot_tuple_getitem
  (wpAny_call_entry PyProof.Rows.slot_tuple_getitem ht.typeIs entry_tuple_getitem ?_ (args_tuple_getitem _ _)))
 show wpAny _ _ (Builtin.Tuple.tupleItemsOf (.ref t) >>= _) _ _ s
 refine wpAny_bind (tupleItemsOf_ ht ?_)
 refine wpAny_bind (wpAny_typeOf hTs ?_)
 rw [if_pos (by decide)]
 refine wpAny_bind (sliceApplied_gen hs pl pu ?_)
 have hno : ¬ ((((sIx items.size 0 lo : Nat) : Int) == 0 && (1 : Int) == 1 && (sIx items.size items.size hi - sIx items.size 0 lo) == items.size) = true) := by
  intro q
  rw [Bool.and_eq_true, Bool.and_eq_true] at q
  have q1 : ((sIx items.size 0 lo : Nat) : Int) = 0 := eq_of_beq q.1.1
  have q2 : sIx items.size items.size hi - sIx items.size 0 lo = items.size := eq_of_beq q.2
  exact hw ⟨by omega, by omega⟩
 show wpAny _ _ (if (((sIx items.size 0 lo : Nat) : Int) == 0 && (1 : Int) == 1 && (sIx items.size items.size hi - sIx items.size 0 lo) == items.size) = true then _ else _) _ _ s
 rw [if_neg hno, pick_gen]
 first
  | exact wpAny_bind (m := Builtin.Tuple.tupleExact _) (wpAny_newObj_type (wpAny_pure ⟨_, rfl, wpAny_pure h⟩) htake)
  | exact wpAny_bind (m := Builtin.Tuple.tupleExact _) (wpAny_newObj_type (wpAny_bind (wpAny_pure (wpAny_pure ⟨_, rfl, wpAny_pure h⟩))) htake)
  | exact wpAny_bind (wpAny_bind (m := Builtin.Tuple.tupleExact _) (wpAny_newObj_type (wpAny_pure (wpAny_pure ⟨_, rfl, wpAny_pure h⟩)) htake))
  | exact wpAny_bind (wpAny_bind (m := Builtin.Tuple.tupleExact _) (wpAny_newObj_type (wpAny_pure ⟨_, rfl, wpAny_pure h⟩) htake))
end
end HT
namespace L2
open PySem PySem.Spec PyProof.Rows
noncomputable abbrev TO := St → Hp → (Option Int → Hp → Prop) → Prop
noncomputable def PO (X : Cx) (e : Option Expr) (t : TO) : Prop :=
 ∀ (pins : List (Addr × Obj)) (s : Shared) (σ : St) (H : Hp) (Q : Option Int → Hp → Prop), Inv X pins σ H s → t σ H Q →
  wpAny (model X.prog X.w) X.A (evalPart e X.env) (fun u s' => ∃ o H', Inv X pins σ H' s' ∧ IsPart u o ∧ Q o H') X.xe s
noncomputable def tNoPart : TO := fun _ H Q => Q none H
noncomputable def tPart (t : TE) : TO := fun σ H Q => t σ H fun x H1 => ∃ i, x = .int i ∧ Q (some i) H1
theorem intsAre_of {ns : List Int} : ∀ {us : List Value}, Vals (ns.map V.int) us → IntsAre us ns := by
 induction ns with
 | nil => intro us r; rw [List.map_nil] at r; cases r; exact .nil
 | cons n ns ih =>
  intro us r
  rw [List.map_cons] at r
  cases r with
  | cons r1 r2 =>
   obtain ⟨t, e⟩ := r1
   subst e
   exact .cons n t (ih r2)
section
variable {X : Cx} {e : Expr} {te : TE} {lo hi : Option Expr} {tl th : TO} {pos p2 : Pos}
theorem po_none : PO X none tNoPart := by
 intro pins s σ H Q I h
 rw [evalPart_none]
 exact wpAny_pure ⟨none, H, I, .none, h⟩
theorem po_some (h : PE X e te) : PO X (some e) (tPart te) := by
 intro pins s σ H Q I hw
 rw [evalPart_some]
 refine thn (h pins s σ H _ I hw) fun u s1 ⟨x, H1, I1, r1, q1⟩ => ?_
 obtain ⟨i, rfl, q⟩ := q1
 obtain ⟨t, rfl⟩ := r1
 exact ⟨some i, H1, I1, .int i t, q⟩
noncomputable def SlR (X : Cx) (r : V → Option Int → Option Int → Hp → VK → Prop) : Prop :=
 ∀ (pins : List (Addr × Obj)) (s : Shared) (σ : St) (H : Hp) (x : V) (v vl vu : Value) (lo hi : Option Int) (sl : Addr) (Q : VK), Inv X pins σ H s → RelV x v → s.heap.IsSliceOf sl vl vu .none → IsPart vl lo → IsPart vu hi → r x lo hi H Q →
  ∃ T id, typeLookup (.type T) "__getitem__" = pure (some (.builtin id)) ∧ s.TypeIs v T ∧ wpAny (model X.prog X.w) X.A (getItem v (.ref sl)) (EP X pins σ Q) X.xe s
noncomputable def tSl (r : V → Option Int → Option Int → Hp → VK → Prop) (te : TE) (tl th : TO) : TE := fun σ H Q => te σ H fun x H1 => tl σ H1 fun l H2 => th σ H2 fun u H3 => r x l u H3 Q
theorem pe_slice {r : V → Option Int → Option Int → Hp → VK → Prop} (hr : SlR X r) (he : PE X e te) (hl : PO X lo tl) (hu : PO X hi th) : PE X (.Subscript e (.Slice lo hi none p2) pos) (tSl r te tl th) := by
 intro pins s σ H Q I h
 refine Subscript_ (thn (he pins s σ H _ I h) fun v s1 ⟨x, H1, I1, r1, q1⟩ => ?_)
 refine wpAny_Slice (thn (hl pins s1 σ H1 _ I1 q1) fun vl s2 ⟨l, H2, I2, pl, q2⟩ => thn (hu pins s2 σ H2 _ I2 q2) fun vu s3 ⟨u, H3, I3, pu, q3⟩ => ?_)
 rw [evalPart_none]
 refine wpAny_pure ?_
 have I4 : Inv X pins σ H3 { s3 with heap := s3.heap.push { cls := .type "slice", data := .fields #[vl, vu, .none] } } := I3.kept (t' := s3.toks) fun b ob q => Heap.get?_push_of_some _ q
 obtain ⟨T, id, hT, ht, hg⟩ := hr pins { s3 with heap := s3.heap.push { cls := .type "slice", data := .fields #[vl, vu, .none] } } σ H3 x v vl vu l u s3.heap.objs.size Q I4 r1 (Heap.IsSliceOf.new ..) pl pu q3
 show wpAny (model X.prog X.w) X.A (subscriptTail e (.Slice lo hi none p2) v (.ref s3.heap.objs.size)) (EP X pins σ Q) X.xe { s3 with heap := s3.heap.push { cls := .type "slice", data := .fields #[vl, vu, .none] } }
 exact tail_any (ops := [.ref s3.heap.objs.size, v]) ht hT hg (by with_unfolding_all rfl)
noncomputable def cutV (xs : List V) (lo hi : Option Int) : List V := (xs.drop (HT.sIx xs.length 0 lo)).take (HT.sIx xs.length xs.length hi - HT.sIx xs.length 0 lo)
theorem cutV_length (xs : List V) (lo hi : Option Int) : (cutV xs lo hi).length ≤ xs.length := by
 unfold cutV
 rw [List.length_take, List.length_drop]
 omega
noncomputable def rSlT (K : PySem.W.Frag) : V → Option Int → Option Int → Hp → VK → Prop := fun x lo hi H Q => ∃ a xs, x = .ref a ∧ SqT K H a xs ∧
 ¬ (HT.sIx xs.length 0 lo = 0 ∧ HT.sIx xs.length xs.length hi = xs.length) ∧ ∀ p, H p = none → Q (.ref p) (upd H p (.tup (cutV xs lo hi)))
theorem sl_tup : SlR X (rSlT X.K) := by
 intro pins s σ H x v vl vu lo hi sl Q I rx hs pl pu h
 obtain ⟨a, xs, rfl, hx, hw, q⟩ := h
 cases rx
 obtain ⟨its, r, ht, hz⟩ := I.tuple hx
 have hlen : its.toArray.size = xs.length := by rw [List.size_toArray]; exact r.length.symm
 refine ⟨"tuple", _, PyProof.Rows.slot_tuple_getitem.lookup, ht.typeIs, ?_⟩
 refine HT.getItem_tuple_cut ht hs pl pu (by rw [hlen]; exact hw) ?_ (by rw [hlen]; exact hz)
 rw [hlen]
 refine ⟨.ref s.heap.objs.size, _, I.laid (t' := s.toks) (o := .tup (cutV xs lo hi)) (fun b ob q => Heap.get?_push_of_some _ q) (Nat.le_refl _) ?_, rfl, q _ (I.hok.fresh (Nat.le_refl _))⟩
 exact ⟨Nat.le_trans (cutV_length xs lo hi) hz, _, (r.drop (HT.sIx xs.length 0 lo)).take (HT.sIx xs.length xs.length hi - HT.sIx xs.length 0 lo), IsTup.new _ _⟩
noncomputable def rCatT (K : PySem.W.Frag) : R2 := fun x y H Q => ∃ a b xs ys, x = .ref a ∧ y = .ref b ∧ SqT K H a xs ∧ SqT K H b ys ∧ xs ≠ [] ∧ xs.length + ys.length ≤ sizeLine ∧
 (ys = [] → Q (.ref a) H) ∧ (ys ≠ [] → ∀ p, H p = none → Q (.ref p) (upd H p (.tup (xs ++ ys))))
theorem Vals.nil_iff {xs : List V} {us : List Value} (r : Vals xs us) : us = [] ↔ xs = [] := by
 cases r with
 | nil => simp
 | cons _ _ => simp
theorem op_catT : OpR X (binaryOp .Add) (rCatT X.K) := by
 intro pins s σ H x y v u Q I rx ry h
 obtain ⟨a, b, xs, ys, rfl, rfl, ha, hb, hx, hz, q1, q2⟩ := h
 cases rx
 cases ry
 obtain ⟨its, r1, p1, _⟩ := I.tuple ha
 obtain ⟨its2, r2, p2, _⟩ := I.tuple hb
 refine HT.cat_tup p1 p2 (fun z => hx (r1.nil_iff.mp z)) (fun z => ⟨.ref a, H, I, rfl, q1 (r2.nil_iff.mp z)⟩) (fun z => ?_) (by rw [← r1.length, ← r2.length]; exact hz)
 refine ⟨.ref s.heap.objs.size, _, I.laid (t' := s.toks) (o := .tup (xs ++ ys)) (fun b ob q => Heap.get?_push_of_some _ q) (Nat.le_refl _) ?_, rfl, q2 (fun w => z (r2.nil_iff.mpr w)) _ (I.hok.fresh (Nat.le_refl _))⟩
 exact ⟨by rw [List.length_append]; exact hz, _, r1.append r2, IsTup.new _ _⟩
end
end L2
namespace L2
open PySem PySem.Spec PyProof.Rows
noncomputable def ixN (n : Nat) (i : Int) : Option Nat := if 0 ≤ i then (if i < n then some i.toNat else none) else if -(n : Int) ≤ i then some (i + n).toNat else none
noncomputable def atI {α : Type} (xs : List α) (i : Int) : Option α := (ixN xs.length i).bind fun j => xs[j]?
theorem ixN_seq {n : Nat} {i : Int} {j : Nat} (h : ixN n i = some j) : seqIndex? i n = some j ∧ j < n ∧ -(n : Int) ≤ i ∧ i < n := by
 unfold ixN at h
 by_cases h0 : 0 ≤ i
 ·rw [if_pos h0] at h
  by_cases h1 : i < n
  ·rw [if_pos h1] at h
   have e : i.toNat = j := Option.some.inj h
   exact ⟨by rw [seqIndex_of h0 h1, e], by omega, by omega, h1⟩
  ·rw [if_neg h1] at h; cases h
 ·rw [if_neg h0] at h
  by_cases h1 : -(n : Int) ≤ i
  ·rw [if_pos h1] at h
   have e : (i + n).toNat = j := Option.some.inj h
   exact ⟨by rw [seqIndex_neg (by omega) h1, e], by omega, h1, by omega⟩
  ·rw [if_neg h1] at h; cases h
theorem atI_get {α : Type} {xs : List α} {i : Int} {v : α} (h : atI xs i = some v) : ∃ j, seqIndex? i xs.length = some j ∧ xs[j]? = some v ∧ j < xs.length ∧ -(xs.length : Int) ≤ i ∧ i < xs.length := by
 unfold atI at h
 cases e : ixN xs.length i with
 | none => rw [e] at h; cases h
 | some j =>
  rw [e] at h
  obtain ⟨h1, h2, h3, h4⟩ := ixN_seq e
  exact ⟨j, h1, h, h2, h3, h4⟩
theorem atI_nat {α : Type} {xs : List α} {j : Nat} {v : α} (h : xs[j]? = some v) : atI xs (j : Int) = some v := by
 have hj : j < xs.length := (List.getElem?_eq_some_iff.mp h).1
 have e : ixN xs.length (j : Int) = some j := by
  unfold ixN
  rw [if_pos (by omega), if_pos (by omega)]; simp
 unfold atI; rw [e]; exact h
theorem atI_last {α : Type} (xs : List α) (v : α) : atI (xs ++ [v]) (-1) = some v := by
 have hl : (xs ++ [v]).length = xs.length + 1 := by simp
 have e : ixN (xs ++ [v]).length (-1) = some xs.length := by
  unfold ixN
  rw [hl, if_neg (by decide), if_pos (by omega)]
  congr 1
  omega
 unfold atI
 rw [e]
 show (xs ++ [v])[xs.length]? = some v
 simp
noncomputable def PlainIx (b : Expr) : Prop := ∀ o i, subscripted b false o i = operate [o, i] (getItem o i)
noncomputable def IxR (X : Cx) (r : R2) : Prop :=
 ∀ (value slice : Expr) (pins : List (Addr × Obj)) (s : Shared) (σ : St) (H : Hp) (x y : V) (v u : Value) (Q : VK), Inv X pins σ H s → RelV x v → RelV y u → r x y H Q →
  subscripted slice false v u = operate [v, u] (getItem v u) → wpAny (model X.prog X.w) X.A (subscriptTail value slice v u) (EP X pins σ Q) X.xe s
section
variable {X : Cx} {a b : Expr} {ta tb : TE} {pos : Pos}
theorem pe_ix {r : R2} (hr : IxR X r) (ha : PE X a ta) (hb : PE X b tb) (hs : PlainIx b) : PE X (.Subscript a b pos) (tOp r ta tb) := by
 intro pins s σ H Q I h
 exact Subscript_ (binT ha hb I h fun v u s2 x y H2 I2 rx ry q => hr a b pins s2 σ H2 x y v u Q I2 rx ry q (hs _ _))
noncomputable def rIxL (K : PySem.W.Frag) : R2 := fun x y H Q => ∃ p xs i v, x = .ref p ∧ y = .int i ∧ SqL K H p xs ∧ atI xs i = some v ∧ Q v H
noncomputable def rIxT (K : PySem.W.Frag) : R2 := fun x y H Q => ∃ p xs i v, x = .ref p ∧ y = .int i ∧ SqT K H p xs ∧ atI xs i = some v ∧ Q v H
theorem ix_list : IxR X (rIxL X.K) := by
 intro value slice pins s σ H x y v u Q I rx ry h hs
 obtain ⟨p, xs, i, z, rfl, rfl, hq, he, q⟩ := h
 cases rx
 obtain ⟨t, rfl⟩ := ry
 obtain ⟨its, r, pl, hz⟩ := I.list hq
 obtain ⟨j, h1, h2, h3, h4, h5⟩ := atI_get he
 obtain ⟨w, ew, rw'⟩ := r.get h2
 have hl := r.length
 have hn := line63
 have fin : EP X pins σ Q w s := ⟨z, H, I, rw', q⟩
 by_cases h0 : 0 ≤ i
 ·have hj : i.toNat = j := by
   rw [seqIndex_of h0 h5] at h1
   exact Option.some.inj h1
  exact item_listR pl.isList h0 (by omega) (by rw [hj]; simpa using ew) fin hs
 ·have hj : (i + (its.toArray.size : Int)).toNat = j := by
   rw [seqIndex_neg (by omega) h4] at h1
   rw [List.size_toArray, ← hl]
   exact Option.some.inj h1
  exact subscriptTail_builtinR (x := w) pl.isList.typeIs slot_list_getitem.lookup
   (wpAny_getItem_list_neg (Q := fun r s' => r = w ∧ EP X pins σ Q r s') pl.isList (by omega) (by rw [List.size_toArray] <;> omega) (by omega) (by rw [hj]; simpa using ew) ⟨rfl, fin⟩) hs
theorem ix_tup : IxR X (rIxT X.K) := by
 intro value slice pins s σ H x y v u Q I rx ry h hs
 obtain ⟨p, xs, i, z, rfl, rfl, hq, he, q⟩ := h
 cases rx
 obtain ⟨t, rfl⟩ := ry
 obtain ⟨its, r, pl, hz⟩ := I.tuple hq
 obtain ⟨j, h1, h2, h3, h4, h5⟩ := atI_get he
 obtain ⟨w, ew, rw'⟩ := r.get h2
 have hl := r.length
 have hn := line63
 have fin : EP X pins σ Q w s := ⟨z, H, I, rw', q⟩
 exact subscriptTail_builtinR (x := w) pl.typeIs slot_tuple_getitem.lookup
  (getItem_tuple (j := j) (Q := fun r s' => r = w ∧ EP X pins σ Q r s') pl (by omega) (by omega) (by rw [List.size_toArray, ← hl]; exact h1) (by simpa using ew) ⟨rfl, fin⟩) hs
theorem mapSeq_set (its : List Value) (n j : Nat) (u : Value) : Obj.mapSeq (·.setIfInBounds j u) { cls := .type "list", data := .seq its.toArray n } = { cls := .type "list", data := .seq (its.set j u).toArray n } := by
 simp [Obj.mapSeq]
theorem Inv.lst {pins : List (Addr × Obj)} {σ : St} {H : Hp} {s : Shared} {p : Addr} {xs : List V} (I : Inv X pins σ H s) (h : H p = some (.lst xs)) :
  ∃ (its : List Value) (n : Nat), Vals xs its ∧ s.heap.get? p = some { cls := .type "list", data := .seq its.toArray n } ∧ xs.length ≤ sizeLine := by
 obtain ⟨z, its, n, r, e⟩ := I.hok p _ h
 exact ⟨its, n, r, e, z⟩
theorem Inv.lstUpd {pins : List (Addr × Obj)} {σ : St} {H : Hp} {s : Shared} {p : Addr} {xs ys : List V} {its its' : List Value} {n n' : Nat} {f : Obj → Obj} (I : Inv X pins σ H s) (h : H p = some (.lst xs))
  (ho : s.heap.get? p = some { cls := .type "list", data := .seq its.toArray n }) (hf : f { cls := .type "list", data := .seq its.toArray n } = { cls := .type "list", data := .seq its'.toArray n' }) (r : Vals ys its') (hz : ys.length ≤ sizeLine) (t : Nat) :
  Inv X pins σ (upd H p (.lst ys)) { s with heap := s.heap.update p f, toks := t } := by
 have e : (s.heap.update p f).get? p = some { cls := .type "list", data := .seq its'.toArray n' } := by
  rw [Heap.get?_update_self f ho (by rw [hf] <;> rfl), hf]
 refine I.write (x := p) (e := p) (by rw [h]; trivial) (.inl rfl) (fun b u hb q => (Heap.get?_update_other _ _ (Ne.symm hb)).trans q) ⟨_, e⟩ ?_
 exact ⟨hz, its', n', r, e⟩
noncomputable def rSetL : V → V → V → Hp → (Hp → Prop) → Prop := fun o i v H Q => ∃ p xs k j, o = .ref p ∧ i = .int k ∧ H p = some (.lst xs) ∧ ixN xs.length k = some j ∧ Q (upd H p (.lst (xs.set j v)))
theorem set_list : PSet X rSetL := by
 intro pins s σ H o i v ov iv u Q I ro ri rv h
 obtain ⟨p, xs, k, j, rfl, rfl, hp, hj, q⟩ := h
 cases ro
 obtain ⟨t, rfl⟩ := ri
 obtain ⟨its, n, r, ho, hz⟩ := I.lst hp
 obtain ⟨h1, h2, h3, h4⟩ := ixN_seq hj
 have hl := r.length
 have hn := line63
 have I' : Inv X pins σ (upd H p (.lst (xs.set j v))) { s with heap := s.heap.update p (Obj.mapSeq (·.setIfInBounds j u)) } :=
  I.lstUpd hp ho (mapSeq_set its n j u) (r.set rv j) (by rw [List.length_set]; exact hz) s.toks
 by_cases h0 : 0 ≤ k
 ·have hk : k.toNat = j := by
   rw [seqIndex_of h0 h4] at h1
   exact Option.some.inj h1
  exact PySem.W.ki_setAt ho h0 (by omega) (by rw [List.size_toArray, ← hl]; exact h4) (by rw [hk]; exact ⟨_, I', q⟩)
 ·have hk : (k + (its.toArray.size : Int)).toNat = j := by
   rw [seqIndex_neg (by omega) h3] at h1
   rw [List.size_toArray, ← hl]
   exact Option.some.inj h1
  exact PySem.W.ki_setBack ho (by omega) (by rw [List.size_toArray, ← hl]; exact h3) (by omega) (by rw [hk]; exact ⟨_, I', q⟩)
theorem slice_bounds (lo hi : Option Int) (n : Nat) : (sliceBounds lo hi none n).1 = ((HT.sIx n 0 lo : Nat) : Int) ∧ (sliceBounds lo hi none n).2.1 = ((HT.sIx n n hi : Nat) : Int) ∧ (sliceBounds lo hi none n).2.2 = 1 := by
 refine ⟨?_, ?_, rfl⟩
 ·cases lo with
  | none => simp [sliceBounds, HT.sIx]
  | some i =>
   simp only [sliceBounds, HT.sIx, Option.getD_none, show (1 : Int) > 0 by decide, if_true]
   by_cases h : i < 0
   ·simp only [h, if_true] <;> omega
   ·simp only [h, if_false] <;> omega
 ·cases hi with
  | none => simp [sliceBounds, HT.sIx]
  | some i =>
   simp only [sliceBounds, HT.sIx, Option.getD_none, show (1 : Int) > 0 by decide, if_true]
   by_cases h : i < 0
   ·simp only [h, if_true] <;> omega
   ·simp only [h, if_false] <;> omega
theorem slicePick_cut (its : List Value) (lo hi : Option Int) : slicePick its.toArray lo hi none = ((its.drop (HT.sIx its.length 0 lo)).take (HT.sIx its.length its.length hi - HT.sIx its.length 0 lo)).toArray := by
 obtain ⟨h1, h2, h3⟩ := slice_bounds lo hi its.toArray.size
 unfold slicePick
 rw [h1, h2, h3]
 simp only [sliceRange_one, pick_run, List.size_toArray] <;> rfl
noncomputable def rSlL (K : PySem.W.Frag) : V → Option Int → Option Int → Hp → VK → Prop := fun x lo hi H Q => ∃ a xs, x = .ref a ∧ SqL K H a xs ∧ ∀ p, H p = none → Q (.ref p) (upd H p (.lst (cutV xs lo hi)))
theorem sl_list : SlR X (rSlL X.K) := by
 intro pins s σ H x v vl vu lo hi sl Q I rx hs pl pu h
 obtain ⟨a, xs, rfl, hx, q⟩ := h
 cases rx
 obtain ⟨its, r, ht, hz⟩ := I.list hx
 have hlen := r.length
 refine ⟨"list", _, slot_list_getitem.lookup, ht.isList.typeIs, ?_⟩
 refine wpAny_getItem_list_slice ht.isList hs pl pu .none (by simp) ?_ (by rw [List.size_toArray] <;> omega)
 rw [slicePick_cut, ← hlen]
 refine ⟨.ref s.heap.objs.size, _, I.laid (t' := s.toks) (o := .lst (cutV xs lo hi)) (fun b ob q => Heap.get?_push_of_some _ q) (Nat.le_refl _) ?_, rfl, q _ (I.hok.fresh (Nat.le_refl _))⟩
 exact ⟨Nat.le_trans (cutV_length xs lo hi) hz, _, 0, (r.drop (HT.sIx xs.length 0 lo)).take (HT.sIx xs.length xs.length hi - HT.sIx xs.length 0 lo), Heap.get?_push_size _ rfl⟩
noncomputable def flatV : V → Bool
 | .non => true
 | .bl _ => true
 | .int _ => true
 | .str _ => true
 | _ => false
noncomputable def eqV : V → V → Bool
 | .non, .non => true
 | .bl a, .bl b => a == b
 | .bl a, .int b => (if a then 1 else 0) == b
 | .int a, .bl b => a == (if b then 1 else 0)
 | .int a, .int b => a == b
 | .str a, .str b => a == b
 | _, _ => false
theorem eqAt_V {A : Around} {s : Shared} {y x : V} {u v : Value} (ry : RelV y u) (rx : RelV x v) (fy : flatV y = true) (fx : flatV x = true) : SeqAt.EqAt A s u v (eqV y x) := by
 cases y with
 | non =>
  cases ry
  cases x with
  | non => cases rx; exact SeqAt.EqAt.same _
  | bl b => cases rx; exact SeqAt.EqAt.none_bool b
  | int b => obtain ⟨t, rfl⟩ := rx; exact SeqAt.EqAt.none_int b t
  | str b => obtain ⟨t, rfl⟩ := rx; exact SeqAt.EqAt.none_str b t
  | _ => exact absurd (show false = true from fx) Bool.false_ne_true
 | bl a =>
  cases ry
  cases x with
  | non => cases rx; exact SeqAt.EqAt.bool_none a
  | bl b => cases rx; exact SeqAt.EqAt.bool_bool a b
  | int b => obtain ⟨t, rfl⟩ := rx; exact SeqAt.EqAt.bool_int a b t
  | str b => obtain ⟨t, rfl⟩ := rx; exact SeqAt.EqAt.bool_str a b t
  | _ => exact absurd (show false = true from fx) Bool.false_ne_true
 | int a =>
  obtain ⟨t', rfl⟩ := ry
  cases x with
  | non => cases rx; exact SeqAt.EqAt.int_none a t'
  | bl b => cases rx; exact SeqAt.EqAt.int_bool a t' b
  | int b => obtain ⟨t, rfl⟩ := rx; exact SeqAt.EqAt.int_int a t' b t
  | str b => obtain ⟨t, rfl⟩ := rx; exact SeqAt.EqAt.int_str a t' b t
  | _ => exact absurd (show false = true from fx) Bool.false_ne_true
 | str a =>
  obtain ⟨t', rfl⟩ := ry
  cases x with
  | non => cases rx; exact SeqAt.EqAt.str_none a t'
  | bl b => cases rx; exact SeqAt.EqAt.str_bool a t' b
  | int b => obtain ⟨t, rfl⟩ := rx; exact SeqAt.EqAt.str_int a t' b t
  | str b => obtain ⟨t, rfl⟩ := rx; exact SeqAt.EqAt.str_str a t' b t
  | _ => exact absurd (show false = true from fx) Bool.false_ne_true
 | _ => exact absurd (show false = true from fy) Bool.false_ne_true
noncomputable def eqU (x : V) (u : Value) : Bool := match u with
 | .none => eqV .non x
 | .bool b => eqV (.bl b) x
 | .int i _ => eqV (.int i) x
 | .str z _ => eqV (.str z) x
 | _ => false
theorem eqU_of {x y : V} {u : Value} (r : RelV y u) (f : flatV y = true) : eqU x u = eqV y x := by
 cases y with
 | non => cases r; rfl
 | bl b => cases r; rfl
 | int i => obtain ⟨t, rfl⟩ := r; rfl
 | str z => obtain ⟨t, rfl⟩ := r; rfl
 | _ => exact absurd (show false = true from f) Bool.false_ne_true
theorem any_eqU {x : V} : ∀ {xs : List V} {us : List Value}, Vals xs us → xs.all flatV = true → us.any (eqU x) = xs.any fun y => eqV y x
 | _, _, .nil, _ => rfl
 | y :: xs, u :: us, .cons r t, f => by
  rw [List.all_cons, Bool.and_eq_true] at f
  rw [List.any_cons, List.any_cons, eqU_of r f.1, any_eqU t f.2]
theorem mem_eqAt {A : Around} {s : Shared} {x : V} {v : Value} (rx : RelV x v) (fx : flatV x = true) : ∀ {xs : List V} {us : List Value}, Vals xs us → xs.all flatV = true → ∀ u ∈ us, SeqAt.EqAt A s u v (eqU x u)
 | _, _, .nil, _ => fun u hu => by cases hu
 | y :: xs, u :: us, .cons r t, f => fun u' hu => by
  rw [List.all_cons, Bool.and_eq_true] at f
  rcases List.mem_cons.mp hu with rfl | hu
  ·rw [eqU_of r f.1]; exact eqAt_V r rx f.1 fx
  ·exact mem_eqAt rx fx t f.2 u' hu
noncomputable def inV (x : V) (xs : List V) : Bool := xs.any fun y => eqV y x
noncomputable def rIn (K : PySem.W.Frag) (neg : Bool) : R2 := fun x y H Q => ∃ p xs, y = .ref p ∧ (SqL K H p xs ∨ SqT K H p xs) ∧ flatV x = true ∧ xs.all flatV = true ∧ Q (.bl (if neg then !inV x xs else inV x xs)) H
theorem op_notIn_seq : OpR X (compareOp .NotIn) (rIn X.K true) := by
 intro pins s σ H x y v u Q I rx ry h
 obtain ⟨p, xs, rfl, hq, fx, fs, q⟩ := h
 cases ry
 rcases hq with hq | hq
 ·obtain ⟨its, r, pl, hz⟩ := I.list hq
  refine SeqAt.notIn_listAt (eqU x) pl.isList (fun w hw => mem_eqAt rx fx r fs w (by simpa using hw)) ⟨.bl _, H, I, rfl, ?_⟩
  rw [show its.toArray.any (eqU x) = its.any (eqU x) by simp, any_eqU r fs]
  exact q
 ·obtain ⟨its, r, pl, hz⟩ := I.tuple hq
  refine SeqAt.notIn_tupleAt (eqU x) pl (fun w hw => mem_eqAt rx fx r fs w (by simpa using hw)) ⟨.bl _, H, I, rfl, ?_⟩
  rw [show its.toArray.any (eqU x) = its.any (eqU x) by simp, any_eqU r fs]
  exact q
theorem call_len_seq : CallR X (.builtin "len") (fun xs H Q => ∃ p ys, xs = [.ref p] ∧ (SqL X.K H p ys ∨ SqT X.K H p ys) ∧ Q (.int ys.length) H) := by
 intro pins s σ H xs us Q I r h
 obtain ⟨p, ys, rfl, hq, q⟩ := h
 obtain ⟨u, rfl, rx⟩ := vals1 r
 cases rx
 have hn := line63
 rcases hq with hq | hq
 ·obtain ⟨its, r', pl, hz⟩ := I.list hq
  have hlen := r'.length
  exact Calls.call_len_list pl.isList (by simp only [List.size_toArray] <;> omega) ⟨.int ys.length, H, I.tok _, ⟨s.toks + 1, by rw [List.size_toArray, hlen]⟩, q⟩
 ·obtain ⟨its, r', pl, hz⟩ := I.tuple hq
  have hlen := r'.length
  exact len_tuple pl (by simp only [List.size_toArray] <;> omega) ⟨.int ys.length, H, I.tok _, ⟨s.toks + 1, by rw [List.size_toArray, hlen]⟩, q⟩
theorem call_tuple_of : CallR X (.type "tuple") (fun xs H Q => ∃ p ys, xs = [.ref p] ∧ ((SqL X.K H p ys ∧ ∀ l, H l = none → Q (.ref l) (upd H l (.tup ys))) ∨ (SqT X.K H p ys ∧ Q (.ref p) H))) := by
 intro pins s σ H xs us Q I r h
 obtain ⟨p, ys, rfl, h⟩ := h
 obtain ⟨u, rfl, rx⟩ := vals1 r
 cases rx
 rcases h with ⟨hq, q⟩ | ⟨hq, q⟩
 ·obtain ⟨its, r', pl, hz⟩ := I.list hq
  have hlen := r'.length
  refine call_tuple_list pl.isList (fun h' kp => ?_) (by simp only [List.size_toArray] <;> omega)
  have I1 : Inv X pins σ H { s with heap := h' } := I.kept (t' := s.toks) kp
  have I2 : Inv X pins σ (upd H h'.objs.size (.tup ys)) { s with heap := h'.push { cls := .type "tuple", data := .seq its.toArray } } :=
   I1.laid (t' := s.toks) (fun b o e => Heap.get?_push_of_some _ e) (Nat.le_refl _) (show ObjOk X.prog X.w _ _ _ (.tup ys) from ⟨hz, its, r', IsTup.new _ _⟩)
  exact ⟨.ref h'.objs.size, _, I2, rfl, q _ (I1.hok.fresh (Nat.le_refl _))⟩
 ·obtain ⟨its, r', pl, hz⟩ := I.tuple hq
  exact call_tuple_same pl ⟨.ref p, H, I, rfl, q⟩
noncomputable def tyV (K : PySem.W.Frag) (T : String) (x : V) (H : Hp) : Prop := match x with
 | .str _ => T = "str"
 | .int _ => T = "int"
 | .ref p => (T = "list" ∧ ∃ xs, SqL K H p xs) ∨ (T = "tuple" ∧ ∃ o, K.lookup p = some o ∧ o.cls = .type "tuple" ∧ o.dict = none) ∨
   (T = "dict" ∧ ((∃ kvs, H p = some (.dK kvs)) ∨ ∃ kvs, H p = some (.dT kvs))) ∨ (T = "set" ∧ ∃ S n, H p = some (.set S n))
 | _ => False
theorem tyV_is {pins : List (Addr × Obj)} {σ : St} {H : Hp} {s : Shared} {T : String} {x : V} {v : Value} (I : Inv X pins σ H s) (r : RelV x v) (ty : tyV X.K T x H) :
  s.TypeIs v T ∧ ∀ a, v = .ref a → ∃ ob, s.heap.get? a = some ob ∧ ob.dict = none := by
 cases x with
 | str z =>
  obtain ⟨t, rfl⟩ := r
  cases (show T = "str" from ty)
  exact ⟨typeIs_str s z t, fun _ e => nomatch e⟩
 | int i =>
  obtain ⟨t, rfl⟩ := r
  cases (show T = "int" from ty)
  exact ⟨typeIs_int s i t, fun _ e => nomatch e⟩
 | ref p =>
  cases r
  rcases ty with ⟨rfl, xs, hq⟩ | ⟨rfl, o, hk, hc, hd⟩ | ⟨rfl, hk⟩ | ⟨rfl, S, n, hk⟩
  ·obtain ⟨its, _, pl, _⟩ := I.list hq
   refine ⟨pl.isList.typeIs, fun a e => ?_⟩
   cases e
   obtain ⟨o, n, e, c, hd, _⟩ := pl
   exact ⟨o, e, hd⟩
  ·refine ⟨⟨o, I.kIn p o hk, hc⟩, fun a e => ?_⟩
   cases e
   exact ⟨o, I.kIn _ o hk, hd⟩
  ·have z : ∃ o, s.heap.get? p = some o ∧ o.ExactDict := by
    rcases hk with ⟨kvs, hk⟩ | ⟨kvs, hk⟩
    ·obtain ⟨_, _, _, _, o, _, _, e, ex, _⟩ := I.hok p _ hk
     exact ⟨o, e, ex⟩
    ·obtain ⟨_, _, _, _, o, _, _, e, ex, _⟩ := I.hok p _ hk
     exact ⟨o, e, ex⟩
   obtain ⟨o, e, ex⟩ := z
   refine ⟨⟨o, e, ex.1⟩, fun a e2 => ?_⟩
   cases e2
   exact ⟨o, e, ex.2.1⟩
  ·obtain ⟨o, _, _, _, e, ex, _⟩ := I.hok p _ hk
   refine ⟨⟨o, e, ex.1⟩, fun a e2 => ?_⟩
   cases e2
   exact ⟨o, e, ex.2.1⟩
 | _ => exact False.elim ty
variable {o e : Expr} {es : List Expr} {to : TE} {t : TA} {name : Str} {apos cpos : Pos} {T id : String} {r : V → List V → Hp → VK → Prop}
end
end L2
namespace L2
open PySem PySem.Spec PyProof.Rows
noncomputable def MtM (X : Cx) (id : String) (r : V → List V → Hp → VK → Prop) : Prop :=
 ∀ (pins : List (Addr × Obj)) (s : Shared) (σ : St) (H : Hp) (x : V) (xs : List V) (v : Value) (us : List Value) (Q : VK), Inv X pins σ H s → RelV x v → Vals xs us → r x xs H Q →
  wpAny (model X.prog X.w) X.A (call (.builtin id) (v :: us)) (EP X pins σ Q) X.xe s
theorem Vals.one {x : V} {us : List Value} (h : Vals [x] us) : ∃ u, us = [u] ∧ RelV x u := by
 cases h with
 | cons r t => cases t; exact ⟨_, rfl, r⟩
theorem Vals.two {x y : V} {us : List Value} (h : Vals [x, y] us) : ∃ u v, us = [u, v] ∧ RelV x u ∧ RelV y v := by
 cases h with
 | cons r t =>
  cases t with
  | cons q z => cases z; exact ⟨_, _, rfl, r, q⟩
theorem Vals.reverse {xs : List V} {us : List Value} (h : Vals xs us) : Vals xs.reverse us.reverse := by
 induction h with
 | nil => exact .nil
 | cons r t ih => rw [List.reverse_cons, List.reverse_cons]; exact Vals.append ih (.cons r .nil)
theorem Vals.rep {xs : List V} {us : List Value} (h : Vals xs us) : ∀ k : Nat, Vals (List.replicate k xs).flatten (List.replicate k us).flatten
 | 0 => .nil
 | k + 1 => by
  rw [List.replicate_succ, List.replicate_succ, List.flatten_cons, List.flatten_cons]
  exact Vals.append h (Vals.rep h k)
theorem foldl_rep (its : List Value) : ∀ (k : Nat) (acc : List Value),
  List.foldl (fun x1 x2 => x1 ++ x2) acc.toArray (List.replicate k its.toArray) = (acc ++ (List.replicate k its).flatten).toArray
 | 0, acc => by simp
 | k + 1, acc => by
  have e : acc.toArray ++ its.toArray = (acc ++ its).toArray := by simp
  have e2 : (acc ++ its) ++ (List.replicate k its).flatten = acc ++ (List.replicate (k + 1) its).flatten := by
   rw [List.replicate_succ, List.flatten_cons, List.append_assoc]
  rw [← e2, ← foldl_rep its k (acc ++ its), ← e, List.replicate_succ, List.foldl_cons]
section
variable {X : Cx} {pins : List (Addr × Obj)} {σ : St} {H : Hp} {s : Shared} {l b : Addr} {xs ys zs : List V}
theorem Inv.lset {its its' : List Value} {n : Nat} {f : Array Value → Array Value} {t' : Nat} (I : Inv X pins σ H s) (hH : H l = some (.lst xs))
  (e : s.heap.get? l = some { cls := .type "list", data := .seq its.toArray n }) (hf : f its.toArray = its'.toArray) (hv : Vals ys its') (hz : ys.length ≤ sizeLine) :
  Inv X pins σ (upd H l (.lst ys)) { s with heap := s.heap.update l (Obj.mapSeq f), toks := t' } := by
 have q := PySem.IsL.update e f
 rw [hf] at q
 refine I.write (x := l) (e := l) (by rw [hH]; exact trivial) (.inl rfl) (fun b' u hb hu => (Heap.get?_update_other s.heap (Obj.mapSeq f) (Ne.symm hb)).trans hu) ⟨_, q⟩ ?_
 exact ⟨hz, its', _, hv, q⟩
theorem Inv.lnew {its : List Value} {t' : Nat} (I : Inv X pins σ H s) (hv : Vals ys its) (hz : ys.length ≤ sizeLine) :
  Inv X pins σ (upd H s.heap.objs.size (.lst ys)) { s with heap := s.heap.push { cls := .type "list", data := .seq its.toArray }, toks := t' } :=
 I.laid (fun _ _ q => Heap.get?_push_of_some _ q) (Nat.le_refl _) ⟨hz, its, 0, hv, Heap.get?_push_size _ rfl⟩
theorem Inv.fresh (I : Inv X pins σ H s) : H s.heap.objs.size = none := I.hok.fresh (Nat.le_refl _)
theorem Inv.lstM (I : Inv X pins σ H s) (hH : H l = some (.lst xs)) : xs.length ≤ sizeLine ∧ ∃ (its : List Value) (n : Nat), Vals xs its ∧ xs.length = its.length ∧ s.heap.get? l = some { cls := .type "list", data := .seq its.toArray n } := by
 obtain ⟨z, its, n, r, e⟩ := I.hok l _ hH
 exact ⟨z, its, n, r, r.length, e⟩
theorem notLongL {n : Nat} (h : n ≤ sizeLine) : Builtin.List.listTooLong n = false := by
 unfold Builtin.List.listTooLong
 exact decide_eq_false (by omega)
end
section
variable {X : Cx}
noncomputable def rAppend : V → List V → Hp → VK → Prop := fun x vs H Q => ∃ l xs y, x = .ref l ∧ vs = [y] ∧ H l = some (.lst xs) ∧ xs.length < sizeLine ∧ Q .non (upd H l (.lst (xs ++ [y])))
theorem mt_append : MtM X "list.append" rAppend := by
 intro pins s σ H x vs v us Q I rx rv h
 obtain ⟨l, xs, y, rfl, rfl, hH, hz, q⟩ := h
 cases rx
 obtain ⟨u, rfl, ru⟩ := rv.one
 obtain ⟨z, its, n, r, hl, e⟩ := I.lstM hH
 refine call_meets F.slot_list_append ⟨_, e, rfl⟩ F.entry_list_append (F.args_list_append_2 _ _) (PySem.list_append l its.toArray n u (by rw [List.size_toArray]; omega)) ⟨e, ?_⟩
 refine ⟨.non, _, I.lset (its' := its ++ [u]) hH e (by simp) (r.append (.cons ru .nil)) ?_, rfl, q⟩
 rw [List.length_append, List.length_singleton]
 omega
noncomputable def rExtend : V → List V → Hp → VK → Prop := fun x vs H Q => ∃ l b xs zs, x = .ref l ∧ vs = [.ref b] ∧ H l = some (.lst xs) ∧ H b = some (.lst zs) ∧ xs.length + zs.length ≤ sizeLine ∧ Q .non (upd H l (.lst (xs ++ zs)))
theorem mt_extend : MtM X "list.extend" rExtend := by
 intro pins s σ H x vs v us Q I rx rv h
 obtain ⟨l, b, xs, zs, rfl, rfl, hH, hB, hz, q⟩ := h
 cases rx
 obtain ⟨u, rfl, ru⟩ := rv.one
 cases ru
 obtain ⟨z, its, n, r, hl, e⟩ := I.lstM hH
 obtain ⟨z2, its2, n2, r2, hl2, e2⟩ := I.lstM hB
 have hsz : its.toArray.size + its2.toArray.size ≤ sizeLine := by rw [List.size_toArray, List.size_toArray]; omega
 have hlong : ¬ (!its.toArray.isEmpty && Builtin.List.listTooLong (its.toArray.size + its2.toArray.size)) = true := by
  rw [notLongL hsz, Bool.and_false]
  exact Bool.false_ne_true
 refine call_meets F.slot_list_extend ⟨_, e, rfl⟩ F.entry_list_extend (F.args_list_extend_2 _ _)
  (AutoSeq1.list_extend_list_list_0 l its.toArray n b its2.toArray n2 hlong (by rw [List.size_toArray]; omega) (by omega)) ⟨e, e2, ?_⟩
 refine ⟨.non, _, I.lset (its' := its ++ its2) hH e (by simp) (r.append r2) ?_, rfl, q⟩
 rw [List.length_append]
 omega
noncomputable def rCat : R2 := fun x y H Q => ∃ l b xs zs, x = .ref l ∧ y = .ref b ∧ H l = some (.lst xs) ∧ H b = some (.lst zs) ∧ xs.length + zs.length ≤ sizeLine ∧ ∀ p, H p = none → Q (.ref p) (upd H p (.lst (xs ++ zs)))
theorem op_cat : OpR X (binaryOp .Add) rCat := by
 intro pins s σ H x y v u Q I rx ry h
 obtain ⟨l, b, xs, zs, rfl, rfl, hH, hB, hz, q⟩ := h
 cases rx
 cases ry
 obtain ⟨z, its, n, r, hl, e⟩ := I.lstM hH
 obtain ⟨z2, its2, n2, r2, hl2, e2⟩ := I.lstM hB
 refine PySem.P.add_list e e2 ?_ (by rw [List.size_toArray, List.size_toArray]; omega)
 have ea : its.toArray ++ its2.toArray = (its ++ its2).toArray := by simp
 rw [ea]
 exact ⟨.ref _, _, I.lnew (t' := s.toks) (r.append r2) (by rw [List.length_append]; omega), rfl, q _ I.fresh⟩
noncomputable def rRep : R2 := fun x y H Q => ∃ l k xs, x = .ref l ∧ y = .int k ∧ H l = some (.lst xs) ∧ -(2 ^ 63) ≤ k ∧ k < 2 ^ 63 ∧ xs.length * k.toNat ≤ sizeLine ∧
 ∀ p, H p = none → Q (.ref p) (upd H p (.lst (List.replicate k.toNat xs).flatten))
theorem len_rep {α : Type} (xs : List α) (k : Nat) : (List.replicate k xs).flatten.length = k * xs.length := by
 induction k with
 | zero => simp
 | succ k ih => rw [List.replicate_succ, List.flatten_cons, List.length_append, ih, Nat.succ_mul, Nat.add_comm]
theorem op_rep : OpR X (binaryOp .Mult) rRep := by
 intro pins s σ H x y v u Q I rx ry h
 obtain ⟨l, k, xs, rfl, rfl, hH, h1, h2, hz, q⟩ := h
 cases rx
 obtain ⟨t, rfl⟩ := ry
 obtain ⟨z, its, n, r, hl, e⟩ := I.lstM hH
 have hlen : its.toArray.size * k.toNat ≤ sizeLine := by rw [List.size_toArray, ← hl]; exact hz
 have hcap : ¬ its.toArray.size * k.toNat > (2 ^ 63 - 1) / 8 := by
  have : (sizeLine : Nat) ≤ (2 ^ 63 - 1) / 8 := by decide
  omega
 have hfit : ¬ (!Builtin.List.listFitsIndex k) = true := by
  rw [fitsIndex_both h1 h2]
  exact Bool.false_ne_true
 have hlong : ¬ Builtin.List.listTooLong (its.toArray.size * k.toNat) = true := by
  rw [notLongL hlen]
  exact Bool.false_ne_true
 have hnew : List.foldl (fun x1 x2 => x1 ++ x2) #[] (List.replicate (if its.toArray.isEmpty = true then 0 else k.toNat) its.toArray) = (List.replicate k.toNat its).flatten.toArray := by
  have f0 : ∀ m : Nat, List.foldl (fun x1 x2 => x1 ++ x2) #[] (List.replicate m its.toArray) = (List.replicate m its).flatten.toArray := fun m => by
   have := foldl_rep its m []
   rw [List.nil_append] at this
   exact this
  rw [f0]
  cases its with
  | nil => simp
  | cons a r' => rw [if_neg (by simp)]
 refine wpAny_binaryOp_repeat_ref (T := "list") (U := "int") (by decide) ⟨_, e, rfl⟩ (fun s' => typeIs_int s' k t) noFill_list_mul F.fills_int_mul F.slot_int_rmul repeat_list F.slot_int_index.lookup
  (call_meets F.slot_int_rmul (typeIs_int s k t) F.entry_int_rmul (F.args_int_rmul_2 _ _) (int___rmul___int_list k t l its.toArray n)
   ⟨e, rfl, ⟨_, e, rfl⟩, call_meets F.slot_list_mul ⟨_, e, rfl⟩ F.entry_list_mul (F.args_list_mul_2 _ _) (AutoListH.list___mul___list_int_3 l its.toArray n k t hfit hcap hlong) ⟨e, ?_⟩⟩)
 rw [hnew]
 exact ⟨.ref _, _, I.lnew (t' := s.toks) (r.rep k.toNat) (by rw [len_rep, Nat.mul_comm]; exact hz), rfl, q _ I.fresh⟩
end
section
variable {prog : Program} {w : World} {A : Around} {E : Value → Shared → Prop} {s : Shared}
end
section
variable {X : Cx}
end
end L2
namespace Att
open PySem PySem.W PySem.Calls PyProof.Rows
theorem ints_of_wellAll {P : Params} {h : Heap} : ∀ (ns : List Int) (vs : List Value), WellAll P h vs (ns.map WData.int) → IntsAre vs ns := by
 intro ns
 induction ns with
 | nil =>
  intro vs w
  rw [List.map_nil] at w
  cases w
  exact .nil
 | cons n ns ih =>
  intro vs w
  rw [List.map_cons] at w
  cases w with
  | cons a b =>
   cases a
   exact .cons _ _ (ih _ b)
theorem script_of {l : OpenLaw} {n : Nat} (hn : l.most = some n) {P : Params} {h : Heap} {args : List WData} {vals : List Value}
  (hpre : l.row.toRowW.claim.pre args = true) (hwl : WellAll P h vals args) :
  ∃ a vs ns, vals = [Value.ref a] ∧ args = [WData.list (ns.map WData.int)] ∧ h.get? a = some { cls := .type "list", data := .seq vs.toArray } ∧ IntsAre vs ns ∧ ns.length ≤ n := by
 have hsh : WShape.hasAll [] args [.list .int] = true := (pre_splitW hpre).1
 have hc : l.pre.holds [] { args := args } = true := (pre_splitW hpre).2
 obtain ⟨d, r, rfl, h1, h2⟩ := hasAllW_cons hsh
 obtain rfl := hasAllW_nil h2
 obtain ⟨xs, rfl, h3⟩ := hasW_list h1
 obtain ⟨ns, rfl⟩ := items_int h3
 have hlen : ns.length ≤ n := by
  unfold OpenLaw.pre at hc
  have h4 : (WTm.not (.lt (.lit (.int (n : Int))) (.len (.arg 0)))).holds [] { args := [.list (ns.map .int)] } = true := by
   have h4 := (holds_andW hc).1
   rw [hn] at h4
   exact h4
  have h5 := condW_of h4 (w_not (w_lt w_lit (w_len_list (w_arg rfl))))
  rw [List.length_map] at h5
  refine Nat.le_of_not_lt fun q => ?_
  have q' : (n : Int) < ((ns.length : Nat) : Int) := by omega
  first
   | (rw [decide_eq_true q'] at h5; exact absurd h5 (by decide))
   | (simp at h5; omega)
 cases hwl with
 | cons w1 w2 =>
  cases w2
  cases w1 with
  | list ho hall => exact ⟨_, _, ns, rfl, rfl, ho, ints_of_wellAll ns _ hall, hlen⟩
theorem post_true (l : OpenLaw) (args : List WData) : l.row.toRowW.claim.post args (.bool true) args = true :=
 postW_of (r := l.row.toRowW) (X := (true == true))
  (show WShape.has [] (.bool true) .bool = true by first | rfl | decide | simp [WShape.has, WShape.arms, WShape.armsAll])
  (show (WTm.eq .res (.lit (.bool true))).value [] { args := args, res := some (.bool true), after := args } = some (.bool (true == true)) from w_eq_bool (w_res rfl) w_lit) rfl
theorem attach_call {l : OpenLaw} {n : Nat} {q : Program} {loose : List Str} {XP : (Str → Option Value) → Heap → Prop} {YP : World → Heap → Prop} {d : DefRec}
  (hn : l.most = some n) (hdf : d.params.defaults = [])
  (call : ∀ (w : World) (s₀ s₁ : Shared) (mg mb : Str → Option Value) (fa : Addr) (o : Obj) (pm cd doc : Value) (a : Addr) (vs : List Value) (ns : List Int),
   Ground q loose [] XP w s₀ mg mb s₁.heap → YP w s₁.heap →
   s₁.heap.get? fa = some o → o.data = .func (docDef d.name d.params d.body d.scope pm cd doc) → s₁.heap.CodeRec cd d.name → mg d.name = some (.ref fa) →
   s₁.heap.get? a = some { cls := .type "list", data := .seq vs.toArray } → IntsAre vs ns → ns.length ≤ n → s₁.gens = #[] →
   codeAny (model l.prog w) callerA (.call (.ref fa) ⟨[.ref a], []⟩) (fun r s' => r = .ok (.ret (.bool true)) ∧ OldK s₁.heap s'.heap ∧ s'.os = s₁.os ∧ AllBare s'.gens) s₁) :
  WalkO q loose XP YP l.row.toRowW d [] (fun f vs => PySem.call f vs) := by
 intro w s₀ s₁ mg mb G Y fa o pm cd doc dV kV ho hd hcd hD hmg hg args vals as hpre hlay hrd hwl hlo
 obtain rfl : dV = .none := Dflts.none hD hdf
 obtain rfl : kV = .none := Dflts.noKw hD
 obtain ⟨a, vs, ns, rfl, rfl, hobj, hints, hlen⟩ := script_of hn hpre hwl
 refine enter_call (codeAny_mono (call w s₀ s₁ mg mb fa o pm cd doc a vs ns G Y ho (fd_plain hd) hcd hmg hobj hints hlen hg) fun r s' hq => ?_)
 obtain ⟨rfl, h2, h3, h4⟩ := hq
 exact ⟨.inl ⟨.bool true, .bool true, [], rfl, fun _ => rfl, .bool true, post_true l _, fun _ => ⟨List.Pairwise.nil, fun _ hm => (nomatch hm)⟩⟩, h2, h3, h4⟩
section
variable {prog : Program} {w : World} {A : Around} {E : Value → Shared → Prop} {s : Shared} {K : Frag}
end
end Att
namespace L2
open PySem PySem.Spec PyProof.Rows
theorem vals_ints : ∀ {vs : List Value} {ns : List Int}, IntsAre vs ns → Vals (ns.map V.int) vs
 | _, _, .nil => .nil
 | _, _, .cons n t h => .cons ⟨t, rfl⟩ (vals_ints h)
noncomputable def Only (H : Hp) : Prop := ∀ b, H b = none ∨ ∃ o xs, H b = some (.frz o (.lst xs))
theorem law_call {P : Program} {w : World} {K : PySem.W.Frag} {mg mb : Str → Option Value} {CX : CXT} {k : Nat} {fa a : Addr} {fd : FuncData} {x : Str} {sp : Sp} {s₁ : Shared} {vs : List Value} {ns : List Int}
  (KX : K.In s₁.heap) (hns : s₁.heap.Ns mainGlobals mg) (hb : s₁.heap.Ns builtinsNs mb) (hbb : ∀ x : Str, x ≠ "__name__" → mb x = bootBuiltins x) (hlim : s₁.heap.NoLimit) (hg : s₁.gens = #[])
  (ha : s₁.heap.get? a = some { cls := .type "list", data := .seq vs.toArray }) (hi : IntsAre vs ns) (hl : ns.length ≤ sizeLine) (hr : Room k callerA)
  (F : ∀ base : Heap, K.In base → base.Ns mainGlobals mg → FnOk P w K mg base CX k fa fd [x] sp) (hbind : ∀ (s : Shared) (u : Value), BindsTo s fd ⟨[u], []⟩ [(x, u)])
  (hsp : ∀ H : Hp, Only H → SqL K H a (ns.map V.int) → sp [.ref a] H (fun v _ => v = .bl true) fun _ _ _ => False)
  (hCX : ∀ H e s', CX [] H s₁ (fun _ _ _ => False) e s' → False) :
  codeAny (model P w) callerA (.call (.ref fa) ⟨[.ref a], []⟩) (fun r s' => r = .ok (.ret (.bool true)) ∧ OldK s₁.heap s'.heap ∧ s'.os = s₁.os ∧ AllBare s'.gens) s₁ := by
 have rv := vals_ints hi
 have lenV := hi.length
 have core : ∀ H : Hp, Only H → SqL K H a (ns.map V.int) → HOk P w H s₁.heap → (∀ b, H b ≠ none → b = a) → (H a ≠ none → K.lookup a = none) →
   codeAny (model P w) callerA (.call (.ref fa) ⟨[.ref a], []⟩) (fun r s' => r = .ok (.ret (.bool true)) ∧ OldK s₁.heap s'.heap ∧ s'.os = s₁.os ∧ AllBare s'.gens) s₁ := by
  intro H hO hS hok hA hK
  have base_of : ∀ {b : Addr} {o : Obj}, s₁.heap.get? b = some o → H b = none → (hidT s₁.heap H).get? b = some o := fun e n => hidT_get e n
  have noA : ∀ {b : Addr} {o : Obj} {es : Array DictEntry} {ep : Nat}, s₁.heap.get? b = some o → o.data = .dict es ep → H b = none := fun {b o es ep} e d => by
   cases q : H b with
   | none => rfl
   | some u =>
    have e' : b = a := hA b (by rw [q]; simp)
    subst e'
    rw [ha] at e; cases e
    have d' : Data.seq vs.toArray _ = Data.dict es ep := d
    cases d'
  have nsK : ∀ {b : Addr} {m : Str → Option Value}, s₁.heap.Ns b m → (hidT s₁.heap H).Ns b m := fun {b m} ⟨o, es, ep, e, d, r⟩ => ⟨o, es, ep, base_of e (noA e d), d, r⟩
  have hKb : K.In (hidT s₁.heap H) := fun b o e => base_of (KX b o e) (by
   cases q : H b with
   | none => rfl
   | some u =>
    have e' : b = a := hA b (by rw [q]; simp)
    subst e'
    rw [hK (by rw [q]; simp)] at e; cases e)
  have hM : Mod K mg (hidT s₁.heap H) := ⟨hKb, nsK hns, ⟨mb, nsK hb, hbb⟩, let ⟨mc, h1, h2⟩ := hlim; ⟨mc, nsK h1, h2⟩⟩
  have e0 : Env0 P w K mg (hidT s₁.heap H) callerA [] s₁ H := ⟨rfl, hM, fun b o e => of_hidT e, Nat.le_of_eq (hidT_size _ _), trivial, fun b hb => absurd (show b ∈ ([] : List Addr) from hb) (by simp), hok, .of_eq hg⟩
  refine codeAny_mono ((F _ hKb (nsK hns)).run callerA [] s₁ H ⟨[.ref a], []⟩ [.ref a] [.ref a] _ _ hr e0 (hbind s₁ (.ref a)) (.cons rfl .nil) (hsp H hO hS)) fun r s' h => ?_
  cases r with
  | error e => exact (hCX H e s' h).elim
  | ok fl =>
   cases fl with
   | next => exact False.elim h
   | brk => exact False.elim h
   | cont => exact False.elim h
   | ret u =>
    obtain ⟨v, H', os, bare, un, hok', r', q⟩ := h
    have q' : v = .bl true := q
    subst q'
    obtain rfl : u = Value.bool true := r'
    refine ⟨rfl, OldK.of_keep fun b o e => ?_, os, bare⟩
    cases q : H b with
    | none => exact un.keep b o e q (by intro z; exact absurd (show b ∈ ([] : List Addr) from z) (by simp)) (by simp)
    | some u =>
     rcases hO b with z | ⟨ob, xs, z⟩
     ·rw [q] at z; cases z
     ·have z2 := un.frzs b ob _ z
      obtain ⟨e1, _⟩ := hok b _ z
      obtain ⟨e2, _⟩ := hok' b _ z2
      rw [e] at e1; cases e1
      exact e2
 cases hk : K.lookup a with
 | some o =>
  have e := KX a o hk
  rw [ha] at e
  cases e
  refine core (fun _ => none) (fun _ => .inl rfl) (.inr ⟨_, vs.toArray, _, hk, rfl, rfl, rfl, by rw [List.size_toArray, lenV]; exact hl, by simpa using rv⟩) (fun b u z => by have z' : (none : Option HO) = some u := z; cases z') (fun b z => absurd rfl z) fun z => absurd rfl z
 | none =>
  refine core (fun b => if b = a then some (.frz { cls := .type "list", data := .seq vs.toArray } (.lst (ns.map V.int))) else none) (fun b => ?_) (.inl (.inr ⟨{ cls := .type "list", data := .seq vs.toArray }, if_pos rfl⟩)) (fun b u z => ?_) (fun b z => ?_) fun _ => hk
  ·by_cases hb : b = a
   ·exact .inr ⟨_, _, if_pos hb⟩
   ·exact .inl (if_neg hb)
  ·by_cases hb : b = a
   ·have z' := (if_pos hb).symm.trans z
    cases z'
    subst hb
    exact ⟨ha, by rw [List.length_map]; exact hl, vs, _, rv, ha⟩
   ·have z' := (if_neg hb).symm.trans z
    cases z'
  ·by_cases hb : b = a
   ·exact hb
   ·exact absurd (if_neg hb) z
end L2
namespace L2
open PySem PySem.Spec PyProof.Rows
theorem walk_of {l : PySem.W.OpenLaw} {n k : Nat} {q : Program} {loose : List Str} {XP : (Str → Option Value) → Heap → Prop} {YP : World → Heap → Prop} {d : DefRec} {K : Params → PySem.W.Frag} {CX : World → CXT} {sp : World → Sp} {x : Str}
  (hn : l.most = some n) (hn2 : n ≤ sizeLine) (hdf : d.params.defaults = []) (hr : Room k callerA)
  (hY : ∀ (w : World) (h : Heap), YP w h → (K w.params).In h)
  (F : ∀ (w : World) (mg : Str → Option Value) (fa : Addr) (h : Heap), (K w.params).In h → h.Ns mainGlobals mg → mg d.name = some (.ref fa) →
   ∃ fd : FuncData, (∀ (s : Shared) (u : Value), BindsTo s fd ⟨[u], []⟩ [(x, u)]) ∧
    ∀ base : Heap, (K w.params).In base → base.Ns mainGlobals mg → FnOk l.prog w (K w.params) mg base (CX w) k fa fd [x] (sp w))
  (hsp : ∀ (w : World) (H : Hp) (a : Addr) (ns : List Int), ns.length ≤ n → Only H → SqL (K w.params) H a (ns.map V.int) → sp w [.ref a] H (fun v _ => v = .bl true) fun _ _ _ => False)
  (hCX : ∀ (w : World) (H : Hp) (s : Shared) (e : Value) (s' : Shared), CX w [] H s (fun _ _ _ => False) e s' → False) :
  PySem.W.WalkO q loose XP YP l.row.toRowW d [] (fun f vs => PySem.call f vs) := by
 refine Att.attach_call hn hdf fun w s₀ s₁ mg mb fa o pm cd doc a vs ns G Y ho hd hcd hmg hobj hints hlen hg => ?_
 have KX := hY w _ Y
 obtain ⟨fd, hb, hF⟩ := F w mg fa _ KX G.T.g hmg
 exact law_call KX G.T.g G.T.b G.T.builtins G.T.nolimit hg hobj hints (Nat.le_trans hlen hn2) hr hF hb (fun H hO hS => hsp w H a ns hlen hO hS) fun H e s' => hCX w H s₁ e s'
end L2
namespace L2
open PySem PySem.Spec PyProof.Rows
noncomputable def defArgs (s : Stmt) : Arguments := match s with
 | .FunctionDef _ a _ _ _ _ _ _ _ _ => a
 | _ => { posonlyargs := [], args := [], vararg := none, kwonlyargs := [], kw_defaults := [], kwarg := none, defaults := [] }
noncomputable def defBody (s : Stmt) : List Stmt := match s with
 | .FunctionDef _ _ b _ _ _ _ _ _ _ => b
 | _ => []
noncomputable def defScope (s : Stmt) : Scope := match s with
 | .FunctionDef _ _ _ _ _ _ sc _ _ _ => sc
 | _ => { kind := .function, names := [], isGenerator := false, isCoroutine := false }
noncomputable abbrev CX0 : CXT := fun _ _ _ _ _ _ => False
noncomputable abbrev E0 : XK := fun _ _ _ => False
theorem pass0 {X : Cx} : Passes CX0 X E0 := fun _ _ _ _ _ _ _ h => h.elim
structure Fun (K : PySem.W.Frag) (x qual : Str) (st : Stmt) (f : Addr) (fd : FuncData) : Prop where
 ex : ∃ (oc : Value) (od : Option Addr) (kV doc pm : Value) (an : Option Addr) (cdv ct : Value) (osl : Array (Option Value)),
  fd = PySem.W.fnOf x qual (defArgs st) (defBody st) (defScope st) .none kV doc pm an cdv ct ∧ K.lookup f = some ⟨oc, od, .func fd, osl⟩ ∧ PySem.W.codeIn K cdv qual = true
 kp : PySem.W.keepIn K (.ref f) = true
section
variable {P : Program} {w : World} {K : PySem.W.Frag} {mg : Str → Option Value} {base : Heap}
theorem Fun.ok {x qual : Str} {st : Stmt} {f : Addr} {fd : FuncData} {N ps : List Str} {k : Nat} {sp : Sp} (F : Fun K x qual st f fd) (S : FnScope N ps (defScope st)) (len : ∀ vs H Q E, sp vs H Q E → vs.length = ps.length)
  (hbody : ∀ (cdv : Value) (A : Around) (outer : List Env) (s : Shared) (H : Hp) (vs : List V) (Q : VK) (E : XK), Room k (A.deeper (envOfC qual (defScope st) s.heap.objs.size f cdv)) → sp vs H Q E →
   ∃ t, PSs (cxOf CX0 P w K mg base N qual (defScope st) f cdv A outer s H E).nox (defBody st) t ∧ t { nx := fun _ H' => Q .non H', rt := Q } (start N vs) H) : FnOk P w K mg base CX0 (k + 1) f fd ps sp := by
 obtain ⟨oc, od, kV, doc, pm, an, cdv, ct, osl, rfl, lk, hcd⟩ := F.ex
 refine fn_of lk hcd S len fun A outer s H vs Q E hr hsp => ?_
 obtain ⟨t, h, q⟩ := hbody cdv A outer s H vs Q E hr hsp
 exact ⟨t, h.nox, q⟩
theorem Fun.binds {x qual : Str} {st : Stmt} {f : Addr} {fd : FuncData} {ps : List Str} (F : Fun K x qual st f fd)
  (h : ∀ (kV doc pm : Value) (an : Option Addr) (cdv ct : Value) (us : List Value), us.length = ps.length → bindArgs (PySem.W.fnOf x qual (defArgs st) (defBody st) (defScope st) .none kV doc pm an cdv ct) ⟨us, []⟩ = pure (ps.zip us)) : Binds K fd ps [] := by
 obtain ⟨oc, od, kV, doc, pm, an, cdv, ct, osl, rfl, lk, hcd⟩ := F.ex
 exact .all (h kV doc pm an cdv ct)
theorem fun_mk {x qual : Str} {st : Stmt} {f : Addr} {oc : Value} {od an : Option Addr} {osl : Array (Option Value)} {kV doc pm cdv ct : Value} (l : K.lookup f = some ⟨oc, od, .func (PySem.W.fnOf x qual (defArgs st) (defBody st) (defScope st) .none kV doc pm an cdv ct), osl⟩)
  (c : PySem.W.codeIn K cdv qual = true) (k : PySem.W.keepIn K (.ref f) = true) : Fun K x qual st f (PySem.W.fnOf x qual (defArgs st) (defBody st) (defScope st) .none kV doc pm an cdv ct) := ⟨⟨oc, od, kV, doc, pm, an, cdv, ct, osl, rfl, l, c⟩, k⟩
end
theorem small1000 {n : Nat} (h : n ≤ 1000) : n < sizeLine := Nat.lt_of_le_of_lt h (by decide)
section
variable {X : Cx}
theorem pv (i : Nat) {x : Str} {pos : Pos} (hN : X.N[i]? = some x := by rfl) (hv : Vis X.env.scope x := by first | exact Or.inl rfl | exact Or.inr (Or.inl rfl) | exact Or.inr (Or.inr rfl)) (hd : (x == ("__debug__" : Str)) = false := by decide)
  (hcd : (x == ("__classdict__" : Str)) = false := by decide) : PE X (.Name x pos) (tVar i) := pe_var hN hv hd hcd
end
noncomputable def Same (H H' : Hp) : Prop := ∀ b o, H b = some o → H' b = some o
theorem Same.refl (H : Hp) : Same H H := fun _ _ h => h
theorem Same.trans {H H1 H2 : Hp} (a : Same H H1) (b : Same H1 H2) : Same H H2 := fun c o h => b c o (a c o h)
theorem Same.seq {K : PySem.W.Frag} {H H' : Hp} {a : Addr} {xs : List V} (e : Same H H') (h : SqL K H a xs) : SqL K H' a xs := by
 rcases h with (h | ⟨o, h⟩) | h
 ·exact .inl (.inl (e _ _ h))
 ·exact .inl (.inr ⟨o, e _ _ h⟩)
 ·exact .inr h
end L2
end
section
set_option Elab.async false
set_option linter.all false
set_option maxRecDepth 100000
namespace L2
open PySem PySem.Spec PyProof.Rows
noncomputable def clos : List (Str × NameKind) → List (Str × Addr) → List (Str × Addr) → Option (List (Str × Addr))
 | [], _, acc => some acc
 | (n, k) :: r, cs, acc => if k == .free then (match cs.lookup n with | some c => clos r cs ((n, c) :: acc) | none => none) else clos r cs acc
theorem clos_run {env : Env} : ∀ (names : List (Str × NameKind)) (acc cl : List (Str × Addr)), clos names env.cells acc = some cl →
  (forIn names acc fun (x : Str × NameKind) (cs : List (Str × Addr)) => (if (x.2 == NameKind.free) = true then (do let c ← cellOf env x.1; pure (ForInStep.yield ((x.1, c) :: cs))) else pure (ForInStep.yield cs) : Sem (ForInStep (List (Str × Addr))))) = (pure cl : Sem _)
 | [], acc, cl, h => by
  have e : acc = cl := Option.some.inj h
  subst e; rfl
 | (n, k) :: r, acc, cl, h => by
  unfold clos at h
  rw [List.forIn_cons]
  cases hk : k == NameKind.free with
  | false =>
   rw [hk] at h
   have ih := clos_run (env := env) r acc cl (by simpa using h)
   simp only [hk, Bool.false_eq_true, if_false, pure_bind]
   exact ih
  | true =>
   rw [hk] at h
   simp only [if_true] at h
   cases hc : env.cells.lookup n with
   | none => rw [hc] at h; cases h
   | some c =>
    rw [hc] at h
    have ih := clos_run (env := env) r ((n, c) :: acc) cl h
    have e : cellOf env n = pure c := by unfold cellOf; rw [hc]
    simp only [hk, if_true, e, pure_bind]
    exact ih
theorem closureFor_clos {scope : Scope} {env : Env} {cl : List (Str × Addr)} (h : clos scope.names env.cells [] = some cl) : closureFor scope env = pure cl := by
 have q := clos_run scope.names [] cl h
 unfold closureFor
 show (do let r ← _; pure r) = _
 refine Eq.trans ?_ (congrArg (fun z => z >>= fun r => pure r) q) |>.trans ?_
 ·rfl
 ·rfl
theorem clos_sub {cs : List (Str × Addr)} : ∀ (names : List (Str × NameKind)) (acc cl : List (Str × Addr)), clos names cs acc = some cl → (∀ n c, (n, c) ∈ acc → cs.lookup n = some c) → ∀ n c, (n, c) ∈ cl → cs.lookup n = some c
 | [], acc, cl, h, ha, n, c, hm => by
  have e : acc = cl := Option.some.inj h
  subst e; exact ha n c hm
 | (n0, k) :: r, acc, cl, h, ha, n, c, hm => by
  unfold clos at h
  split at h
  ·split at h
   ·rename_i c0 hc
    refine clos_sub r _ cl h (fun n' c' h' => ?_) n c hm
    rcases List.mem_cons.mp h' with e | h'
    ·cases e; exact hc
    ·exact ha n' c' h'
   ·cases h
  ·exact clos_sub r acc cl h ha n c hm
theorem clos_mono {cs : List (Str × Addr)} : ∀ (names : List (Str × NameKind)) (acc cl : List (Str × Addr)), clos names cs acc = some cl → ∀ p ∈ acc, p ∈ cl
 | [], acc, cl, h, p, hp => by
  have e : acc = cl := Option.some.inj h
  subst e; exact hp
 | (n0, k) :: r, acc, cl, h, p, hp => by
  unfold clos at h
  split at h
  ·split at h
   ·exact clos_mono r _ cl h p (List.mem_cons_of_mem _ hp)
   ·cases h
  ·exact clos_mono r acc cl h p hp
theorem clos_has {cs : List (Str × Addr)} : ∀ (names : List (Str × NameKind)) (acc cl : List (Str × Addr)), clos names cs acc = some cl → ∀ n, (n, NameKind.free) ∈ names → ∃ c, (n, c) ∈ cl
 | (n0, k) :: r, acc, cl, h, n, hn => by
  unfold clos at h
  rcases List.mem_cons.mp hn with e | hn
  ·cases e
   simp only [beq_self_eq_true, if_true] at h
   split at h
   ·rename_i c0 hc
    exact ⟨c0, clos_mono r _ cl h _ List.mem_cons_self⟩
   ·cases h
  ·split at h
   ·split at h
    ·exact clos_has r _ cl h n hn
    ·cases h
   ·exact clos_has r acc cl h n hn
theorem lookup_of_mem {β : Type} : ∀ {l : List (Str × β)} {n : Str} {c : β}, (n, c) ∈ l → ∃ c', l.lookup n = some c'
 | (m, d) :: r, n, c, h => by
  rw [List.lookup_cons]
  cases e : n == m with
  | true => exact ⟨d, rfl⟩
  | false =>
   rcases List.mem_cons.mp h with q | q
   ·cases q; simp at e
   ·exact lookup_of_mem q
theorem clos_lookup {cs cl : List (Str × Addr)} {names : List (Str × NameKind)} (h : clos names cs [] = some cl) {x : Str} {c : Addr} (q : cl.lookup x = some c) : cs.lookup x = some c :=
 clos_sub names [] cl h (fun _ _ z => absurd z (by simp)) x c (PySem.mem_of_lookup q)
theorem relabel_free {env : Env} : ∀ {names : List (Str × NameKind)} {x : Str}, (∀ y ∈ names, y.2 ≠ NameKind.cell) →
    ((names.map fun (n, k) => if (k == NameKind.free && env.scope.kind == .function && env.kindOf n == some .cell) then (n, NameKind.cell) else (n, k)).lookup x = some .cell ∨
     (names.map fun (n, k) => if (k == NameKind.free && env.scope.kind == .function && env.kindOf n == some .cell) then (n, NameKind.cell) else (n, k)).lookup x = some .free) → (x, NameKind.free) ∈ names
  | [], x, _, h => by simp at h
  | (n, k) :: r, x, hc, h => by
    have ih := @relabel_free env r x (fun y hy => hc y (List.mem_cons_of_mem _ hy))
    rw [List.map_cons] at h
    cases hx : x == n with
    | true =>
      have e : x = n := by simpa using hx
      subst e
      by_cases hk : k = NameKind.free
      · subst hk; exact List.mem_cons_self
      · have hb : (k == NameKind.free) = false := by simpa using hk
        simp only [hb, Bool.false_and, Bool.false_eq_true, if_false, List.lookup_cons, beq_self_eq_true] at h
        rcases h with h | h
        · exact absurd (Option.some.inj h) (hc (x, k) List.mem_cons_self)
        · exact absurd (Option.some.inj h) hk
    | false =>
      refine List.mem_cons_of_mem _ (ih ?_)
      by_cases hcnd : (k == NameKind.free && env.scope.kind == .function && env.kindOf n == some .cell) = true
      · simp only [hcnd, if_true, List.lookup_cons, hx] at h; exact h
      · simp only [hcnd, if_false, List.lookup_cons, hx, Bool.false_eq_true] at h; exact h
theorem relabel_free' {sc : Scope} {env : Env} {x : Str} (hc : ∀ y ∈ sc.names, y.2 ≠ NameKind.cell) (h : (relabel sc env).names.lookup x = some .cell ∨ (relabel sc env).names.lookup x = some .free) : (x, NameKind.free) ∈ sc.names := relabel_free hc h
noncomputable def cxc (X : Cx) (N : List Str) (sc : Scope) (cl : List (Str × Addr)) (s : Shared) (H : Hp) (ex : List Addr) : Cx where
 prog := X.prog
 w := X.w
 K := X.K
 mg := X.mg
 base := X.base
 A := X.A
 N := N
 s₀ := s
 H₀ := H
 env := compEnvC sc cl s.heap.objs.size X.env
 outer := X.stack
 stack := X.stack
 ex := ex
 fn := fun _ => false
 calm := X.calm
 pn := []
 xe := fun _ _ => False
noncomputable def frS (fr : List (Option Nat)) (σ : St) : St := fr.map fun o => o.bind fun j => (σ[j]?).bind id
noncomputable def PIfs (X : Cx) (ifs : List Expr) (t : TT) : Prop :=
 ∀ (pins : List (Addr × Obj)) (s : Shared) (σ : St) (H : Hp) (Q : Bool → Hp → Prop), Inv X pins σ H s → t σ H Q →
  wpAny (model X.prog X.w) X.A (forIn ifs true fun c r => if r = true then do let ok ← isTrue c X.env (eval c X.env); pure (ForInStep.yield ok) else pure (ForInStep.yield r)) (TP X pins σ Q) X.xe s
noncomputable def tTrue : TT := fun _ H Q => Q true H
theorem pif_nil {X : Cx} : PIfs X [] tTrue := fun _ _ _ _ _ I h => wpAny_tests_nil ⟨_, I, h⟩
theorem pif_one {X : Cx} {c : Expr} {t : TT} (h : PT X c t) : PIfs X [c] t := fun pins s σ H Q I q => wpAny_tests_one (h pins s σ H Q I q)
noncomputable abbrev TB := St → Hp → (St → Hp → Prop) → Prop
noncomputable def PB (X : Cx) (body : Sem Unit) (t : TB) : Prop :=
 ∀ (pins : List (Addr × Obj)) (s : Shared) (σ : St) (H : Hp) (N : St → Hp → Prop), Inv X pins σ H s → t σ H N →
  wpAny (model X.prog X.w) X.A body (fun _ s' => ∃ σ' H', Inv X pins σ' H' s' ∧ N σ' H') X.xe s
noncomputable def tEmit (p : Addr) (te : TE) : TB := fun σ H N => te σ H fun y H1 => ∃ ys, H1 p = some (.lst ys) ∧ ys.length < sizeLine ∧ N σ (upd H1 p (.lst (ys ++ [y])))
theorem pb_emit {X : Cx} {elt : Expr} {te : TE} {p : Addr} (h : PE X elt te) : PB X (do let _ ← call (.builtin "list.append") [.ref p, ← eval elt X.env]) (tEmit p te) := by
 intro pins s σ H N I q
 refine wpAny_bind (thn (h pins s σ H _ I q) fun u s1 ⟨y, H1, I1, r, ys, hp, hz, n⟩ => ?_)
 refine wpAny_bind (thn (mt_append (X := X) pins s1 σ H1 (.ref p) [y] (.ref p) [u] (fun _ H2 => N σ H2) I1 rfl (.cons r .nil) ⟨p, ys, y, rfl, rfl, hp, hz, n⟩) fun _ s2 ⟨_, H2, I2, _, n2⟩ => wpAny_pure ⟨σ, H2, I2, n2⟩)
noncomputable def tCL (J : It) (g : TG) (tc : TT) (tb : TB) : (St → Hp → Prop) → St → Hp → Prop := fun D σ H => ∃ W : Nat → Nat → St → Hp → Prop, (∃ m, W 0 m σ H) ∧ ∀ i m σ H, W i m σ H →
 (J.stop i H ∧ D σ H) ∨ (J.go i H ∧ ∃ N : St → Hp → Prop, (∀ σ' H', N σ' H' → ∃ m', m' < m ∧ W (i + 1) m' σ' H') ∧ ∀ x H', J.yld i H x H' → g x σ H' fun σ2 H2 => tc σ2 H2 fun b H3 => if b = true then tb σ2 H3 N else N σ2 H3)
theorem comp_loop {X : Cx} {e tg : Expr} {d : Nat} {ip : Pos} {ifs : List Expr} {body : Sem Unit} {acc : Value} {it : Addr} {fp : List Addr} {tn : Nat → Heap → Prop} {J : It} {g : TG} {tc : TT} {tb : TB} {D : St → Hp → Prop} {pins : List (Addr × Obj)} {σ : St} {H : Hp} {s : Shared}
  (hc : X.calm = true) (hx : X.xe = fun _ _ => False)
  (heq : compTurn e d (.ref it) acc X.env = (do
   standAt ip
   match ← pyNext (.ref it) with
   | none => pure (.done .next)
   | some v =>
    letOwnedTupleGo tg (.ref it) v
    assign tg X.env v
    let mut ok := true
    for c in ifs do
     if ok then ok ← isTrue c X.env (eval c X.env)
    if ok then body
    again (.compLoop e d (.ref it) acc X.env)))
  (hfrm : (Code.compLoop e d (.ref it) acc X.env).isFrame = false) (hund : X.A.under (Code.compLoop e d (.ref it) acc X.env) = X.A) (hq : (Code.compLoop e d (.ref it) acc X.env).quiet = true)
  (T : Turn X.prog X.w X.K tg J fp it tn) (hg : PG X tg g) (hi : PIfs X ifs tc) (hb : PB X body tb)
  (I : Inv X pins σ H s) (st : tn 0 s.heap) (f : ∀ b ∈ fp, FpOk X pins H b) (h : tCL J g tc tb D σ H) :
  codeAny (model X.prog X.w) X.A (.compLoop e d (.ref it) acc X.env) (fun r s' => r = .ok .next ∧ ∃ σ' H', Inv X pins σ' H' s' ∧ D σ' H') s := by
 obtain ⟨W, ⟨m0, w0⟩, turn⟩ := h
 have stat : ∀ {H' : Hp}, (∀ b ∈ fp, H' b = none) → ∀ b ∈ fp, FpOk X pins H' b := fun hn b hb => ⟨hn b hb, (f b hb).2⟩
 refine codeAny_loop hq (fun n s' => ∃ i σ' H', Inv X pins σ' H' s' ∧ tn i s'.heap ∧ (∀ b ∈ fp, H' b = none) ∧ W i n σ' H') ?_ m0 ⟨0, σ, H, I, st, fun b hb => (f b hb).1, w0⟩
 rintro n s3 ⟨i, σ3, H3, I3, st3, fr3, w3⟩
 rw [hund]
 show wpAny _ X.A (if (Code.compLoop e d (.ref it) acc X.env).isFrame then _ else (compTurn e d (.ref it) acc X.env).onRaise (fun x => do noteFrame x X.env; theTreesLotGoes x)) _ _ s3
 rw [hfrm]
 show wpAny _ X.A ((compTurn e d (.ref it) acc X.env).onRaise (fun x => do noteFrame x X.env; theTreesLotGoes x)) _ _ s3
 refine wpAny_noted ?_
 rw [heq]
 have no : ∀ {α : Type} {t : Sem α} {Q : α → Shared → Prop} {E : Value → Shared → Prop} {s : Shared}, wpAny (model X.prog X.w) X.A t Q X.xe s → wpAny (model X.prog X.w) X.A t Q E s := fun h => wpAny_mono h (fun _ _ q => q) fun _ _ z => by rw [hx] at z; exact z.elim
 refine wpAny_bind (wpAny_standAt (wpAny_bind ?_))
 rcases turn i n σ3 H3 w3 with ⟨stop, qn⟩ | ⟨go, N, hN, step⟩
 ·refine thn (T.done X rfl rfl rfl hc i pins s3 σ3 H3 _ I3 (stat fr3) st3 stop) fun r s4 ⟨hr, I4⟩ => ?_
  subst hr
  exact wpAny_pure ⟨rfl, σ3, H3, I4, qn⟩
 ·refine thn (T.item X rfl rfl rfl hc i pins s3 σ3 H3 _ I3 (stat fr3) st3 go) fun r s4 ⟨u, hr, h4⟩ => ?_
  subst hr
  refine wpAny_bind (thn h4 fun _ s5 ⟨x, H5, I5, r5, y5, st5, fr5⟩ => ?_)
  have I5' := I5.pinned (stat fr5) (T.obj _ _ st5)
  have again : ∀ {s7 : Shared} {σ7 : St} {H7 : Hp}, Inv X (pins ++ pinsAt fp s5.heap) σ7 H7 s7 → N σ7 H7 → ∃ m, m < n ∧ ∃ i σ' H', Inv X pins σ' H' s7 ∧ tn i s7.heap ∧ (∀ b ∈ fp, H' b = none) ∧ W i m σ' H' := fun {s7 σ7 H7} I7 n7 => by
   obtain ⟨m', hm, w7⟩ := hN σ7 H7 n7
   refine ⟨m', hm, i + 1, σ7, H7, I7.unpinned, T.keep _ _ _ st5 fun b hb o e => (I7.pin (b, o) (List.mem_append_right _ (List.mem_append_right _ (mem_pinsAt hb e)))).1, fun b hb => ?_, w7⟩
   obtain ⟨o, e, d⟩ := T.obj _ _ st5 b hb
   exact (I7.pin (b, o) (List.mem_append_right _ (List.mem_append_right _ (mem_pinsAt hb e)))).2.1
  refine wpAny_bind (no (thn (hg _ s5 σ3 H5 x u _ I5' r5 (step x H5 y5)) fun _ s6 ⟨σ6, H6, I6, q6⟩ => ?_))
  refine wpAny_bind (no (thn (hi _ s6 σ6 H6 _ I6 q6) fun ok s7 ⟨H7, I7, q7⟩ => ?_))
  cases ok with
  | false => exact wpAny_pure ⟨rfl, again I7 q7⟩
  | true =>
   refine wpAny_bind (no (thn (hb _ s7 σ6 H7 _ I7 q7) fun _ s8 ⟨σ8, H8, I8, n8⟩ => ?_))
   exact wpAny_pure ⟨rfl, again I8 n8⟩
end L2
end
section
set_option Elab.async false
set_option linter.all false
set_option maxRecDepth 100000
namespace L2
open PySem PySem.Spec PyProof.Rows
theorem lookup_relabel_free {env : Env} : ∀ {names : List (Str × NameKind)} {x : Str}, names.lookup x = some .free →
    ((names.map fun (n, k) => if (k == NameKind.free && env.scope.kind == .function && env.kindOf n == some .cell) then (n, NameKind.cell) else (n, k)).lookup x = some .cell ∨
     (names.map fun (n, k) => if (k == NameKind.free && env.scope.kind == .function && env.kindOf n == some .cell) then (n, NameKind.cell) else (n, k)).lookup x = some .free)
  | [], _, h => by simp at h
  | (n, k) :: r, x, h => by
    have ih := @lookup_relabel_free env r x
    rw [List.map_cons]
    cases hx : x == n with
    | true =>
      simp only [List.lookup_cons, hx] at h
      cases h
      by_cases hc : (NameKind.free == NameKind.free && env.scope.kind == .function && env.kindOf n == some .cell) = true
      · left; simp only [hc, if_true, List.lookup_cons, hx]
      · right; simp only [hc, if_false, List.lookup_cons, hx, Bool.false_eq_true]
    | false =>
      simp only [List.lookup_cons, hx] at h
      by_cases hc : (k == NameKind.free && env.scope.kind == .function && env.kindOf n == some .cell) = true
      · simp only [hc, if_true, List.lookup_cons, hx]; exact ih h
      · simp only [hc, if_false, List.lookup_cons, hx, Bool.false_eq_true]; exact ih h
structure CScope (X : Cx) (N : List Str) (fr : List (Option Nat)) (sc : Scope) : Prop where
 kind : sc.kind = .function
 nocell : ∀ y ∈ sc.names, y.2 ≠ NameKind.cell
 loc : ∀ y ∈ sc.names, y.2 = .local → sc.names.lookup y.1 = some .local
 len : fr.length = N.length
 fr : ∀ (i j : Nat), fr[i]? = some (some j) → ∃ x, N[i]? = some x ∧ X.N[j]? = some x ∧ sc.names.lookup x = some .free ∧ (X.env.kindOf x = some .cell ∨ X.env.kindOf x = some .free)
noncomputable def okFr (XN : List Str) (XS names : List (Str × NameKind)) : List Str → List (Option Nat) → Bool
 | [], [] => true
 | x :: N, o :: fr => (match o with
  | none => true
  | some j => XN[j]? == some x && names.lookup x == some .free && (XS.lookup x == some .cell || XS.lookup x == some .free)) && okFr XN XS names N fr
 | _, _ => false
theorem okFr_len {XN : List Str} {XS names : List (Str × NameKind)} : ∀ {N : List Str} {fr : List (Option Nat)}, okFr XN XS names N fr = true → fr.length = N.length
 | [], [], _ => rfl
 | x :: N, o :: fr, h => by
  unfold okFr at h
  rw [Bool.and_eq_true] at h
  rw [List.length_cons, List.length_cons, okFr_len h.2]
 | [], _ :: _, h => by cases h
 | _ :: _, [], h => by cases h
theorem okFr_get {XN : List Str} {XS names : List (Str × NameKind)} : ∀ {N : List Str} {fr : List (Option Nat)} {i j : Nat}, okFr XN XS names N fr = true → fr[i]? = some (some j) → ∃ x, N[i]? = some x ∧ XN[j]? = some x ∧ names.lookup x = some .free ∧ (XS.lookup x = some .cell ∨ XS.lookup x = some .free)
 | [], [], _, _, _, e => by simp at e
 | x :: N, o :: fr, 0, j, h, e => by
  unfold okFr at h
  rw [Bool.and_eq_true] at h
  simp at e
  subst e
  have h1 := h.1
  simp only [Bool.and_eq_true, Bool.or_eq_true, beq_iff_eq] at h1
  exact ⟨x, rfl, h1.1.1, h1.1.2, h1.2⟩
 | x :: N, o :: fr, i + 1, j, h, e => by
  unfold okFr at h
  rw [Bool.and_eq_true] at h
  obtain ⟨y, q⟩ := okFr_get (i := i) (j := j) h.2 (by simpa using e)
  exact ⟨y, by simpa using q.1, q.2⟩
 | [], _ :: _, _, _, h, _ => by cases h
 | _ :: _, [], _, _, h, _ => by cases h
noncomputable def okLoc (names : List (Str × NameKind)) : Bool := names.all fun y => !(y.2 == .cell) && (!(y.2 == .local) || names.lookup y.1 == some .local)
theorem CScope.of {X : Cx} {N : List Str} {fr : List (Option Nat)} {sc : Scope} (h1 : sc.kind = .function) (h2 : okLoc sc.names = true) (h3 : okFr X.N X.env.scope.names sc.names N fr = true) : CScope X N fr sc := by
 have h2' := List.all_eq_true.mp h2
 refine ⟨h1, fun y hy e => ?_, fun y hy e => ?_, okFr_len h3, fun i j e => okFr_get h3 e⟩
 ·have q := h2' y hy
  rw [e] at q
  simp at q
 ·have q := h2' y hy
  rw [e] at q
  simpa using q
theorem frS_get {fr : List (Option Nat)} {σ : St} {i : Nat} {v : V} (h : (frS fr σ)[i]? = some (some v)) : ∃ j, fr[i]? = some (some j) ∧ σ[j]? = some (some v) := by
 unfold frS at h
 rw [List.getElem?_map] at h
 cases e : fr[i]? with
 | none => rw [e] at h; cases h
 | some o =>
  rw [e] at h
  cases o with
  | none => cases h
  | some j =>
   refine ⟨j, rfl, ?_⟩
   have h' : (σ[j]?).bind id = some v := Option.some.inj h
   cases q : σ[j]? with
   | none => rw [q] at h'; cases h'
   | some o => rw [q] at h'; exact congrArg some h'
section
variable {X : Cx} {pins : List (Addr × Obj)} {σ : St} {H H' : Hp} {s : Shared}
theorem Inv.block {N : List Str} {fr : List (Option Nat)} {sc : Scope} {cl : List (Str × Addr)} {ex : List Addr} {h1 : Heap} {tk : Nat} (I : Inv X pins σ H s) (S : CScope X N fr sc) (hcl : clos sc.names X.env.cells [] = some cl)
  (hex : ∀ b ∈ ex, FpOk X pins H b ∧ b < s.heap.objs.size) (hns : h1.Ns s.heap.objs.size (fun _ => none)) (hk : ∀ b u, s.heap.get? b = some u → h1.get? b = some u) :
  Inv (cxc X N sc cl s H ex) [] (frS fr σ) H { s with heap := h1, toks := tk } := by
 have hfree : H s.heap.objs.size = none := I.hok.fresh (Nat.le_refl _)
 have cne : ∀ x c, cl.lookup x = some c → c ≠ s.heap.objs.size := fun x c e z => by
  obtain ⟨v, q⟩ := I.cell x c (clos_lookup hcl e)
  exact absurd q.lt (by rw [z]; exact Nat.lt_irrefl _)
 refine ⟨⟨I.ok.mod, S.kind, I.ok.glob, I.ok.blt, Nat.le_refl _, fun x y c h1 h2 => I.ok.inj x y c (clos_lookup hcl h1) (clos_lookup hcl h2), fun x hx => ?_, fun x c z => absurd (show false = true from z) (by decide), I.ok.hd, I.ok.frames, Or.inl rfl, fun b hb => ?_, I.bs, Nat.le_trans I.ok.bsz I.sz, fun b o e hb => ?_, fun b hb hf => ?_, I.stack, I.stkFree⟩,
  rfl, I.bare, Un.kept hk, ⟨_, hns, fun i x v h1 h2 h3 => ?_⟩, fun x c e => ?_, hfree, fun x c e => I.freeC x c (clos_lookup hcl e), fun p hp => absurd (show p ∈ ([] : List (Addr × Obj)) from hp) (by simp), I.hok.kept hk, ?_⟩
 ·have hx' : (relabel sc X.env).names.lookup x = some .cell ∨ (relabel sc X.env).names.lookup x = some .free := hx
  obtain ⟨c, hc⟩ := clos_has sc.names [] cl hcl x (relabel_free' S.nocell hx')
  exact lookup_of_mem hc
 ·obtain ⟨⟨f0, f1, f2, f3, f4, f5⟩, lt⟩ := hex b hb
  exact ⟨Nat.ne_of_lt lt, fun x c e => f4 x c (clos_lookup hcl e)⟩
 ·obtain ⟨⟨f0, f1, f2, f3, f4, f5⟩, lt⟩ := hex b hb
  rcases f3 with f3 | f3
  ·exact I.ok.noex b o e f3
  ·exact absurd (Nat.lt_of_lt_of_le (Heap.lt_size e) I.ok.bsz) (Nat.not_lt.mpr f3)
 ·obtain ⟨⟨f0, f1, f2, f3, f4, f5⟩, lt⟩ := hex b hb
  rcases List.mem_cons.mp (I.stkSub b hf) with e | e
  ·exact f1 e
  ·exact f2 e
 ·obtain ⟨j, hj, hv⟩ := frS_get h2
  obtain ⟨x', e1, e2, e3, e4⟩ := S.fr i j hj
  have hN : N[i]? = some x := h1
  rw [hN] at e1
  cases e1
  obtain ⟨c, hc⟩ := clos_has sc.names [] cl hcl x (PySem.mem_of_lookup e3)
  obtain ⟨c', hc'⟩ := lookup_of_mem hc
  have hcX := clos_lookup hcl hc'
  obtain ⟨m, hn, hl⟩ := I.loc
  have kc : (relabel sc X.env).names.lookup x = some .cell ∨ (relabel sc X.env).names.lookup x = some .free := lookup_relabel_free e3
  have vis : Vis X.env.scope x ∧ (X.env.kindOf x ≠ some .local) := by
   rcases e4 with q | q
   ·exact ⟨.inr (.inl q), by rw [q]; decide⟩
   ·exact ⟨.inr (.inr q), by rw [q]; decide⟩
  obtain ⟨u, r, l⟩ := hl j x v e2 hv vis.1
  refine ⟨u, r, .inr ⟨kc, c', hc', ?_⟩⟩
  rcases l with ⟨q, _⟩ | ⟨_, d, hd, hcell⟩
  ·exact absurd q vis.2
  ·rw [hcX] at hd
   cases hd
   exact hcell.keeps hk
 ·obtain ⟨v, q⟩ := I.cell x c (clos_lookup hcl e)
  exact ⟨v, q.keeps hk⟩
 ·show (frS fr σ).length = N.length
  unfold frS
  rw [List.length_map]; exact S.len
end
end L2
end
section
set_option Elab.async false
set_option linter.all false
set_option maxRecDepth 100000
namespace L2
open PySem PySem.Spec PyProof.Rows
section
variable {X : Cx} {pins : List (Addr × Obj)} {σ : St} {H H' : Hp} {s : Shared}
theorem Inv.unblock {N : List Str} {sc : Scope} {cl : List (Str × Addr)} {ex : List Addr} {pins' : List (Addr × Obj)} {σ' : St} {s' : Shared} {h' : Heap} (I : Inv X pins σ H s) (J : Inv (cxc X N sc cl s H ex) pins' σ' H' s')
  (hex : ∀ b ∈ ex, FpOk X pins H b) (sb : Heap.SameBut s.heap.objs.size s'.heap h') : Inv X pins σ H' { s' with heap := h' } := by
 have free : H' s.heap.objs.size = none := J.free
 have eq : ∀ b, b ≠ s.heap.objs.size → h'.get? b = s'.heap.get? b := sb.2
 have ne : ∀ b o, s.heap.get? b = some o → b ≠ s.heap.objs.size := fun b o e => Nat.ne_of_lt (Heap.lt_size e)
 have B : Un (frs X.stack) ex H H' s.heap s'.heap := J.base
 refine I.call' (s' := { s' with heap := h' }) (ch := ex) J.os ⟨fun b o q n hb hx => (eq b (ne b o q)).trans (B.keep b o q n hb hx), fun b o q n hb hx => ?_, B.free, fun b o q hx => ?_, B.tups, B.frzs, B.tbls⟩ (fun a o e => ?_) J.bare (fun b hb => ?_)
 ·obtain ⟨sl, e⟩ := B.slot b o q n hb hx
  exact ⟨sl, (eq b (ne b o q)).trans e⟩
 ·obtain ⟨o', e⟩ := B.there b o q hx
  exact ⟨o', (eq b (ne b o q)).trans e⟩
 ·refine (J.hok a o e).stay (fun b u hb q => ?_) (fun _ q => q) fun _ _ q => q
  refine (eq b ?_).trans q
  rcases hb with rfl | hb
  ·exact ne_of_none e free
  ·exact ne_of_none hb free
 ·obtain ⟨f0, f1, f2, f3, f4, f5⟩ := hex b hb
  exact ⟨f3, f1, f4, f5⟩
end
section
variable {X : Cx}
noncomputable def tLC (fr : List (Option Nat)) (wi : TI) (g : TG) (tc : TT) (te : TE) : TE := fun σ H Q => wi σ H fun J H1 => ∀ p, H1 p = none → tCL J g tc (tEmit p te) (fun _ H2 => Q (.ref p) H2) (frS fr σ) (upd H1 p (.lst []))
theorem lc_entry {N : List Str} {fr : List (Option Nat)} {e tg iter : Expr} {ifs : List Expr} {gs : List Comprehension} {sc : Scope} {ip : Pos} {cl : List (Str × Addr)} {wi : TI} {D : It → Addr → St → Hp → Prop} {pins : List (Addr × Obj)} {σ : St} {H : Hp} {s : Shared} {Q : VK}
  (he : clausesOf e = ⟨tg, iter, ifs, 0⟩ :: gs) (hi : PI X tg iter wi) (S : CScope X N fr sc) (hcl : clos sc.names X.env.cells [] = some cl) (I : Inv X pins σ H s)
  (h : wi σ H fun J H1 => ∀ p, H1 p = none → D J p (frS fr σ) (upd H1 p (.lst [])))
  (loop : ∀ (it p : Addr) (fp : List Addr) (tn : Nat → Heap → Prop) (J : It) (s1 s2 : Shared) (H1 : Hp) (σ1 : St), Turn X.prog X.w X.K tg J fp it tn → Inv (cxc X N sc cl s1 H1 fp) [] σ1 H1 s2 → tn 0 s2.heap → (∀ b ∈ fp, FpOk (cxc X N sc cl s1 H1 fp) [] H1 b) → D J p σ1 H1 →
   codeAny (model X.prog X.w) X.A (.compStart e 0 (.ref it) (.ref p) (compEnvC sc cl s1.heap.objs.size X.env)) (fun r s' => r = .ok .next ∧ ∃ σ' H', Inv (cxc X N sc cl s1 H1 fp) [] σ' H' s' ∧ Q (.ref p) H') s2)
  (hs : ∀ x, foldedSetIterable iter X.env x = pure x) :
  wpAny (model X.prog X.w) X.A (comprehension e sc X.env ip (newList []) false (eval iter X.env)) (EP X pins σ Q) X.xe s := by
 refine wpAny_comprehension_free (use := none) he hs (closureFor_clos hcl) S.kind S.loc ?_
 refine thn (hi pins s σ H _ I h) fun v s1 h1 => thn h1 fun itv s2 ⟨it, fp, tn, J, H2, e2, I2, T, st2, f2, q⟩ => ?_
 subst e2
 refine wpAny_newObj_type ?_
 have hp : H2 s2.heap.objs.size = none := I2.hok.fresh (Nat.le_refl _)
 have I3 : Inv X pins σ (upd H2 s2.heap.objs.size (.lst [])) { s2 with heap := s2.heap.push { cls := .type "list", data := .seq ([] : List Value).toArray }, toks := s2.toks } := I2.lnew (its := []) (ys := []) .nil (Nat.zero_le _)
 have lt2 : ∀ b ∈ fp, b < s2.heap.objs.size := fun b hb => let ⟨o, e, _⟩ := T.obj 0 _ st2 b hb; Heap.lt_size e
 have f3 : ∀ b ∈ fp, FpOk X pins (upd H2 s2.heap.objs.size (.lst [])) b := fun b hb => ⟨by rw [upd_ne (Nat.ne_of_lt (lt2 b hb))]; exact (f2 b hb).1, (f2 b hb).2⟩
 have st3 : tn 0 (s2.heap.push { cls := .type "list", data := .seq ([] : List Value).toArray }) := T.keep _ _ _ st2 fun b _ o e => Heap.get?_push_of_some _ e
 refine wpAny_newFunctionEnv S.nocell (by intro y hy; simp at hy) (fun h₁ hns₁ hsb₁ => ?_) S.kind
 generalize hs3 : ({ s2 with heap := s2.heap.push { cls := .type "list", data := .seq ([] : List Value).toArray } } : Shared) = s3 at hns₁ hsb₁ ⊢
 have I3' : Inv X pins σ (upd H2 s2.heap.objs.size (.lst [])) s3 := by rw [← hs3]; exact I3
 have st3' : tn 0 s3.heap := by rw [← hs3]; exact st3
 have lt3 : ∀ b ∈ fp, b < s3.heap.objs.size := fun b hb => let ⟨o, e, _⟩ := T.obj 0 _ st3' b hb; Heap.lt_size e
 have hk : ∀ b u, s3.heap.get? b = some u → h₁.get? b = some u := fun b u e => hsb₁.extBut b u (Nat.ne_of_lt (Heap.lt_size e)) (Heap.get?_push_of_some _ e)
 have hns : h₁.Ns s3.heap.objs.size (fun _ => none) := by simpa using hns₁
 have B := I3'.block (N := N) (fr := fr) (sc := sc) (cl := cl) (ex := fp) (h1 := h₁) (tk := s3.toks + ([] : List (Str × Value)).length) S hcl (fun b hb => ⟨f3 b hb, lt3 b hb⟩) hns hk
 have stB : tn 0 h₁ := T.keep _ _ _ st3' fun b _ o e => hk b o e
 refine codeAny_mono (loop it s2.heap.objs.size fp tn J s3 _ (upd H2 s2.heap.objs.size (.lst [])) (frS fr σ) T B stB (fun b hb => ?_) (q _ hp)) fun r s' hr => ?_
 ·obtain ⟨f0, f1, f2', f3', f4, f5⟩ := f3 b hb
  refine ⟨f0, Nat.ne_of_lt (lt3 b hb), fun z => ?_, .inl hb, fun x c e => f4 x c (clos_lookup hcl e), fun p hp' => absurd (show p ∈ ([] : List (Addr × Obj)) from hp') (by simp)⟩
  rcases List.mem_cons.mp (I3'.stkSub b z) with e | e
  ·exact f1 e
  ·exact f2' e
 ·obtain ⟨rfl, σ', H', J', q'⟩ := hr
  obtain ⟨m, hn, _⟩ := J'.loc
  exact ⟨m, hn, fun h' sb => ⟨.ref s2.heap.objs.size, H', I3'.unblock J' f3 sb, rfl, q'⟩⟩
theorem pe_lc {N : List Str} {fr : List (Option Nat)} {tg iter elt : Expr} {ifs : List Expr} {sc : Scope} {pos : Pos} {cl : List (Str × Addr)} {wi : TI} {g : TG} {tc : TT} {te : TE} (hc : X.calm = true) (hi : PI X tg iter wi) (S : CScope X N fr sc) (hcl : clos sc.names X.env.cells [] = some cl)
  (hb : ∀ s H ex, PG (cxc X N sc cl s H ex) tg g ∧ PIfs (cxc X N sc cl s H ex) ifs tc ∧ PE (cxc X N sc cl s H ex) elt te) (hs : ∀ x, foldedSetIterable iter X.env x = pure x := by intro _; rfl) :
  PE X (.ListComp elt [⟨tg, iter, ifs, 0⟩] sc pos) (tLC fr wi g tc te) := by
 intro pins s σ H Q I h
 rw [eval_ListComp]
 refine lc_entry (D := fun J p σ H => tCL J g tc (tEmit p te) (fun _ H2 => Q (.ref p) H2) σ H) rfl hi S hcl I h (fun it p fp tn J s1 s2 H1 σ1 T B st f d => ?_) hs
 obtain ⟨hg, hifs, helt⟩ := hb s1 H1 fp
 have L := comp_loop (X := cxc X N sc cl s1 H1 fp) (e := .ListComp elt [⟨tg, iter, ifs, 0⟩] sc pos) (d := 0) (acc := .ref p) (D := fun _ H2 => Q (.ref p) H2) (s := s2) hc rfl (compTurn_list elt tg iter ifs sc pos (.ref it) (.ref p) _) rfl rfl rfl T hg hifs (pb_emit helt) B st f d
 exact codeAny_compStart_list L (T.self X.A 0 s2 _ _ st L)
end
end L2
end
section
set_option Elab.async false
set_option linter.all false
set_option maxRecDepth 100000
namespace L2
open PySem PySem.Spec PyProof.Rows
noncomputable def sq (H : Hp) (a : Addr) : Option (List V) := match H a with
 | some (.lst xs) => some xs
 | some (.tup xs) => some xs
 | some (.frz _ (.lst xs)) => some xs
 | some (.frz _ (.tup xs)) => some xs
 | _ => none
theorem sq_lst {H : Hp} {a : Addr} {xs : List V} (h : H a = some (.lst xs)) : sq H a = some xs := by unfold sq; rw [h]
theorem sq_tup {H : Hp} {a : Addr} {xs : List V} (h : H a = some (.tup xs)) : sq H a = some xs := by unfold sq; rw [h]
theorem sq_updL {H : Hp} {a : Addr} {xs : List V} : sq (upd H a (.lst xs)) a = some xs := sq_lst upd_same
theorem sq_updT {H : Hp} {a : Addr} {xs : List V} : sq (upd H a (.tup xs)) a = some xs := sq_tup upd_same
theorem sq_rd {H : Hp} {a : Addr} {xs : List V} (h : sq H a = some xs) : Rd H a (.lst xs) ∨ Rd H a (.tup xs) := by
 unfold sq at h
 cases e : H a with
 | none => rw [e] at h; cases h
 | some o =>
  rw [e] at h
  cases o with
  | lst ys => cases h; exact .inl (.inl e)
  | tup ys => cases h; exact .inr (.inl e)
  | frz ob u =>
   cases u with
   | lst ys => cases h; exact .inl (.inr ⟨ob, e⟩)
   | tup ys => cases h; exact .inr (.inr ⟨ob, e⟩)
   | _ => cases h
  | _ => cases h
theorem sq_seq {K : PySem.W.Frag} {H : Hp} {a : Addr} {xs : List V} (h : sq H a = some xs) : SqL K H a xs ∨ SqT K H a xs := by
 rcases sq_rd h with h | h
 ·exact .inl (.inl h)
 ·exact .inr (.inl h)
section
variable {X : Cx}
noncomputable def rIx0 : R2 := fun x y H Q => ∃ p xs i v, x = .ref p ∧ y = .int i ∧ sq H p = some xs ∧ atI xs i = some v ∧ Q v H
theorem ix0 : IxR X rIx0 := by
 intro value slice pins s σ H x y v u Q I rx ry h hs
 obtain ⟨p, xs, i, z, e1, e2, hq, ha, q⟩ := h
 rcases sq_seq (K := X.K) hq with k | k
 ·exact ix_list value slice pins s σ H x y v u Q I rx ry ⟨p, xs, i, z, e1, e2, k, ha, q⟩ hs
 ·exact ix_tup value slice pins s σ H x y v u Q I rx ry ⟨p, xs, i, z, e1, e2, k, ha, q⟩ hs
theorem len0 : CallR X (.builtin "len") (fun xs H Q => ∃ p ys, xs = [.ref p] ∧ sq H p = some ys ∧ Q (.int ys.length) H) := by
 intro pins s σ H xs us Q I r h
 obtain ⟨p, ys, e, hq, q⟩ := h
 exact call_len_seq pins s σ H xs us Q I r ⟨p, ys, e, sq_seq hq, q⟩
theorem tupL0 : CallR X (.type "tuple") (fun xs H Q => ∃ p ys, xs = [.ref p] ∧ H p = some (.lst ys) ∧ ∀ l, H l = none → Q (.ref l) (upd H l (.tup ys))) := by
 intro pins s σ H xs us Q I r h
 obtain ⟨p, ys, e, hq, q⟩ := h
 exact call_tuple_of pins s σ H xs us Q I r ⟨p, ys, e, .inl ⟨SqL.of hq, q⟩⟩
noncomputable def rIn0 (neg : Bool) : R2 := fun x y H Q => ∃ p xs, y = .ref p ∧ sq H p = some xs ∧ flatV x = true ∧ xs.all flatV = true ∧ Q (.bl (if neg then !inV x xs else inV x xs)) H
theorem notin0 : OpR X (compareOp .NotIn) (rIn0 true) := by
 intro pins s σ H x y v u Q I rx ry h
 obtain ⟨p, xs, e, hq, f1, f2, q⟩ := h
 exact op_notIn_seq pins s σ H x y v u Q I rx ry ⟨p, xs, e, sq_seq hq, f1, f2, q⟩
noncomputable def gTup0 (n : Nat) (t : TGs) : TG := fun v σ H Q => ∃ a xs, v = .ref a ∧ H a = some (.tup xs) ∧ xs.length = n ∧ t xs σ H Q
theorem pg_tup0 {es : List Expr} {k : Nat} {t : TGs} {n : Nat} {pos : Pos} (hc : X.calm = true) (h : PGs X es t)
  (hn : (assignEach es X.env).length = n := by rfl) (hst : (assignEach es X.env).findIdx? (·.1) = none := by rfl) : PG X (.Tuple es k pos) (gTup0 n t) := by
 intro pins s σ H v u Q I r hw
 obtain ⟨a, xs, e1, hq, hl, hw⟩ := hw
 exact pg_tup hc h hn hst pins s σ H v u Q I r ⟨a, xs, e1, SqT.of hq, hl, hw⟩
noncomputable def ItS (f : Hp → Prop) (xs : List V) : It := ⟨fun i H => f H ∧ i < xs.length, fun i H x H' => H' = H ∧ xs[i]? = some x, fun i H => f H ∧ xs.length ≤ i⟩
theorem Turn.weak {P : Program} {w : World} {K : PySem.W.Frag} {tg : Expr} {J J' : It} {fp : List Addr} {it : Addr} {tn : Nat → Heap → Prop} (T : Turn P w K tg J fp it tn) (hg : ∀ i H, J'.go i H → J.go i H) (hs : ∀ i H, J'.stop i H → J.stop i H)
  (hy : ∀ i H x H', J'.go i H → J.yld i H x H' → J'.yld i H x H') : Turn P w K tg J' fp it tn where
 mem := T.mem
 obj := T.obj
 keep := T.keep
 item := fun X h1 h2 h3 hc i pins s σ H E I f st go => thn (T.item X h1 h2 h3 hc i pins s σ H E I f st (hg i H go)) fun r s1 ⟨u, e, q⟩ => ⟨u, e, thn q fun _ s2 ⟨x, H', I2, r2, y, t, n⟩ => ⟨x, H', I2, r2, hy i H x H' go y, t, n⟩⟩
 done := fun X h1 h2 h3 hc i pins s σ H E I f st go => T.done X h1 h2 h3 hc i pins s σ H E I f st (hs i H go)
 self := T.self
noncomputable def iT0 (tl : TE) : TI := fun σ H R => tl σ H fun x H1 => ∃ a xs, x = .ref a ∧ H1 a = some (.tup xs) ∧ R (ItS (fun H => H a = some (.tup xs)) xs) H1
noncomputable def iL0 (tl : TE) : TI := fun σ H R => tl σ H fun x H1 => ∃ a xs, x = .ref a ∧ H1 a = some (.lst xs) ∧ R (ItS (fun H => H a = some (.lst xs)) xs) H1
theorem getlen {xs : List V} {i : Nat} (h : i < xs.length) : ∃ x, xs[i]? = some x := ⟨xs[i], by simp [h]⟩
theorem pi_t0 {tg l : Expr} {tl : TE} (hl : PE X l tl) : PI X tg l (iT0 tl) := by
 intro pins s σ H R I h
 refine thn (hl pins s σ H _ I h) fun v s1 ⟨x, H1, I1, r1, q1⟩ => ?_
 obtain ⟨a, xs, e, hq, q⟩ := q1
 subst e
 cases r1
 obtain ⟨its, rv, p, hz⟩ := I1.tuple (SqT.of hq)
 refine wpAny_pyIter_tuple (show s1.heap.IsTuple a its.toArray from p) ?_
 refine ⟨s1.heap.objs.size, [s1.heap.objs.size], _, _, H1, rfl, I1.kept (t' := s1.toks) fun b o e => Heap.get?_push_of_some _ e, (turn_tuple a _).weak (J' := ItS (fun H => H a = some (.tup xs)) xs) (fun i H ⟨k, hi⟩ => ?_) (fun i H ⟨k, hi⟩ => ⟨xs, SqT.of k, hi⟩) (fun i H x H' ⟨k, hi⟩ ⟨y1, y2⟩ => ⟨y1, y2 xs (SqT.of k)⟩), ⟨_, Heap.get?_push_size _ rfl, rfl, rfl⟩, fun b hb => ?_, q⟩
 ·obtain ⟨x, hx⟩ := getlen hi
  exact ⟨xs, x, SqT.of k, hx⟩
 ·have e : b = s1.heap.objs.size := by simpa using hb
  subst e
  exact I1.fpOk (Nat.le_refl _) (I1.hok.fresh (Nat.le_refl _))
theorem pi_l0 {tg l : Expr} {tl : TE} (hl : PE X l tl) : PI X tg l (iL0 tl) := by
 intro pins s σ H R I h
 refine thn (hl pins s σ H _ I h) fun v s1 ⟨x, H1, I1, r1, q1⟩ => ?_
 obtain ⟨a, xs, e, hq, q⟩ := q1
 subst e
 cases r1
 obtain ⟨its, rv, p, hz⟩ := I1.list (SqL.of hq)
 refine wpAny_pyIter_list p.isList ?_
 refine ⟨s1.heap.objs.size, [s1.heap.objs.size], _, _, H1, rfl, I1.kept (t' := s1.toks) fun b o e => Heap.get?_push_of_some _ e, (turn_list a _).weak (J' := ItS (fun H => H a = some (.lst xs)) xs) (fun i H ⟨k, hi⟩ => ?_) (fun i H ⟨k, hi⟩ => ⟨xs, SqL.of k, hi⟩) (fun i H x H' ⟨k, hi⟩ ⟨y1, y2⟩ => ⟨y1, y2 xs (SqL.of k)⟩), ⟨_, Heap.get?_push_size _ rfl, rfl, rfl⟩, fun b hb => ?_, q⟩
 ·obtain ⟨x, hx⟩ := getlen hi
  exact ⟨xs, x, SqL.of k, hx⟩
 ·have e : b = s1.heap.objs.size := by simpa using hb
  subst e
  exact I1.fpOk (Nat.le_refl _) (I1.hok.fresh (Nat.le_refl _))
noncomputable def Cal (P : Program) (w : World) (K : PySem.W.Frag) (mg : Str → Option Value) (base : Heap) (x : Str) (ps : List Str) (k : Nat) (sp : Sp) : Prop :=
 ∃ f fd, FnOk P w K mg base CX0 k f fd ps sp ∧ mg x = some (.ref f) ∧ PySem.W.keepIn K (.ref f) = true ∧ Binds K fd ps []
noncomputable def tCal (sp : Sp) (t : TA) : TE := fun σ H Q => t σ H fun vs H1 => sp vs H1 Q E0
theorem pe_cal {k j : Nat} {x : Str} {ps : List Str} {sp : Sp} {t : TA} {e : Expr} {es : List Expr} {p pos : Pos} (c : Cal X.prog X.w X.K X.mg X.base x ps k sp) (hr : Room j X.A) (ha : PA X (e :: es) t) (hg : Gl X x := by rfl) (hk : k ≤ j := by decide)
  (hdb : (x == ("__debug__" : Str)) = false := by decide) (he : starEach (e :: es) X.env = (false, eval e X.env) :: starEach es X.env := by rfl) (hpl : (backTo pos (starEach es X.env)).any (·.1) = false := by rfl) :
  PE X (.Call (.Name x p) (e :: es) [] pos) (tCal sp t) := by
 obtain ⟨f, fd, F, hm, kp, hb⟩ := c
 intro pins s σ H Q I h
 refine pe_call (E := E0) (dvs := []) F (hr.mono hk) hg hm kp hb .nil pass0 ha hdb he hpl pins s σ H Q I ?_
 show t σ H fun vs H1 => sp (vs ++ []) H1 Q E0
 have h' : t σ H fun vs H1 => sp vs H1 Q E0 := h
 simpa using h'
theorem cal_of {P : Program} {w : World} {K : PySem.W.Frag} {mg : Str → Option Value} {base : Heap} {x : Str} {st : Stmt} {f : Addr} {fd : FuncData} {N ps : List Str} {k : Nat} {sp : Sp} (F : Fun K x x st f fd) (hm : mg x = some (.ref f)) (hb : Binds K fd ps [])
  (S : FnScope N ps (defScope st)) (len : ∀ vs H Q E, sp vs H Q E → vs.length = ps.length)
  (hbody : ∀ (cdv : Value) (A : Around) (outer : List Env) (s : Shared) (H : Hp) (vs : List V) (Q : VK) (E : XK), Room k (A.deeper (envOfC x (defScope st) s.heap.objs.size f cdv)) → sp vs H Q E →
   ∃ t, PSs (cxOf CX0 P w K mg base N x (defScope st) f cdv A outer s H E).nox (defBody st) t ∧ t { nx := fun _ H' => Q .non H', rt := Q } (start N vs) H) : Cal P w K mg base x ps (k + 1) sp :=
 ⟨f, fd, F.ok S len hbody, hm, F.kp, hb⟩
section
variable {pins : List (Addr × Obj)} {σ : St} {H : Hp} {s : Shared}
theorem Inv.walk {p : Addr} {xs : List V} {E : Value → Shared → Prop} {R : Value → Shared → Prop} (I : Inv X pins σ H s) (hc : X.calm = true) (hq : sq H p = some xs)
  (h : ∀ (it : Addr) (its : List Value) (s2 : Shared) (St : Nat → Heap → Prop) (fp : List Addr), Vals xs its → Walks X.prog X.w X.A.in1 it fp [it] its.length (fun i v => its[i]? = some v) St → St 0 s2.heap → (∀ b ∈ fp, b < s2.heap.objs.size) → s2.heap.objs.size = it + 1 →
   (∀ h' tk, (∀ b o, b ∉ [it] → s2.heap.get? b = some o → h'.get? b = some o) → Inv X pins σ H { s2 with heap := h', toks := tk }) → R (.ref it) s2) :
  wpAny (model X.prog X.w) X.A.in1 (pyIter (.ref p)) R E s := by
 have hd : X.A.in1.handled = none := I.ok.hd hc
 have key : ∀ (ob : Obj), Inv X pins σ H { s with heap := s.heap.push ob } ∧ ∀ h' tk, (∀ b o, b ∉ [s.heap.objs.size] → (s.heap.push ob).get? b = some o → h'.get? b = some o) → Inv X pins σ H { s with heap := h', toks := tk } := fun ob => by
  refine ⟨I.kept (t' := s.toks) fun b o e => Heap.get?_push_of_some _ e, fun h' tk k => I.kept fun b o e => k b o (fun z => ?_) (Heap.get?_push_of_some _ e)⟩
  have e' : b = s.heap.objs.size := by simpa using z
  exact Nat.lt_irrefl _ (e' ▸ Heap.lt_size e)
 rcases sq_seq (K := X.K) hq with k | k
 ·obtain ⟨its, rv, pl, hz⟩ := I.list k
  have ne : p ≠ s.heap.objs.size := Nat.ne_of_lt (let ⟨_, e, _⟩ := pl.isList; Heap.lt_size e)
  refine wpAny_pyIter_list pl.isList ?_
  refine h s.heap.objs.size its _ (fun i h => h.IsListIter s.heap.objs.size p i ∧ h.IsList p its.toArray) [s.heap.objs.size, p] rv (by simpa using Walks.list hd s.heap.objs.size p ne its.toArray) ⟨⟨_, Heap.get?_push_size _ rfl, rfl, rfl⟩, pl.isList.at fun o e => Heap.get?_push_of_some _ e⟩ (fun b hb => ?_) (Heap.size_push ..) (key _).2
  rw [Heap.size_push]
  rcases List.mem_cons.mp hb with rfl | hb
  ·exact Nat.lt_succ_self _
  ·have e : b = p := by simpa using hb
   subst e
   exact Nat.lt_succ_of_lt (let ⟨_, e, _⟩ := pl.isList; Heap.lt_size e)
 ·obtain ⟨its, rv, pl, hz⟩ := I.tuple k
  have lt : p < s.heap.objs.size := pl.lt
  have ne : p ≠ s.heap.objs.size := Nat.ne_of_lt lt
  refine wpAny_pyIter_tuple (show s.heap.IsTuple p its.toArray from pl) ?_
  refine h s.heap.objs.size its _ (fun i h => h.IsTupleIter s.heap.objs.size p i ∧ h.IsTuple p its.toArray) [s.heap.objs.size, p] rv (by simpa using Walks.tuple hd s.heap.objs.size p ne its.toArray) ⟨⟨_, Heap.get?_push_size _ rfl, rfl, rfl⟩, (show s.heap.IsTuple p its.toArray from pl).at fun o e => Heap.get?_push_of_some _ e⟩ (fun b hb => ?_) (Heap.size_push ..) (key _).2
  rw [Heap.size_push]
  rcases List.mem_cons.mp hb with rfl | hb
  ·exact Nat.lt_succ_self _
  ·have e : b = p := by simpa using hb
   subst e
   exact Nat.lt_succ_of_lt lt
end
theorem preSum_eq (ns : List Int) : ∀ n, n ≤ ns.length → preSum (fun i => ns.getD i 0) n = (ns.take n).sum
 | 0, _ => rfl
 | n + 1, h => by
  show preSum (fun i => ns.getD i 0) n + ns.getD n 0 = _
  rw [preSum_eq ns n (by omega), List.take_add_one, List.getElem?_eq_getElem (by omega), List.sum_append]
  simp [List.getD_eq_getElem?_getD, List.getElem?_eq_getElem (show n < ns.length by omega)]
theorem vals_int_get {ns : List Int} {its : List Value} (r : Vals (ns.map V.int) its) {i : Nat} {v : Value} (h : its[i]? = some v) : ∃ t, v = .int (ns.getD i 0) t := by
 have hl := r.length
 rw [List.length_map] at hl
 have hi : i < ns.length := by rw [hl]; exact (List.getElem?_eq_some_iff.mp h).1
 obtain ⟨u, hu, t, rfl⟩ := r.get (i := i) (x := V.int ns[i]) (by simp [hi])
 rw [h] at hu
 cases hu
 exact ⟨t, by simp [List.getD_eq_getElem?_getD, hi]⟩
noncomputable def sumFits (ns : List Int) : Prop := (∀ n ∈ ns, -(2 ^ 62) ≤ n ∧ n < 2 ^ 62) ∧ ∀ j, j ≤ ns.length → InLong (ns.take j).sum
theorem sum0 (hc : X.calm = true) : CallR X (.builtin "sum") (fun xs H Q => ∃ (p : Addr) (ns : List Int), xs = [.ref p] ∧ sq H p = some (ns.map V.int) ∧ sumFits ns ∧ Q (.int ns.sum) H) := by
 intro pins s σ H xs us Q I r h
 obtain ⟨p, ns, rfl, hq, fit, q⟩ := h
 obtain ⟨u, rfl, ru⟩ := r.one
 cases ru
 refine call_sum_walk (I.walk hc hq fun it its s2 St fp rv W st hfp hsz J => ?_)
 have hl := rv.length
 rw [List.length_map] at hl
 refine ⟨it, fp, [it], its.length, _, St, fun i => ns.getD i 0, rfl, W, st, hfp, fun i v hv => vals_int_get rv hv, fun j hj => ⟨?_, ?_⟩, fun h' tk t' k => ⟨.int ns.sum, H, J h' tk k, ?_, q⟩⟩
 ·have hj' : j < ns.length := by omega
  have e : ns.getD j 0 = ns[j] := by simp [List.getD_eq_getElem?_getD, hj']
  show InLong (ns.getD j 0)
  rw [e]
  obtain ⟨a, b⟩ := fit.1 ns[j] (List.getElem_mem hj')
  exact ⟨by omega, by omega⟩
 ·rw [preSum_eq ns (j + 1) (by omega)]
  exact fit.2 (j + 1) (by omega)
 ·rw [← hl, preSum_eq ns _ (Nat.le_refl _), List.take_length]
  exact ⟨_, rfl⟩
theorem vals_bl_get {bs : List Bool} {its : List Value} (r : Vals (bs.map V.bl) its) {i : Nat} {v : Value} (h : its[i]? = some v) : v = .bool (bs.getD i true) := by
 have hl := r.length
 rw [List.length_map] at hl
 have hi : i < bs.length := by rw [hl]; exact (List.getElem?_eq_some_iff.mp h).1
 obtain ⟨u, hu, e⟩ := r.get (i := i) (x := V.bl bs[i]) (by simp [hi])
 rw [h] at hu
 cases hu
 rw [show v = Value.bool bs[i] from e]
 simp [List.getD_eq_getElem?_getD, hi]
theorem truth_bl {bs : List Bool} {its : List Value} (r : Vals (bs.map V.bl) its) (A : Around) : TruthOf X.prog X.w A (fun i v => its[i]? = some v) (fun i => bs.getD i true) := fun i v s Q E h q => by
 rw [vals_bl_get r h]
 exact wpAny_truthy_bool q
theorem range_all (bs : List Bool) : (List.range bs.length).all (fun i => bs.getD i true) = bs.all id := by
 rw [Bool.eq_iff_iff, List.all_eq_true, List.all_eq_true]
 constructor
 ·intro h b hb
  obtain ⟨i, hi, rfl⟩ := List.mem_iff_getElem.mp hb
  have := h i (List.mem_range.mpr hi)
  simpa [List.getD_eq_getElem?_getD, hi] using this
 ·intro h i hi
  have hi' := List.mem_range.mp hi
  have := h bs[i] (List.getElem_mem hi')
  simpa [List.getD_eq_getElem?_getD, hi'] using this
theorem all0 (hc : X.calm = true) : CallR X (.builtin "all") (fun xs H Q => ∃ (p : Addr) (bs : List Bool), xs = [.ref p] ∧ sq H p = some (bs.map V.bl) ∧ Q (.bl (bs.all id)) H) := by
 intro pins s σ H xs us Q I r h
 obtain ⟨p, bs, rfl, hq, q⟩ := h
 obtain ⟨u, rfl, ru⟩ := r.one
 cases ru
 refine call_all_walk (I.walk hc hq fun it its s2 St fp rv W st hfp hsz J => ?_)
 have hl := rv.length
 rw [List.length_map] at hl
 refine ⟨it, fp, [it], its.length, _, St, fun i => bs.getD i true, rfl, W, st, truth_bl rv _, fun h' tk k => ⟨.bl (bs.all id), H, J h' tk k, ?_, q⟩⟩
 rw [← hl, range_all]
 exact rfl
noncomputable def tyN (H : Hp) : V → Option String
 | .non => some "NoneType"
 | .bl _ => some "bool"
 | .int _ => some "int"
 | .str _ => some "str"
 | .ref a => match H a with
  | some (.lst _) => some "list"
  | some (.tup _) => some "tuple"
  | some (.dK _) => some "dict"
  | _ => none
 | _ => none
noncomputable def subN (t T : String) : Bool := t == T || (t == "bool" && T == "int")
theorem tyN_of {K : PySem.W.Frag} {H : Hp} {x : V} {t : String} (h : tyN H x = some t) : TyOf K H x (.type t) ∧ (t = "NoneType" ∨ t = "bool" ∨ t = "int" ∨ t = "str" ∨ t = "list" ∨ t = "tuple" ∨ t = "dict") := by
 cases x with
 | non => cases h; exact ⟨.non, by simp⟩
 | bl b => cases h; exact ⟨.bl b, by simp⟩
 | int i => cases h; exact ⟨.int i, by simp⟩
 | str i => cases h; exact ⟨.str i, by simp⟩
 | ref a =>
  cases e : H a with
  | none => simp [tyN, e] at h
  | some o =>
   cases o with
   | lst xs => simp [tyN, e] at h; subst h; exact ⟨.lst e, by simp⟩
   | tup xs => simp [tyN, e] at h; subst h; exact ⟨.tup e, by simp⟩
   | dK xs => simp [tyN, e] at h; subst h; exact ⟨.dK e, by simp⟩
   | _ => simp [tyN, e] at h
 | _ => cases h
theorem kit_of {K : PySem.W.Frag} {t T : String} (h : t = "NoneType" ∨ t = "bool" ∨ t = "int" ∨ t = "str" ∨ t = "list" ∨ t = "tuple" ∨ t = "dict") (hT : T = "int" ∨ T = "bool" ∨ T = "tuple" ∨ T = "str" ∨ T = "list") : PySem.W.kitOne K (.type t) (.type T) = some (subN t T) := by
 rcases h with rfl | rfl | rfl | rfl | rfl | rfl | rfl <;> rcases hT with rfl | rfl | rfl | rfl | rfl <;> rfl
theorem isi0 : CallR X (.builtin "isinstance") (fun xs H Q => ∃ x T t, xs = [x, .ty T] ∧ tyN H x = some t ∧ (T = "int" ∨ T = "bool" ∨ T = "tuple" ∨ T = "str" ∨ T = "list") ∧ Q (.bl (subN t T)) H) := by
 intro pins s σ H xs us Q I r h
 obtain ⟨x, T, t, rfl, ht, hT, q⟩ := h
 obtain ⟨u, v, rfl, ru, rv⟩ := r.two
 cases (show v = Value.type T from rv)
 obtain ⟨ty, ht'⟩ := tyN_of (K := X.K) ht
 exact isinst_ok I ru ty (kit_of ht' hT) fun tk => ⟨.bl (subN t T), H, I.tok tk, rfl, q⟩
end
end L2
end
section
set_option Elab.async false
set_option linter.all false
set_option maxRecDepth 100000
namespace L2
open PySem PySem.Spec PyProof.Rows
theorem bt_len : bootBuiltins "len" = some (.builtin "len") := by decide +kernel
theorem bt_sum : bootBuiltins "sum" = some (.builtin "sum") := by decide +kernel
theorem bt_all : bootBuiltins "all" = some (.builtin "all") := by decide +kernel
theorem bt_isinstance : bootBuiltins "isinstance" = some (.builtin "isinstance") := by decide +kernel
theorem bt_min : bootBuiltins "min" = some (.builtin "min") := by decide +kernel
theorem bt_max : bootBuiltins "max" = some (.builtin "max") := by decide +kernel
theorem bt_sorted : bootBuiltins "sorted" = some (.builtin "sorted") := by decide +kernel
theorem bt_tuple : bootBuiltins "tuple" = some (.type "tuple") := by decide +kernel
theorem bt_int : bootBuiltins "int" = some (.type "int") := by decide +kernel
theorem bt_bool : bootBuiltins "bool" = some (.type "bool") := by decide +kernel
theorem for_seq {f : Hp → Prop} {xs : List V} {g : TG} {tb : TS} {D : Ends} {σ : St} {H : Hp} (Pv : Nat → St → Hp → Prop) (h0 : Pv 0 σ H) (hl : ∀ i σ H, i ≤ xs.length → Pv i σ H → f H)
  (hs : ∀ i x σ H, xs[i]? = some x → Pv i σ H → g x σ H fun σ2 H2 => tb { D with nx := Pv (i + 1), ct := Pv (i + 1), bk := D.nx } σ2 H2) (hd : ∀ σ H, Pv xs.length σ H → D.nx σ H) :
  ∃ W : Nat → Nat → St → Hp → Prop, (∃ m, W 0 m σ H) ∧ ∀ i m σ H, W i m σ H →
   ((ItS f xs).stop i H ∧ D.nx σ H) ∨ ((ItS f xs).go i H ∧ ∃ N : St → Hp → Prop, (∀ σ' H', N σ' H' → ∃ m', m' < m ∧ W (i + 1) m' σ' H') ∧ ∀ x H', (ItS f xs).yld i H x H' → g x σ H' fun σ2 H2 => tb { D with nx := N, ct := N, bk := D.nx } σ2 H2) := by
 refine ⟨fun i m σ H => m = xs.length - i ∧ i ≤ xs.length ∧ Pv i σ H, ⟨xs.length, by simp, Nat.zero_le _, h0⟩, ?_⟩
 rintro i m σ H ⟨rfl, hi, p⟩
 have q := hl i σ H hi p
 by_cases hlt : i < xs.length
 ·refine .inr ⟨⟨q, hlt⟩, Pv (i + 1), fun σ' H' p' => ⟨xs.length - (i + 1), by omega, rfl, hlt, p'⟩, fun x H' y => ?_⟩
  obtain ⟨e, y⟩ := y
  subst e
  exact hs i x σ _ y p
 ·have e : i = xs.length := by omega
  subst e
  exact .inl ⟨⟨q, Nat.le_refl _⟩, hd σ H p⟩
theorem cl_seq {f : Hp → Prop} {xs : List V} {g : TG} {tc : TT} {tb : TB} {D : St → Hp → Prop} {σ : St} {H : Hp} (Pv : Nat → St → Hp → Prop) (h0 : Pv 0 σ H) (hl : ∀ i σ H, i ≤ xs.length → Pv i σ H → f H)
  (hs : ∀ i x σ H, xs[i]? = some x → Pv i σ H → g x σ H fun σ2 H2 => tc σ2 H2 fun b H3 => if b = true then tb σ2 H3 (Pv (i + 1)) else Pv (i + 1) σ2 H3) (hd : ∀ σ H, Pv xs.length σ H → D σ H) : tCL (ItS f xs) g tc tb D σ H := by
 refine ⟨fun i m σ H => m = xs.length - i ∧ i ≤ xs.length ∧ Pv i σ H, ⟨xs.length, by simp, Nat.zero_le _, h0⟩, ?_⟩
 rintro i m σ H ⟨rfl, hi, p⟩
 have q := hl i σ H hi p
 by_cases hlt : i < xs.length
 ·refine .inr ⟨⟨q, hlt⟩, Pv (i + 1), fun σ' H' p' => ⟨xs.length - (i + 1), by omega, rfl, hlt, p'⟩, fun x H' y => ?_⟩
  obtain ⟨e, y⟩ := y
  subst e
  exact hs i x σ _ y p
 ·have e : i = xs.length := by omega
  subst e
  exact .inl ⟨⟨q, Nat.le_refl _⟩, hd σ H p⟩
theorem cl_range {lo : Int} {n : Nat} {g : TG} {tc : TT} {tb : TB} {D : St → Hp → Prop} {σ : St} {H : Hp} (Pv : Nat → St → Hp → Prop) (h0 : Pv 0 σ H)
  (hs : ∀ i σ H, i < n → Pv i σ H → g (.int (lo + i)) σ H fun σ2 H2 => tc σ2 H2 fun b H3 => if b = true then tb σ2 H3 (Pv (i + 1)) else Pv (i + 1) σ2 H3) (hd : ∀ σ H, Pv n σ H → D σ H) : tCL (Itr lo n) g tc tb D σ H := by
 refine ⟨fun i m σ H => m = n - i ∧ i ≤ n ∧ Pv i σ H, ⟨n, by simp, Nat.zero_le _, h0⟩, ?_⟩
 rintro i m σ H ⟨rfl, hi, p⟩
 by_cases hlt : i < n
 ·refine .inr ⟨hlt, Pv (i + 1), fun σ' H' p' => ⟨n - (i + 1), by omega, rfl, hlt, p'⟩, fun x H' y => ?_⟩
  obtain ⟨e, y⟩ := y
  subst e y
  exact hs i σ _ hlt p
 ·have e : i = n := by omega
  subst e
  exact .inl ⟨Nat.le_refl _, hd σ H p⟩
noncomputable def Box (H : Hp) (p : Addr) : Prop := ∃ g m c : Int, H p = some (.lst [.int g, .int m, .int c])
noncomputable def But (p : Addr) (H H' : Hp) : Prop := ∀ b, b ≠ p → H' b = H b
theorem But.upd {p : Addr} {H : Hp} {o : HO} : But p H (upd H p o) := fun _ h => upd_ne h
theorem But.sq {p a : Addr} {H H' : Hp} (h : But p H H') (n : a ≠ p) : sq H' a = sq H a := by unfold L2.sq; rw [h a n]
noncomputable def spTake : Sp := fun vs H Q _ => ∃ (p : Addr) (many : Int), vs = [.ref p, .int many] ∧ Box H p ∧ 0 < many ∧ many < 1073741824 ∧ ∀ (r : Int) (H' : Hp), 0 ≤ r → r < many → Box H' p → But p H H' → Q (.int r) H'
noncomputable def Scr (K : PySem.W.Frag) (a : Addr) (ns : List Int) (H : Hp) : Prop := SqL K H a (ns.map V.int)
noncomputable def spBox (K : PySem.W.Frag) : Sp := fun vs H Q _ => ∃ (a : Addr) (k : Nat) (ns : List Int), vs = [.ref a, .int (k : Int)] ∧ Scr K a ns H ∧ k ≤ 100 ∧ ∀ (p : Addr) (H' : Hp), H p = none → Box H' p → But p H H' → Q (.ref p) H'
theorem same_upd {H : Hp} {p : Addr} {o : HO} (n : H p = none) : Same H (upd H p o) := fun b u e => by rw [upd_ne (ne_of_none e n)]; exact e
section
variable {X : Cx}
noncomputable def tTupA (t : TA) : TE := fun σ H Q => t σ H fun xs H1 => xs.length ≤ sizeLine ∧ ∀ (p : Addr) (H2 : Hp), H1 p = none → Same H1 H2 → H2 p = some (.tup xs) → Q (.ref p) H2
theorem pe_tupA {es : List Expr} {t : TA} {x1} {pos : Pos} (h : PA X es t) : PE X (.Tuple es x1 pos) (tTupA t) := by
 intro pins s σ H Q I hq
 refine Tuple_ (thn (h pos pins s σ H _ I hq) fun us s1 ⟨xs, H1, I1, r, z, q⟩ => ?_)
 have hf : H1 s1.heap.objs.size = none := I1.hok.fresh (Nat.le_refl _)
 refine wpAny_newObj_type ?_ (by show us.toArray.size ≤ sizeLine; rw [List.size_toArray, ← r.length]; exact z)
 refine ⟨.ref s1.heap.objs.size, upd H1 s1.heap.objs.size (.tup xs), I1.laid (t' := s1.toks) (fun b u e => Heap.get?_push_of_some _ e) (Nat.le_refl _) ?_, rfl, q _ _ hf (same_upd hf) upd_same⟩
 exact ⟨z, us, r, IsTup.new s1.heap _⟩
theorem tupA0 : CallR X (.type "tuple") (fun xs H Q => ∃ p ys, xs = [.ref p] ∧ H p = some (.lst ys) ∧ ∀ (l : Addr) (H2 : Hp), H l = none → Same H H2 → H2 l = some (.tup ys) → Q (.ref l) H2) := by
 intro pins s σ H xs us Q I r h
 obtain ⟨p, ys, e, hq, q⟩ := h
 exact tupL0 pins s σ H xs us Q I r ⟨p, ys, e, hq, fun l n => q l _ n (same_upd n) upd_same⟩
theorem a_tTupA {t : TA} {σ : St} {H : Hp} {Q : VK} : tTupA t σ H Q = t σ H fun xs H1 => xs.length ≤ sizeLine ∧ ∀ (p : Addr) (H2 : Hp), H1 p = none → Same H1 H2 → H2 p = some (.tup xs) → Q (.ref p) H2 := rfl
end
section
variable {D : Ends} {σ : St} {H : Hp} {Q : VK} {QB : Bool → Hp → Prop} {QA : List V → Hp → Prop} {QG : St → Hp → Prop} {R : It → Hp → Prop}
theorem a_tSeq {t u : TS} : tSeq t u D σ H = t { D with nx := u D } σ H := rfl
theorem a_tRet {te : TE} : tRet te D σ H = te σ H D.rt := rfl
theorem a_tNext : tNext D σ H = D.nx σ H := rfl
theorem a_tDrop {te : TE} : tDrop te D σ H = te σ H fun _ H1 => D.nx σ H1 := rfl
theorem a_tAsg {te : TE} {g : TG} : tAsg te g D σ H = te σ H fun x H1 => g x σ H1 D.nx := rfl
theorem a_tIfS {c : TT} {t u : TS} : tIfS c t u D σ H = c σ H fun b H1 => if b = true then t D σ H1 else u D σ H1 := rfl
theorem a_gName {i : Nat} {v : V} : gName i v σ H QG = QG (σ.set i (some v)) H := rfl
theorem a_gNil {vs : List V} : gNil vs σ H QG = (vs = [] ∧ QG σ H) := rfl
theorem a_gCons {t : TG} {u : TGs} {vs : List V} : gCons t u vs σ H QG = ∃ v r, vs = v :: r ∧ t v σ H fun σ' H' => u r σ' H' QG := rfl
theorem a_gTup0 {n : Nat} {t : TGs} {v : V} : gTup0 n t v σ H QG = ∃ a xs, v = .ref a ∧ H a = some (.tup xs) ∧ xs.length = n ∧ t xs σ H QG := rfl
theorem a_gSub {to ti : TE} {t : TSet} {v : V} : gSub to ti t v σ H QG = to σ H fun o H1 => ti σ H1 fun i H2 => t o i v H2 fun H3 => QG σ H3 := rfl
theorem a_rSetL {o i v : V} {q : Hp → Prop} : rSetL o i v H q = ∃ p xs k j, o = .ref p ∧ i = .int k ∧ H p = some (.lst xs) ∧ ixN xs.length k = some j ∧ q (upd H p (.lst (xs.set j v))) := rfl
theorem a_tAnd {t u : TT} : tAnd t u σ H QB = t σ H fun c H1 => if c = true then u σ H1 QB else QB false H1 := rfl
theorem a_tOr {t u : TT} : tOr t u σ H QB = t σ H fun c H1 => if c = true then QB true H1 else u σ H1 QB := rfl
theorem a_tNot {t : TT} : tNot t σ H QB = t σ H fun c H1 => QB (!c) H1 := rfl
theorem a_tTest {t : TE} : tTest t σ H QB = t σ H fun x H' => ∃ k, x = .bl k ∧ QB k H' := rfl
theorem a_tB {t : TE} : tB t σ H QB = t σ H fun x H1 => ∃ c, x = .bl c ∧ QB c H1 := rfl
theorem a_tTrue : tTrue σ H QB = QB true H := rfl
theorem a_tIf {t : TT} {ta tb : TE} : tIf t ta tb σ H Q = t σ H fun c H1 => if c = true then ta σ H1 Q else tb σ H1 Q := rfl
theorem a_tAndV {ta tb : TE} : tAndV ta tb σ H Q = ta σ H fun x H1 => ∃ c, x = .bl c ∧ if c = true then tb σ H1 Q else Q (.bl false) H1 := rfl
theorem a_tOp {r : R2} {ta tb : TE} : tOp r ta tb σ H Q = ta σ H fun x H1 => tb σ H1 fun y H2 => r x y H2 Q := rfl
theorem a_tUn {r : V → Hp → VK → Prop} {ta : TE} : tUn r ta σ H Q = ta σ H fun x H1 => r x H1 Q := rfl
theorem a_rU {g : Int → V} {x : V} : rU g x H Q = ∃ i, x = .int i ∧ Q (g i) H := rfl
theorem a_tVar {i : Nat} : tVar i σ H Q = ∃ v, σ[i]? = some (some v) ∧ Q v H := rfl
theorem a_tC {v : V} : tC v σ H Q = Q v H := rfl
theorem a_rI0 {g : Int → Int → V} {x y : V} : rI0 g x y H Q = ∃ i j, x = .int i ∧ y = .int j ∧ Q (g i j) H := rfl
theorem a_rI {C : Int → Int → Prop} {g : Int → Int → V} {x y : V} : rI C g x y H Q = ∃ i j, x = .int i ∧ y = .int j ∧ C i j ∧ Q (g i j) H := rfl
theorem a_rEq {x y : V} : rEq x y H Q = (scal x y = true ∧ Q (.bl (decide (x = y))) H) := rfl
theorem a_rNe {x y : V} : rNe x y H Q = (scal x y = true ∧ Q (.bl (!decide (x = y))) H) := rfl
theorem a_rIx0 {x y : V} : rIx0 x y H Q = ∃ p xs i v, x = .ref p ∧ y = .int i ∧ sq H p = some xs ∧ atI xs i = some v ∧ Q v H := rfl
theorem a_rIn0 {neg : Bool} {x y : V} : rIn0 neg x y H Q = ∃ p xs, y = .ref p ∧ sq H p = some xs ∧ flatV x = true ∧ xs.all flatV = true ∧ Q (.bl (if neg then !inV x xs else inV x xs)) H := rfl
theorem a_tCB {r : List V → Hp → VK → Prop} {t : TA} : tCB r t σ H Q = t σ H fun vs H1 => r vs H1 Q := rfl
theorem a_tCal {sp : Sp} {t : TA} : tCal sp t σ H Q = t σ H fun vs H1 => sp vs H1 Q E0 := rfl
theorem a_tCons {ta : TE} {tr : TA} : tCons ta tr σ H QA = ta σ H fun x H1 => tr σ H1 fun xs H2 => QA (x :: xs) H2 := rfl
theorem a_tNil : tNil σ H QA = QA [] H := rfl
theorem a_tLst {t : TA} : tLst t σ H Q = t σ H fun xs H1 => xs.length ≤ sizeLine ∧ ∀ p, H1 p = none → Q (.ref p) (upd H1 p (.lst xs)) := rfl
theorem a_tLC {fr : List (Option Nat)} {wi : TI} {g : TG} {tc : TT} {te : TE} : tLC fr wi g tc te σ H Q = wi σ H fun J H1 => ∀ p, H1 p = none → tCL J g tc (tEmit p te) (fun _ H2 => Q (.ref p) H2) (frS fr σ) (upd H1 p (.lst [])) := rfl
theorem a_iRng1 {ta : TA} : iRng1 ta σ H R = ta σ H fun vs H1 => ∃ j : Int, vs = [.int j] ∧ -(2 ^ 62) ≤ j ∧ j < 2 ^ 62 ∧ R (Itr 0 j.toNat) H1 := rfl
theorem a_iRng2 {ta : TA} : iRng2 ta σ H R = ta σ H fun vs H1 => ∃ i j : Int, vs = [.int i, .int j] ∧ (-(2 ^ 62) ≤ i ∧ i < 2 ^ 62 ∧ -(2 ^ 62) ≤ j ∧ j < 2 ^ 62) ∧ R (Itr i (j - i).toNat) H1 := rfl
theorem a_iT0 {tl : TE} : iT0 tl σ H R = tl σ H fun x H1 => ∃ a xs, x = .ref a ∧ H1 a = some (.tup xs) ∧ R (ItS (fun H => H a = some (.tup xs)) xs) H1 := rfl
theorem a_iL0 {tl : TE} : iL0 tl σ H R = tl σ H fun x H1 => ∃ a xs, x = .ref a ∧ H1 a = some (.lst xs) ∧ R (ItS (fun H => H a = some (.lst xs)) xs) H1 := rfl
theorem a_tEmit {p : Addr} {te : TE} : tEmit p te σ H QG = te σ H fun y H1 => ∃ ys, H1 p = some (.lst ys) ∧ ys.length < sizeLine ∧ QG σ (upd H1 p (.lst (ys ++ [y]))) := rfl
end
noncomputable def FL (J : It) (g : TG) (tb : TS) (D : Ends) (σ : St) (H1 : Hp) : Prop := ∃ W : Nat → Nat → St → Hp → Prop, (∃ m, W 0 m σ H1) ∧ ∀ i m σ H, W i m σ H →
 (J.stop i H ∧ D.nx σ H) ∨ (J.go i H ∧ ∃ N : St → Hp → Prop, (∀ σ' H', N σ' H' → ∃ m', m' < m ∧ W (i + 1) m' σ' H') ∧ ∀ x H', J.yld i H x H' → g x σ H' fun σ2 H2 => tb { D with nx := N, ct := N, bk := D.nx } σ2 H2)
theorem a_tFor {wi : TI} {g : TG} {tb : TS} {D : Ends} {σ : St} {H : Hp} : tFor wi g tb D σ H = wi σ H fun J H1 => FL J g tb D σ H1 := rfl
theorem fl_seq {f : Hp → Prop} {xs : List V} {g : TG} {tb : TS} {D : Ends} {σ : St} {H : Hp} (Pv : Nat → St → Hp → Prop) (h0 : Pv 0 σ H) (hl : ∀ i σ H, i ≤ xs.length → Pv i σ H → f H)
  (hs : ∀ i x σ H, xs[i]? = some x → Pv i σ H → g x σ H fun σ2 H2 => tb { D with nx := Pv (i + 1), ct := Pv (i + 1), bk := D.nx } σ2 H2) (hd : ∀ σ H, Pv xs.length σ H → D.nx σ H) : FL (ItS f xs) g tb D σ H := for_seq Pv h0 hl hs hd
theorem fl_range {lo : Int} {n : Nat} {g : TG} {tb : TS} {D : Ends} {σ : St} {H : Hp} (Pv : Nat → St → Hp → Prop) (h0 : Pv 0 σ H)
  (hs : ∀ i σ H, i < n → Pv i σ H → g (.int (lo + i)) σ H fun σ2 H2 => tb { D with nx := Pv (i + 1), ct := Pv (i + 1), bk := D.nx } σ2 H2) (hd : ∀ σ H, Pv n σ H → D.nx σ H) : FL (Itr lo n) g tb D σ H := for_range Pv h0 hs hd
theorem sq_ne {H : Hp} {a p : Addr} {xs : List V} (h : sq H a = some xs) (n : H p = none) : a ≠ p := by
 rintro rfl
 unfold sq at h
 rw [n] at h
 cases h
noncomputable def SameX (c : Addr) (H H' : Hp) : Prop := ∀ b o, b ≠ c → H b = some o → H' b = some o
theorem SameX.refl {c : Addr} {H : Hp} : SameX c H H := fun _ _ _ h => h
theorem SameX.trans {c : Addr} {H H1 H2 : Hp} (a : SameX c H H1) (b : SameX c H1 H2) : SameX c H H2 := fun d o n h => b d o n (a d o n h)
theorem SameX.upd {c : Addr} {H : Hp} {o : HO} : SameX c H (upd H c o) := fun b u n h => by rw [upd_ne n]; exact h
theorem Same.x {c : Addr} {H H' : Hp} (h : Same H H') : SameX c H H' := fun b o _ e => h b o e
theorem SameX.same {c : Addr} {H H' : Hp} (h : SameX c H H') (n : H c = none) : Same H H' := fun b o e => h b o (ne_of_none e n) e
theorem But.x {p : Addr} {H H' : Hp} (h : But p H H') : SameX p H H' := fun b o n e => by rw [h b n]; exact e
theorem Same.sq {H H' : Hp} (h : Same H H') {a : Addr} {xs : List V} (e : L2.sq H a = some xs) : L2.sq H' a = some xs := by
 unfold L2.sq at e ⊢
 cases q : H a with
 | none => rw [q] at e; cases e
 | some o => rw [q] at e; rw [h a o q]; exact e
theorem SameX.sq {c : Addr} {H H' : Hp} (h : SameX c H H') {a : Addr} {xs : List V} (n : a ≠ c) (e : L2.sq H a = some xs) : L2.sq H' a = some xs := by
 unfold L2.sq at e ⊢
 cases q : H a with
 | none => rw [q] at e; cases e
 | some o => rw [q] at e; rw [h a o n q]; exact e
theorem Scr.keep {K : PySem.W.Frag} {a p : Addr} {ns : List Int} {H H' : Hp} (h : Scr K a ns H) (n : H p = none) (s : SameX p H H') : Scr K a ns H' := Same.seq (s.same n) h
theorem a_rIxL {K : PySem.W.Frag} {x y : V} {H : Hp} {Q : VK} : rIxL K x y H Q = ∃ p xs i v, x = .ref p ∧ y = .int i ∧ SqL K H p xs ∧ atI xs i = some v ∧ Q v H := rfl
theorem sum_bound {b : Int} : ∀ {ns : List Int}, (∀ n ∈ ns, -b ≤ n ∧ n ≤ b) → -(b * (ns.length : Int)) ≤ ns.sum ∧ ns.sum ≤ b * (ns.length : Int)
 | [], _ => by simp
 | n :: ns, h => by
  have h1 := h n List.mem_cons_self
  have h2 := sum_bound (ns := ns) fun m hm => h m (List.mem_cons_of_mem _ hm)
  rw [List.sum_cons, List.length_cons, Int.natCast_add, Int.mul_add]
  simp only [Int.natCast_one, Int.mul_one]
  omega
theorem sumFits_of {ns : List Int} (h : ∀ n ∈ ns, -(2 ^ 40) ≤ n ∧ n ≤ 2 ^ 40) (hl : ns.length ≤ 1000) : sumFits ns := by
 refine ⟨fun n hn => ⟨by have := (h n hn).1; omega, by have := (h n hn).2; omega⟩, fun j hj => ?_⟩
 have q := sum_bound (b := 2 ^ 40) (ns := ns.take j) fun n hn => h n (List.mem_of_mem_take hn)
 have e : (ns.take j).length ≤ 1000 := by rw [List.length_take]; omega
 have e' : (2 : Int) ^ 40 * ((ns.take j).length : Int) ≤ 2 ^ 40 * 1000 := Int.mul_le_mul_of_nonneg_left (by omega) (by decide)
 constructor
 ·have : (2 : Int) ^ 40 * 1000 < 2 ^ 63 := by decide
  omega
 ·have : (2 : Int) ^ 40 * 1000 < 2 ^ 63 := by decide
  omega
theorem ixN30 : ixN 3 0 = some 0 := rfl
theorem ixN31 : ixN 3 1 = some 1 := rfl
theorem ixN32 : ixN 3 2 = some 2 := rfl
theorem atI0 {α : Type} (a : α) (l : List α) : atI (a :: l) 0 = some a := atI_nat (j := 0) (xs := a :: l) rfl
theorem atI1 {α : Type} (a b : α) (l : List α) : atI (a :: b :: l) 1 = some b := atI_nat (j := 1) (xs := a :: b :: l) rfl
theorem atI2 {α : Type} (a b c : α) (l : List α) : atI (a :: b :: c :: l) 2 = some c := atI_nat (j := 2) (xs := a :: b :: c :: l) rfl
end L2
end
section
set_option Elab.async false
set_option linter.all false
set_option maxRecDepth 100000
namespace L2
open PySem PySem.Spec PyProof.Rows
noncomputable def SeqOf (h : Heap) (c : String) (l : Addr) (xs : Array Value) : Prop := (c = "list_iterator" ∧ h.IsList l xs) ∨ (c = "tuple_iterator" ∧ h.IsTuple l xs)
noncomputable def Src (h : Heap) (c : String) (it l : Addr) (xs : Array Value) (k : Nat) : Prop := (c = "list_iterator" ∧ h.IsListIter it l k ∧ h.IsList l xs) ∨ (c = "tuple_iterator" ∧ h.IsTupleIter it l k ∧ h.IsTuple l xs)
theorem SeqOf.at {h h' : Heap} {c : String} {l : Addr} {xs : Array Value} (x : SeqOf h c l xs) (k : ∀ o, h.get? l = some o → h'.get? l = some o) : SeqOf h' c l xs := by
 rcases x with ⟨e, x⟩ | ⟨e, x⟩
 ·exact .inl ⟨e, x.at k⟩
 ·exact .inr ⟨e, x.at k⟩
theorem SeqOf.lt {h : Heap} {c : String} {l : Addr} {xs : Array Value} (x : SeqOf h c l xs) : l < h.objs.size := by
 rcases x with ⟨_, o, e, _⟩ | ⟨_, o, e, _⟩ <;> exact Heap.lt_size e
theorem Src.at {h h' : Heap} {c : String} {it l : Addr} {xs : Array Value} {k : Nat} (x : Src h c it l xs k) (k1 : ∀ o, h.get? it = some o → h'.get? it = some o) (k2 : ∀ o, h.get? l = some o → h'.get? l = some o) : Src h' c it l xs k := by
 rcases x with ⟨e, ⟨o, a, r⟩, y⟩ | ⟨e, ⟨o, a, r⟩, y⟩
 ·exact .inl ⟨e, ⟨o, k1 o a, r⟩, y.at k2⟩
 ·exact .inr ⟨e, ⟨o, k1 o a, r⟩, y.at k2⟩
theorem Src.ext {h h' : Heap} {c : String} {it l b : Addr} {xs : Array Value} {k : Nat} (x : Src h c it l xs k) (hs : Heap.SameBut b h h') (n1 : it ≠ b) (n2 : l ≠ b) : Src h' c it l xs k :=
 x.at (fun o e => hs.extBut _ _ n1 e) fun o e => hs.extBut _ _ n2 e
theorem Src.itlt {h : Heap} {c : String} {it l : Addr} {xs : Array Value} {k : Nat} (x : Src h c it l xs k) : ∃ o, h.get? it = some o ∧ ∀ v, o.data ≠ .cell v := by
 rcases x with ⟨_, ⟨o, e, _, d⟩, _⟩ | ⟨_, ⟨o, e, _, d⟩, _⟩ <;> exact ⟨o, e, fun v z => by rw [d] at z; cases z⟩
section
variable {prog : Program} {w : World} {A : Around} {E : Value → Shared → Prop} {s : Shared}
theorem iter_any {c : String} {l : Addr} {xs : Array Value} {Q : Value → Shared → Prop} (x : SeqOf s.heap c l xs) (h : Q (.ref s.heap.objs.size) { s with heap := s.heap.push { cls := .type c, data := .fields #[.ref l, .int 0 0] } }) : wpAny (model prog w) A (pyIter (.ref l)) Q E s := by
 rcases x with ⟨rfl, x⟩ | ⟨rfl, x⟩
 ·exact wpAny_pyIter_list x h
 ·exact wpAny_pyIter_tuple x h
theorem nextOf_tup {it l : Addr} {i : Nat} {items : Array Value} {x : Value} {Q : Value → Shared → Prop} (hit : s.heap.IsTupleIter it l i) (ht : s.heap.IsTuple l items) (hx : items[i]? = some x)
  (hQ : ∀ h', h'.IsTupleIter it l (i + 1) → Heap.SameBut it s.heap h' → Q x { s with heap := h' }) : wpAny (model prog w) A (Builtin.SmallTypes.nextOf (.ref it)) Q E s := by
 obtain ⟨o, ho, hc, hd⟩ := id hit
 obtain ⟨ot, hot, _, nt, hdt⟩ := ht
 unfold Builtin.SmallTypes.nextOf
 refine wpAny_bind (wpAny_callSpecial?_slot (name := Str.ofString "__next__") hit.typeIs F.slot_tuple_iterator_next (wpAny_call_entry F.slot_tuple_iterator_next hit.typeIs F.entry_tuple_iterator_next ?_ (F.args_tuple_iterator_next_1 _)))
 refine wpAny_bind (m := field (.ref it) 0) (wpAny_field ho hd (x := .ref l) rfl ?_)
 rw [if_neg (show ¬ ((Value.ref l == Value.none) = true) from Bool.false_ne_true)]
 refine wpAny_bind (m := field (.ref it) 1) (wpAny_field ho hd (x := .int i 0) rfl ?_)
 refine wpAny_bind (m := seqItems? (.ref l)) (wpAny_seqItems hot hdt ?_)
 simp only [Int.toNat_natCast, hx]
 refine wpAny_bind (wpAny_setField ho hd (by simp) (wpAny_pure ⟨x, rfl, wpAny_pure (hQ _ ?_ (Heap.SameBut.update ..))⟩))
 refine ⟨_, Heap.get?_update_self _ ho (Obj.isFreed_of_fields (Obj.data_mapFields hd _)), (Obj.cls_mapFields ..).trans hc, ?_⟩
 rw [Obj.data_mapFields hd]; simp [rawInt]
theorem nx_item {c : String} {it l : Addr} {xs : Array Value} {k : Nat} {x : Value} {Q : Value → Shared → Prop} (S : Src s.heap c it l xs k) (ne : l ≠ it) (hx : xs[k]? = some x)
  (hQ : ∀ h', Src h' c it l xs (k + 1) → Heap.SameBut it s.heap h' → Q x { s with heap := h' }) : wpAny (model prog w) A (Builtin.SmallTypes.nextOf (.ref it)) Q E s := by
 rcases S with ⟨e, a, b⟩ | ⟨e, a, b⟩
 ·exact wpAny_nextOf_list_item a b hx fun h' a' sb => hQ h' (.inl ⟨e, a', b.extBut sb.extBut ne⟩) sb
 ·exact nextOf_tup a b hx fun h' a' sb => hQ h' (.inr ⟨e, a', b.at fun o q => sb.extBut _ _ ne q⟩) sb
theorem nextOf_tup_end {it l : Addr} {i : Nat} {items : Array Value} {Q : Value → Shared → Prop} (hh : A.handled = none) (hit : s.heap.IsTupleIter it l i) (ht : s.heap.IsTuple l items) (hx : items[i]? = none)
  (hE : ∀ h' e, Heap.ExtBut it s.heap h' → (∃ o, h'.get? e = some o ∧ o.cls = .type "StopIteration") → E (.ref e) { s with heap := h' }) : wpAny (model prog w) A (Builtin.SmallTypes.nextOf (.ref it)) Q E s := by
 obtain ⟨o, ho, hc, hd⟩ := id hit
 obtain ⟨ot, hot, _, nt, hdt⟩ := ht
 unfold Builtin.SmallTypes.nextOf
 refine wpAny_bind (wpAny_callSpecial?_slot (name := Str.ofString "__next__") hit.typeIs F.slot_tuple_iterator_next (wpAny_call_entry F.slot_tuple_iterator_next hit.typeIs F.entry_tuple_iterator_next ?_ (F.args_tuple_iterator_next_1 _)))
 refine wpAny_bind (m := field (.ref it) 0) (wpAny_field ho hd (x := .ref l) rfl ?_)
 rw [if_neg (show ¬ ((Value.ref l == Value.none) = true) from Bool.false_ne_true)]
 refine wpAny_bind (m := field (.ref it) 1) (wpAny_field ho hd (x := .int i 0) rfl ?_)
 refine wpAny_bind (m := seqItems? (.ref l)) (wpAny_seqItems hot hdt ?_)
 simp only [Int.toNat_natCast, hx]
 refine wpAny_bind (wpAny_rule (wpAny_bind (wpAny_setField ho hd (by simp) ?_)))
 refine wpAny_bind (m := newExc (.type "StopIteration") []) ?_
 simp only [newExc, newTuple]
 refine wpAny_bind (wpAny_newObj_type ?_ (by size_fits))
 refine wpAny_bind (m := firstArgMember _ _) (wpAny_of_eq (a := Value.none) (by first | rfl | (simp only [firstArgMember]; rfl)) ?_)
 refine wpAny_newObj_type ?_ (by size_fits)
 simp only [raiseNew]
 refine wpAny_bind (wpAny_handled ?_)
 first | rw [show A.in1.handled = none from hh] | rw [hh]
 refine wpAny_bind (wpAny_pure (wpAny_throw ?_))
 exact hE _ _ (((Heap.SameBut.update ..).extBut.push _).push _) ⟨_, Heap.get?_push_size _ rfl, rfl⟩
theorem nx_end {c : String} {it l : Addr} {xs : Array Value} {k : Nat} {Q : Value → Shared → Prop} (hh : A.handled = none) (S : Src s.heap c it l xs k) (hx : xs[k]? = none)
  (hE : ∀ h' e, Heap.ExtBut it s.heap h' → (∃ o, h'.get? e = some o ∧ o.cls = .type "StopIteration") → E (.ref e) { s with heap := h' }) : wpAny (model prog w) A (Builtin.SmallTypes.nextOf (.ref it)) Q E s := by
 rcases S with ⟨e, a, b⟩ | ⟨e, a, b⟩
 ·exact wpAny_nextOf_list_end hh a b hx hE
 ·exact nextOf_tup_end hh a b hx hE
structure Zs (h : Heap) (z TI TO i1 i2 : Addr) (c1 c2 : String) (l1 l2 : Addr) (xs ys : Array Value) (k : Nat) : Prop where
 zip : IsZip h z TI TO .none
 ti : IsPair h TI (.ref i1) (.ref i2)
 to : ∃ a b, IsPair h TO a b
 s1 : Src h c1 i1 l1 xs k
 s2 : Src h c2 i2 l2 ys k
theorem zs_item {z TI TO i1 i2 l1 l2 : Addr} {c1 c2 : String} {k : Nat} {xs ys : Array Value} {x y : Value} {Q : Option Value → Shared → Prop} (D : ZipApart z TI TO i1 i2 l1 l2) (Z : Zs s.heap z TI TO i1 i2 c1 c2 l1 l2 xs ys k) (hx : xs[k]? = some x) (hy : ys[k]? = some y)
  (hQ : ∀ h', IsZip h' z TI TO (rawInt s.heap.objs.size) → IsPair h' TI (.ref i1) (.ref i2) → IsPair h' TO x y → Src h' c1 i1 l1 xs (k + 1) → Src h' c2 i2 l2 ys (k + 1) → IsPair h' s.heap.objs.size x y → h'.objs.size = s.heap.objs.size + 1 →
   (∀ c o, c ∉ [z, TO, i1, i2] → s.heap.get? c = some o → h'.get? c = some o) → Q (some (.ref s.heap.objs.size)) { s with heap := h' }) : wpAny (model prog w) A (pyNext (.ref z)) Q E s := by
 obtain ⟨hz, hTI, ⟨a, b, hTO⟩, h1, h2⟩ := Z
 have hT : s.TypeIs (.ref z) "zip" := ⟨_, hz, rfl⟩
 unfold pyNext
 refine wpAny_bind (wpAny_attempt (wpAny_callSpecial?_slot (name := Str.ofString "__next__") hT F.slot_zip_next (wpAny_call_entry F.slot_zip_next hT F.entry_zip_next ?_ (F.args_zip_next_1 _))))
 refine wpAny_bind (m := field (.ref z) 2) (wpAny_field hz rfl (x := .bool false) rfl ?_)
 refine wpAny_bind (m := field (.ref z) 3) (wpAny_field hz rfl (x := .ref TI) rfl ?_)
 refine wpAny_bind (wpAny_seqItems hTI rfl ?_)
 refine wpAny_bind (m := Builtin.SmallTypes.ownedTupleIsFree (.ref z)) ?_
 unfold Builtin.SmallTypes.ownedTupleIsFree
 refine wpAny_bind (wpAny_field hz rfl (x := .none) rfl (wpAny_pure ?_))
 simp only [if_true]
 refine wpAny_bind (wpAny_rule ?_)
 refine wpAny_bind (wpAny_field hz rfl (x := .ref TO) rfl ?_)
 refine wpAny_bind (wpAny_setField_rec hz (by simp) fun ha hza hsa => ?_)
 replace hza : IsZip ha z TI TO .ellipsis := hza
 refine wpAny_bind ?_
 simp only [List.zipIdx_cons, List.zipIdx_nil, List.forIn_cons, List.forIn_nil]
 refine wpAny_bind (wpAny_bind (wpAny_onRaise ?_))
 refine wpAny_bind (m := Builtin.SmallTypes.nextOf (.ref i1)) (nx_item (s := { s with heap := ha }) (h1.ext hsa D.i1z D.l1z) D.l1i1 hx fun hb h1b hsb => wpAny_pure ?_)
 have hTOb : IsPair hb TO a b := hsb.extBut _ _ D.TOi1 (hsa.extBut _ _ D.TOz hTO)
 refine wpAny_bind (wpAny_seqItems hTOb rfl ?_)
 refine wpAny_bind (wpAny_updateSeq_pair hTOb fun hc hTOc hsc => ?_)
 replace hTOc : IsPair hc TO x b := hTOc
 refine wpAny_bind (wpAny_letGo (wpAny_pure ?_))
 refine wpAny_bind (wpAny_bind (wpAny_onRaise ?_))
 refine wpAny_bind (m := Builtin.SmallTypes.nextOf (.ref i2)) (nx_item (s := { s with heap := hc }) (((h2.ext hsa D.i2z D.l2z).ext hsb D.i12.symm D.l2i1).ext hsc D.TOi2.symm D.l2TO) D.l2i2 hy fun hd h2d hsd => wpAny_pure ?_)
 have hTOd : IsPair hd TO x b := hsd.extBut _ _ D.TOi2 hTOc
 refine wpAny_bind (wpAny_seqItems hTOd rfl ?_)
 refine wpAny_bind (wpAny_updateSeq_pair hTOd fun he hTOe hse => ?_)
 replace hTOe : IsPair he TO x y := hTOe
 refine wpAny_bind (wpAny_letGo (wpAny_pure (wpAny_pure ?_)))
 refine wpAny_bind (wpAny_seqItems hTOe rfl ?_)
 refine wpAny_bind (wpAny_newTuple ?_)
 have sz : he.objs.size = s.heap.objs.size := by rw [hse.1, hsd.1, hsc.1, hsb.1, hsa.1]
 have ze : IsZip he z TI TO .ellipsis := hse.extBut _ _ D.TOz.symm (hsd.extBut _ _ D.i2z.symm (hsc.extBut _ _ D.TOz.symm (hsb.extBut _ _ D.i1z.symm hza)))
 have ke : ∀ c o, c ≠ z → c ≠ TO → c ≠ i1 → c ≠ i2 → s.heap.get? c = some o → he.get? c = some o := fun c o n1 n2 n3 n4 e => hse.extBut _ _ n2 (hsd.extBut _ _ n4 (hsc.extBut _ _ n2 (hsb.extBut _ _ n3 (hsa.extBut _ _ n1 e))))
 have h1e : Src he c1 i1 l1 xs (k + 1) := ((h1b.ext hsc D.TOi1.symm D.l1TO).ext hsd D.i12 D.l1i2).ext hse D.TOi1.symm D.l1TO
 have h2e : Src he c2 i2 l2 ys (k + 1) := h2d.ext hse D.TOi2.symm D.l2TO
 have zlt : z < he.objs.size := Heap.lt_size ze
 refine wpAny_bind (m := Builtin.SmallTypes.ownedTupleHandOut (.ref z) (.ref he.objs.size)) ?_
 unfold Builtin.SmallTypes.ownedTupleHandOut
 refine wpAny_bind (wpAny_setField_rec (show IsZip (he.push { cls := .type "tuple", data := .seq #[x, y] }) z TI TO .ellipsis from Heap.get?_push_of_some _ ze) (by simp) fun hf hzf hsf => ?_)
 replace hzf : IsZip hf z TI TO (rawInt he.objs.size) := hzf
 refine wpAny_setField_rec hzf (by simp) fun hg hzg hsg => ?_
 replace hzg : IsZip hg z TI TO (rawInt he.objs.size) := hzg
 have up : ∀ c o, c ≠ z → he.get? c = some o → hg.get? c = some o := fun c o n e => hsg.extBut _ _ n (hsf.extBut _ _ n (Heap.get?_push_of_some _ e))
 have new : IsPair hg he.objs.size x y := hsg.extBut _ _ (Nat.ne_of_gt zlt) (hsf.extBut _ _ (Nat.ne_of_gt zlt) (Heap.get?_push_size _ rfl))
 have szg : hg.objs.size = he.objs.size + 1 := by rw [hsg.1, hsf.1, Heap.size_push]
 refine wpAny_pure ⟨_, rfl, wpAny_pure ?_⟩
 rw [sz] at hzg new szg ⊢
 refine hQ hg hzg (up _ _ D.TIz (ke _ _ D.TIz D.TITO D.TIi1 D.TIi2 hTI)) (up _ _ D.TOz hTOe) (h1e.at (fun o e => up _ o D.i1z e) fun o e => up _ o D.l1z e) (h2e.at (fun o e => up _ o D.i2z e) fun o e => up _ o D.l2z e) new szg fun c o hc' e => ?_
 have n1 : c ≠ z := fun q => hc' (by simp [q])
 exact up c o n1 (ke c o n1 (fun q => hc' (by simp [q])) (fun q => hc' (by simp [q])) (fun q => hc' (by simp [q])) e)
end
end L2
end
section
set_option Elab.async false
set_option linter.all false
set_option maxRecDepth 100000
namespace L2
open PySem PySem.Spec PyProof.Rows
section
variable {prog : Program} {w : World} {A : Around} {E : Value → Shared → Prop} {s : Shared}
theorem zs_end {z TI TO i1 i2 l1 l2 : Addr} {c1 c2 : String} {k : Nat} {xs ys : Array Value} {Q : Option Value → Shared → Prop} (hh : A.handled = none) (D : ZipApart z TI TO i1 i2 l1 l2) (Z : Zs s.heap z TI TO i1 i2 c1 c2 l1 l2 xs ys k) (hend : xs[k]? = none ∨ ys[k]? = none)
  (hQ : ∀ h', (∀ c o, c ∉ [z, TO, i1, i2] → s.heap.get? c = some o → h'.get? c = some o) → Q none { s with heap := h' }) : wpAny (model prog w) A (pyNext (.ref z)) Q E s := by
 obtain ⟨hz, hTI, ⟨a, b, hTO⟩, h1, h2⟩ := Z
 have hT : s.TypeIs (.ref z) "zip" := ⟨_, hz, rfl⟩
 unfold pyNext
 have fin : ∀ h' e, (∀ c o, c ≠ z → c ≠ TO → c ≠ i1 → c ≠ i2 → s.heap.get? c = some o → h'.get? c = some o) → (∃ o, h'.get? e = some o ∧ o.cls = .type "StopIteration") →
   wpAny (model prog w) A (isInstance (.ref e) (.type "StopIteration") >>= fun y => if y = true then pure none else throw (.ref e)) Q E { s with heap := h' } := fun h' e k ⟨o, ho, hc⟩ => by
  refine wpAny_bind (wpAny_isInstance (T := "StopIteration") (b := true) ⟨o, ho, hc⟩ isSubtype_stop ?_)
  exact wpAny_pure (hQ _ fun c o hc' x => k c o (fun q => hc' (by simp [q])) (fun q => hc' (by simp [q])) (fun q => hc' (by simp [q])) (fun q => hc' (by simp [q])) x)
 refine wpAny_bind (wpAny_attempt (wpAny_callSpecial?_slot (name := Str.ofString "__next__") hT F.slot_zip_next (wpAny_call_entry F.slot_zip_next hT F.entry_zip_next ?_ (F.args_zip_next_1 _))))
 refine wpAny_bind (m := field (.ref z) 2) (wpAny_field hz rfl (x := .bool false) rfl ?_)
 refine wpAny_bind (m := field (.ref z) 3) (wpAny_field hz rfl (x := .ref TI) rfl ?_)
 refine wpAny_bind (wpAny_seqItems hTI rfl ?_)
 refine wpAny_bind (m := Builtin.SmallTypes.ownedTupleIsFree (.ref z)) ?_
 unfold Builtin.SmallTypes.ownedTupleIsFree
 refine wpAny_bind (wpAny_field hz rfl (x := .none) rfl (wpAny_pure ?_))
 simp only [if_true]
 refine wpAny_bind (wpAny_rule ?_)
 refine wpAny_bind (wpAny_field hz rfl (x := .ref TO) rfl ?_)
 refine wpAny_bind (wpAny_setField_rec hz (by simp) fun ha hza hsa => ?_)
 replace hza : IsZip ha z TI TO .ellipsis := hza
 refine wpAny_bind ?_
 simp only [List.zipIdx_cons, List.zipIdx_nil, List.forIn_cons, List.forIn_nil]
 refine wpAny_bind (wpAny_bind (wpAny_onRaise ?_))
 cases hx : xs[k]? with
 | none =>
  refine wpAny_bind (m := Builtin.SmallTypes.nextOf (.ref i1)) (nx_end (s := { s with heap := ha }) hh (h1.ext hsa D.i1z D.l1z) hx fun hb e hsb he => ?_)
  obtain ⟨oe, hoe, hce⟩ := he
  have hzb : IsZip hb z TI TO .ellipsis := hsb _ _ D.i1z.symm hza
  have hez : e ≠ z := fun q => by subst q; rw [hzb] at hoe; cases hoe; simp at hce
  refine wpAny_setField_rec hzb (by simp) fun hc _ hsc => fin hc e (fun c o n1 _ n3 _ q => hsc.extBut _ _ n1 (hsb _ _ n3 (hsa.extBut _ _ n1 q))) ⟨oe, hsc.extBut _ _ hez hoe, hce⟩
 | some x =>
  have hy : ys[k]? = none := by rcases hend with h | h; rw [hx] at h; cases h; exact h
  refine wpAny_bind (m := Builtin.SmallTypes.nextOf (.ref i1)) (nx_item (s := { s with heap := ha }) (h1.ext hsa D.i1z D.l1z) D.l1i1 hx fun hb h1b hsb => wpAny_pure ?_)
  have hTOb : IsPair hb TO a b := hsb.extBut _ _ D.TOi1 (hsa.extBut _ _ D.TOz hTO)
  refine wpAny_bind (wpAny_seqItems hTOb rfl ?_)
  refine wpAny_bind (wpAny_updateSeq_pair hTOb fun hc hTOc hsc => ?_)
  refine wpAny_bind (wpAny_letGo (wpAny_pure ?_))
  refine wpAny_bind (wpAny_bind (wpAny_onRaise ?_))
  refine wpAny_bind (m := Builtin.SmallTypes.nextOf (.ref i2)) (nx_end (s := { s with heap := hc }) hh (((h2.ext hsa D.i2z D.l2z).ext hsb D.i12.symm D.l2i1).ext hsc D.TOi2.symm D.l2TO) hy fun hd e hsd he => ?_)
  obtain ⟨oe, hoe, hce⟩ := he
  have hzd : IsZip hd z TI TO .ellipsis := hsd _ _ D.i2z.symm (hsc.extBut _ _ D.TOz.symm (hsb.extBut _ _ D.i1z.symm hza))
  have hez : e ≠ z := fun q => by subst q; rw [hzd] at hoe; cases hoe; simp at hce
  refine wpAny_setField_rec hzd (by simp) fun he _ hse => fin he e (fun c o n1 n2 n3 n4 q => hse.extBut _ _ n1 (hsd _ _ n4 (hsc.extBut _ _ n2 (hsb.extBut _ _ n3 (hsa.extBut _ _ n1 q))))) ⟨oe, hse.extBut _ _ hez hoe, hce⟩
noncomputable abbrev zH1 (h : Heap) (c1 : String) (l1 : Addr) : Heap := h.push { cls := .type c1, data := .fields #[.ref l1, .int 0 0] }
noncomputable abbrev zH2 (h : Heap) (c1 c2 : String) (l1 l2 : Addr) : Heap := (zH1 h c1 l1).push { cls := .type c2, data := .fields #[.ref l2, .int 0 0] }
noncomputable abbrev zH3 (h : Heap) (c1 c2 : String) (l1 l2 : Addr) : Heap := (zH2 h c1 c2 l1 l2).push { cls := .type "tuple", data := .seq #[.ref h.objs.size, .ref (zH1 h c1 l1).objs.size] }
noncomputable abbrev zH4 (h : Heap) (c1 c2 : String) (l1 l2 : Addr) : Heap := (zH3 h c1 c2 l1 l2).push { cls := .type "tuple", data := .seq #[.none, .none] }
noncomputable abbrev zH5 (h : Heap) (c1 c2 : String) (l1 l2 : Addr) : Heap := (zH4 h c1 c2 l1 l2).push { cls := .type "zip", data := .fields #[.none, .bool false, .bool false, .ref (zH2 h c1 c2 l1 l2).objs.size, .ref (zH3 h c1 c2 l1 l2).objs.size] }
theorem meets_zip (c1 c2 : String) (l1 l2 : Addr) (xs ys : Array Value) :
  Meets (Builtin.«zip.__new__» ⟨[.type "zip", .ref l1, .ref l2], []⟩) (fun _ R s => SeqOf s.heap c1 l1 xs ∧ SeqOf s.heap c2 l2 ys ∧ R (.ok (.ret (.ref (zH4 s.heap c1 c2 l1 l2).objs.size))) { s with heap := zH5 s.heap c1 c2 l1 l2 }) :=
 .of_wp fun prog w A R s h => by
  obtain ⟨hp, g, d, tk, os⟩ := s
  obtain ⟨hl1, hl2, h⟩ := h
  have hsub := PySem.sub_zip
  have hL1 : SeqOf (Shared.heap ⟨hp, g, d, tk, os⟩) c1 l1 xs := hl1
  have hL2 : SeqOf (Shared.heap ⟨hp.push { cls := .type c1, data := .fields #[.ref l1, .int 0 0] }, g, d, tk, os⟩) c2 l2 ys := hl2.at fun o e => Heap.get?_push_of_some _ e
  wp_walk using iter_any hL1, iter_any hL2
  exact ⟨_, rfl, h⟩
theorem call_zip {c1 c2 : String} {l1 l2 : Addr} {xs ys : Array Value} {Q : Value → Shared → Prop} (hl1 : SeqOf s.heap c1 l1 xs) (hl2 : SeqOf s.heap c2 l2 ys)
  (h : ∀ h', Zs h' (s.heap.objs.size + 4) (s.heap.objs.size + 2) (s.heap.objs.size + 3) s.heap.objs.size (s.heap.objs.size + 1) c1 c2 l1 l2 xs ys 0 → h'.objs.size = s.heap.objs.size + 5 →
   (∀ c o, s.heap.get? c = some o → h'.get? c = some o) → Q (.ref (s.heap.objs.size + 4)) { s with heap := h' }) : wpAny (model prog w) A (call (.type "zip") [.ref l1, .ref l2]) Q E s := by
 refine callType_new F.called_zip (by decide) (F.typeCall_zip_2 _ _) (F.newCall_zip_2 _ _) (fun obj => F.args_object_init_3 obj _ _) F.entry_zip_new (meets_zip c1 c2 l1 l2 xs ys) ⟨hl1, hl2, ?_⟩
 have z1 : (zH1 s.heap c1 l1).objs.size = s.heap.objs.size + 1 := Heap.size_push ..
 have z2 : (zH2 s.heap c1 c2 l1 l2).objs.size = s.heap.objs.size + 2 := by rw [Heap.size_push, z1]
 have z3 : (zH3 s.heap c1 c2 l1 l2).objs.size = s.heap.objs.size + 3 := by rw [Heap.size_push, z2]
 have z4 : (zH4 s.heap c1 c2 l1 l2).objs.size = s.heap.objs.size + 4 := by rw [Heap.size_push, z3]
 have z5 : (zH5 s.heap c1 c2 l1 l2).objs.size = s.heap.objs.size + 5 := by rw [Heap.size_push, z4]
 have g5 : (zH5 s.heap c1 c2 l1 l2).get? (zH4 s.heap c1 c2 l1 l2).objs.size = some _ := Heap.get?_push_size _ rfl
 have g4 : (zH5 s.heap c1 c2 l1 l2).get? (zH3 s.heap c1 c2 l1 l2).objs.size = some _ := Heap.get?_push_of_some _ (Heap.get?_push_size _ rfl)
 have g3 : (zH5 s.heap c1 c2 l1 l2).get? (zH2 s.heap c1 c2 l1 l2).objs.size = some _ := Heap.get?_push_of_some _ (Heap.get?_push_of_some _ (Heap.get?_push_size _ rfl))
 have g2 : (zH5 s.heap c1 c2 l1 l2).get? (zH1 s.heap c1 l1).objs.size = some _ := Heap.get?_push_of_some _ (Heap.get?_push_of_some _ (Heap.get?_push_of_some _ (Heap.get?_push_size _ rfl)))
 have g1 : (zH5 s.heap c1 c2 l1 l2).get? s.heap.objs.size = some _ := Heap.get?_push_of_some _ (Heap.get?_push_of_some _ (Heap.get?_push_of_some _ (Heap.get?_push_of_some _ (Heap.get?_push_size _ rfl))))
 show _ ∧ _
 rw [z2, z3, z4] at g5
 rw [z1, z2] at g3
 rw [z3] at g4
 rw [z1] at g2
 rw [z4]
 have old : ∀ c o, s.heap.get? c = some o → (zH5 s.heap c1 c2 l1 l2).get? c = some o := fun c o x => Heap.get?_push_of_some _ (Heap.get?_push_of_some _ (Heap.get?_push_of_some _ (Heap.get?_push_of_some _ (Heap.get?_push_of_some _ x))))
 refine ⟨⟨_, g5, rfl⟩, h _ ⟨g5, g3, ⟨_, _, g4⟩, ?_, ?_⟩ z5 old⟩
 ·rcases hl1 with ⟨rfl, x⟩ | ⟨rfl, x⟩
  ·exact .inl ⟨rfl, ⟨_, g1, rfl, rfl⟩, x.at fun o e => old _ o e⟩
  ·exact .inr ⟨rfl, ⟨_, g1, rfl, rfl⟩, x.at fun o e => old _ o e⟩
 ·rcases hl2 with ⟨rfl, x⟩ | ⟨rfl, x⟩
  ·exact .inl ⟨rfl, ⟨_, g2, rfl, rfl⟩, x.at fun o e => old _ o e⟩
  ·exact .inr ⟨rfl, ⟨_, g2, rfl, rfl⟩, x.at fun o e => old _ o e⟩
end
end L2
end
section
set_option Elab.async false
set_option linter.all false
set_option maxRecDepth 100000
namespace L2
open PySem PySem.Spec PyProof.Rows
theorem Inv.turnedT {X : Cx} {pins : List (Addr × Obj)} {σ : St} {H : Hp} {s : Shared} {fp : List Addr} {h' : Heap} {T : Addr} {xs : List V} {us : List Value} {t' : Nat} (I : Inv X pins σ H s) (f : ∀ b ∈ fp, FpOk X pins H b)
  (k : ∀ c o, c ∉ fp → s.heap.get? c = some o → h'.get? c = some o) (hT : s.heap.objs.size ≤ T) (hz : xs.length ≤ sizeLine) (r : Vals xs us) (hp : IsTup h' T us.toArray) (hTf : T ∉ fp) :
  Inv X pins σ (upd H T (.tup xs)) { s with heap := h', toks := t' } := by
 have hn : H T = none := I.hok.fresh hT
 have nfp : ∀ a o, H a = some o → a ∉ fp := fun a o e hb => by have := (f a hb).1; rw [e] at this; cases this
 have hTn : ∀ b o, s.heap.get? b = some o → b ≠ T := fun b o e => Nat.ne_of_lt (Nat.lt_of_lt_of_le (Heap.lt_size e) hT)
 refine I.call' (s' := { s with heap := h', toks := t' }) (ch := fp) rfl ⟨fun b o q n _ hx => k b o hx q, fun b o q n _ hx => ⟨o.slots, k b o hx q⟩, fun b o q n _ => by rw [upd_ne (hTn b o q)]; exact n, fun b o q hx => ⟨o, k b o hx q⟩,
  fun b ys q => by rw [upd_ne (ne_of_none q hn)]; exact q, fun b o ys q => by rw [upd_ne (ne_of_none q hn)]; exact q, fun b ps q => ⟨#[], by rw [upd_ne (ne_of_none q hn), q]; simp⟩⟩ (fun a o e => ?_) I.bare (fun b hb => ?_)
 ·by_cases ha : a = T
  ·subst ha
   rw [upd_same] at e
   cases e
   exact ⟨hz, us, r, hp⟩
  ·rw [upd_ne ha] at e
   refine (I.hok a o e).stay (fun b u hb q => k b u ?_ q) (fun b q => by rw [upd_ne (ne_of_none q hn)]; exact q) fun b ys q => by rw [upd_ne (ne_of_none q hn)]; exact q
   rcases hb with rfl | hb
   ·exact nfp b o e
   ·exact nfp b _ hb
 ·obtain ⟨f0, f1, f2, f3, f4, f5⟩ := f b hb
  exact ⟨f3, f1, f4, f5⟩
theorem Inv.turnedN {X : Cx} {pins : List (Addr × Obj)} {σ : St} {H : Hp} {s : Shared} {fp : List Addr} {h' : Heap} {t' : Nat} (I : Inv X pins σ H s) (f : ∀ b ∈ fp, FpOk X pins H b)
  (k : ∀ c o, c ∉ fp → s.heap.get? c = some o → h'.get? c = some o) : Inv X pins σ H { s with heap := h', toks := t' } := by
 have nfp : ∀ a o, H a = some o → a ∉ fp := fun a o e hb => by have := (f a hb).1; rw [e] at this; cases this
 refine I.call' (s' := { s with heap := h', toks := t' }) (ch := fp) rfl ⟨fun b o q n _ hx => k b o hx q, fun b o q n _ hx => ⟨o.slots, k b o hx q⟩, fun b o q n _ => n, fun b o q hx => ⟨o, k b o hx q⟩, fun b ys q => q, fun b o ys q => q, fun b ps q => ⟨#[], by rw [q]; simp⟩⟩ (fun a o e => ?_) I.bare (fun b hb => ?_)
 ·refine (I.hok a o e).stay (fun b u hb q => k b u ?_ q) (fun b q => q) fun b ys q => q
  rcases hb with rfl | hb
  ·exact nfp b o e
  ·exact nfp b _ hb
 ·obtain ⟨f0, f1, f2, f3, f4, f5⟩ := f b hb
  exact ⟨f3, f1, f4, f5⟩
noncomputable def SqC (H : Hp) (c : String) (a : Addr) (xs : List V) : Prop := (c = "list_iterator" ∧ H a = some (.lst xs)) ∨ (c = "tuple_iterator" ∧ H a = some (.tup xs))
theorem Inv.seqOf {X : Cx} {pins : List (Addr × Obj)} {σ : St} {H : Hp} {s : Shared} {c : String} {a : Addr} {xs : List V} (I : Inv X pins σ H s) (h : SqC H c a xs) : ∃ its : List Value, Vals xs its ∧ SeqOf s.heap c a its.toArray := by
 rcases h with ⟨rfl, h⟩ | ⟨rfl, h⟩
 ·obtain ⟨its, r, p, _⟩ := I.list (SqL.of h)
  exact ⟨its, r, .inl ⟨rfl, p.isList⟩⟩
 ·obtain ⟨its, r, p, _⟩ := I.tuple (SqT.of h)
  exact ⟨its, r, .inr ⟨rfl, p⟩⟩
noncomputable def Itz (c1 c2 : String) (a b : Addr) (xs ys : List V) : It :=
 ⟨fun i H => SqC H c1 a xs ∧ SqC H c2 b ys ∧ i < xs.length ∧ i < ys.length, fun i H x H' => ∃ T u v, x = .ref T ∧ H T = none ∧ H' = upd H T (.tup [u, v]) ∧ xs[i]? = some u ∧ ys[i]? = some v, fun i H => SqC H c1 a xs ∧ SqC H c2 b ys ∧ (xs.length ≤ i ∨ ys.length ≤ i)⟩
structure Zt (h : Heap) (z TI TO i1 i2 : Addr) (c1 c2 : String) (l1 l2 : Addr) (k : Nat) : Prop where
 zip : IsZip h z TI TO .none
 ti : IsPair h TI (.ref i1) (.ref i2)
 to : ∃ a b, IsPair h TO a b
 s1 : (c1 = "list_iterator" ∧ h.IsListIter i1 l1 k) ∨ (c1 = "tuple_iterator" ∧ h.IsTupleIter i1 l1 k)
 s2 : (c2 = "list_iterator" ∧ h.IsListIter i2 l2 k) ∨ (c2 = "tuple_iterator" ∧ h.IsTupleIter i2 l2 k)
theorem src_of {h : Heap} {c : String} {it l : Addr} {xs : Array Value} {k : Nat} (a : (c = "list_iterator" ∧ h.IsListIter it l k) ∨ (c = "tuple_iterator" ∧ h.IsTupleIter it l k)) (b : SeqOf h c l xs) : Src h c it l xs k := by
 rcases a with ⟨rfl, a⟩ | ⟨rfl, a⟩ <;> rcases b with ⟨e, b⟩ | ⟨e, b⟩
 ·exact .inl ⟨rfl, a, b⟩
 ·exact absurd e (by decide)
 ·exact absurd e (by decide)
 ·exact .inr ⟨rfl, a, b⟩
theorem of_src {h : Heap} {c : String} {it l : Addr} {xs : Array Value} {k : Nat} (a : Src h c it l xs k) : (c = "list_iterator" ∧ h.IsListIter it l k) ∨ (c = "tuple_iterator" ∧ h.IsTupleIter it l k) := by
 rcases a with ⟨e, a, _⟩ | ⟨e, a, _⟩
 ·exact .inl ⟨e, a⟩
 ·exact .inr ⟨e, a⟩
theorem it_at {h h' : Heap} {c : String} {it l : Addr} {k : Nat} (a : (c = "list_iterator" ∧ h.IsListIter it l k) ∨ (c = "tuple_iterator" ∧ h.IsTupleIter it l k)) (q : ∀ o, h.get? it = some o → h'.get? it = some o) : (c = "list_iterator" ∧ h'.IsListIter it l k) ∨ (c = "tuple_iterator" ∧ h'.IsTupleIter it l k) := by
 rcases a with ⟨e, o, a, r⟩ | ⟨e, o, a, r⟩
 ·exact .inl ⟨e, o, q o a, r⟩
 ·exact .inr ⟨e, o, q o a, r⟩
theorem it_obj {h : Heap} {c : String} {it l : Addr} {k : Nat} (a : (c = "list_iterator" ∧ h.IsListIter it l k) ∨ (c = "tuple_iterator" ∧ h.IsTupleIter it l k)) : ∃ o, h.get? it = some o ∧ ∀ v, o.data ≠ .cell v := by
 rcases a with ⟨_, o, e, _, d⟩ | ⟨_, o, e, _, d⟩ <;> exact ⟨o, e, fun v z => by rw [d] at z; cases z⟩
theorem turn_zip {P : Program} {w : World} {K : PySem.W.Frag} {es : List Expr} {tk : _} {tp : Pos} (z TI TO i1 i2 l1 l2 : Addr) (c1 c2 : String) (xs ys : List V) (D : ZipApart z TI TO i1 i2 l1 l2) :
  Turn P w K (.Tuple es tk tp) (Itz c1 c2 l1 l2 xs ys) [z, TI, TO, i1, i2] z (fun i h => Zt h z TI TO i1 i2 c1 c2 l1 l2 i) where
 mem := by simp
 obj := fun i h st b hb => by
  obtain ⟨hz, hti, ⟨a, c, hto⟩, h1, h2⟩ := st
  simp only [List.mem_cons, List.not_mem_nil, or_false] at hb
  rcases hb with rfl | rfl | rfl | rfl | rfl
  ·exact ⟨_, hz, fun v q => by cases (show Data.fields _ = Data.cell v from q)⟩
  ·exact ⟨_, hti, fun v q => by cases (show Data.seq _ _ = Data.cell v from q)⟩
  ·exact ⟨_, hto, fun v q => by cases (show Data.seq _ _ = Data.cell v from q)⟩
  ·exact it_obj h1
  ·exact it_obj h2
 keep := fun i h h' st k => by
  obtain ⟨hz, hti, ⟨a, c, hto⟩, h1, h2⟩ := st
  exact ⟨k z (by simp) _ hz, k TI (by simp) _ hti, ⟨a, c, k TO (by simp) _ hto⟩, it_at h1 fun o e => k i1 (by simp) o e, it_at h2 fun o e => k i2 (by simp) o e⟩
 item := by
  intro X hP hw hK hc i pins s σ H E I hf st hg
  subst hP hw hK
  obtain ⟨q1, q2, hi1, hi2⟩ := hg
  obtain ⟨its1, r1, e1⟩ := I.seqOf q1
  obtain ⟨its2, r2, e2⟩ := I.seqOf q2
  obtain ⟨x, hx⟩ := getlen hi1
  obtain ⟨y, hy⟩ := getlen hi2
  obtain ⟨u, hu, ru⟩ := r1.get hx
  obtain ⟨v, hv, rv⟩ := r2.get hy
  obtain ⟨hz, hti, hto, h1, h2⟩ := id st
  refine zs_item D ⟨hz, hti, hto, src_of h1 e1, src_of h2 e2⟩ (by simpa using hu) (by simpa using hv) fun h' z' ti' to' s1' s2' new szn k => ?_
  have kk : ∀ c o, c ∉ [z, TI, TO, i1, i2] → s.heap.get? c = some o → h'.get? c = some o := fun c o hc e => k c o (fun q => hc (by simp only [List.mem_cons, List.not_mem_nil, or_false] at q ⊢; rcases q with q | q | q | q <;> simp [q])) e
  have lt : ∀ b ∈ [z, TI, TO, i1, i2], b < s.heap.objs.size := fun b hb => by
   have st' : Zt s.heap z TI TO i1 i2 c1 c2 l1 l2 i := st
   simp only [List.mem_cons, List.not_mem_nil, or_false] at hb
   rcases hb with rfl | rfl | rfl | rfl | rfl
   ·exact Heap.lt_size hz
   ·exact Heap.lt_size hti
   ·obtain ⟨_, _, q⟩ := hto; exact Heap.lt_size q
   ·obtain ⟨o, q, _⟩ := it_obj h1; exact Heap.lt_size q
   ·obtain ⟨o, q, _⟩ := it_obj h2; exact Heap.lt_size q
  refine ⟨_, rfl, wpAny_letOwnedTupleGo_zip z' fun h'' z'' sb => ?_⟩
  have nT : s.heap.objs.size ∉ [z, TI, TO, i1, i2] := fun hb => Nat.lt_irrefl _ (lt _ hb)
  have nTz : s.heap.objs.size ≠ z := fun q => nT (by simp [q])
  have J := I.turnedT (fp := [z, TI, TO, i1, i2]) (h' := h'') (T := s.heap.objs.size) (xs := [x, y]) (us := [u, v]) (t' := s.toks) hf (fun c o hc e => sb.extBut _ _ (fun q => hc (by simp [q])) (kk c o hc e)) (Nat.le_refl _) (by show 2 ≤ sizeLine; decide) (.cons ru (.cons rv .nil))
   ⟨_, sb.extBut _ _ nTz new, rfl, _, rfl⟩ nT
  refine ⟨.ref s.heap.objs.size, _, J, rfl, ⟨_, x, y, rfl, I.hok.fresh (Nat.le_refl _), rfl, hx, hy⟩, ⟨z'', sb.extBut _ _ D.TIz ti', ⟨_, _, sb.extBut _ _ D.TOz to'⟩, it_at (of_src s1') fun o e => sb.extBut _ _ D.i1z e, it_at (of_src s2') fun o e => sb.extBut _ _ D.i2z e⟩, fun b hb => ?_⟩
  rw [upd_ne (Nat.ne_of_lt (lt b hb))]
  exact (hf b hb).1
 done := by
  intro X hP hw hK hc i pins s σ H E I hf st hg
  subst hP hw hK
  obtain ⟨q1, q2, hend⟩ := hg
  obtain ⟨its1, r1, e1⟩ := I.seqOf q1
  obtain ⟨its2, r2, e2⟩ := I.seqOf q2
  obtain ⟨hz, hti, hto, h1, h2⟩ := id st
  have l1' := r1.length
  have l2' := r2.length
  refine zs_end (I.ok.hd hc) D ⟨hz, hti, hto, src_of h1 e1, src_of h2 e2⟩ (hend.imp (fun q => by simp; omega) fun q => by simp; omega) fun h' k => ?_
  exact ⟨rfl, I.turnedN (fp := [z, TI, TO, i1, i2]) hf fun c o hc e => k c o (fun q => hc (by simp only [List.mem_cons, List.not_mem_nil, or_false] at q ⊢; rcases q with q | q | q | q <;> simp [q])) e⟩
 self := fun A i s Q E st h => wpAny_pyIter_zip st.zip h
end L2
end
section
set_option Elab.async false
set_option linter.all false
set_option maxRecDepth 100000
namespace L2
open PySem PySem.Spec PyProof.Rows
theorem bt_zip : bootBuiltins "zip" = some (.type "zip") := by decide +kernel
section
variable {X : Cx}
noncomputable def iZip (ta : TA) : TI := fun σ H R => ta σ H fun vs H1 => ∃ a b c1 c2 xs ys, vs = [.ref a, .ref b] ∧ SqC H1 c1 a xs ∧ SqC H1 c2 b ys ∧ R (Itz c1 c2 a b xs ys) H1
theorem pi_zip {es : List Expr} {kk : _} {tp : Pos} {a b : Expr} {ta : TA} {p pos : Pos} (hg : Gl X "zip") (hm : X.mg "zip" = none) (ha : PA X [a, b] ta) (hs : starEach [a, b] X.env = [(false, eval a X.env), (false, eval b X.env)] := by rfl) (hs2 : starEach [b] X.env = [(false, eval b X.env)] := by rfl) :
  PI X (.Tuple es kk tp) (.Call (.Name "zip" p) [a, b] [] pos) (iZip ta) := by
 intro pins s σ H R I h
 refine Call_ (ld_blt I hg hm bt_zip (PyProof.Rows.callWith_type1 (thn (ha pos pins s σ H _ I h) fun us s1 ⟨vs, H1, I1, r1, q1⟩ => ?_) (by rw [hs, hs2]) (by rw [hs2]; rfl)))
 obtain ⟨l1, l2, c1, c2, xs, ys, e, k1, k2, q⟩ := q1
 subst e
 obtain ⟨u1, u2, rfl, e1, e2⟩ := r1.two
 cases e1
 cases e2
 obtain ⟨its1, v1, o1⟩ := I1.seqOf k1
 obtain ⟨its2, v2, o2⟩ := I1.seqOf k2
 have lt1 : (l1 : Nat) < (s1.heap.objs.size : Nat) := o1.lt
 have lt2 : (l2 : Nat) < (s1.heap.objs.size : Nat) := o2.lt
 refine call_zip o1 o2 fun h' Z sz old => wpAny_pyIter_zip Z.zip ?_
 have D : ZipApart (s1.heap.objs.size + 4) (s1.heap.objs.size + 2) (s1.heap.objs.size + 3) s1.heap.objs.size (s1.heap.objs.size + 1) l1 l2 := PySem.W.ktu_apart _ _ _ o1.lt o2.lt
 have J : Inv X pins σ H1 { s1 with heap := h' } := I1.kept (t' := s1.toks) old
 refine ⟨s1.heap.objs.size + 4, _, _, _, H1, rfl, J, turn_zip _ _ _ _ _ l1 l2 c1 c2 xs ys D, ⟨Z.zip, Z.ti, Z.to, of_src Z.s1, of_src Z.s2⟩, fun b hb => ?_, q⟩
 have hb' : s1.heap.objs.size ≤ b := by
  simp only [List.mem_cons, List.not_mem_nil, or_false] at hb
  rcases hb with rfl | rfl | rfl | rfl | rfl <;> omega
 exact I1.fpOk hb' (I1.hok.fresh hb')
theorem a_iZip {ta : TA} {σ : St} {H : Hp} {R : It → Hp → Prop} : iZip ta σ H R = ta σ H fun vs H1 => ∃ a b c1 c2 xs ys, vs = [.ref a, .ref b] ∧ SqC H1 c1 a xs ∧ SqC H1 c2 b ys ∧ R (Itz c1 c2 a b xs ys) H1 := rfl
end
theorem cl_zip {c1 c2 : String} {a b : Addr} {xs ys : List V} {g : TG} {tc : TT} {tb : TB} {D : St → Hp → Prop} {σ : St} {H : Hp} (Pv : Nat → St → Hp → Prop) (h0 : Pv 0 σ H) (hl : ∀ i σ H, Pv i σ H → SqC H c1 a xs ∧ SqC H c2 b ys)
  (hs : ∀ (i : Nat) u v (T : Addr) σ H H', xs[i]? = some u → ys[i]? = some v → Pv i σ H → H T = none → Same H H' → H' T = some (.tup [u, v]) → g (.ref T) σ H' fun σ2 H2 => tc σ2 H2 fun b H3 => if b = true then tb σ2 H3 (Pv (i + 1)) else Pv (i + 1) σ2 H3)
  (hd : ∀ σ H, Pv (min xs.length ys.length) σ H → D σ H) : tCL (Itz c1 c2 a b xs ys) g tc tb D σ H := by
 refine ⟨fun i m σ H => m = min xs.length ys.length - i ∧ i ≤ min xs.length ys.length ∧ Pv i σ H, ⟨min xs.length ys.length, by simp, Nat.zero_le _, h0⟩, ?_⟩
 rintro i m σ H ⟨rfl, hi, p⟩
 obtain ⟨q1, q2⟩ := hl i σ H p
 by_cases hlt : i < min xs.length ys.length
 ·refine .inr ⟨⟨q1, q2, by omega, by omega⟩, Pv (i + 1), fun σ' H' p' => ⟨min xs.length ys.length - (i + 1), by omega, rfl, hlt, p'⟩, fun x H' y => ?_⟩
  obtain ⟨T, u, v, rfl, n, rfl, e1, e2⟩ := y
  exact hs i u v T σ H _ e1 e2 p n (same_upd n) upd_same
 ·have e : i = min xs.length ys.length := by omega
  subst e
  exact .inl ⟨⟨q1, q2, by omega⟩, hd σ H p⟩
section
variable {X : Cx}
noncomputable def rSlL0 : V → Option Int → Option Int → Hp → VK → Prop := fun x lo hi H Q => ∃ a xs, x = .ref a ∧ H a = some (.lst xs) ∧ ∀ p, H p = none → Q (.ref p) (upd H p (.lst (cutV xs lo hi)))
theorem slL0 : SlR X rSlL0 := fun pins s σ H x v vl vu lo hi sl Q I rx hs pl pu h => by
 obtain ⟨a, xs, e, k, q⟩ := h
 exact sl_list pins s σ H x v vl vu lo hi sl Q I rx hs pl pu ⟨a, xs, e, SqL.of k, q⟩
theorem a_tSl {r : V → Option Int → Option Int → Hp → VK → Prop} {te : TE} {tl th : TO} {σ : St} {H : Hp} {Q : VK} : tSl r te tl th σ H Q = te σ H fun x H1 => tl σ H1 fun l H2 => th σ H2 fun u H3 => r x l u H3 Q := rfl
theorem a_rSlL0 {x : V} {lo hi : Option Int} {H : Hp} {Q : VK} : rSlL0 x lo hi H Q = ∃ a xs, x = .ref a ∧ H a = some (.lst xs) ∧ ∀ p, H p = none → Q (.ref p) (upd H p (.lst (cutV xs lo hi))) := rfl
theorem a_tNoPart {σ : St} {H : Hp} {q : Option Int → Hp → Prop} : tNoPart σ H q = q none H := rfl
theorem a_tPart {t : TE} {σ : St} {H : Hp} {q : Option Int → Hp → Prop} : tPart t σ H q = t σ H fun x H1 => ∃ i, x = .int i ∧ q (some i) H1 := rfl
noncomputable def tApp (to : TE) (t : TA) : TE := fun σ H Q => to σ H fun x H1 => ∃ l xs0, x = .ref l ∧ H1 l = some (.lst xs0) ∧ t σ H1 fun vs H2 => ∃ xs y, vs = [y] ∧ H2 l = some (.lst xs) ∧ xs.length < sizeLine ∧ Q .non (upd H2 l (.lst (xs ++ [y])))
theorem pe_append {o e : Expr} {to : TE} {t : TA} {apos cpos : Pos} (ho : PE X o to) (ha : PA X [e] t) (hbase : attributeBase o "append" X.env (eval o X.env) = eval o X.env := by rfl)
  (hfew : ((backTo cpos (starEach [e] X.env)).all (fun x => !x.1) && (backToKw cpos (keywordEach [] X.env)).all (fun x => x.1.isSome) && decide ([e].length + ([] : List Keyword).length + (if ([] : List Keyword).isEmpty then 0 else 1) < 30)) = true := by rfl)
  (hline : (apos.endLine == cpos.line) = true := by rfl) (hs : starEach [e] X.env = (false, eval e X.env) :: starEach [] X.env := by rfl) : PE X (.Call (.Attribute o "append" apos) [e] [] cpos) (tApp to t) := by
 intro pins s σ H Q I h
 refine wpAny_Call_method_late hbase hfew hline rfl (thn (ho pins s σ H _ I h) fun v s1 ⟨x, H1, I1, r1, q1⟩ => ?_)
 obtain ⟨l, xs0, rfl, hl, q1⟩ := q1
 have ty : tyV X.K "list" (.ref l) H1 := .inl ⟨rfl, _, SqL.of hl⟩
 obtain ⟨h1, h2⟩ := tyV_is I1 r1 ty
 refine ⟨"list", "list.append", PySem.F.plainAttrs_list, PySem.F.slot_list_append, PySem.F.type_list_append, h1, h2, ?_⟩
 have hA := ha cpos pins s1 σ H1 _ I1 q1
 rw [hs] at hA ⊢
 refine Calls.callWith_builtin (by rfl) (Calls.evalArgs_plain ?_)
 exact thn hA fun us s2 ⟨vs, H2, I2, r2, xs, y, e, k, z, q⟩ => mt_append pins s2 σ H2 (.ref l) vs v us Q I2 r1 r2 ⟨l, xs, y, rfl, e, k, z, q⟩
theorem a_tApp {to : TE} {t : TA} {σ : St} {H : Hp} {Q : VK} : tApp to t σ H Q = to σ H fun x H1 => ∃ l xs0, x = .ref l ∧ H1 l = some (.lst xs0) ∧ t σ H1 fun vs H2 => ∃ xs y, vs = [y] ∧ H2 l = some (.lst xs) ∧ xs.length < sizeLine ∧ Q .non (upd H2 l (.lst (xs ++ [y]))) := rfl
end
end L2
end
section
set_option Elab.async false
set_option linter.all false
set_option maxRecDepth 100000
namespace L2
open PySem PySem.Spec PyProof.Rows
section
variable {X : Cx}
theorem max_gen (hc : X.calm = true) {pins : List (Addr × Obj)} {σ : St} {H : Hp} {s : Shared} {p : Addr} {ns : List Int} {Q : VK} (I : Inv X pins σ H s) (hq : sq H p = some (ns.map V.int)) (hne : ns ≠ [])
  (q : ∀ m, m ∈ ns → (∀ x ∈ ns, x ≤ m) → Q (.int m) H) : wpAny (model X.prog X.w) X.A (call (.builtin "max") [.ref p]) (EP X pins σ Q) X.xe s := by
 have hp : 0 < ns.length := List.length_pos_iff.mpr hne
 refine call_max_walk (I.walk hc hq fun it its s2 St fp rv W st hfp hsz J => ?_)
 have hl := rv.length
 rw [List.length_map] at hl
 refine ⟨it, fp, [it], its.length, _, St, _, rfl, W, st, hfp, by omega, CmpOf.ints_gt (fun i => ns.getD i 0) fun i v hv => vals_int_get rv hv, fun v h' tk hv k => ?_⟩
 obtain ⟨a1, a2⟩ := argBest_gt (fun i => ns.getD i 0) (its.length - 1)
 obtain ⟨t, rfl⟩ := vals_int_get rv hv
 generalize argBest (fun i j => decide (ns.getD i 0 > ns.getD j 0)) (its.length - 1) = j at a1 a2 hv ⊢
 have hj : j < ns.length := by omega
 have e : ns.getD j 0 = ns[j] := by simp [List.getD_eq_getElem?_getD, hj]
 refine ⟨.int ns[j], H, J h' tk k, ⟨t, by rw [e]⟩, q _ (List.getElem_mem hj) fun x hx => ?_⟩
 obtain ⟨i, hi, rfl⟩ := List.mem_iff_getElem.mp hx
 have := a2 i (by omega)
 simp only [List.getD_eq_getElem?_getD, List.getElem?_eq_getElem hi, List.getElem?_eq_getElem hj, Option.getD_some] at this
 exact this
theorem max0 (hc : X.calm = true) : CallR X (.builtin "max") (fun xs H Q => ∃ (p : Addr) (ns : List Int), xs = [.ref p] ∧ sq H p = some (ns.map V.int) ∧ ns ≠ [] ∧ ∀ m, m ∈ ns → (∀ x ∈ ns, x ≤ m) → Q (.int m) H) := by
 intro pins s σ H xs us Q I r h
 obtain ⟨p, ns, rfl, hq, hne, q⟩ := h
 obtain ⟨u, rfl, ru⟩ := r.one
 cases ru
 exact max_gen hc I hq hne q
theorem min0 (hc : X.calm = true) : CallR X (.builtin "min") (fun xs H Q => ∃ (p : Addr) (ns : List Int), xs = [.ref p] ∧ sq H p = some (ns.map V.int) ∧ ns ≠ [] ∧ ∀ m, m ∈ ns → (∀ x ∈ ns, m ≤ x) → Q (.int m) H) := by
 intro pins s σ H xs us Q I r h
 obtain ⟨p, ns, rfl, hq, hne, q⟩ := h
 obtain ⟨u, rfl, ru⟩ := r.one
 cases ru
 have hp : 0 < ns.length := List.length_pos_iff.mpr hne
 refine call_min_walk (I.walk hc hq fun it its s2 St fp rv W st hfp hsz J => ?_)
 have hl := rv.length
 rw [List.length_map] at hl
 refine ⟨it, fp, [it], its.length, _, St, _, rfl, W, st, hfp, by omega, CmpOf.ints_lt (fun i => ns.getD i 0) fun i v hv => vals_int_get rv hv, fun v h' tk hv k => ?_⟩
 obtain ⟨a1, a2⟩ := argBest_lt (fun i => ns.getD i 0) (its.length - 1)
 obtain ⟨t, rfl⟩ := vals_int_get rv hv
 generalize argBest (fun i j => decide (ns.getD i 0 < ns.getD j 0)) (its.length - 1) = j at a1 a2 hv ⊢
 have hj : j < ns.length := by omega
 have e : ns.getD j 0 = ns[j] := by simp [List.getD_eq_getElem?_getD, hj]
 refine ⟨.int ns[j], H, J h' tk k, ⟨t, by rw [e]⟩, q _ (List.getElem_mem hj) fun x hx => ?_⟩
 obtain ⟨i, hi, rfl⟩ := List.mem_iff_getElem.mp hx
 have := a2 i (by omega)
 simp only [List.getD_eq_getElem?_getD, List.getElem?_eq_getElem hi, List.getElem?_eq_getElem hj, Option.getD_some] at this
 exact this
noncomputable def rCatA : R2 := fun x y H Q => ∃ a b xs ys, x = .ref a ∧ y = .ref b ∧ H a = some (.tup xs) ∧ H b = some (.tup ys) ∧ xs.length + ys.length ≤ sizeLine ∧ ∀ (p : Addr) (H' : Hp), Same H H' → H' p = some (.tup (xs ++ ys)) → Q (.ref p) H'
theorem catA0 : OpR X (binaryOp .Add) rCatA := by
 intro pins s σ H x y v u Q I rx ry h
 obtain ⟨a, b, xs, ys, rfl, rfl, ha, hb, hz, q⟩ := h
 by_cases hx : xs = []
 ·cases rx
  cases ry
  obtain ⟨its, r1, p1, _⟩ := I.tuple (SqT.of ha)
  obtain ⟨its2, r2, p2, _⟩ := I.tuple (SqT.of hb)
  have e1 : its = [] := r1.nil_iff.mpr hx
  obtain ⟨⟨c1, d1, da1, sl1⟩, o1, k1, n1, g1⟩ := id p1
  obtain ⟨⟨c2, d2, da2, sl2⟩, o2, k2, n2, g2⟩ := id p2
  simp only at k1 g1 k2 g2
  subst k1 g1 k2 g2
  refine concat_meets ⟨_, o1, rfl⟩ ⟨_, o2, rfl⟩ noFill_tuple_add seq_tuple_add F.slot_tuple_add F.entry_tuple_add (F.args_tuple_add_2 _ _) (tuple_addW0 a b its.toArray its2.toArray n1 n2 d1 d2 sl1 sl2 (by simp [e1])) ⟨o1, o2, ?_⟩
  subst hx
  exact ⟨.ref b, H, I, rfl, q b H (Same.refl H) hb⟩
 ·refine op_catT pins s σ H (.ref a) (.ref b) v u Q I rx ry ⟨a, b, xs, ys, rfl, rfl, SqT.of ha, SqT.of hb, hx, hz, fun e => ?_, fun _ p np => q p _ (same_upd np) upd_same⟩
  subst e
  exact q a H (Same.refl H) (by rw [List.append_nil]; exact ha)
theorem a_rCatA {x y : V} {H : Hp} {Q : VK} : rCatA x y H Q = ∃ a b xs ys, x = .ref a ∧ y = .ref b ∧ H a = some (.tup xs) ∧ H b = some (.tup ys) ∧ xs.length + ys.length ≤ sizeLine ∧ ∀ (p : Addr) (H' : Hp), Same H H' → H' p = some (.tup (xs ++ ys)) → Q (.ref p) H' := rfl
noncomputable def rCatL : R2 := fun x y H Q => ∃ l b xs zs, x = .ref l ∧ y = .ref b ∧ H l = some (.lst xs) ∧ H b = some (.lst zs) ∧ xs.length + zs.length ≤ sizeLine ∧ ∀ (p : Addr) (H' : Hp), H p = none → Same H H' → H' p = some (.lst (xs ++ zs)) → Q (.ref p) H'
theorem catL0 : OpR X (binaryOp .Add) rCatL := fun pins s σ H x y v u Q I rx ry h => by
 obtain ⟨l, b, xs, zs, e1, e2, h1, h2, hz, q⟩ := h
 exact op_cat pins s σ H x y v u Q I rx ry ⟨l, b, xs, zs, e1, e2, h1, h2, hz, fun p np => q p _ np (same_upd np) upd_same⟩
theorem a_rCatL {x y : V} {H : Hp} {Q : VK} : rCatL x y H Q = ∃ l b xs zs, x = .ref l ∧ y = .ref b ∧ H l = some (.lst xs) ∧ H b = some (.lst zs) ∧ xs.length + zs.length ≤ sizeLine ∧ ∀ (p : Addr) (H' : Hp), H p = none → Same H H' → H' p = some (.lst (xs ++ zs)) → Q (.ref p) H' := rfl
end
end L2
end
section
set_option Elab.async false
set_option linter.all false
set_option maxRecDepth 100000
namespace L2
open PySem PySem.Spec PyProof.Rows
section
variable {prog : Program} {w : World} {A : Around} {E : Value → Shared → Prop} {s : Shared}
theorem tup_whole {t sl : Addr} {items : Array Value} {vl vu : Value} {lo hi : Option Int} {Q : Value → Shared → Prop} (ht : IsTup s.heap t items) (hs : s.heap.IsSliceOf sl vl vu .none) (pl : IsPart vl lo) (pu : IsPart vu hi)
  (hw : HT.sIx items.size 0 lo = 0 ∧ HT.sIx items.size items.size hi = items.size) (h : Q (.ref t) s) : wpAny (model prog w) A (getItem (.ref t) (.ref sl)) Q E s := by
 obtain ⟨os, hos, hcs, hds⟩ := id hs
 have kind : s.TypeIs (.ref sl) "slice" := ⟨os, hos, hcs⟩
 unfold getItem
 try with_reducible refine wpAny_holding ?_
 first | refine wpAny_bind (wpAny_pure ?_) | skip
 refine wpAny_bind (wpAny_sequenceKey ht.typeIs (by decide) ?_)
 refine wpAny_bind (wpAny_callSpecial?_slot (name := Str.ofString "__getitem__") ht.typeIs slot_tuple_getitem (wpAny_call_entry slot_tuple_getitem ht.typeIs entry_tuple_getitem ?_ (args_tuple_getitem _ _)))
 show wpAny _ _ (Builtin.Tuple.tupleItemsOf (.ref t) >>= _) _ _ s
 refine wpAny_bind (tupleItemsOf_ ht (wpAny_bind (wpAny_typeOf kind ?_)))
 rw [if_pos (by decide)]
 refine wpAny_bind (HT.sliceApplied_gen hs pl pu ?_)
 rw [hw.1, hw.2]
 have yes : ((((0 : Nat) : Int) == 0 && (1 : Int) == 1 && (items.size - 0) == items.size) = true) := by simp
 show wpAny _ _ (if ((((0 : Nat) : Int) == 0 && (1 : Int) == 1 && (items.size - 0) == items.size) = true) then _ else _) _ _ s
 rw [if_pos yes]
 unfold Builtin.Tuple.tupleIsExact
 refine wpAny_bind (wpAny_bind (wpAny_typeOf ht.typeIs (wpAny_pure ?_)))
 rw [if_pos (by decide)]
 exact wpAny_bind (wpAny_rule (wpAny_pure ⟨_, rfl, wpAny_pure h⟩))
end
section
variable {X : Cx}
noncomputable def rSlA : V → Option Int → Option Int → Hp → VK → Prop := fun x lo hi H Q => ∃ a xs, x = .ref a ∧ H a = some (.tup xs) ∧ ∀ (p : Addr) (H' : Hp), Same H H' → H' p = some (.tup (cutV xs lo hi)) → Q (.ref p) H'
theorem cut_whole {xs : List V} {lo hi : Option Int} (h : HT.sIx xs.length 0 lo = 0 ∧ HT.sIx xs.length xs.length hi = xs.length) : cutV xs lo hi = xs := by
 unfold cutV
 rw [h.1, h.2, List.drop_zero, Nat.sub_zero, List.take_length]
theorem slA0 : SlR X rSlA := by
 intro pins s σ H x v vl vu lo hi sl Q I rx hs pl pu h
 obtain ⟨a, xs, rfl, hx, q⟩ := h
 by_cases hw : HT.sIx xs.length 0 lo = 0 ∧ HT.sIx xs.length xs.length hi = xs.length
 ·cases rx
  obtain ⟨its, r, ht, hz⟩ := I.tuple (SqT.of hx)
  have hlen : its.toArray.size = xs.length := by rw [List.size_toArray]; exact r.length.symm
  refine ⟨"tuple", _, slot_tuple_getitem.lookup, ht.typeIs, tup_whole ht hs pl pu (by rw [hlen]; exact hw) ?_⟩
  exact ⟨.ref a, H, I, rfl, q a H (Same.refl H) (by rw [cut_whole hw]; exact hx)⟩
 ·exact sl_tup pins s σ H (.ref a) v vl vu lo hi sl Q I rx hs pl pu ⟨a, xs, rfl, SqT.of hx, hw, fun p np => q p _ (same_upd np) upd_same⟩
theorem a_rSlA {x : V} {lo hi : Option Int} {H : Hp} {Q : VK} : rSlA x lo hi H Q = ∃ a xs, x = .ref a ∧ H a = some (.tup xs) ∧ ∀ (p : Addr) (H' : Hp), Same H H' → H' p = some (.tup (cutV xs lo hi)) → Q (.ref p) H' := rfl
end
end L2
end
section
set_option Elab.async false
set_option linter.all false
set_option maxRecDepth 100000
namespace L2
open PySem PySem.Spec PyProof.Rows
section
variable {prog : Program} {w : World} {A : Around} {E : Value → Shared → Prop} {s : Shared}
theorem collect_tup {t : Addr} {vs : List Value} {Q : List Value → Shared → Prop} (ht : IsTup s.heap t vs.toArray) (hz : vs.length ≤ sizeLine)
  (h : Q vs { s with heap := (s.heap.push (seqObj "list" #[] 0)).update s.heap.objs.size (Obj.mapSeq (· ++ vs.toArray)) }) : wpAny (model prog w) A (collect (.ref t)) Q E s := by
 obtain ⟨ot, hot, kt, nt, dt⟩ := id ht
 unfold collect
 refine wpAny_bind (wpAny_runValue (codeAny_builtin entry_proto_collect' (show wpAny _ _ (do again (.builtin "list.__iadd__" ⟨[← newList [], .ref t], []⟩)) _ _ s from ?_)))
 refine wpAny_bind (wpAny_newList (wpAny_pure ⟨Code.quiet_builtin _ (by decide +kernel), codeAny_builtin entry_list_iadd' (show wpAny _ _ (Builtin.List.listExtendWith (.ref s.heap.objs.size) (.ref t) (.ref s.heap.objs.size)) _ _ { s with heap := s.heap.push (seqObj "list" #[] 0) } from ?_)⟩))
 unfold Builtin.List.listExtendWith
 have old : (s.heap.push (seqObj "list" #[] 0)).get? t = some ot := Heap.get?_push_of_some _ hot
 refine wpAny_bind (wpAny_typeOf (T := "tuple") ⟨ot, old, kt⟩ ?_)
 have yes : (Value.type "tuple" == Value.type "tuple") = true := by rfl
 rw [if_pos (by rw [yes, Bool.or_true])]
 refine wpAny_bind (listItems_at old dt (wpAny_bind (listItems_at (xs := #[]) (n := 0) (Heap.get?_push_size _ rfl) rfl ?_)))
 rw [if_neg (by simp)]
 refine wpAny_bind (listUpdate_at (xs := #[]) (n := 0) (Heap.get?_push_size _ rfl) rfl (wpAny_pure ?_) (Nat.zero_le _) (by show (#[] ++ vs.toArray).size ≤ sizeLine + 1; rw [Array.size_append, List.size_toArray]; simp; omega))
 show wpAny (model prog w) A (do { let o ← load s.heap.objs.size; match o.data with | .seq xs _ => pure xs.toList | _ => unsupported "internal:collect" }) Q E { s with heap := (s.heap.push (seqObj "list" #[] 0)).update s.heap.objs.size (Obj.mapSeq (· ++ vs.toArray)) }
 refine wpAny_bind (wpAny_load (get?_update_seq (Heap.get?_push_size _ rfl) _) (show wpAny _ _ (pure ((#[] : Array Value) ++ vs.toArray).toList) Q E _ from ?_))
 rw [show ((#[] : Array Value) ++ vs.toArray).toList = vs by simp]
 exact wpAny_pure h
theorem sorted_tup {t : Addr} {vs : List Value} {ns : List Int} {Q : Value → Shared → Prop} (ht : IsTup s.heap t vs.toArray) (hI : IntsAre vs ns) (h64 : vs.length < 64)
  (h : ∀ (out : Array Value) (ms : List Int), IntsAre out.toList ms → ms.Perm ns → ms.Pairwise (· ≤ ·) → Q (.ref (s.heap.objs.size + 1)) { s with heap := sortedAll s.heap vs out }) : wpAny (model prog w) A (call (.builtin "sorted") [.ref t]) Q E s := by
 refine Calls.call_function_entry kind_sorted plain_sorted entry_sorted (args_sorted1 _) ?_
 unfold Builtin.«sorted»
 refine wpAny_bind (m := checkCount "sorted" 1 1 _) (wpAny_pure (wpAny_bind (collect_tup ht (by rw [sizeLine_eq]; omega) (wpAny_bind (wpAny_newList ?_)))))
 have size1 : ((s.heap.push (seqObj "list" #[] 0)).update s.heap.objs.size (Obj.mapSeq (· ++ vs.toArray))).objs.size = s.heap.objs.size + 1 := (Heap.size_update ..).trans (size_push' ..)
 have new1 : (((s.heap.push (seqObj "list" #[] 0)).update s.heap.objs.size (Obj.mapSeq (· ++ vs.toArray))).push (seqObj "list" vs.toArray 0)).get? (s.heap.objs.size + 1) = some (seqObj "list" vs.toArray 0) := by rw [← size1]; exact Heap.get?_push_size _ rfl
 show wpAny _ _ _ _ _ { s with heap := (((s.heap.push (seqObj "list" #[] 0)).update s.heap.objs.size (Obj.mapSeq (· ++ vs.toArray))).push (seqObj "list" vs.toArray 0)) }
 rw [size1]
 exact wpAny_bind (wpAny_holding (wpAny_call_entry slot_list_sort ⟨_, new1, rfl⟩ entry_list_sort (list_sort_tree new1 hI h64 fun out ms a1 a2 a3 => ⟨_, rfl, wpAny_pure ⟨_, rfl, h out ms a1 a2 a3⟩⟩) (args_list_sort _)))
end
section
variable {X : Cx}
theorem sorted0 : CallR X (.builtin "sorted") (fun xs H Q => ∃ (p : Addr) (ns : List Int), xs = [.ref p] ∧ sq H p = some (ns.map V.int) ∧ ns.length < 64 ∧ ∀ (l : Addr) (ms : List Int) (H' : Hp), H l = none → Same H H' → ms.Perm ns → ms.Pairwise (· ≤ ·) → H' l = some (.lst (ms.map V.int)) → Q (.ref l) H') := by
 intro pins s σ H xs us Q I r h
 obtain ⟨p, ns, rfl, hq, h64, q⟩ := h
 obtain ⟨u, rfl, ru⟩ := r.one
 cases ru
 have hf : H (s.heap.objs.size + 1) = none := I.hok.fresh (Nat.le_succ _)
 have fin : ∀ (its : List Value) (out : Array Value) (ms : List Int), Vals (ns.map V.int) its → IntsAre out.toList ms → ms.Perm ns → ms.Pairwise (· ≤ ·) → EP X pins σ Q (.ref (s.heap.objs.size + 1)) { s with heap := sortedAll s.heap its out } := fun its out ms vi h1 h2 h3 => by
  obtain ⟨e', he'⟩ := sortedAll_at s.heap its out
  have hml : ms.length = ns.length := h2.length_eq
  refine ⟨.ref (s.heap.objs.size + 1), _, I.laid (o := .lst (ms.map V.int)) (t' := s.toks) (fun b u e => sortedAll_old e) (Nat.le_succ _) ?_, rfl, q _ ms _ hf (same_upd hf) h2 h3 upd_same⟩
  exact ⟨by rw [List.length_map, hml, sizeLine_eq]; omega, out.toList, e', vals_ints h1, by simpa [seqObj] using he'⟩
 rcases sq_seq (K := X.K) hq with k | k
 ·obtain ⟨its, vi, pl, hz⟩ := I.list k
  have hlen := vi.length
  rw [List.length_map] at hlen
  exact sorted_ints pl.isList (intsAre_of vi) (by omega) fun out ms h1 h2 h3 => fin its out ms vi h1 h2 h3
 ·obtain ⟨its, vi, pl, hz⟩ := I.tuple k
  have hlen := vi.length
  rw [List.length_map] at hlen
  exact sorted_tup pl (intsAre_of vi) (by omega) fun out ms h1 h2 h3 => fin its out ms vi h1 h2 h3
end
end L2
end
section
set_option Elab.async false
set_option linter.all false
set_option maxRecDepth 100000
namespace L2
open PySem PySem.Spec PyProof.Rows
section
variable {X : Cx}
end
end L2
end
section
set_option Elab.async false
set_option linter.all false
set_option maxRecDepth 100000
namespace L2
open PySem PySem.Spec PyProof.Rows
theorem rmul_tup (a : Int) (t : Tok) (l : Addr) (items : Array Value) (n : Nat) (dd : Option Addr) (sl : Array (Option Value)) :
  Meets (Builtin.«int.__rmul__» ⟨[.int a t, .ref l], []⟩) (fun _ R s => s.heap.get? l = some { cls := .type "tuple", dict := dd, data := .seq items n, slots := sl } ∧ R (.ok (.ret Value.notImplemented)) s) :=
 .of_wp fun prog w A R s h => by
  obtain ⟨hp, g, d, tk, os⟩ := s
  obtain ⟨hl, h⟩ := h
  wp_walk
  exact ⟨_, rfl, h⟩
theorem noFill_tup_mul : fillsNumberSlot (.type "tuple") "mul" = pure false :=
 PySem.fillsNumberSlot_seq (id := "tuple.__mul__") (r := some (.builtin "tuple.__rmul__")) F.slot_tuple_mul.lookup (by decide +kernel) F.slot_tuple_rmul.lookup (by decide +kernel)
theorem repeat_tup : seqRepeat? (.type "tuple") = pure (some (.builtin "tuple.__mul__")) := by
 unfold seqRepeat?
 rw [PySem.seqSlot_of (T := "tuple") (name := "__mul__") (id := "tuple.__mul__") F.slot_tuple_mul.lookup (by decide +kernel), PySem.seqSlot_of (T := "tuple") (name := "__rmul__") (id := "tuple.__rmul__") F.slot_tuple_rmul.lookup (by decide +kernel)]
 rfl
theorem mul_one (t : Addr) (items : Array Value) (n : Nat) (dd : Option Addr) (sl : Array (Option Value)) (k : Int) (u : Tok) (h1 : ¬ (decide (k < -(2 ^ 63)) || decide (k ≥ 2 ^ 63)) = true) (hc : (items.isEmpty || k == 1) = true) :
  Meets (Builtin.«tuple.__mul__» ⟨[.ref t, .int k u], []⟩) (fun _ R s => s.heap.get? t = some { cls := .type "tuple", dict := dd, data := .seq items n, slots := sl } ∧ R (.ok (.ret (.ref t))) s) :=
 .of_wp fun prog w A R s h => by
  obtain ⟨hp, g, d, tk, os⟩ := s
  obtain ⟨hl, h⟩ := h
  wp_walk
  refine wpAny_ite_split (fun q => absurd q h1) fun _ => ?_
  wp_walk
  exact ⟨_, rfl, h⟩
theorem mul_nil (t : Addr) (items : Array Value) (n : Nat) (dd : Option Addr) (sl : Array (Option Value)) (k : Int) (u : Tok) (h1 : ¬ (decide (k < -(2 ^ 63)) || decide (k ≥ 2 ^ 63)) = true) (hc : ¬ (items.isEmpty || k == 1) = true) (hn : (decide (k ≤ 0) || items.isEmpty) = true) :
  Meets (Builtin.«tuple.__mul__» ⟨[.ref t, .int k u], []⟩) (fun _ R s => s.heap.get? t = some { cls := .type "tuple", dict := dd, data := .seq items n, slots := sl } ∧ R (.ok (.ret (.ref s.heap.objs.size))) { s with heap := s.heap.push { cls := .type "tuple", data := .seq #[] } }) :=
 .of_wp fun prog w A R s h => by
  obtain ⟨hp, g, d, tk, os⟩ := s
  obtain ⟨hl, h⟩ := h
  wp_walk
  refine wpAny_ite_split (fun q => absurd q h1) fun _ => ?_
  wp_walk
  exact ⟨_, rfl, h⟩
theorem mul_more (t : Addr) (items : Array Value) (n : Nat) (dd : Option Addr) (sl : Array (Option Value)) (k : Int) (u : Tok) (h1 : ¬ (decide (k < -(2 ^ 63)) || decide (k ≥ 2 ^ 63)) = true) (hc : ¬ (items.isEmpty || k == 1) = true) (hn : ¬ (decide (k ≤ 0) || items.isEmpty) = true)
  (hm : ¬ (items.size * k > (2 ^ 63 - 1) / 8)) (hl' : ¬ Builtin.Tuple.tupleTooMany (items.size * k) = true) (hsz : ((List.replicate k.toNat items).foldl (· ++ ·) #[]).size ≤ sizeLine) :
  Meets (Builtin.«tuple.__mul__» ⟨[.ref t, .int k u], []⟩) (fun _ R s => s.heap.get? t = some { cls := .type "tuple", dict := dd, data := .seq items n, slots := sl } ∧ R (.ok (.ret (.ref s.heap.objs.size))) { s with heap := s.heap.push { cls := .type "tuple", data := .seq ((List.replicate k.toNat items).foldl (· ++ ·) #[]) } }) :=
 .of_wp fun prog w A R s h => by
  obtain ⟨hp, g, d, tk, os⟩ := s
  obtain ⟨hl, h⟩ := h
  wp_walk
  refine wpAny_ite_split (fun q => absurd q h1) fun _ => ?_
  wp_walk
  refine wpAny_ite_split (fun q => absurd q hm) fun _ => ?_
  wp_walk
  exact ⟨_, rfl, h⟩
section
variable {X : Cx}
noncomputable def rMulT : R2 := fun x y H Q => ∃ (a : Addr) (k : Nat) (xs : List V), x = .ref a ∧ y = .int (k : Int) ∧ H a = some (.tup xs) ∧ xs.length * k ≤ 1000 ∧ k ≤ 1000 ∧ ∀ (p : Addr) (H' : Hp), Same H H' → H' p = some (.tup (List.replicate k xs).flatten) → Q (.ref p) H'
theorem mulT0 : OpR X (binaryOp .Mult) rMulT := by
 intro pins s σ H x y v u Q I rx ry h
 obtain ⟨a, k, xs, rfl, rfl, ha, hz, hk, q⟩ := h
 cases rx
 obtain ⟨t, rfl⟩ := ry
 obtain ⟨its, r, p1, _⟩ := I.tuple (SqT.of ha)
 have hlen := r.length
 obtain ⟨⟨c1, d1, da1, sl1⟩, e, k1, n1, g1⟩ := id p1
 simp only at k1 g1
 subst k1 g1
 have h1 : ¬ (decide ((k : Int) < -(2 ^ 63)) || decide ((k : Int) ≥ 2 ^ 63)) = true := by
  rw [Bool.or_eq_true, decide_eq_true_eq, decide_eq_true_eq]
  omega
 refine wpAny_binaryOp_repeat_ref (T := "tuple") (U := "int") (by decide) ⟨_, e, rfl⟩ (fun s' => typeIs_int s' (k : Int) t) noFill_tup_mul F.fills_int_mul F.slot_int_rmul repeat_tup F.slot_int_index.lookup
  (call_meets F.slot_int_rmul (typeIs_int s (k : Int) t) F.entry_int_rmul (F.args_int_rmul_2 _ _) (rmul_tup (k : Int) t a its.toArray n1 d1 sl1) ⟨e, rfl, ⟨_, e, rfl⟩, ?_⟩)
 by_cases hc : (its.toArray.isEmpty || (k : Int) == 1) = true
 ·refine call_meets F.slot_tuple_mul ⟨_, e, rfl⟩ F.entry_tuple_mul (F.args_tuple_mul_2 _ _) (mul_one a its.toArray n1 d1 sl1 (k : Int) t h1 hc) ⟨e, ⟨.ref a, H, I, rfl, q a H (Same.refl H) ?_⟩⟩
  rw [ha]
  congr 2
  rw [Bool.or_eq_true] at hc
  rcases hc with hc | hc
  ·have : its = [] := by simpa using hc
   have : xs = [] := r.nil_iff.mp this
   subst this
   induction k with
   | zero => simp
   | succ k ih => simp
  ·have : k = 1 := by have := eq_of_beq hc; omega
   subst this
   simp
 ·have ne : ¬ its.toArray.isEmpty = true := fun z => hc (by rw [z]; rfl)
  by_cases hk0 : k = 0
  ·subst hk0
   refine call_meets F.slot_tuple_mul ⟨_, e, rfl⟩ F.entry_tuple_mul (F.args_tuple_mul_2 _ _) (mul_nil a its.toArray n1 d1 sl1 ((0 : Nat) : Int) t h1 hc (by simp)) ⟨e, ?_⟩
   have hf := I.hok.fresh (Nat.le_refl s.heap.objs.size)
   refine ⟨.ref s.heap.objs.size, upd H s.heap.objs.size (.tup []), I.laid (t' := s.toks) (fun b o z => Heap.get?_push_of_some _ z) (Nat.le_refl _) ⟨Nat.zero_le _, [], .nil, IsTup.new _ _⟩, rfl, q _ _ (same_upd hf) ?_⟩
   rw [upd_same]
   simp
  ·have fl : (List.replicate (k : Int).toNat its.toArray).foldl (· ++ ·) #[] = (List.replicate k its).flatten.toArray := by
    have := foldl_rep its k []
    rw [List.nil_append] at this
    rw [Int.toNat_natCast]
    exact this
   have lr : (List.replicate k its).flatten.length = k * its.length := len_rep its k
   have lx : (List.replicate k xs).flatten.length = k * xs.length := len_rep xs k
   have hsm : k * its.length ≤ 1000 := by rw [← hlen, Nat.mul_comm]; exact hz
   have cast : ((its.toArray.size : Nat) : Int) * (k : Int) = ((its.length * k : Nat) : Int) := by rw [List.size_toArray]; norm_cast
   have hsm2 : its.length * k ≤ 1000 := by rw [Nat.mul_comm]; exact hsm
   refine call_meets F.slot_tuple_mul ⟨_, e, rfl⟩ F.entry_tuple_mul (F.args_tuple_mul_2 _ _) (mul_more a its.toArray n1 d1 sl1 (k : Int) t h1 hc ?_ ?_ ?_ ?_) ⟨e, ?_⟩
   ·rw [Bool.or_eq_true, decide_eq_true_eq]
    rintro (z | z)
    ·omega
    ·exact ne z
   ·rw [cast]; omega
   ·unfold Builtin.Tuple.tupleTooMany
    rw [cast, sizeLine_eq, decide_eq_true_eq]
    omega
   ·rw [fl, List.size_toArray, lr, sizeLine_eq]
    omega
   ·rw [fl]
    have hf := I.hok.fresh (Nat.le_refl s.heap.objs.size)
    refine ⟨.ref s.heap.objs.size, upd H s.heap.objs.size (.tup (List.replicate k xs).flatten), I.laid (t' := s.toks) (fun b o z => Heap.get?_push_of_some _ z) (Nat.le_refl _) ⟨?_, (List.replicate k its).flatten, ?_, IsTup.new _ _⟩, rfl, q _ _ (same_upd hf) upd_same⟩
    ·rw [lx, hlen, sizeLine_eq]; omega
    ·exact r.rep k
theorem a_rMulT {x y : V} {H : Hp} {Q : VK} : rMulT x y H Q = ∃ (a : Addr) (k : Nat) (xs : List V), x = .ref a ∧ y = .int (k : Int) ∧ H a = some (.tup xs) ∧ xs.length * k ≤ 1000 ∧ k ≤ 1000 ∧ ∀ (p : Addr) (H' : Hp), Same H H' → H' p = some (.tup (List.replicate k xs).flatten) → Q (.ref p) H' := rfl
end
end L2
end
section
set_option Elab.async false
set_option linter.all false
set_option maxRecDepth 100000
namespace L2
open PySem PySem.Spec PyProof.Rows
theorem Box.ne {H : Hp} {p c : Addr} (bx : Box H p) (n : H c = none) : p ≠ c := by
 rintro rfl
 obtain ⟨_, _, _, e⟩ := bx
 rw [n] at e
 cases e
theorem Box.upd {H : Hp} {p c : Addr} {o : HO} (bx : Box H p) (n : p ≠ c) : Box (L2.upd H c o) p := by
 obtain ⟨g, m, z, e⟩ := bx
 exact ⟨g, m, z, by rw [upd_ne n]; exact e⟩
theorem Box.same {H H' : Hp} {p : Addr} (bx : Box H p) (s : Same H H') : Box H' p := by
 obtain ⟨g, m, z, e⟩ := bx
 exact ⟨g, m, z, s _ _ e⟩
end L2
end
section
set_option Elab.async false
set_option linter.all false
set_option maxRecDepth 100000
namespace L2
open PySem PySem.Spec PyProof.Rows
section
variable {X : Cx}
noncomputable def plainE : Expr → Bool
 | .Starred _ _ => false
 | _ => true
theorem star_cons {e : Expr} {es : List Expr} {env : Env} (h : plainE e = true) : starEach (e :: es) env = (false, eval e env) :: starEach es env := by
 cases e <;> first | rfl | cases h
theorem pa_cns {e : Expr} {es : List Expr} {te : TE} {t : TA} (ha : PE X e te) (hr : PA X es t) (hp : plainE e = true := by rfl) : PA X (e :: es) (tCons te t) := pa_cons ha hr (star_cons hp)
noncomputable def tLstA (t : TA) : TE := fun σ H Q => t σ H fun xs H1 => xs.length ≤ sizeLine ∧ ∀ (p : Addr) (H2 : Hp), H1 p = none → Same H1 H2 → H2 p = some (.lst xs) → Q (.ref p) H2
theorem pe_lstA {es : List Expr} {t : TA} {pos : Pos} (h : PA X es t) : PE X (.List es pos) (tLstA t) := by
 intro pins s σ H Q I hq
 refine wpAny_List_spliced (thn (h pos pins s σ H _ I hq) fun us s1 ⟨xs, H1, I1, r, z, q⟩ => ⟨r.length ▸ z, ?_⟩)
 have nf := I1.hok.fresh (Nat.le_refl s1.heap.objs.size)
 exact ⟨.ref s1.heap.objs.size, upd H1 s1.heap.objs.size (.lst xs), I1.laid (t' := s1.toks) (fun b u e => Heap.get?_push_of_some _ e) (Nat.le_refl _) ⟨z, us, 0, r, Heap.get?_push_size _ rfl⟩, rfl, q _ _ nf (same_upd nf) upd_same⟩
theorem a_tLstA {t : TA} {σ : St} {H : Hp} {Q : VK} : tLstA t σ H Q = t σ H fun xs H1 => xs.length ≤ sizeLine ∧ ∀ (p : Addr) (H2 : Hp), H1 p = none → Same H1 H2 → H2 p = some (.lst xs) → Q (.ref p) H2 := rfl
end
end L2
end
section
set_option Elab.async false
set_option linter.all false
set_option maxRecDepth 100000
namespace L2
open PySem PySem.Spec PyProof.Rows
noncomputable def tSeqL (t u : TS) : TS := tSeq t u
theorem pss_consL {X : Cx} {st : Stmt} {sts : List Stmt} {t u : TS} (h : PS X st t) (hs : PSs X sts u) : PSs X (st :: sts) (tSeqL t u) := pss_cons h hs
end L2
end
section
set_option Elab.async false
set_option linter.all false
set_option maxRecDepth 100000
namespace L2
open PySem PySem.Spec PyProof.Rows
section
variable {X : Cx}
theorem lc_entryU {N : List Str} {fr : List (Option Nat)} {e tg iter : Expr} {ifs : List Expr} {gs : List Comprehension} {sc : Scope} {ip pos' : Pos} {cl : List (Str × Addr)} {wi : TI} {D : It → Addr → St → Hp → Prop} {pins : List (Addr × Obj)} {σ : St} {H : Hp} {s : Shared} {Q : VK} {i : Nat} {x : Str}
  (hN : X.N.Nodup) (hix : X.N[i]? = some x) (hx : Loc X.env.scope x) (hf : X.fn x = true ∨ X.env.scope.names.lookup x = some .local)
  (he : clausesOf e = ⟨tg, iter, ifs, 0⟩ :: gs) (hi : PI X tg iter wi) (S : CScope X N fr sc) (hcl : clos sc.names X.env.cells [] = some cl) (I : Inv X pins σ H s)
  (h : wi σ H fun J H1 => ∀ p, H1 p = none → D J p (frS fr σ) (upd H1 p (.lst [])))
  (loop : ∀ (it p : Addr) (fp : List Addr) (tn : Nat → Heap → Prop) (J : It) (s1 s2 : Shared) (H1 : Hp) (σ1 : St), Turn X.prog X.w X.K tg J fp it tn → Inv (cxc X N sc cl s1 H1 fp) [] σ1 H1 s2 → tn 0 s2.heap → (∀ b ∈ fp, FpOk (cxc X N sc cl s1 H1 fp) [] H1 b) → D J p σ1 H1 →
   codeAny (model X.prog X.w) X.A (.compStart e 0 (.ref it) (.ref p) (compEnvC sc cl s1.heap.objs.size X.env)) (fun r s' => r = .ok .next ∧ ∃ σ' H', Inv (cxc X N sc cl s1 H1 fp) [] σ' H' s' ∧ Q (.ref p) H') s2)
  (hs : ∀ x, foldedSetIterable iter X.env x = pure x) :
  wpAny (model X.prog X.w) X.A (comprehension e sc X.env ip (newList []) false (eval iter X.env) (some (assign (.Name x pos') X.env))) (fun _ s' => ∃ v H', Inv X pins (σ.set i (some v)) H' s' ∧ Q v H') X.xe s := by
 refine wpAny_comprehension_free (use := some (assign (.Name x pos') X.env)) he hs (closureFor_clos hcl) S.kind S.loc ?_
 refine thn (hi pins s σ H _ I h) fun v s1 h1 => thn h1 fun itv s2 ⟨it, fp, tn, J, H2, e2, I2, T, st2, f2, q⟩ => ?_
 subst e2
 refine wpAny_newObj_type ?_
 have hp : H2 s2.heap.objs.size = none := I2.hok.fresh (Nat.le_refl _)
 have I3 : Inv X pins σ (upd H2 s2.heap.objs.size (.lst [])) { s2 with heap := s2.heap.push { cls := .type "list", data := .seq ([] : List Value).toArray }, toks := s2.toks } := I2.lnew (its := []) (ys := []) .nil (Nat.zero_le _)
 have lt2 : ∀ b ∈ fp, b < s2.heap.objs.size := fun b hb => let ⟨o, e, _⟩ := T.obj 0 _ st2 b hb; Heap.lt_size e
 have f3 : ∀ b ∈ fp, FpOk X pins (upd H2 s2.heap.objs.size (.lst [])) b := fun b hb => ⟨by rw [upd_ne (Nat.ne_of_lt (lt2 b hb))]; exact (f2 b hb).1, (f2 b hb).2⟩
 have st3 : tn 0 (s2.heap.push { cls := .type "list", data := .seq ([] : List Value).toArray }) := T.keep _ _ _ st2 fun b _ o e => Heap.get?_push_of_some _ e
 refine wpAny_newFunctionEnv S.nocell (by intro y hy; simp at hy) (fun h₁ hns₁ hsb₁ => ?_) S.kind
 generalize hs3 : ({ s2 with heap := s2.heap.push { cls := .type "list", data := .seq ([] : List Value).toArray } } : Shared) = s3 at hns₁ hsb₁ ⊢
 have I3' : Inv X pins σ (upd H2 s2.heap.objs.size (.lst [])) s3 := by rw [← hs3]; exact I3
 have st3' : tn 0 s3.heap := by rw [← hs3]; exact st3
 have lt3 : ∀ b ∈ fp, b < s3.heap.objs.size := fun b hb => let ⟨o, e, _⟩ := T.obj 0 _ st3' b hb; Heap.lt_size e
 have hk : ∀ b u, s3.heap.get? b = some u → h₁.get? b = some u := fun b u e => hsb₁.extBut b u (Nat.ne_of_lt (Heap.lt_size e)) (Heap.get?_push_of_some _ e)
 have hns : h₁.Ns s3.heap.objs.size (fun _ => none) := by simpa using hns₁
 have B := I3'.block (N := N) (fr := fr) (sc := sc) (cl := cl) (ex := fp) (h1 := h₁) (tk := s3.toks + ([] : List (Str × Value)).length) S hcl (fun b hb => ⟨f3 b hb, lt3 b hb⟩) hns hk
 have stB : tn 0 h₁ := T.keep _ _ _ st3' fun b _ o e => hk b o e
 have fC : FpOk X pins (upd H2 s2.heap.objs.size (.lst [])) s3.heap.objs.size := I3'.fpOk (Nat.le_refl _) (I3'.hok.fresh (Nat.le_refl _))
 refine codeAny_mono (loop it s2.heap.objs.size fp tn J s3 _ (upd H2 s2.heap.objs.size (.lst [])) (frS fr σ) T B stB (fun b hb => ?_) (q _ hp)) fun r s' hr => ?_
 ·obtain ⟨f0, f1, f2', f3', f4, f5⟩ := f3 b hb
  refine ⟨f0, Nat.ne_of_lt (lt3 b hb), fun z => ?_, .inl hb, fun x c e => f4 x c (clos_lookup hcl e), fun p hp' => absurd (show p ∈ ([] : List (Addr × Obj)) from hp') (by simp)⟩
  rcases List.mem_cons.mp (I3'.stkSub b z) with e | e
  ·exact f1 e
  ·exact f2' e
 ·obtain ⟨rfl, σ', H', J', q'⟩ := hr
  have I5 : Inv X pins σ H' s' := I3'.unblock (h' := s'.heap) J' f3 ⟨rfl, fun _ _ => rfl⟩
  show wpAny _ X.A (assign (.Name x pos') X.env (.ref s2.heap.objs.size)) _ X.xe s'
  refine wpAny_assign_Name (store_ok2 (v := .ref s2.heap.objs.size) I5 hN hix hx rfl (fun s4 I6 ⟨a, sb, ha⟩ => ?_) hf)
  obtain ⟨m, hn, _⟩ := J'.loc
  have free : H' s3.heap.objs.size = none := J'.free
  obtain ⟨g0, g1, g2, g3, g4, g5⟩ := fC
  have aC : s3.heap.objs.size ≠ a := by
   rcases ha with rfl | ha
   ·exact g1
   ·exact fun z => g4 x a ha z.symm
  refine ⟨m, hn.sameBut sb aC, fun h' sb' => ⟨.ref s2.heap.objs.size, H', ?_, q'⟩⟩
  refine I6.turnedN (fp := [s3.heap.objs.size]) (fun b hb => ?_) fun c o hc e => sb'.extBut _ _ (fun z => hc (List.mem_singleton.mpr z)) e
  have eb : b = s3.heap.objs.size := by simpa using hb
  subst eb
  exact ⟨free, g1, g2, g3, g4, g5⟩
theorem ps_setLC {N : List Str} {fr : List (Option Nat)} {tg iter elt : Expr} {ifs : List Expr} {sc : Scope} {pos pos' cpos : Pos} {cl : List (Str × Addr)} {wi : TI} {g : TG} {tc : TT} {te : TE} {i : Nat} {x : Str} (hN : X.N.Nodup) (hix : X.N[i]? = some x) (hx : Loc X.env.scope x)
  (hc : X.calm = true) (hi : PI X tg iter wi) (S : CScope X N fr sc) (hcl : clos sc.names X.env.cells [] = some cl)
  (hb : ∀ s H ex, PG (cxc X N sc cl s H ex) tg g ∧ PIfs (cxc X N sc cl s H ex) ifs tc ∧ PE (cxc X N sc cl s H ex) elt te) (hsw : swapsWith (.ListComp elt [⟨tg, iter, ifs, 0⟩] sc cpos) (some (.Name x pos')) pos.line X.env = pure true := by rfl)
  (hs : ∀ x, foldedSetIterable iter X.env x = pure x := by intro _; rfl) (hf : X.fn x = true ∨ X.env.scope.names.lookup x = some .local := by first | exact .inl rfl | exact .inr rfl | assumption) :
  PS X (.Assign [.Name x pos'] (.ListComp elt [⟨tg, iter, ifs, 0⟩] sc cpos) pos) (tAsg (tLC fr wi g tc te) (gName i)) := by
 intro pins s σ H D I h
 rw [exec_Assign_Name_used _ _ _ _ hsw]
 refine wpAny_bind (wpAny_standAt (wpAny_bind ?_))
 show wpAny _ X.A (do let _ ← comprehension (.ListComp elt [⟨tg, iter, ifs, 0⟩] sc cpos) sc X.env _ (newList []) false (eval iter X.env) (some (assign (.Name x pos') X.env))) _ _ s
 refine wpAny_bind (thn (lc_entryU (Q := fun v H2 => D.nx (σ.set i (some v)) H2) (D := fun J p σ1 H1 => tCL J g tc (tEmit p te) (fun _ H2 => D.nx (σ.set i (some (.ref p))) H2) σ1 H1) hN hix hx hf rfl hi S hcl I h (fun it p fp tn J s1 s2 H1 σ1 T B st f d => ?_) hs) fun _ s' ⟨v, H', I', q'⟩ => wpAny_pure (wpAny_pure ⟨_, H', I', q'⟩))
 obtain ⟨hg, hifs, helt⟩ := hb s1 H1 fp
 have L := comp_loop (X := cxc X N sc cl s1 H1 fp) (e := .ListComp elt [⟨tg, iter, ifs, 0⟩] sc cpos) (d := 0) (acc := .ref p) (D := fun _ H2 => D.nx (σ.set i (some (.ref p))) H2) (s := s2) hc rfl (compTurn_list elt tg iter ifs sc cpos (.ref it) (.ref p) _) rfl rfl rfl T hg hifs (pb_emit helt) B st f d
 exact codeAny_compStart_list L (T.self X.A 0 s2 _ _ st L)
end
end L2
end
section
set_option Elab.async false
set_option linter.all false
set_option maxRecDepth 100000
namespace L2
open PySem PySem.Spec PyProof.Rows
theorem bt_enumerate : bootBuiltins "enumerate" = some (.type "enumerate") := by decide +kernel
noncomputable def Itr1 (h : Heap) (c : String) (it l : Addr) (k : Nat) : Prop := (c = "list_iterator" ∧ h.IsListIter it l k) ∨ (c = "tuple_iterator" ∧ h.IsTupleIter it l k)
theorem draws_seq {prog : Program} {w : World} {A : Around} (hh : A.handled = none) (c : String) (it l : Addr) (ne : l ≠ it) (xs : Array Value) : Draws prog w A it [it, l] xs.size (fun i v => xs[i]? = some v) (fun i h => Src h c it l xs i) where
 live := fun _ _ st => let ⟨o, ho, _⟩ := st.itlt; ⟨o, ho⟩
 frame := fun _ _ _ st hk => st.at (fun o e => hk it (by simp) o e) fun o e => hk l (by simp) o e
 item := fun i s Q E hi st hQ => nx_item st ne (x := xs[i]) (by simp [hi]) fun h' st' sb => hQ _ h' s.toks (by simp [hi]) st' sb
 done := fun s Q E st hE => nx_end hh st (by simp) hE
theorem enum_newT (l : Addr) (items : Array Value) (n : Nat) (dct : Option Addr) (sl : Array (Option Value)) :
  Meets (Builtin.«enumerate.__new__» ⟨[.type "enumerate", .ref l], []⟩) (fun _ R s => s.heap.get? l = some { cls := .type "tuple", dict := dct, data := .seq items n, slots := sl } ∧ R (.ok (.ret (.ref (s.heap.push { cls := .type "tuple_iterator", data := .fields #[.ref l, .int 0 0] }).objs.size)))
    { s with heap := (s.heap.push { cls := .type "tuple_iterator", data := .fields #[.ref l, .int 0 0] }).push { cls := .type "enumerate", data := .fields #[.none, .bool false, .ref s.heap.objs.size, rawInt 0, .none, .none] } }) :=
 .of_wp fun prog w A R s h => by
  obtain ⟨hp, g, d, tk, os⟩ := s
  obtain ⟨hl, h⟩ := h
  have sub := sub_enumerate
  have isT : Heap.IsTuple (Shared.heap ⟨hp, g, d, tk, os⟩) l items := ⟨_, hl, rfl, n, rfl⟩
  wp_walk using AutoSeq1.wpAny_loadPart' hl
  refine wpAny_stack_any fun st => wpAny_pure ?_
  split
  ·rename_i c _ _ _ _ _
   cases (c == Value.type "enumerate") <;> (wp_walk using AutoSeq1.wpAny_loadPart' hl, wpAny_pyIter_tuple isT; exact ⟨_, rfl, h⟩)
  ·wp_walk using AutoSeq1.wpAny_loadPart' hl, wpAny_pyIter_tuple isT
   exact ⟨_, rfl, h⟩
section
variable {prog : Program} {w : World} {A : Around} {E : Value → Shared → Prop} {s : Shared}
theorem call_enum {c : String} {l : Addr} {xs : Array Value} {Q : Value → Shared → Prop} (x : SeqOf s.heap c l xs)
  (h : ∀ h', IsEnum h' (s.heap.objs.size + 1) s.heap.objs.size 0 .none → Itr1 h' c s.heap.objs.size l 0 → (∀ b o, s.heap.get? b = some o → h'.get? b = some o) → Q (.ref (s.heap.objs.size + 1)) { s with heap := h' }) : wpAny (model prog w) A (call (.type "enumerate") [.ref l]) Q E s := by
 rcases x with ⟨rfl, x⟩ | ⟨rfl, x⟩
 ·exact call_enumerate_list x fun h' he hi _ k => h h' he (.inl ⟨rfl, hi⟩) k
 ·obtain ⟨⟨c, dct, dt, sl⟩, hl, hc, n, hd⟩ := x
  cases (show c = .type "tuple" from hc)
  cases (show dt = .seq xs n from hd)
  refine callType_new F.called_enumerate (by decide) (F.typeCall_enumerate_1 _) (F.newCall_enumerate_1 _) (fun obj => F.args_object_init_2 obj _) F.entry_enumerate_new (enum_newT l xs n dct sl) ⟨hl, ?_⟩
  have size1 : (s.heap.push { cls := .type "tuple_iterator", data := .fields #[.ref l, .int 0 0] }).objs.size = s.heap.objs.size + 1 := Heap.size_push ..
  show _ ∧ _
  rw [size1]
  have made := Heap.get?_push_size (s.heap.push { cls := .type "tuple_iterator", data := .fields #[.ref l, .int 0 0] }) (o := { cls := .type "enumerate", data := .fields #[.none, .bool false, .ref s.heap.objs.size, rawInt 0, .none, .none] }) rfl
  rw [size1] at made
  exact ⟨⟨_, made, rfl⟩, h _ made (.inr ⟨rfl, _, Heap.get?_push_of_some _ (Heap.get?_push_size _ rfl), rfl, rfl⟩) fun b o z => Heap.get?_push_of_some _ (Heap.get?_push_of_some _ z)⟩
end
noncomputable def Ite (c : String) (l : Addr) (xs : List V) : It := ⟨fun i H => SqC H c l xs ∧ i < xs.length, fun i H x H' => ∃ T v, x = .ref T ∧ H T = none ∧ H' = upd H T (.tup [.int (i : Int), v]) ∧ xs[i]? = some v, fun i H => SqC H c l xs ∧ i = xs.length⟩
theorem turn_enum {P : Program} {w : World} {K : PySem.W.Frag} {es : List Expr} {tk : _} {tp : Pos} (e it l : Addr) (c : String) (xs : List V) (hei : e ≠ it) (hle : l ≠ e) (hli : l ≠ it) :
  Turn P w K (.Tuple es tk tp) (Ite c l xs) [e, it] e (fun i h => (∃ old, IsEnum h e it (i : Int) old) ∧ Itr1 h c it l i) where
 mem := by simp
 obj := fun i h st b hb => by
  obtain ⟨⟨old, he⟩, hi⟩ := st
  simp only [List.mem_cons, List.not_mem_nil, or_false] at hb
  rcases hb with rfl | rfl
  ·exact ⟨_, he, fun v q => by cases (show Data.fields _ = Data.cell v from q)⟩
  ·exact it_obj hi
 keep := fun i h h' st k => by
  obtain ⟨⟨old, he⟩, hi⟩ := st
  exact ⟨⟨old, k e (by simp) _ he⟩, it_at hi fun o q => k it (by simp) o q⟩
 item := by
  intro X hP hw hK hc i pins s σ H E I hf st hg
  subst hP hw hK
  obtain ⟨q1, hi1⟩ := hg
  obtain ⟨its, r1, e1⟩ := I.seqOf q1
  obtain ⟨x, hx⟩ := getlen hi1
  obtain ⟨u, hu, ru⟩ := r1.get hx
  obtain ⟨⟨old, he⟩, hi⟩ := id st
  have hl := r1.length
  have hlt : i < its.toArray.size := by rw [List.size_toArray, ← hl]; exact hi1
  refine wpAny_pyNext_enum_itemD (draws_seq (A := X.A.in1) (I.ok.hd hc) c it l hli its.toArray) he (src_of hi e1) hlt hei (by simp; exact ⟨hei, hle.symm⟩) fun y h' tk' hy out st' new size k => ?_
  have yu : y = u := by
   have hu' : its.toArray[i]? = some u := by simpa using hu
   have hy' : its.toArray[i]? = some y := hy
   rw [hu'] at hy'
   exact (Option.some.inj hy').symm
  subst yu
  refine ⟨_, rfl, wpAny_letOwnedTupleGo_enum out fun h'' z'' sb => ?_⟩
  have lt : ∀ b ∈ [e, it], b < s.heap.objs.size := fun b hb => by
   simp only [List.mem_cons, List.not_mem_nil, or_false] at hb
   rcases hb with rfl | rfl
   ·exact Heap.lt_size he
   ·obtain ⟨o, q, _⟩ := it_obj hi; exact Heap.lt_size q
  have nT : s.heap.objs.size ∉ [e, it] := fun hb => Nat.lt_irrefl _ (lt _ hb)
  have nTe : s.heap.objs.size ≠ e := fun q => nT (by simp [q])
  have J := I.turnedT (fp := [e, it]) (h' := h'') (T := s.heap.objs.size) (xs := [.int (i : Int), x]) (us := [.int i tk', y]) (t' := tk' + 1) hf (fun b o hb q => sb.extBut _ _ (fun z => hb (by simp [z])) (k b o (fun z => hb (by simp [z])) (fun z => hb (by simp [z])) q)) (Nat.le_refl _) (by show 2 ≤ sizeLine; decide) (.cons ⟨tk', rfl⟩ (.cons ru .nil))
   ⟨_, sb.extBut _ _ nTe new, rfl, _, rfl⟩ nT
  refine ⟨.ref s.heap.objs.size, _, J, rfl, ⟨_, x, rfl, I.hok.fresh (Nat.le_refl _), rfl, hx⟩, ⟨⟨y, z''⟩, it_at (of_src st') fun o q => sb.extBut _ _ hei.symm q⟩, fun b hb => ?_⟩
  rw [upd_ne (Nat.ne_of_lt (lt b hb))]
  exact (hf b hb).1
 done := by
  intro X hP hw hK hc i pins s σ H E I hf st hg
  subst hP hw hK
  obtain ⟨q1, hend⟩ := hg
  obtain ⟨its, r1, e1⟩ := I.seqOf q1
  obtain ⟨⟨old, he⟩, hi⟩ := id st
  have hl := r1.length
  have si : Src s.heap c it l its.toArray its.toArray.size := by
   have := src_of hi e1
   rw [hend, hl] at this
   simpa using this
  refine wpAny_pyNext_enum_endD (draws_seq (A := X.A.in1) (I.ok.hd hc) c it l hli its.toArray) he si fun h' k => ?_
  exact ⟨rfl, I.turnedN (fp := [e, it]) hf fun b o hb q => k b o (fun z => hb (by simp [z])) q⟩
 self := fun A i s Q E st h => by
  obtain ⟨⟨old, he⟩, hi⟩ := st
  exact wpAny_pyIter_enum he h
section
variable {X : Cx}
noncomputable def iEnum (ta : TA) : TI := fun σ H R => ta σ H fun vs H1 => ∃ l c xs, vs = [.ref l] ∧ SqC H1 c l xs ∧ R (Ite c l xs) H1
theorem pi_enum {es : List Expr} {kk : _} {tp : Pos} {a : Expr} {ta : TA} {p pos : Pos} (hg : Gl X "enumerate") (hm : X.mg "enumerate" = none) (ha : PA X [a] ta) (hs : starEach [a] X.env = [(false, eval a X.env)] := by rfl) : PI X (.Tuple es kk tp) (.Call (.Name "enumerate" p) [a] [] pos) (iEnum ta) := by
 intro pins s σ H R I h
 refine Call_ (ld_blt I hg hm bt_enumerate (PyProof.Rows.callWith_type1 (thn (ha pos pins s σ H _ I h) fun us s1 ⟨vs, H1, I1, r1, q1⟩ => ?_) hs rfl))
 obtain ⟨l, c, xs, e, k1, q⟩ := q1
 subst e
 obtain ⟨u, rfl, ru⟩ := r1.one
 cases ru
 obtain ⟨its, v1, o1⟩ := I1.seqOf k1
 have lt1 : (l : Nat) < (s1.heap.objs.size : Nat) := o1.lt
 refine call_enum o1 fun h' he hi old => wpAny_pyIter_enum he ?_
 have J : Inv X pins σ H1 { s1 with heap := h' } := I1.kept (t' := s1.toks) old
 refine ⟨s1.heap.objs.size + 1, _, _, _, H1, rfl, J, turn_enum (s1.heap.objs.size + 1) s1.heap.objs.size l c xs (Nat.succ_ne_self _) (Nat.ne_of_lt (Nat.lt_succ_of_lt lt1)) (Nat.ne_of_lt lt1), ⟨⟨_, he⟩, hi⟩, fun b hb => ?_, q⟩
 have hb' : s1.heap.objs.size ≤ b := by
  simp only [List.mem_cons, List.not_mem_nil, or_false] at hb
  rcases hb with rfl | rfl <;> omega
 exact I1.fpOk hb' (I1.hok.fresh hb')
theorem a_iEnum {ta : TA} {σ : St} {H : Hp} {R : It → Hp → Prop} : iEnum ta σ H R = ta σ H fun vs H1 => ∃ l c xs, vs = [.ref l] ∧ SqC H1 c l xs ∧ R (Ite c l xs) H1 := rfl
end
theorem cl_enum {c : String} {l : Addr} {xs : List V} {g : TG} {tc : TT} {tb : TB} {D : St → Hp → Prop} {σ : St} {H : Hp} (Pv : Nat → St → Hp → Prop) (h0 : Pv 0 σ H) (hl : ∀ i σ H, Pv i σ H → SqC H c l xs)
  (hs : ∀ (i : Nat) v (T : Addr) σ H H', xs[i]? = some v → Pv i σ H → H T = none → Same H H' → H' T = some (.tup [.int (i : Int), v]) → g (.ref T) σ H' fun σ2 H2 => tc σ2 H2 fun b H3 => if b = true then tb σ2 H3 (Pv (i + 1)) else Pv (i + 1) σ2 H3)
  (hd : ∀ σ H, Pv xs.length σ H → D σ H) : tCL (Ite c l xs) g tc tb D σ H := by
 refine ⟨fun i m σ H => m = xs.length - i ∧ i ≤ xs.length ∧ Pv i σ H, ⟨xs.length, by simp, Nat.zero_le _, h0⟩, ?_⟩
 rintro i m σ H ⟨rfl, hi, p⟩
 have q := hl i σ H p
 by_cases hlt : i < xs.length
 ·refine .inr ⟨⟨q, hlt⟩, Pv (i + 1), fun σ' H' p' => ⟨xs.length - (i + 1), by omega, rfl, hlt, p'⟩, fun x H' y => ?_⟩
  obtain ⟨T, v, rfl, n, rfl, e⟩ := y
  exact hs i v T σ H _ e p n (same_upd n) upd_same
 ·have e : i = xs.length := by omega
  subst e
  exact .inl ⟨⟨q, rfl⟩, hd σ H p⟩
theorem fl_enum {c : String} {l : Addr} {xs : List V} {g : TG} {tb : TS} {D : Ends} {σ : St} {H : Hp} (Pv : Nat → St → Hp → Prop) (h0 : Pv 0 σ H) (hl : ∀ i σ H, Pv i σ H → SqC H c l xs)
  (hs : ∀ (i : Nat) v (T : Addr) σ H H', xs[i]? = some v → Pv i σ H → H T = none → Same H H' → H' T = some (.tup [.int (i : Int), v]) → g (.ref T) σ H' fun σ2 H2 => tb { D with nx := Pv (i + 1), ct := Pv (i + 1), bk := D.nx } σ2 H2)
  (hd : ∀ σ H, Pv xs.length σ H → D.nx σ H) : FL (Ite c l xs) g tb D σ H := by
 refine ⟨fun i m σ H => m = xs.length - i ∧ i ≤ xs.length ∧ Pv i σ H, ⟨xs.length, by simp, Nat.zero_le _, h0⟩, ?_⟩
 rintro i m σ H ⟨rfl, hi, p⟩
 have q := hl i σ H p
 by_cases hlt : i < xs.length
 ·refine .inr ⟨⟨q, hlt⟩, Pv (i + 1), fun σ' H' p' => ⟨xs.length - (i + 1), by omega, rfl, hlt, p'⟩, fun x H' y => ?_⟩
  obtain ⟨T, v, rfl, n, rfl, e⟩ := y
  exact hs i v T σ H _ e p n (same_upd n) upd_same
 ·have e : i = xs.length := by omega
  subst e
  exact .inl ⟨⟨q, rfl⟩, hd σ H p⟩
end L2
end
section
set_option Elab.async false
set_option linter.all false
set_option maxRecDepth 100000
namespace L2
open PySem PySem.Spec PyProof.Rows
section
variable {X : Cx}
noncomputable def isV (v : Int) : Value → Bool
 | .int a _ => a == v
 | _ => false
theorem idx_before {v : Int} : ∀ {ns : List Int} {m : Nat}, m < ns.idxOf v → m < ns.length → ns.getD m 0 ≠ v
 | [], _, _, hl => by simp at hl
 | a :: l, 0, h, _ => by
  intro e
  have ea : a = v := by simpa using e
  subst ea
  rw [List.idxOf_cons] at h
  simp at h
 | a :: l, m + 1, h, hl => by
  rw [List.idxOf_cons] at h
  cases hc : a == v with
  | true => rw [hc] at h; simp at h
  | false =>
   rw [hc] at h
   have h' : m < l.idxOf v := by simpa using h
   have := idx_before h' (by simpa using hl)
   simpa using this
end
end L2
end
section
set_option Elab.async false
set_option linter.all false
set_option maxRecDepth 100000
namespace L2
open PySem PySem.Spec PyProof.Rows
section
variable {X : Cx}
noncomputable def rRepL : R2 := fun x y H Q => ∃ (l : Addr) (k : Nat) (xs : List V), x = .ref l ∧ y = .int (k : Int) ∧ H l = some (.lst xs) ∧ k ≤ 1000000 ∧ xs.length * k ≤ sizeLine ∧ ∀ (p : Addr) (H' : Hp), H p = none → Same H H' → H' p = some (.lst (List.replicate k xs).flatten) → Q (.ref p) H'
theorem repL0 : OpR X (binaryOp .Mult) rRepL := fun pins s σ H x y v u Q I rx ry h => by
 obtain ⟨l, k, xs, e1, e2, h1, hk, hz, q⟩ := h
 exact op_rep pins s σ H x y v u Q I rx ry ⟨l, (k : Int), xs, e1, e2, h1, by omega, by omega, by rw [Int.toNat_natCast]; exact hz, fun p np => q p _ np (same_upd np) (by rw [Int.toNat_natCast]; exact upd_same)⟩
theorem a_rRepL {x y : V} {H : Hp} {Q : VK} : rRepL x y H Q = ∃ (l : Addr) (k : Nat) (xs : List V), x = .ref l ∧ y = .int (k : Int) ∧ H l = some (.lst xs) ∧ k ≤ 1000000 ∧ xs.length * k ≤ sizeLine ∧ ∀ (p : Addr) (H' : Hp), H p = none → Same H H' → H' p = some (.lst (List.replicate k xs).flatten) → Q (.ref p) H' := rfl
end
end L2
end
section
set_option Elab.async false
set_option linter.all false
set_option maxRecDepth 100000
namespace L2
open PySem PySem.Spec PyProof.Rows
section
variable {X : Cx}
end
end L2
end
section
set_option Elab.async false
set_option linter.all false
set_option maxRecDepth 100000
namespace L2
open PySem PySem.Spec PyProof.Rows
section
variable {X : Cx}
noncomputable def iS0 (tl : TE) : TI := fun σ H R => tl σ H fun x H1 => ∃ a xs o, x = .ref a ∧ (o = HO.tup xs ∨ o = HO.lst xs) ∧ H1 a = some o ∧ R (ItS (fun H => H a = some o) xs) H1
theorem pi_s0 {tg l : Expr} {tl : TE} (hl : PE X l tl) : PI X tg l (iS0 tl) := by
 intro pins s σ H R I h
 refine thn (hl pins s σ H _ I h) fun v s1 ⟨x, H1, I1, r1, q1⟩ => ?_
 obtain ⟨a, xs, o, e, ho, hq, q⟩ := q1
 subst e
 cases r1
 rcases ho with rfl | rfl
 ·skip
  obtain ⟨its, rv, p, hz⟩ := I1.tuple (SqT.of hq)
  refine wpAny_pyIter_tuple (show s1.heap.IsTuple a its.toArray from p) ?_
  refine ⟨s1.heap.objs.size, [s1.heap.objs.size], _, _, H1, rfl, I1.kept (t' := s1.toks) fun b o e => Heap.get?_push_of_some _ e, (turn_tuple a _).weak (J' := ItS (fun H => H a = some (.tup xs)) xs) (fun i H ⟨k, hi⟩ => ?_) (fun i H ⟨k, hi⟩ => ⟨xs, SqT.of k, hi⟩) (fun i H x H' ⟨k, hi⟩ ⟨y1, y2⟩ => ⟨y1, y2 xs (SqT.of k)⟩), ⟨_, Heap.get?_push_size _ rfl, rfl, rfl⟩, fun b hb => ?_, q⟩
  ·obtain ⟨x, hx⟩ := getlen hi
   exact ⟨xs, x, SqT.of k, hx⟩
  ·have e : b = s1.heap.objs.size := by simpa using hb
   subst e
   exact I1.fpOk (Nat.le_refl _) (I1.hok.fresh (Nat.le_refl _))
 ·skip
  obtain ⟨its, rv, p, hz⟩ := I1.list (SqL.of hq)
  refine wpAny_pyIter_list p.isList ?_
  refine ⟨s1.heap.objs.size, [s1.heap.objs.size], _, _, H1, rfl, I1.kept (t' := s1.toks) fun b o e => Heap.get?_push_of_some _ e, (turn_list a _).weak (J' := ItS (fun H => H a = some (.lst xs)) xs) (fun i H ⟨k, hi⟩ => ?_) (fun i H ⟨k, hi⟩ => ⟨xs, SqL.of k, hi⟩) (fun i H x H' ⟨k, hi⟩ ⟨y1, y2⟩ => ⟨y1, y2 xs (SqL.of k)⟩), ⟨_, Heap.get?_push_size _ rfl, rfl, rfl⟩, fun b hb => ?_, q⟩
  ·obtain ⟨x, hx⟩ := getlen hi
   exact ⟨xs, x, SqL.of k, hx⟩
  ·have e : b = s1.heap.objs.size := by simpa using hb
   subst e
   exact I1.fpOk (Nat.le_refl _) (I1.hok.fresh (Nat.le_refl _))
theorem a_iS0 {tl : TE} {σ : St} {H : Hp} {R : It → Hp → Prop} : iS0 tl σ H R = tl σ H fun x H1 => ∃ a xs o, x = .ref a ∧ (o = HO.tup xs ∨ o = HO.lst xs) ∧ H1 a = some o ∧ R (ItS (fun H => H a = some o) xs) H1 := rfl
end
end L2
end
section
set_option Elab.async false
set_option linter.all false
set_option maxRecDepth 100000
namespace L2
open PySem PySem.Spec PyProof.Rows
section
variable {X : Cx}
noncomputable def tRevL (te : TE) : TE := fun σ H Q => te σ H fun x H1 => ∃ a xs, x = .ref a ∧ H1 a = some (.lst xs) ∧ ∀ (p : Addr) (H' : Hp), H1 p = none → Same H1 H' → H' p = some (.lst xs.reverse) → Q (.ref p) H'
theorem pe_revL {e m : Expr} {te tm : TE} {pos p2 : Pos} (he : PE X e te) (hm : PE X m tm) (hv : ∀ σ H (Q : VK), Q (.int (-1)) H → tm σ H Q) : PE X (.Subscript e (.Slice none none (some m) p2) pos) (tRevL te) := by
 intro pins s σ H Q I h
 refine Subscript_ (thn (he pins s σ H _ I h) fun v s1 ⟨x, H1, I1, r1, q1⟩ => ?_)
 refine wpAny_Slice ?_
 rw [evalPart_none]
 refine wpAny_pure (wpAny_pure ?_)
 rw [evalPart_some]
 refine thn (hm pins s1 σ H1 (fun x H2 => x = .int (-1) ∧ H2 = H1) I1 (hv _ _ _ ⟨rfl, rfl⟩)) fun vu s3 ⟨y, H3, I3, r3, e3, e4⟩ => ?_
 subst e3 e4
 obtain ⟨tk, rfl⟩ := r3
 obtain ⟨a, xs, rfl, hx, q⟩ := q1
 cases r1
 have I4 : Inv X pins σ H3 { s3 with heap := s3.heap.push { cls := .type "slice", data := .fields #[.none, .none, .int (-1) tk] } } := I3.kept (t' := s3.toks) fun b ob q => Heap.get?_push_of_some _ q
 obtain ⟨its, r, ht, hz⟩ := I4.list (SqL.of hx)
 have hlen : its.toArray.size = xs.length := by rw [List.size_toArray]; exact r.length.symm
 show wpAny (model X.prog X.w) X.A (subscriptTail e (.Slice none none (some m) p2) (.ref a) (.ref s3.heap.objs.size)) (EP X pins σ Q) X.xe { s3 with heap := s3.heap.push { cls := .type "slice", data := .fields #[.none, .none, .int (-1) tk] } }
 refine tail_any (ops := [.ref a, .ref s3.heap.objs.size]) ht.isList.typeIs slot_list_getitem.lookup (wpAny_getItem_list_slice ht.isList (Heap.IsSliceOf.new ..) .none .none (IsPart.int _ _) (by decide) ?_ (by rw [hlen]; exact hz)) (by with_unfolding_all rfl)
 rw [PySem.W.krv_pick]
 have hf := I4.hok.fresh (Nat.le_refl _)
 refine ⟨.ref _, _, I4.laid (t' := s3.toks) (o := .lst xs.reverse) (fun b ob q => Heap.get?_push_of_some _ q) (Nat.le_refl _) ?_, rfl, q _ _ hf (same_upd hf) upd_same⟩
 exact ⟨by rw [List.length_reverse]; exact hz, its.reverse, 0, r.reverse, Heap.get?_push_size _ rfl⟩
theorem a_tRevL {te : TE} {σ : St} {H : Hp} {Q : VK} : tRevL te σ H Q = te σ H fun x H1 => ∃ a xs, x = .ref a ∧ H1 a = some (.lst xs) ∧ ∀ (p : Addr) (H' : Hp), H1 p = none → Same H1 H' → H' p = some (.lst xs.reverse) → Q (.ref p) H' := rfl
end
end L2
end
section
set_option Elab.async false
set_option linter.all false
set_option maxRecDepth 100000
namespace L2
open PySem PySem.Spec PyProof.Rows
section
variable {X : Cx}
noncomputable def tExt (to : TE) (t : TA) : TE := fun σ H Q => to σ H fun x H1 => ∃ l xs0, x = .ref l ∧ H1 l = some (.lst xs0) ∧ t σ H1 fun vs H2 => ∃ b xs zs, vs = [.ref b] ∧ H2 l = some (.lst xs) ∧ H2 b = some (.lst zs) ∧ xs.length + zs.length ≤ sizeLine ∧ Q .non (upd H2 l (.lst (xs ++ zs)))
theorem pe_extend {o e : Expr} {to : TE} {t : TA} {apos cpos : Pos} (ho : PE X o to) (ha : PA X [e] t) (hbase : attributeBase o "extend" X.env (eval o X.env) = eval o X.env := by rfl)
  (hfew : ((backTo cpos (starEach [e] X.env)).all (fun x => !x.1) && (backToKw cpos (keywordEach [] X.env)).all (fun x => x.1.isSome) && decide ([e].length + ([] : List Keyword).length + (if ([] : List Keyword).isEmpty then 0 else 1) < 30)) = true := by rfl)
  (hline : (apos.endLine == cpos.line) = true := by rfl) (hs : starEach [e] X.env = (false, eval e X.env) :: starEach [] X.env := by rfl) : PE X (.Call (.Attribute o "extend" apos) [e] [] cpos) (tExt to t) := by
 intro pins s σ H Q I h
 refine wpAny_Call_method_late hbase hfew hline rfl (thn (ho pins s σ H _ I h) fun v s1 ⟨x, H1, I1, r1, q1⟩ => ?_)
 obtain ⟨l, xs0, rfl, hl, q1⟩ := q1
 have ty : tyV X.K "list" (.ref l) H1 := .inl ⟨rfl, _, SqL.of hl⟩
 obtain ⟨h1, h2⟩ := tyV_is I1 r1 ty
 refine ⟨"list", "list.extend", PySem.F.plainAttrs_list, PySem.F.slot_list_extend, PySem.F.type_list_extend, h1, h2, ?_⟩
 have hA := ha cpos pins s1 σ H1 _ I1 q1
 rw [hs] at hA ⊢
 refine Calls.callWith_builtin (by rfl) (Calls.evalArgs_plain ?_)
 exact thn hA fun us s2 ⟨vs, H2, I2, r2, b, xs, zs, e, k1, k2, z, q⟩ => mt_extend pins s2 σ H2 (.ref l) vs v us Q I2 r1 r2 ⟨l, b, xs, zs, rfl, e, k1, k2, z, q⟩
theorem a_tExt {to : TE} {t : TA} {σ : St} {H : Hp} {Q : VK} : tExt to t σ H Q = to σ H fun x H1 => ∃ l xs0, x = .ref l ∧ H1 l = some (.lst xs0) ∧ t σ H1 fun vs H2 => ∃ b xs zs, vs = [.ref b] ∧ H2 l = some (.lst xs) ∧ H2 b = some (.lst zs) ∧ xs.length + zs.length ≤ sizeLine ∧ Q .non (upd H2 l (.lst (xs ++ zs))) := rfl
end
end L2
end
section
set_option Elab.async false
set_option linter.all false
set_option Elab.async false
set_option linter.all false
set_option maxRecDepth 100000
namespace L2
open PySem PySem.Spec PyProof.Rows
end L2
namespace L2
open PySem PySem.Spec PyProof.Rows
end L2
namespace L2
open PySem PySem.Spec PyProof.Rows
end L2
namespace L2
open PySem PySem.Spec PyProof.Rows
end L2
namespace L2
open PySem PySem.Spec PyProof.Rows
end L2
namespace L2
open PySem PySem.Spec PyProof.Rows
end L2
namespace L2
open PySem PySem.Spec PyProof.Rows
end L2
namespace L2
open PySem PySem.Spec PyProof.Rows
end L2
namespace L2
open PySem PySem.Spec PyProof.Rows
end L2
namespace L2
open PySem PySem.Spec PyProof.Rows
end L2
namespace L2
open PySem PySem.Spec PyProof.Rows
section
variable {κ : Type} [DecidableEq κ]
end
section
variable {P : Program} {w : World} {H : Hp} {h : Heap} {a : Addr}
end
section
variable {X : Cx} {pins : List (Addr × Obj)} {σ : St} {H : Hp} {s : Shared} {a : Addr} {y v : V} {u r : Value} {o : Option V} {A : Around} {E : Value → Shared → Prop}
end
section
variable {X : Cx} {pins : List (Addr × Obj)} {σ : St} {H : Hp} {s : Shared} {a : Addr} {kvs : List (Key × V)} {k : Key} {u : Value} {A : Around} {E : Value → Shared → Prop}
end
section
variable {X : Cx} {o i e value : Expr} {pos pos' tpos : Pos} {td ty tv : TE}
end
section
variable {X : Cx} {pos : Pos}
end
structure M1 (X : Cx) (o : Expr) (m : Str) (apos : Pos) (e : Expr) (cpos : Pos) : Prop where
 base : attributeBase o m X.env (eval o X.env) = eval o X.env
 few : ((backTo cpos (starEach [e] X.env)).all (fun x => !x.1) && (backToKw cpos (keywordEach [] X.env)).all (fun x => x.1.isSome)
  && decide (([e] : List Expr).length + ([] : List Keyword).length + (if ([] : List Keyword).isEmpty then 0 else 1) < 30)) = true
 line : (apos.endLine == cpos.line) = true
 trees : backTo cpos (starEach [e] X.env) = [(false, eval e X.env)]
structure M2 (X : Cx) (o : Expr) (m : Str) (apos : Pos) (e f : Expr) (cpos : Pos) : Prop where
 base : attributeBase o m X.env (eval o X.env) = eval o X.env
 few : ((backTo cpos (starEach [e, f] X.env)).all (fun x => !x.1) && (backToKw cpos (keywordEach [] X.env)).all (fun x => x.1.isSome)
  && decide (([e, f] : List Expr).length + ([] : List Keyword).length + (if ([] : List Keyword).isEmpty then 0 else 1) < 30)) = true
 line : (apos.endLine == cpos.line) = true
 trees : backTo cpos (starEach [e, f] X.env) = [(false, eval e X.env), (false, eval f X.env)]
section
variable {X : Cx} {pins : List (Addr × Obj)} {σ : St} {H : Hp} {s : Shared} {a : Addr} {y d : V} {u r : Value} {o : Option V} {A : Around} {E : Value → Shared → Prop}
end
section
variable {X : Cx} {o e f : Expr} {apos cpos : Pos} {td ty tx : TE}
end
section
variable {X : Cx} {pins : List (Addr × Obj)} {σ : St} {H : Hp} {s : Shared} {a : Addr} {kvs : List (Key × V)} {A : Around} {E : Value → Shared → Prop}
end
section
variable {X : Cx} {pins : List (Addr × Obj)} {σ : St} {H : Hp} {s : Shared} {a : Addr} {y : V} {u : Value} {A : Around} {E : Value → Shared → Prop}
end
end L2
namespace Att
open PySem PySem.W PySem.Calls PyProof.Rows
end Att
namespace L2
open PySem PySem.Spec PyProof.Rows
end L2
namespace L2
open PySem PySem.Spec PyProof.Rows
end L2
namespace L2
open PySem PySem.Spec PyProof.Rows
section
variable {X : Cx}
end
section
variable {κ : Type} [DecidableEq κ]
end
end L2
end
section
set_option Elab.async false
set_option linter.all false
set_option maxRecDepth 100000
namespace L2
open PySem PySem.Spec PyProof.Rows
inductive Ky where
 | i (n : Int)
 | t (a : Addr) (ns : List Int)
theorem lex_app : ∀ (a b x y : List Int), a.length = b.length → HT.lexLt (a ++ x) (b ++ y) = if a = b then HT.lexLt x y else HT.lexLt a b
 | [], [], x, y, _ => by simp
 | p :: a, q :: b, x, y, h => by
  have ih := lex_app a b x y (by simpa using h)
  rw [List.cons_append, List.cons_append, HT.lexLt_cons, HT.lexLt_cons, ih]
  by_cases e : p = q
  ·subst e
   simp
  ·simp [e]
 | [], _ :: _, _, _, h => by simp at h
 | _ :: _, [], _, _, h => by simp at h
noncomputable def k0 : Ky := .i 0
section
variable {X : Cx}
end
section
variable {prog : Program} {w : World} {A : Around} {R : Result → Shared → Prop} {it : Addr} {fp wr : List Addr} {n : Nat} {Pv : Nat → Value → Prop} {St : Nat → Heap → Prop} {D : Shared → Prop}
end
section
variable {prog : Program} {w : World} {A : Around} {R : Result → Shared → Prop} {it : Addr} {fp wr : List Addr} {n : Nat} {Pv : Nat → Value → Prop} {St : Nat → Heap → Prop} {D : Shared → Prop}
end
theorem lex_irrefl : ∀ a : List Int, HT.lexLt a a = false
 | [] => HT.lexLt_nil_nil
 | x :: a => by rw [HT.lexLt_cons, if_pos rfl]; exact lex_irrefl a
section
variable {X : Cx}
end
end L2
end
section
set_option Elab.async false
set_option linter.all false
set_option maxRecDepth 100000
namespace L2
open PySem PySem.Spec PyProof.Rows
noncomputable def IsZ (h : Heap) (z TI TO : Addr) (f g : Value) : Prop := h.get? z = some { cls := .type "zip", dict := none, data := .fields #[f, g, .bool false, .ref TI, .ref TO], slots := #[] }
noncomputable def OutV (f : Value) : Prop := f = .none ∨ ∃ n : Nat, f = rawInt (n : Int)
section
variable {prog : Program} {w : World} {A : Around} {E : Value → Shared → Prop} {s : Shared}
theorem wp_alive {a : Addr} {Q : Option Obj → Shared → Prop} (h : Q (s.heap.get? a) s) : wpAny (model prog w) A (loadIfAlive a) Q E s := fun _ _ _ => h
theorem z_free {z TI TO : Addr} {f g : Value} {Q : Bool → Shared → Prop} (hz : IsZ s.heap z TI TO f g) (hf : OutV f) (h1 : Q true s) (h2 : ∀ h' g', IsZ h' z TI TO f g' → Heap.SameBut z s.heap h' → Q false { s with heap := h' }) : wpAny (model prog w) A (Builtin.SmallTypes.ownedTupleIsFree (.ref z)) Q E s := by
 unfold Builtin.SmallTypes.ownedTupleIsFree
 refine wpAny_bind (wpAny_field hz rfl (x := f) rfl ?_)
 rcases hf with rfl | ⟨n, rfl⟩
 ·exact wpAny_pure h1
 ·show wpAny (model prog w) A (loadIfAlive (n : Int).toNat >>= _) _ _ _
  refine wpAny_bind (wp_alive ?_)
  cases e : s.heap.get? (n : Int).toNat with
  | none =>
   show wpAny (model prog w) A (if (none : Option Obj).isNone = true then pure true else _) _ _ _
   rw [if_pos (show (none : Option Obj).isNone = true from rfl)]
   exact wpAny_pure h1
  | some o =>
   show wpAny (model prog w) A (if (some o).isNone = true then pure true else _) _ _ _
   rw [if_neg (by simp)]
   refine wpAny_bind (wpAny_field hz rfl (x := g) rfl ?_)
   by_cases c : (g != Value.bool true) = true
   ·simp only [c, if_true]
    refine wpAny_bind (wpAny_setField_rec hz (by simp) fun h' hz' hs => wpAny_pure (h2 h' _ hz' hs))
   ·simp only [c, if_false]
    refine wpAny_pure ?_
    have := h2 s.heap g hz ⟨rfl, fun _ _ => rfl⟩
    exact this
theorem zn_item {z TI TO i1 i2 l1 l2 : Addr} {c1 c2 : String} {k : Nat} {xs ys : Array Value} {x y f g : Value} {Q : Value → Shared → Prop} (D : ZipApart z TI TO i1 i2 l1 l2) (hz : IsZ s.heap z TI TO f g) (hf : OutV f) (hTI : IsPair s.heap TI (.ref i1) (.ref i2)) (hTO : ∃ a b, IsPair s.heap TO a b) (h1 : Src s.heap c1 i1 l1 xs k) (h2 : Src s.heap c2 i2 l2 ys k) (hx : xs[k]? = some x) (hy : ys[k]? = some y)
  (hQ : ∀ h' f' g', IsZ h' z TI TO f' g' → OutV f' → IsPair h' TI (.ref i1) (.ref i2) → (∃ a b, IsPair h' TO a b) → Src h' c1 i1 l1 xs (k + 1) → Src h' c2 i2 l2 ys (k + 1) → IsPair h' s.heap.objs.size x y → h'.objs.size = s.heap.objs.size + 1 →
   (∀ c o, c ∉ [z, TO, i1, i2] → s.heap.get? c = some o → h'.get? c = some o) → Q (.ref s.heap.objs.size) { s with heap := h' }) : wpAny (model prog w) A (Builtin.SmallTypes.nextOf (.ref z)) Q E s := by
 obtain ⟨a, b, hTO⟩ := hTO
 have hT : s.TypeIs (.ref z) "zip" := ⟨_, hz, rfl⟩
 unfold Builtin.SmallTypes.nextOf
 refine wpAny_bind (wpAny_callSpecial?_slot (name := Str.ofString "__next__") hT F.slot_zip_next (wpAny_call_entry F.slot_zip_next hT F.entry_zip_next ?_ (F.args_zip_next_1 _)))
 refine wpAny_bind (m := field (.ref z) 2) (wpAny_field hz rfl (x := .bool false) rfl ?_)
 refine wpAny_bind (m := field (.ref z) 3) (wpAny_field hz rfl (x := .ref TI) rfl ?_)
 refine wpAny_bind (wpAny_seqItems hTI rfl ?_)
 refine wpAny_bind (m := Builtin.SmallTypes.ownedTupleIsFree (.ref z)) (z_free hz hf ?_ fun h0 g' hz0 hs0 => ?_)
 ·simp only [if_true]
  refine wpAny_bind (wpAny_rule ?_)
  refine wpAny_bind (wpAny_field hz rfl (x := .ref TO) rfl ?_)
  refine wpAny_bind (wpAny_setField_rec hz (by simp) fun ha hza hsa => ?_)
  replace hza : IsZ ha z TI TO .ellipsis g := hza
  refine wpAny_bind ?_
  simp only [List.zipIdx_cons, List.zipIdx_nil, List.forIn_cons, List.forIn_nil]
  refine wpAny_bind (wpAny_bind (wpAny_onRaise ?_))
  refine wpAny_bind (m := Builtin.SmallTypes.nextOf (.ref i1)) (nx_item (s := { s with heap := ha }) (h1.ext hsa D.i1z D.l1z) D.l1i1 hx fun hb h1b hsb => wpAny_pure ?_)
  have hTOb : IsPair hb TO a b := hsb.extBut _ _ D.TOi1 (hsa.extBut _ _ D.TOz hTO)
  refine wpAny_bind (wpAny_seqItems hTOb rfl ?_)
  refine wpAny_bind (wpAny_updateSeq_pair hTOb fun hc hTOc hsc => ?_)
  replace hTOc : IsPair hc TO x b := hTOc
  refine wpAny_bind (wpAny_letGo (wpAny_pure ?_))
  refine wpAny_bind (wpAny_bind (wpAny_onRaise ?_))
  refine wpAny_bind (m := Builtin.SmallTypes.nextOf (.ref i2)) (nx_item (s := { s with heap := hc }) (((h2.ext hsa D.i2z D.l2z).ext hsb D.i12.symm D.l2i1).ext hsc D.TOi2.symm D.l2TO) D.l2i2 hy fun hd h2d hsd => wpAny_pure ?_)
  have hTOd : IsPair hd TO x b := hsd.extBut _ _ D.TOi2 hTOc
  refine wpAny_bind (wpAny_seqItems hTOd rfl ?_)
  refine wpAny_bind (wpAny_updateSeq_pair hTOd fun he hTOe hse => ?_)
  replace hTOe : IsPair he TO x y := hTOe
  refine wpAny_bind (wpAny_letGo (wpAny_pure (wpAny_pure ?_)))
  refine wpAny_bind (wpAny_seqItems hTOe rfl ?_)
  refine wpAny_bind (wpAny_newTuple ?_)
  have sz : he.objs.size = s.heap.objs.size := by rw [hse.1, hsd.1, hsc.1, hsb.1, hsa.1]
  have ze : IsZ he z TI TO .ellipsis g := hse.extBut _ _ D.TOz.symm (hsd.extBut _ _ D.i2z.symm (hsc.extBut _ _ D.TOz.symm (hsb.extBut _ _ D.i1z.symm hza)))
  have ke : ∀ c o, c ≠ z → c ≠ TO → c ≠ i1 → c ≠ i2 → s.heap.get? c = some o → he.get? c = some o := fun c o n1 n2 n3 n4 e => hse.extBut _ _ n2 (hsd.extBut _ _ n4 (hsc.extBut _ _ n2 (hsb.extBut _ _ n3 (hsa.extBut _ _ n1 e))))
  have h1e : Src he c1 i1 l1 xs (k + 1) := ((h1b.ext hsc D.TOi1.symm D.l1TO).ext hsd D.i12 D.l1i2).ext hse D.TOi1.symm D.l1TO
  have h2e : Src he c2 i2 l2 ys (k + 1) := h2d.ext hse D.TOi2.symm D.l2TO
  have zlt : z < he.objs.size := Heap.lt_size ze
  refine wpAny_bind (m := Builtin.SmallTypes.ownedTupleHandOut (.ref z) (.ref he.objs.size)) ?_
  unfold Builtin.SmallTypes.ownedTupleHandOut
  refine wpAny_bind (wpAny_setField_rec (show IsZ (he.push { cls := .type "tuple", data := .seq #[x, y] }) z TI TO .ellipsis g from Heap.get?_push_of_some _ ze) (by simp) fun hf' hzf hsf => ?_)
  replace hzf : IsZ hf' z TI TO (rawInt he.objs.size) g := hzf
  refine wpAny_setField_rec hzf (by simp) fun hg hzg hsg => ?_
  replace hzg : IsZ hg z TI TO (rawInt he.objs.size) (.bool false) := hzg
  have up : ∀ c o, c ≠ z → he.get? c = some o → hg.get? c = some o := fun c o n e => hsg.extBut _ _ n (hsf.extBut _ _ n (Heap.get?_push_of_some _ e))
  have new : IsPair hg he.objs.size x y := hsg.extBut _ _ (Nat.ne_of_gt zlt) (hsf.extBut _ _ (Nat.ne_of_gt zlt) (Heap.get?_push_size _ rfl))
  have szg : hg.objs.size = he.objs.size + 1 := by rw [hsg.1, hsf.1, Heap.size_push]
  refine wpAny_pure ⟨_, rfl, wpAny_pure ?_⟩
  rw [sz] at hzg new szg ⊢
  refine hQ hg _ _ hzg (.inr ⟨_, rfl⟩) (up _ _ D.TIz (ke _ _ D.TIz D.TITO D.TIi1 D.TIi2 hTI)) ⟨_, _, up _ _ D.TOz hTOe⟩ (h1e.at (fun o e => up _ o D.i1z e) fun o e => up _ o D.l1z e) (h2e.at (fun o e => up _ o D.i2z e) fun o e => up _ o D.l2z e) new szg fun c o hc' e => ?_
  have n1 : c ≠ z := fun q => hc' (by simp [q])
  exact up c o n1 (ke c o n1 (fun q => hc' (by simp [q])) (fun q => hc' (by simp [q])) (fun q => hc' (by simp [q])) e)
 ·simp only [Bool.false_eq_true, if_false]
  rw [← Array.forIn_toList]
  simp only [List.forIn_cons, List.forIn_nil]
  refine wpAny_bind (wpAny_bind (wpAny_bind (wpAny_holding ?_)))
  refine wpAny_bind (m := Builtin.SmallTypes.nextOf (.ref i1)) (nx_item (s := { s with heap := h0 }) (h1.ext hs0 D.i1z D.l1z) D.l1i1 hx fun hb h1b hsb => wpAny_pure ?_)
  refine wpAny_pure ?_
  refine wpAny_bind (wpAny_bind (wpAny_holding ?_))
  refine wpAny_bind (m := Builtin.SmallTypes.nextOf (.ref i2)) (nx_item (s := { s with heap := hb }) ((h2.ext hs0 D.i2z D.l2z).ext hsb D.i12.symm D.l2i1) D.l2i2 hy fun hd h2d hsd => wpAny_pure ?_)
  refine wpAny_pure (wpAny_pure ?_)
  refine wpAny_bind (m := newTuple [x, y]) (wpAny_newTuple ?_)
  have sz : hd.objs.size = s.heap.objs.size := by rw [hsd.1, hsb.1, hs0.1]
  have ke : ∀ c o, c ≠ z → c ≠ i1 → c ≠ i2 → s.heap.get? c = some o → hd.get? c = some o := fun c o n1 n3 n4 e => hsd.extBut _ _ n4 (hsb.extBut _ _ n3 (hs0.extBut _ _ n1 e))
  have zd : IsZ hd z TI TO f g' := hsd.extBut _ _ D.i2z.symm (hsb.extBut _ _ D.i1z.symm hz0)
  have up : ∀ c o, hd.get? c = some o → (hd.push { cls := .type "tuple", data := .seq #[x, y] }).get? c = some o := fun c o e => Heap.get?_push_of_some _ e
  have new : IsPair (hd.push { cls := .type "tuple", data := .seq #[x, y] }) hd.objs.size x y := Heap.get?_push_size _ rfl
  have szg : (hd.push { cls := .type "tuple", data := .seq #[x, y] }).objs.size = hd.objs.size + 1 := Heap.size_push ..
  refine wpAny_pure ⟨_, rfl, wpAny_pure ?_⟩
  have h1d : Src hd c1 i1 l1 xs (k + 1) := h1b.ext hsd D.i12 D.l1i2
  rw [sz] at new szg
  show Q (.ref hd.objs.size) _
  rw [sz]
  refine hQ _ _ _ (up _ _ zd) hf (up _ _ (ke _ _ D.TIz D.TIi1 D.TIi2 hTI)) ⟨_, _, up _ _ (ke _ _ D.TOz D.TOi1 D.TOi2 hTO)⟩ (h1d.at (fun o e => up _ o e) fun o e => up _ o e) (h2d.at (fun o e => up _ o e) fun o e => up _ o e) new szg fun c o hc' e => ?_
  exact up c o (ke c o (fun q => hc' (by simp [q])) (fun q => hc' (by simp [q])) (fun q => hc' (by simp [q])) e)
theorem zn_end {z TI TO i1 i2 l1 l2 : Addr} {c1 c2 : String} {k : Nat} {xs ys : Array Value} {f g : Value} {Q : Value → Shared → Prop} (hh : A.handled = none) (D : ZipApart z TI TO i1 i2 l1 l2) (hz : IsZ s.heap z TI TO f g) (hf : OutV f) (hTI : IsPair s.heap TI (.ref i1) (.ref i2)) (hTO : ∃ a b, IsPair s.heap TO a b) (h1 : Src s.heap c1 i1 l1 xs k) (h2 : Src s.heap c2 i2 l2 ys k) (hend : xs[k]? = none ∨ ys[k]? = none)
  (hE : ∀ h' e, (∀ c o, c ∉ [z, TO, i1, i2] → s.heap.get? c = some o → h'.get? c = some o) → (∃ o, h'.get? e = some o ∧ o.cls = .type "StopIteration") → E (.ref e) { s with heap := h' }) : wpAny (model prog w) A (Builtin.SmallTypes.nextOf (.ref z)) Q E s := by
 obtain ⟨a, b, hTO⟩ := hTO
 have hT : s.TypeIs (.ref z) "zip" := ⟨_, hz, rfl⟩
 unfold Builtin.SmallTypes.nextOf
 have fin : ∀ h' e, (∀ c o, c ≠ z → c ≠ TO → c ≠ i1 → c ≠ i2 → s.heap.get? c = some o → h'.get? c = some o) → (∃ o, h'.get? e = some o ∧ o.cls = .type "StopIteration") → E (.ref e) { s with heap := h' } := fun h' e k ho =>
  hE h' e (fun c o hc' x => k c o (fun q => hc' (by simp [q])) (fun q => hc' (by simp [q])) (fun q => hc' (by simp [q])) (fun q => hc' (by simp [q])) x) ho
 refine wpAny_bind (wpAny_callSpecial?_slot (name := Str.ofString "__next__") hT F.slot_zip_next (wpAny_call_entry F.slot_zip_next hT F.entry_zip_next ?_ (F.args_zip_next_1 _)))
 refine wpAny_bind (m := field (.ref z) 2) (wpAny_field hz rfl (x := .bool false) rfl ?_)
 refine wpAny_bind (m := field (.ref z) 3) (wpAny_field hz rfl (x := .ref TI) rfl ?_)
 refine wpAny_bind (wpAny_seqItems hTI rfl ?_)
 refine wpAny_bind (m := Builtin.SmallTypes.ownedTupleIsFree (.ref z)) (z_free hz hf ?_ fun h0 g' hz0 hs0 => ?_)
 ·simp only [if_true]
  refine wpAny_bind (wpAny_rule ?_)
  refine wpAny_bind (wpAny_field hz rfl (x := .ref TO) rfl ?_)
  refine wpAny_bind (wpAny_setField_rec hz (by simp) fun ha hza hsa => ?_)
  replace hza : IsZ ha z TI TO .ellipsis g := hza
  refine wpAny_bind ?_
  simp only [List.zipIdx_cons, List.zipIdx_nil, List.forIn_cons, List.forIn_nil]
  refine wpAny_bind (wpAny_bind (wpAny_onRaise ?_))
  cases hx : xs[k]? with
  | none =>
   refine wpAny_bind (m := Builtin.SmallTypes.nextOf (.ref i1)) (nx_end (s := { s with heap := ha }) hh (h1.ext hsa D.i1z D.l1z) hx fun hb e hsb he => ?_)
   obtain ⟨oe, hoe, hce⟩ := he
   have hzb : IsZ hb z TI TO .ellipsis g := hsb _ _ D.i1z.symm hza
   have hez : e ≠ z := fun q => by subst q; unfold IsZ at hzb; rw [hzb] at hoe; cases hoe; simp at hce
   refine wpAny_setField_rec hzb (by simp) fun hc _ hsc => fin hc e (fun c o n1 _ n3 _ q => hsc.extBut _ _ n1 (hsb _ _ n3 (hsa.extBut _ _ n1 q))) ⟨oe, hsc.extBut _ _ hez hoe, hce⟩
  | some x =>
   have hy : ys[k]? = none := by rcases hend with h | h; rw [hx] at h; cases h; exact h
   refine wpAny_bind (m := Builtin.SmallTypes.nextOf (.ref i1)) (nx_item (s := { s with heap := ha }) (h1.ext hsa D.i1z D.l1z) D.l1i1 hx fun hb h1b hsb => wpAny_pure ?_)
   have hTOb : IsPair hb TO a b := hsb.extBut _ _ D.TOi1 (hsa.extBut _ _ D.TOz hTO)
   refine wpAny_bind (wpAny_seqItems hTOb rfl ?_)
   refine wpAny_bind (wpAny_updateSeq_pair hTOb fun hc hTOc hsc => ?_)
   refine wpAny_bind (wpAny_letGo (wpAny_pure ?_))
   refine wpAny_bind (wpAny_bind (wpAny_onRaise ?_))
   refine wpAny_bind (m := Builtin.SmallTypes.nextOf (.ref i2)) (nx_end (s := { s with heap := hc }) hh (((h2.ext hsa D.i2z D.l2z).ext hsb D.i12.symm D.l2i1).ext hsc D.TOi2.symm D.l2TO) hy fun hd e hsd he => ?_)
   obtain ⟨oe, hoe, hce⟩ := he
   have hzd : IsZ hd z TI TO .ellipsis g := hsd _ _ D.i2z.symm (hsc.extBut _ _ D.TOz.symm (hsb.extBut _ _ D.i1z.symm hza))
   have hez : e ≠ z := fun q => by subst q; unfold IsZ at hzd; rw [hzd] at hoe; cases hoe; simp at hce
   refine wpAny_setField_rec hzd (by simp) fun he _ hse => fin he e (fun c o n1 n2 n3 n4 q => hse.extBut _ _ n1 (hsd _ _ n4 (hsc.extBut _ _ n2 (hsb.extBut _ _ n3 (hsa.extBut _ _ n1 q))))) ⟨oe, hse.extBut _ _ hez hoe, hce⟩
 ·simp only [Bool.false_eq_true, if_false]
  rw [← Array.forIn_toList]
  simp only [List.forIn_cons, List.forIn_nil]
  refine wpAny_bind (wpAny_bind (wpAny_bind (wpAny_holding ?_)))
  cases hx : xs[k]? with
  | none =>
   refine wpAny_bind (m := Builtin.SmallTypes.nextOf (.ref i1)) (nx_end (s := { s with heap := h0 }) hh (h1.ext hs0 D.i1z D.l1z) hx fun hb e hsb he => ?_)
   exact fin hb e (fun c o n1 _ n3 _ q => hsb _ _ n3 (hs0.extBut _ _ n1 q)) he
  | some x =>
   have hy : ys[k]? = none := by rcases hend with h | h; rw [hx] at h; cases h; exact h
   refine wpAny_bind (m := Builtin.SmallTypes.nextOf (.ref i1)) (nx_item (s := { s with heap := h0 }) (h1.ext hs0 D.i1z D.l1z) D.l1i1 hx fun hb h1b hsb => wpAny_pure ?_)
   refine wpAny_pure ?_
   refine wpAny_bind (wpAny_bind (wpAny_holding ?_))
   refine wpAny_bind (m := Builtin.SmallTypes.nextOf (.ref i2)) (nx_end (s := { s with heap := hb }) hh ((h2.ext hs0 D.i2z D.l2z).ext hsb D.i12.symm D.l2i1) hy fun hd e hsd he => ?_)
   exact fin hd e (fun c o n1 _ n3 n4 q => hsd _ _ n4 (hsb.extBut _ _ n3 (hs0.extBut _ _ n1 q))) he
theorem en_item {e it : Addr} {i : Nat} {old : Value} {Q : Option Value → Shared → Prop} {RR : Value → Heap → Prop} (he : IsEnum s.heap e it i old)
  (hin : ∀ (Q' : Value → Shared → Prop) (E' : Value → Shared → Prop), (∀ x h1, RR x h1 → Q' x { s with heap := h1 }) → wpAny (model prog w) A.in1 (Builtin.SmallTypes.nextOf (.ref it)) Q' E' s)
  (hR : ∀ x h1, RR x h1 → IsEnum h1 e it i old)
  (hQ : ∀ x h1 h', RR x h1 → IsEnumOut h' e it ((i : Int) + 1) x h1.objs.size → h'.get? h1.objs.size = some { cls := .type "tuple", data := .seq #[.int i s.toks, x] } → h'.objs.size = h1.objs.size + 1 →
   (∀ b o, b ≠ e → h1.get? b = some o → h'.get? b = some o) → Q (some (.ref h1.objs.size)) { s with heap := h', toks := s.toks + 1 }) : wpAny (model prog w) A (pyNext (.ref e)) Q E s := by
 obtain ⟨hp, gn, d, tk, os⟩ := s
 have hT : Shared.TypeIs ⟨hp, gn, d, tk, os⟩ (.ref e) "enumerate" := ⟨_, he, rfl⟩
 unfold pyNext
 refine wpAny_bind (wpAny_attempt (wpAny_callSpecial?_slot (name := Str.ofString "__next__") hT F.slot_enumerate_next (wpAny_call_entry F.slot_enumerate_next hT F.entry_enumerate_next ?_ (F.args_enumerate_next_1 _))))
 refine wpAny_bind (m := field (.ref e) 2) (wpAny_field he rfl (x := .ref it) rfl ?_)
 refine wpAny_bind (hin _ _ fun x h1 rr => ?_)
 have e1 := hR x h1 rr
 refine wpAny_bind (m := field (.ref e) 3) (wpAny_field e1 rfl (x := rawInt i) rfl ?_)
 refine wpAny_bind (m := field (.ref e) 4) (wpAny_field e1 rfl (x := .none) rfl ?_)
 refine wpAny_bind (m := mkInt i) (wpAny_mkInt ?_)
 refine wpAny_bind (m := setField (.ref e) 3 (rawInt ((i : Int) + 1))) (wpAny_setField_rec e1 (by simp) fun h2 e2 s2 => ?_)
 replace e2 : IsEnum h2 e it ((i : Int) + 1) old := e2
 refine wpAny_bind (m := setField (.ref e) 4 .none) (wpAny_setField_rec e2 (by simp) fun h3 e3 s3 => ?_)
 replace e3 : IsEnum h3 e it ((i : Int) + 1) old := e3
 refine wpAny_bind (m := newTuple [.int i tk, x]) (wpAny_newTuple ?_)
 have z3 : h3.objs.size = h1.objs.size := by rw [s3.1, s2.1]
 have elt : e < h3.objs.size := Heap.lt_size e3
 have e4 : IsEnum (h3.push { cls := .type "tuple", data := .seq #[.int i tk, x] }) e it ((i : Int) + 1) old := Heap.get?_push_of_some _ e3
 refine wpAny_bind (m := Builtin.SmallTypes.ownedTupleIsFree (.ref e)) ?_
 unfold Builtin.SmallTypes.ownedTupleIsFree
 refine wpAny_bind (wpAny_field e4 rfl (x := .none) rfl (wpAny_pure ?_))
 simp only [if_true]
 refine wpAny_bind (wpAny_rule ?_)
 refine wpAny_bind (wpAny_field e4 rfl (x := old) rfl ?_)
 refine wpAny_bind (wpAny_setField_rec e4 (by simp) fun h5 e5 s5 => ?_)
 replace e5 : IsEnum h5 e it ((i : Int) + 1) x := e5
 refine wpAny_bind (m := Builtin.SmallTypes.ownedTupleHandOut (.ref e) (.ref h3.objs.size)) ?_
 unfold Builtin.SmallTypes.ownedTupleHandOut
 refine wpAny_bind (wpAny_setField_rec e5 (by simp) fun h6 e6 s6 => ?_)
 replace e6 : IsEnumOut h6 e it ((i : Int) + 1) x h3.objs.size := e6
 refine wpAny_setField_rec e6 (by simp) fun h7 e7 s7 => ?_
 replace e7 : IsEnumOut h7 e it ((i : Int) + 1) x h3.objs.size := e7
 have up : ∀ b o, b ≠ e → (h3.push { cls := .type "tuple", data := .seq #[.int i tk, x] }).get? b = some o → h7.get? b = some o := fun b o n q => s7.extBut _ _ n (s6.extBut _ _ n (s5.extBut _ _ n q))
 have new : h7.get? h3.objs.size = some { cls := .type "tuple", data := .seq #[.int i tk, x] } := up _ _ (Nat.ne_of_gt elt) (Heap.get?_push_size _ rfl)
 have sz : h7.objs.size = h3.objs.size + 1 := by rw [s7.1, s6.1, s5.1, Heap.size_push]
 refine wpAny_bind (wpAny_letGo (wpAny_pure ⟨_, rfl, wpAny_pure ?_⟩))
 rw [z3] at e7 new sz
 show Q (some (.ref h3.objs.size)) _
 rw [z3]
 exact hQ x h1 h7 rr e7 new sz fun b o n q => up b o n (Heap.get?_push_of_some _ (s3.extBut _ _ n (s2.extBut _ _ n q)))
theorem en_end {e it : Addr} {i : Int} {old : Value} {Q : Option Value → Shared → Prop} {RE : Heap → Prop} (he : IsEnum s.heap e it i old)
  (hin : ∀ (Q' : Value → Shared → Prop) (E' : Value → Shared → Prop), (∀ h' x, RE h' → (∃ o, h'.get? x = some o ∧ o.cls = .type "StopIteration") → E' (.ref x) { s with heap := h' }) → wpAny (model prog w) A.in1 (Builtin.SmallTypes.nextOf (.ref it)) Q' E' s)
  (hQ : ∀ h', RE h' → Q none { s with heap := h' }) : wpAny (model prog w) A (pyNext (.ref e)) Q E s := by
 have hT : s.TypeIs (.ref e) "enumerate" := ⟨_, he, rfl⟩
 unfold pyNext
 refine wpAny_bind (wpAny_attempt (wpAny_callSpecial?_slot (name := Str.ofString "__next__") hT F.slot_enumerate_next (wpAny_call_entry F.slot_enumerate_next hT F.entry_enumerate_next ?_ (F.args_enumerate_next_1 _))))
 refine wpAny_bind (m := field (.ref e) 2) (wpAny_field he rfl (x := .ref it) rfl ?_)
 refine wpAny_bind (hin _ _ fun h' x re hx => ?_)
 obtain ⟨o, ho, hc⟩ := hx
 refine wpAny_bind (wpAny_isInstance (T := "StopIteration") (b := true) ⟨o, ho, hc⟩ isSubtype_stop ?_)
 exact wpAny_pure (hQ _ re)
theorem enum_newZ (z TI TO : Addr) :
  Meets (Builtin.«enumerate.__new__» ⟨[.type "enumerate", .ref z], []⟩) (fun _ R s => IsZip s.heap z TI TO .none ∧ R (.ok (.ret (.ref s.heap.objs.size)))
    { s with heap := s.heap.push { cls := .type "enumerate", data := .fields #[.none, .bool false, .ref z, rawInt 0, .none, .none] } }) :=
 .of_wp fun prog w A R s h => by
  obtain ⟨hp, gn, d, tk, os⟩ := s
  obtain ⟨hl, h⟩ := h
  have sub := sub_enumerate
  have itz : ∀ {A' : Around} {Q : Value → Shared → Prop} {E : Value → Shared → Prop}, Q (.ref z) ⟨hp, gn, d, tk, os⟩ → wpAny (model prog w) A' (pyIter (.ref z)) Q E ⟨hp, gn, d, tk, os⟩ := fun hq => wpAny_pyIter_zip (s := ⟨hp, gn, d, tk, os⟩) hl hq
  wp_walk using AutoSeq1.wpAny_loadPart' hl
  refine wpAny_stack_any fun st => wpAny_pure ?_
  split
  ·rename_i c _ _ _ _ _
   cases (c == Value.type "enumerate") <;> (wp_walk using AutoSeq1.wpAny_loadPart' hl, itz; exact ⟨_, rfl, h⟩)
  ·wp_walk using AutoSeq1.wpAny_loadPart' hl, itz
   exact ⟨_, rfl, h⟩
theorem call_enumZ {z TI TO : Addr} {Q : Value → Shared → Prop} (hz : IsZip s.heap z TI TO .none)
  (h : ∀ h', IsEnum h' s.heap.objs.size z 0 .none → (∀ b o, s.heap.get? b = some o → h'.get? b = some o) → Q (.ref s.heap.objs.size) { s with heap := h' }) : wpAny (model prog w) A (call (.type "enumerate") [.ref z]) Q E s := by
 refine callType_new F.called_enumerate (by decide) (F.typeCall_enumerate_1 _) (F.newCall_enumerate_1 _) (fun obj => F.args_object_init_2 obj _) F.entry_enumerate_new (enum_newZ z TI TO) ⟨hz, ?_⟩
 have made := Heap.get?_push_size s.heap (o := { cls := .type "enumerate", data := .fields #[.none, .bool false, .ref z, rawInt 0, .none, .none] }) rfl
 exact ⟨⟨_, made, rfl⟩, h _ made fun b o q => Heap.get?_push_of_some _ q⟩
end
noncomputable def Itez (c1 c2 : String) (a b : Addr) (xs ys : List V) : It :=
 ⟨fun i H => SqC H c1 a xs ∧ SqC H c2 b ys ∧ i < xs.length ∧ i < ys.length, fun i H x H' => ∃ T1 T2 u v, x = .ref T2 ∧ H T1 = none ∧ H T2 = none ∧ T2 ≠ T1 ∧ H' = upd (upd H T1 (.tup [u, v])) T2 (.tup [.int (i : Int), .ref T1]) ∧ xs[i]? = some u ∧ ys[i]? = some v, fun i H => SqC H c1 a xs ∧ SqC H c2 b ys ∧ (xs.length ≤ i ∨ ys.length ≤ i)⟩
structure Ez (h : Heap) (e z TI TO i1 i2 : Addr) (c1 c2 : String) (l1 l2 : Addr) (k : Nat) : Prop where
 en : ∃ old, IsEnum h e z (k : Int) old
 zip : ∃ f g, IsZ h z TI TO f g ∧ OutV f
 ti : IsPair h TI (.ref i1) (.ref i2)
 to : ∃ a b, IsPair h TO a b
 s1 : (c1 = "list_iterator" ∧ h.IsListIter i1 l1 k) ∨ (c1 = "tuple_iterator" ∧ h.IsTupleIter i1 l1 k)
 s2 : (c2 = "list_iterator" ∧ h.IsListIter i2 l2 k) ∨ (c2 = "tuple_iterator" ∧ h.IsTupleIter i2 l2 k)
theorem turn_ez {P : Program} {w : World} {K : PySem.W.Frag} {es : List Expr} {tk : _} {tp : Pos} (e z TI TO i1 i2 l1 l2 : Addr) (c1 c2 : String) (xs ys : List V) (D : ZipApart z TI TO i1 i2 l1 l2) (ne : e ∉ [z, TI, TO, i1, i2]) :
  Turn P w K (.Tuple es tk tp) (Itez c1 c2 l1 l2 xs ys) [e, z, TI, TO, i1, i2] e (fun i h => Ez h e z TI TO i1 i2 c1 c2 l1 l2 i) where
 mem := by simp
 obj := fun i h st b hb => by
  obtain ⟨⟨old, he⟩, ⟨f, g, hz, _⟩, hti, ⟨a, c, hto⟩, h1, h2⟩ := st
  simp only [List.mem_cons, List.not_mem_nil, or_false] at hb
  rcases hb with rfl | rfl | rfl | rfl | rfl | rfl
  ·exact ⟨_, he, fun v q => by cases (show Data.fields _ = Data.cell v from q)⟩
  ·exact ⟨_, hz, fun v q => by cases (show Data.fields _ = Data.cell v from q)⟩
  ·exact ⟨_, hti, fun v q => by cases (show Data.seq _ _ = Data.cell v from q)⟩
  ·exact ⟨_, hto, fun v q => by cases (show Data.seq _ _ = Data.cell v from q)⟩
  ·exact it_obj h1
  ·exact it_obj h2
 keep := fun i h h' st k => by
  obtain ⟨⟨old, he⟩, ⟨f, g, hz, hf⟩, hti, ⟨a, c, hto⟩, h1, h2⟩ := st
  exact ⟨⟨old, k e (by simp) _ he⟩, ⟨f, g, k z (by simp) _ hz, hf⟩, k TI (by simp) _ hti, ⟨a, c, k TO (by simp) _ hto⟩, it_at h1 fun o q => k i1 (by simp) o q, it_at h2 fun o q => k i2 (by simp) o q⟩
 item := by
  intro X hP hw hK hc i pins s σ H E I hf st hg
  subst hP hw hK
  obtain ⟨q1, q2, hi1, hi2⟩ := hg
  obtain ⟨its1, r1, o1⟩ := I.seqOf q1
  obtain ⟨its2, r2, o2⟩ := I.seqOf q2
  obtain ⟨x, hx⟩ := getlen hi1
  obtain ⟨y, hy⟩ := getlen hi2
  obtain ⟨u, hu, ru⟩ := r1.get hx
  obtain ⟨v, hv, rv⟩ := r2.get hy
  obtain ⟨⟨old, he⟩, ⟨f, g, hz, hfo⟩, hti, hto, h1, h2⟩ := id st
  have lt : ∀ b ∈ [e, z, TI, TO, i1, i2], b < s.heap.objs.size := fun b hb => by
   simp only [List.mem_cons, List.not_mem_nil, or_false] at hb
   rcases hb with rfl | rfl | rfl | rfl | rfl | rfl
   ·exact Heap.lt_size he
   ·exact Heap.lt_size hz
   ·exact Heap.lt_size hti
   ·obtain ⟨_, _, q⟩ := hto; exact Heap.lt_size q
   ·obtain ⟨o, q, _⟩ := it_obj h1; exact Heap.lt_size q
   ·obtain ⟨o, q, _⟩ := it_obj h2; exact Heap.lt_size q
  refine en_item (RR := fun x' h1' => x' = .ref s.heap.objs.size ∧ (∃ f' g', IsZ h1' z TI TO f' g' ∧ OutV f') ∧ IsPair h1' TI (.ref i1) (.ref i2) ∧ (∃ a b, IsPair h1' TO a b) ∧ Src h1' c1 i1 l1 its1.toArray (i + 1) ∧ Src h1' c2 i2 l2 its2.toArray (i + 1) ∧ IsPair h1' s.heap.objs.size u v ∧ h1'.objs.size = s.heap.objs.size + 1 ∧ ∀ c o, c ∉ [z, TO, i1, i2] → s.heap.get? c = some o → h1'.get? c = some o) he
   (fun Q' E' hq => zn_item D hz hfo hti hto (src_of h1 o1) (src_of h2 o2) (by simpa using hu) (by simpa using hv) fun h' f' g' a1 a2 a3 a4 a5 a6 a7 a8 a9 => hq _ h' ⟨rfl, ⟨f', g', a1, a2⟩, a3, a4, a5, a6, a7, a8, a9⟩)
   (fun x' h1' rr => rr.2.2.2.2.2.2.2.2 e _ (fun q => ne (by simp only [List.mem_cons, List.not_mem_nil, or_false] at q ⊢; rcases q with q | q | q | q <;> simp [q])) he)
   fun x' h1' h' rr out new size k => ?_
  obtain ⟨rfl, ⟨f', g', zz, ff⟩, ti', to', s1', s2', pr, sz1, k1⟩ := rr
  refine ⟨_, rfl, wpAny_letOwnedTupleGo_enum out fun h'' z'' sb => ?_⟩
  have nT1 : s.heap.objs.size ∉ [e, z, TI, TO, i1, i2] := fun hb => Nat.lt_irrefl _ (lt _ hb)
  have nT2 : h1'.objs.size ∉ [e, z, TI, TO, i1, i2] := fun hb => absurd (lt _ hb) (by rw [sz1]; exact Nat.not_lt_of_le (Nat.le_succ _))
  have nm : ∀ {c : Addr}, c ∉ [e, z, TI, TO, i1, i2] → c ∉ [z, TO, i1, i2] ∧ c ≠ e := fun h => ⟨fun q => h (by simp only [List.mem_cons, List.not_mem_nil, or_false] at q ⊢; rcases q with q | q | q | q <;> simp [q]), fun q => h (by simp [q])⟩
  have kk : ∀ c o, c ≠ e → h1'.get? c = some o → h''.get? c = some o := fun c o n q => sb.extBut _ _ n (k c o n q)
  have J1 := I.turnedT (fp := [e, z, TI, TO, i1, i2]) (h' := h1') (T := s.heap.objs.size) (xs := [x, y]) (us := [u, v]) (t' := s.toks) hf (fun c o hc' q => k1 c o (nm hc').1 q) (Nat.le_refl _) (by show 2 ≤ sizeLine; decide) (.cons ru (.cons rv .nil)) ⟨_, pr, rfl, _, rfl⟩ nT1
  have hf1 : ∀ b ∈ [e, z, TI, TO, i1, i2], FpOk X pins (upd H s.heap.objs.size (.tup [x, y])) b := fun b hb => ⟨by rw [upd_ne (Nat.ne_of_lt (lt b hb))]; exact (hf b hb).1, (hf b hb).2⟩
  have J2 := J1.turnedT (fp := [e, z, TI, TO, i1, i2]) (h' := h'') (T := h1'.objs.size) (xs := [.int (i : Int), .ref s.heap.objs.size]) (us := [.int i s.toks, .ref s.heap.objs.size]) (t' := s.toks + 1) hf1 (fun c o hc' q => kk c o (nm hc').2 q) (Nat.le_refl _) (by show 2 ≤ sizeLine; decide) (.cons ⟨s.toks, rfl⟩ (.cons rfl .nil)) ⟨_, sb.extBut _ _ (nm nT2).2 new, rfl, _, rfl⟩ nT2
  have ez : ∀ {c : Addr}, c ∈ [z, TI, TO, i1, i2] → c ≠ e := fun h q => ne (q ▸ h)
  refine ⟨.ref h1'.objs.size, _, J2, rfl, ⟨s.heap.objs.size, h1'.objs.size, x, y, rfl, I.hok.fresh (Nat.le_refl _), I.hok.fresh (by rw [sz1]; exact Nat.le_succ _), by rw [sz1]; exact Nat.succ_ne_self _, rfl, hx, hy⟩, ⟨⟨_, z''⟩, ⟨f', g', kk _ _ (ez (by simp)) zz, ff⟩, kk _ _ (ez (by simp)) ti', ?_, it_at (of_src s1') fun o q => kk _ _ (ez (by simp)) q, it_at (of_src s2') fun o q => kk _ _ (ez (by simp)) q⟩, fun b hb => ?_⟩
  ·obtain ⟨a, c, q⟩ := to'
   exact ⟨a, c, kk _ _ (ez (by simp)) q⟩
  ·have hlt := lt b hb
   rw [upd_ne (Nat.ne_of_lt (by rw [sz1]; exact Nat.lt_succ_of_lt hlt)), upd_ne (Nat.ne_of_lt hlt)]
   exact (hf b hb).1
 done := by
  intro X hP hw hK hc i pins s σ H E I hf st hg
  subst hP hw hK
  obtain ⟨q1, q2, hend⟩ := hg
  obtain ⟨its1, r1, o1⟩ := I.seqOf q1
  obtain ⟨its2, r2, o2⟩ := I.seqOf q2
  obtain ⟨⟨old, he⟩, ⟨f, g, hz, hfo⟩, hti, hto, h1, h2⟩ := id st
  have l1' := r1.length
  have l2' := r2.length
  refine en_end (RE := fun h' => ∀ c o, c ∉ [z, TO, i1, i2] → s.heap.get? c = some o → h'.get? c = some o) he (fun Q' E' hE => zn_end (I.ok.hd hc) D hz hfo hti hto (src_of h1 o1) (src_of h2 o2) (hend.imp (fun q => by simp; omega) fun q => by simp; omega) fun h' x k hx => hE h' x k hx) fun h' k => ?_
  exact ⟨rfl, I.turnedN (fp := [e, z, TI, TO, i1, i2]) hf fun c o hc' q => k c o (fun q => hc' (by simp only [List.mem_cons, List.not_mem_nil, or_false] at q ⊢; rcases q with q | q | q | q <;> simp [q])) q⟩
 self := fun A i s Q E st h => by
  obtain ⟨⟨old, he⟩, _⟩ := st
  exact wpAny_pyIter_enum he h
section
variable {X : Cx}
noncomputable def iEz (ta : TA) : TI := fun σ H R => ta σ H fun vs H1 => ∃ a b c1 c2 xs ys, vs = [.ref a, .ref b] ∧ SqC H1 c1 a xs ∧ SqC H1 c2 b ys ∧ R (Itez c1 c2 a b xs ys) H1
theorem pi_ez {es : List Expr} {kk : _} {tp : Pos} {a b : Expr} {ta : TA} {p pos p2 pos2 : Pos} (hg : Gl X "enumerate") (hm : X.mg "enumerate" = none) (hg2 : Gl X "zip") (hm2 : X.mg "zip" = none) (ha : PA X [a, b] ta) (hs : starEach [a, b] X.env = [(false, eval a X.env), (false, eval b X.env)] := by rfl) (hs2 : starEach [b] X.env = [(false, eval b X.env)] := by rfl)
  (hs3 : starEach [.Call (.Name "zip" p2) [a, b] [] pos2] X.env = [(false, eval (.Call (.Name "zip" p2) [a, b] [] pos2) X.env)] := by rfl) :
  PI X (.Tuple es kk tp) (.Call (.Name "enumerate" p) [.Call (.Name "zip" p2) [a, b] [] pos2] [] pos) (iEz ta) := by
 intro pins s σ H R I h
 refine Call_ (ld_blt I hg hm bt_enumerate (PyProof.Rows.callWith_type1 ?_ hs3 rfl))
 rw [hs3]
 show wpAny _ _ (spliced ((false, eval (.Call (.Name "zip" p2) [a, b] [] pos2) X.env) :: backTo pos [])) _ _ s
 refine Calls.spliced_cons ?_
 refine Call_ (ld_blt I hg2 hm2 bt_zip (PyProof.Rows.callWith_type1 (thn (ha pos2 pins s σ H _ I h) fun us s1 ⟨vs, H1, I1, r1, q1⟩ => ?_) (by rw [hs, hs2]) (by rw [hs2]; rfl)))
 obtain ⟨l1, l2, c1, c2, xs, ys, ee, k1, k2, q⟩ := q1
 subst ee
 obtain ⟨u1, u2, rfl, e1, e2⟩ := r1.two
 cases e1
 cases e2
 obtain ⟨its1, v1, o1⟩ := I1.seqOf k1
 obtain ⟨its2, v2, o2⟩ := I1.seqOf k2
 have lt1 : (l1 : Nat) < (s1.heap.objs.size : Nat) := o1.lt
 have lt2 : (l2 : Nat) < (s1.heap.objs.size : Nat) := o2.lt
 refine call_zip o1 o2 fun h' Z sz old => ?_
 refine wpAny_pure ?_
 refine call_enumZ Z.zip fun h2 he2 old2 => ?_
 refine wpAny_pyIter_enum he2 ?_
 have D : ZipApart (s1.heap.objs.size + 4) (s1.heap.objs.size + 2) (s1.heap.objs.size + 3) s1.heap.objs.size (s1.heap.objs.size + 1) l1 l2 := PySem.W.ktu_apart _ _ _ o1.lt o2.lt
 have J : Inv X pins σ H1 { s1 with heap := h2 } := I1.kept (t' := s1.toks) fun b o q => old2 b o (old b o q)
 have eh : ({ s1 with heap := h' } : Shared).heap.objs.size = s1.heap.objs.size + 5 := sz
 rw [eh] at he2
 refine ⟨s1.heap.objs.size + 5, _, _, _, H1, by rw [eh], J, turn_ez (s1.heap.objs.size + 5) (s1.heap.objs.size + 4) (s1.heap.objs.size + 2) (s1.heap.objs.size + 3) s1.heap.objs.size (s1.heap.objs.size + 1) l1 l2 c1 c2 xs ys D (by simp), ⟨⟨_, he2⟩, ⟨_, _, old2 _ _ Z.zip, .inl rfl⟩, old2 _ _ Z.ti, ?_, it_at (of_src Z.s1) fun o q => old2 _ o q, it_at (of_src Z.s2) fun o q => old2 _ o q⟩, fun b hb => ?_, q⟩
 ·obtain ⟨x, y, q⟩ := Z.to
  exact ⟨x, y, old2 _ _ q⟩
 ·have hb' : s1.heap.objs.size ≤ b := by
   simp only [List.mem_cons, List.not_mem_nil, or_false] at hb
   rcases hb with rfl | rfl | rfl | rfl | rfl | rfl <;> first | exact Nat.le_add_right _ _ | exact Nat.le_refl _
  exact I1.fpOk hb' (I1.hok.fresh hb')
theorem cl_ez {c1 c2 : String} {a b : Addr} {xs ys : List V} {g : TG} {tc : TT} {tb : TB} {D : St → Hp → Prop} {σ : St} {H : Hp} (Pv : Nat → St → Hp → Prop) (h0 : Pv 0 σ H) (hl : ∀ i σ H, Pv i σ H → SqC H c1 a xs ∧ SqC H c2 b ys)
  (hs : ∀ (i : Nat) u v (T1 T2 : Addr) σ H H', xs[i]? = some u → ys[i]? = some v → Pv i σ H → Same H H' → H' T1 = some (.tup [u, v]) → H' T2 = some (.tup [.int (i : Int), .ref T1]) → g (.ref T2) σ H' fun σ2 H2 => tc σ2 H2 fun b H3 => if b = true then tb σ2 H3 (Pv (i + 1)) else Pv (i + 1) σ2 H3)
  (hd : ∀ σ H, Pv (min xs.length ys.length) σ H → D σ H) : tCL (Itez c1 c2 a b xs ys) g tc tb D σ H := by
 refine ⟨fun i m σ H => m = min xs.length ys.length - i ∧ i ≤ min xs.length ys.length ∧ Pv i σ H, ⟨min xs.length ys.length, by simp, Nat.zero_le _, h0⟩, ?_⟩
 rintro i m σ H ⟨rfl, hi, p⟩
 obtain ⟨q1, q2⟩ := hl i σ H p
 by_cases hlt : i < min xs.length ys.length
 ·refine .inr ⟨⟨q1, q2, by omega, by omega⟩, Pv (i + 1), fun σ' H' p' => ⟨min xs.length ys.length - (i + 1), by omega, rfl, hlt, p'⟩, fun x H' y => ?_⟩
  obtain ⟨T1, T2, u, v, rfl, n1, n2, nn, rfl, e1, e2⟩ := y
  have n2' : upd H T1 (.tup [u, v]) T2 = none := by rw [upd_ne nn]; exact n2
  exact hs i u v T1 T2 σ H _ e1 e2 p ((same_upd n1).trans (same_upd n2')) (by rw [upd_ne nn.symm, upd_same]) upd_same
 ·have e : i = min xs.length ys.length := by omega
  subst e
  exact .inl ⟨⟨q1, q2, by omega⟩, hd σ H p⟩
theorem a_iEz {ta : TA} {σ : St} {H : Hp} {R : It → Hp → Prop} : iEz ta σ H R = ta σ H fun vs H1 => ∃ a b c1 c2 xs ys, vs = [.ref a, .ref b] ∧ SqC H1 c1 a xs ∧ SqC H1 c2 b ys ∧ R (Itez c1 c2 a b xs ys) H1 := rfl
end
end L2
end
section
set_option Elab.async false
set_option linter.all false
namespace L2
open PySem
section
variable {D : Ends} {σ : St} {H : Hp} {Q : VK} {QB : Bool → Hp → Prop} {QA : List V → Hp → Prop}
end
end L2
namespace L2
theorem us0 {P : List PySem.Value → Prop} (h : P []) : ∀ us : List PySem.Value, us.length = 0 → P us := fun us e => by
 cases us with
 | nil => exact h
 | cons _ _ => cases e
theorem us1 {P : List PySem.Value → Prop} (h : ∀ a, P [a]) : ∀ us : List PySem.Value, us.length = 1 → P us := fun us e => by
 cases us with
 | nil => cases e
 | cons a t => exact us0 (P := fun t => P (a :: t)) (h a) t (Nat.succ.inj e)
theorem us2 {P : List PySem.Value → Prop} (h : ∀ a b, P [a, b]) : ∀ us : List PySem.Value, us.length = 2 → P us := fun us e => by
 cases us with
 | nil => cases e
 | cons a t => exact us1 (P := fun t => P (a :: t)) (h a) t (Nat.succ.inj e)
theorem us3 {P : List PySem.Value → Prop} (h : ∀ a b c, P [a, b, c]) : ∀ us : List PySem.Value, us.length = 3 → P us := fun us e => by
 cases us with
 | nil => cases e
 | cons a t => exact us2 (P := fun t => P (a :: t)) (h a) t (Nat.succ.inj e)
end L2
end
section
set_option Elab.async false
set_option linter.all false
set_option maxRecDepth 100000
namespace L2
open PySem PySem.Spec PyProof.Rows
section
variable {X : Cx}
theorem mt_index {pins : List (Addr × Obj)} {s : Shared} {σ : St} {H : Hp} {l : Addr} {ns : List Int} {v : Int} {t : Tok} {Q : VK} (I : Inv X pins σ H s) (hH : H l = some (.lst (ns.map V.int))) (hv : v ∈ ns) (q : Q (.int (ns.idxOf v : Nat)) H) :
  wpAny (model X.prog X.w) X.A (call (.builtin "list.index") [.ref l, .int v t]) (EP X pins σ Q) X.xe s := by
 obtain ⟨z, its, n, r, hl, e⟩ := I.lstM hH
 rw [List.length_map] at hl z
 have itsI : ∀ (j : Nat) (hj : j < its.length), ∃ u, its[j] = .int (ns.getD j 0) u := fun j hj => vals_int_get r (i := j) (v := its[j]) (by simp [hj])
 have jlt : ns.idxOf v < ns.length := List.idxOf_lt_length_of_mem hv
 have jv : ns.getD (ns.idxOf v) 0 = v := by
  have := List.getElem_idxOf jlt
  simpa [List.getD_eq_getElem?_getD, jlt] using this
 have sl : sizeLine < 2 ^ 62 := by decide
 refine call_meets F.slot_list_index ⟨_, e, rfl⟩ F.entry_list_index (F.args_list_index_2 _ _) (SeqAt.list_indexAt l its.toArray n _ _ (.int v t) (isV v) (ns.idxOf v) (by rw [List.size_toArray, ← hl]; exact jlt) (by omega) ?_ (fun m hm hlt => ?_)) ⟨e, fun y hy => ?_, ?_⟩
 ·obtain ⟨u, eu⟩ := itsI (ns.idxOf v) (by rw [← hl]; exact jlt)
  simp only [List.getElem_toArray]
  rw [eu, jv]
  simp [isV]
 ·have hm' : m < its.length := by simpa using hm
  obtain ⟨u, eu⟩ := itsI m hm'
  simp only [List.getElem_toArray]
  rw [eu]
  have nm : ns.getD m 0 ≠ v := idx_before hlt (by omega)
  simpa [isV] using nm
 ·obtain ⟨j, hj, rfl⟩ := List.mem_iff_getElem.mp (show y ∈ its by simpa using hy)
  obtain ⟨u, eu⟩ := itsI j hj
  rw [eu]
  exact (MeetsSeq.EqGives.int _ _ _ _).at _ _
 ·exact ⟨.int (ns.idxOf v : Nat), H, I.tok _, ⟨_, rfl⟩, q⟩
noncomputable def tIdx (to : TE) (t : TA) : TE := fun σ H Q => to σ H fun x H1 => ∃ l xs0, x = .ref l ∧ H1 l = some (.lst xs0) ∧ t σ H1 fun vs H2 => ∃ (ns : List Int) (v : Int), vs = [.int v] ∧ H2 l = some (.lst (ns.map V.int)) ∧ v ∈ ns ∧ Q (.int (ns.idxOf v : Nat)) H2
theorem pe_index {o e : Expr} {to : TE} {t : TA} {apos cpos : Pos} (ho : PE X o to) (ha : PA X [e] t) (hbase : attributeBase o "index" X.env (eval o X.env) = eval o X.env := by rfl)
  (hfew : ((backTo cpos (starEach [e] X.env)).all (fun x => !x.1) && (backToKw cpos (keywordEach [] X.env)).all (fun x => x.1.isSome) && decide ([e].length + ([] : List Keyword).length + (if ([] : List Keyword).isEmpty then 0 else 1) < 30)) = true := by rfl)
  (hline : (apos.endLine == cpos.line) = true := by rfl) (hs : starEach [e] X.env = (false, eval e X.env) :: starEach [] X.env := by rfl) : PE X (.Call (.Attribute o "index" apos) [e] [] cpos) (tIdx to t) := by
 intro pins s σ H Q I h
 refine wpAny_Call_method_late hbase hfew hline rfl (thn (ho pins s σ H _ I h) fun v s1 ⟨x, H1, I1, r1, q1⟩ => ?_)
 obtain ⟨l, xs0, rfl, hl, q1⟩ := q1
 have ty : tyV X.K "list" (.ref l) H1 := .inl ⟨rfl, _, SqL.of hl⟩
 obtain ⟨h1, h2⟩ := tyV_is I1 r1 ty
 refine ⟨"list", "list.index", PySem.F.plainAttrs_list, PySem.F.slot_list_index, PySem.F.type_list_index, h1, h2, ?_⟩
 have hA := ha cpos pins s1 σ H1 _ I1 q1
 rw [hs] at hA ⊢
 refine Calls.callWith_builtin (by rfl) (Calls.evalArgs_plain ?_)
 refine thn hA fun us s2 ⟨vs, H2, I2, r2, ns, w, e, k, hv, q⟩ => ?_
 subst e
 obtain ⟨u, rfl, ru⟩ := r2.one
 obtain ⟨tk, rfl⟩ := ru
 cases r1
 exact mt_index I2 k hv q
theorem a_tIdx {to : TE} {t : TA} {σ : St} {H : Hp} {Q : VK} : tIdx to t σ H Q = to σ H fun x H1 => ∃ l xs0, x = .ref l ∧ H1 l = some (.lst xs0) ∧ t σ H1 fun vs H2 => ∃ (ns : List Int) (v : Int), vs = [.int v] ∧ H2 l = some (.lst (ns.map V.int)) ∧ v ∈ ns ∧ Q (.int (ns.idxOf v : Nat)) H2 := rfl
end
end L2
end
section
set_option Elab.async false
set_option linter.all false
set_option maxRecDepth 100000
namespace L2
open PySem PySem.Spec
section
variable {n : Nat} {p : Array Nat}
end
end L2
end
section
set_option Elab.async false
set_option linter.all false
set_option maxRecDepth 100000
namespace L2
open PySem PySem.Spec
open PyProof.Rows hiding Fr News
section
variable {prog : Program} {w : World} {s : Shared}
end
section
variable {X : Cx}
end
end L2
end
section
set_option Elab.async false
set_option linter.all false
set_option maxRecDepth 100000
namespace L2
open PySem PySem.Spec
open PyProof.Rows hiding Fr News
section
variable {prog : Program} {w : World} {A : Around} {E : Value → Shared → Prop} {s : Shared} {it d : Addr} {es : Array DictEntry} {ep : Nat}
end
section
variable {X : Cx}
end
end L2
end
section
set_option Elab.async false
set_option linter.all false
set_option maxRecDepth 100000
namespace L2
open PySem PySem.Spec PyProof.Rows
section
variable {D : Ends} {σ : St} {H : Hp} {Q : VK} {QB : Bool → Hp → Prop} {QA : List V → Hp → Prop} {QG : St → Hp → Prop}
theorem e_var {i : Nat} {v : V} (h : σ[i]? = some (some v)) : tVar i σ H Q = Q v H := propext ⟨fun ⟨_, e, q⟩ => by cases h.symm.trans e; exact q, fun q => ⟨v, h, q⟩⟩
theorem e_var0 {v : V} : tVar 0 (some v :: σ) H Q = Q v H := e_var rfl
theorem e_var1 {v : V} {b0 : Option V} : tVar 1 (b0 :: some v :: σ) H Q = Q v H := e_var rfl
theorem e_var2 {v : V} {b0 b1 : Option V} : tVar 2 (b0 :: b1 :: some v :: σ) H Q = Q v H := e_var rfl
theorem e_var3 {v : V} {b0 b1 b2 : Option V} : tVar 3 (b0 :: b1 :: b2 :: some v :: σ) H Q = Q v H := e_var rfl
theorem e_var4 {v : V} {b0 b1 b2 b3 : Option V} : tVar 4 (b0 :: b1 :: b2 :: b3 :: some v :: σ) H Q = Q v H := e_var rfl
theorem e_var5 {v : V} {b0 b1 b2 b3 b4 : Option V} : tVar 5 (b0 :: b1 :: b2 :: b3 :: b4 :: some v :: σ) H Q = Q v H := e_var rfl
theorem e_var6 {v : V} {b0 b1 b2 b3 b4 b5 : Option V} : tVar 6 (b0 :: b1 :: b2 :: b3 :: b4 :: b5 :: some v :: σ) H Q = Q v H := e_var rfl
theorem e_var7 {v : V} {b0 b1 b2 b3 b4 b5 b6 : Option V} : tVar 7 (b0 :: b1 :: b2 :: b3 :: b4 :: b5 :: b6 :: some v :: σ) H Q = Q v H := e_var rfl
theorem e_var8 {v : V} {b0 b1 b2 b3 b4 b5 b6 b7 : Option V} : tVar 8 (b0 :: b1 :: b2 :: b3 :: b4 :: b5 :: b6 :: b7 :: some v :: σ) H Q = Q v H := e_var rfl
theorem e_var9 {v : V} {b0 b1 b2 b3 b4 b5 b6 b7 b8 : Option V} : tVar 9 (b0 :: b1 :: b2 :: b3 :: b4 :: b5 :: b6 :: b7 :: b8 :: some v :: σ) H Q = Q v H := e_var rfl
theorem e_var10 {v : V} {b0 b1 b2 b3 b4 b5 b6 b7 b8 b9 : Option V} : tVar 10 (b0 :: b1 :: b2 :: b3 :: b4 :: b5 :: b6 :: b7 :: b8 :: b9 :: some v :: σ) H Q = Q v H := e_var rfl
theorem e_var11 {v : V} {b0 b1 b2 b3 b4 b5 b6 b7 b8 b9 b10 : Option V} : tVar 11 (b0 :: b1 :: b2 :: b3 :: b4 :: b5 :: b6 :: b7 :: b8 :: b9 :: b10 :: some v :: σ) H Q = Q v H := e_var rfl
theorem e_nam0 {v : V} {b0 : Option V} : gName 0 v (b0 :: σ) H QG = QG (some v :: σ) H := rfl
theorem e_nam1 {v : V} {b0 b1 : Option V} : gName 1 v (b0 :: b1 :: σ) H QG = QG (b0 :: some v :: σ) H := rfl
theorem e_nam2 {v : V} {b0 b1 b2 : Option V} : gName 2 v (b0 :: b1 :: b2 :: σ) H QG = QG (b0 :: b1 :: some v :: σ) H := rfl
theorem e_nam3 {v : V} {b0 b1 b2 b3 : Option V} : gName 3 v (b0 :: b1 :: b2 :: b3 :: σ) H QG = QG (b0 :: b1 :: b2 :: some v :: σ) H := rfl
theorem e_nam4 {v : V} {b0 b1 b2 b3 b4 : Option V} : gName 4 v (b0 :: b1 :: b2 :: b3 :: b4 :: σ) H QG = QG (b0 :: b1 :: b2 :: b3 :: some v :: σ) H := rfl
theorem e_nam5 {v : V} {b0 b1 b2 b3 b4 b5 : Option V} : gName 5 v (b0 :: b1 :: b2 :: b3 :: b4 :: b5 :: σ) H QG = QG (b0 :: b1 :: b2 :: b3 :: b4 :: some v :: σ) H := rfl
theorem e_nam6 {v : V} {b0 b1 b2 b3 b4 b5 b6 : Option V} : gName 6 v (b0 :: b1 :: b2 :: b3 :: b4 :: b5 :: b6 :: σ) H QG = QG (b0 :: b1 :: b2 :: b3 :: b4 :: b5 :: some v :: σ) H := rfl
theorem e_nam7 {v : V} {b0 b1 b2 b3 b4 b5 b6 b7 : Option V} : gName 7 v (b0 :: b1 :: b2 :: b3 :: b4 :: b5 :: b6 :: b7 :: σ) H QG = QG (b0 :: b1 :: b2 :: b3 :: b4 :: b5 :: b6 :: some v :: σ) H := rfl
theorem e_nam8 {v : V} {b0 b1 b2 b3 b4 b5 b6 b7 b8 : Option V} : gName 8 v (b0 :: b1 :: b2 :: b3 :: b4 :: b5 :: b6 :: b7 :: b8 :: σ) H QG = QG (b0 :: b1 :: b2 :: b3 :: b4 :: b5 :: b6 :: b7 :: some v :: σ) H := rfl
theorem e_nam9 {v : V} {b0 b1 b2 b3 b4 b5 b6 b7 b8 b9 : Option V} : gName 9 v (b0 :: b1 :: b2 :: b3 :: b4 :: b5 :: b6 :: b7 :: b8 :: b9 :: σ) H QG = QG (b0 :: b1 :: b2 :: b3 :: b4 :: b5 :: b6 :: b7 :: b8 :: some v :: σ) H := rfl
theorem e_nam10 {v : V} {b0 b1 b2 b3 b4 b5 b6 b7 b8 b9 b10 : Option V} : gName 10 v (b0 :: b1 :: b2 :: b3 :: b4 :: b5 :: b6 :: b7 :: b8 :: b9 :: b10 :: σ) H QG = QG (b0 :: b1 :: b2 :: b3 :: b4 :: b5 :: b6 :: b7 :: b8 :: b9 :: some v :: σ) H := rfl
theorem e_nam11 {v : V} {b0 b1 b2 b3 b4 b5 b6 b7 b8 b9 b10 b11 : Option V} : gName 11 v (b0 :: b1 :: b2 :: b3 :: b4 :: b5 :: b6 :: b7 :: b8 :: b9 :: b10 :: b11 :: σ) H QG = QG (b0 :: b1 :: b2 :: b3 :: b4 :: b5 :: b6 :: b7 :: b8 :: b9 :: b10 :: some v :: σ) H := rfl
theorem e_gN : gNil [] σ H QG = QG σ H := propext ⟨fun h => h.2, fun h => ⟨rfl, h⟩⟩
theorem e_gC {t : TG} {u : TGs} {v : V} {r : List V} : gCons t u (v :: r) σ H QG = t v σ H fun σ' H' => u r σ' H' QG := propext ⟨fun ⟨_, _, e, q⟩ => by cases e; exact q, fun q => ⟨_, _, rfl, q⟩⟩
theorem e_rI0 {g : Int → Int → V} {i j : Int} : rI0 g (.int i) (.int j) H Q = Q (g i j) H := propext ⟨fun ⟨_, _, e, e', q⟩ => by cases e; cases e'; exact q, fun q => ⟨_, _, rfl, rfl, q⟩⟩
theorem e_rI {C : Int → Int → Prop} {g : Int → Int → V} {i j : Int} : rI C g (.int i) (.int j) H Q = (C i j ∧ Q (g i j) H) := propext ⟨fun ⟨_, _, e, e', q⟩ => by cases e; cases e'; exact q, fun q => ⟨_, _, rfl, rfl, q⟩⟩
theorem e_rU {g : Int → V} {i : Int} : rU g (.int i) H Q = Q (g i) H := propext ⟨fun ⟨_, e, q⟩ => by cases e; exact q, fun q => ⟨_, rfl, q⟩⟩
theorem e_xB {b : Bool} {P : Bool → Prop} : (∃ k, V.bl b = V.bl k ∧ P k) = P b := propext ⟨fun ⟨_, e, q⟩ => by cases e; exact q, fun q => ⟨_, rfl, q⟩⟩
theorem e_xI {b : Int} {P : Int → Prop} : (∃ k, V.int b = V.int k ∧ P k) = P b := propext ⟨fun ⟨_, e, q⟩ => by cases e; exact q, fun q => ⟨_, rfl, q⟩⟩
theorem e_xJ {b : Int} {P : Int → Prop} : (∃ k, [V.int b] = [V.int k] ∧ P k) = P b := propext ⟨fun ⟨_, e, q⟩ => by cases e; exact q, fun q => ⟨_, rfl, q⟩⟩
theorem e_xJ2 {a b : Int} {P : Int → Int → Prop} : (∃ j k, [V.int a, V.int b] = [V.int j, V.int k] ∧ P j k) = P a b := propext ⟨fun ⟨_, _, e, q⟩ => by cases e; exact q, fun q => ⟨_, _, rfl, q⟩⟩
theorem e_rEq {a b : Int} : rEq (.int a) (.int b) H Q = Q (.bl (decide (a = b))) H := by
 show (scal (.int a) (.int b) = true ∧ _) = _
 rw [show (decide (V.int a = V.int b)) = decide (a = b) from decide_eq_decide.mpr ⟨fun e => V.int.inj e, fun e => by rw [e]⟩]
 exact propext ⟨fun h => h.2, fun h => ⟨rfl, h⟩⟩
theorem e_rNe {a b : Int} : rNe (.int a) (.int b) H Q = Q (.bl (!decide (a = b))) H := by
 show (scal (.int a) (.int b) = true ∧ _) = _
 rw [show (decide (V.int a = V.int b)) = decide (a = b) from decide_eq_decide.mpr ⟨fun e => V.int.inj e, fun e => by rw [e]⟩]
 exact propext ⟨fun h => h.2, fun h => ⟨rfl, h⟩⟩
theorem e_itT {a b : Prop} : (if true = true then a else b) = a := rfl
theorem e_itF {a b : Prop} : (if false = true then a else b) = b := rfl
theorem e_itD {p : Prop} [Decidable p] {a b : Prop} : (if decide p = true then a else b) = if p then a else b := by by_cases h : p <;> simp [h]
end
class CtP (α : Type) where
 p : α → Prop
noncomputable def OS {α : Type} (o : Option α) [c : CtP α] : Prop := ∃ x, o = some x ∧ c.p x
noncomputable def OL (o : Option HO) [c : CtP (List V)] : Prop := ∃ x, o = some (.lst x) ∧ c.p x
noncomputable def OT (o : Option HO) [c : CtP (List V)] : Prop := ∃ x, o = some (.tup x) ∧ c.p x
theorem e_os {α : Type} {x : α} {P : α → Prop} : @OS α (some x) ⟨P⟩ = P x := propext ⟨fun ⟨_, e, q⟩ => by cases e; exact q, fun q => ⟨x, rfl, q⟩⟩
theorem e_ol {x : List V} {P : List V → Prop} : @OL (some (.lst x)) ⟨P⟩ = P x := propext ⟨fun ⟨_, e, q⟩ => by cases e; exact q, fun q => ⟨x, rfl, q⟩⟩
theorem e_ot {x : List V} {P : List V → Prop} : @OT (some (.tup x)) ⟨P⟩ = P x := propext ⟨fun ⟨_, e, q⟩ => by cases e; exact q, fun q => ⟨x, rfl, q⟩⟩
theorem u_os {α : Type} {o : Option α} {P : α → Prop} : @OS α o ⟨P⟩ = ∃ x, o = some x ∧ P x := rfl
theorem u_ol {o : Option HO} {P : List V → Prop} : @OL o ⟨P⟩ = ∃ x, o = some (.lst x) ∧ P x := rfl
theorem u_ot {o : Option HO} {P : List V → Prop} : @OT o ⟨P⟩ = ∃ x, o = some (.tup x) ∧ P x := rfl
section
variable {D : Ends} {σ : St} {H : Hp} {Q : VK} {QG : St → Hp → Prop} {a : Addr} {n k : Int}
theorem e_ix : rIx0 (.ref a) (.int n) H Q = @OS _ (sq H a) ⟨fun xs => @OS _ (atI xs n) ⟨fun v => Q v H⟩⟩ := propext ⟨fun ⟨_, xs, _, v, e, e', h, h', q⟩ => by cases e; cases e'; exact ⟨xs, h, v, h', q⟩, fun ⟨xs, h, v, h', q⟩ => ⟨_, xs, _, v, rfl, rfl, h, h', q⟩⟩
theorem e_setL {v : V} {q : Hp → Prop} : rSetL (.ref a) (.int k) v H q = @OL (H a) ⟨fun xs => @OS _ (ixN xs.length k) ⟨fun j => q (upd H a (.lst (xs.set j v)))⟩⟩ := propext ⟨fun ⟨_, xs, _, v, e, e', h, h', q⟩ => by cases e; cases e'; exact ⟨xs, h, v, h', q⟩, fun ⟨xs, h, v, h', q⟩ => ⟨_, xs, _, v, rfl, rfl, h, h', q⟩⟩
theorem e_emit {p : Addr} {te : TE} : tEmit p te σ H QG = te σ H fun y H1 => @OL (H1 p) ⟨fun ys => ys.length < sizeLine ∧ QG σ (upd H1 p (.lst (ys ++ [y])))⟩ := rfl
theorem e_f1 {α : Type} {f : Addr → Option α} {P : Addr → α → Prop} : (∃ p ys, [V.ref a] = [V.ref p] ∧ f p = some ys ∧ P p ys) = @OS _ (f a) ⟨fun ys => P a ys⟩ := propext ⟨fun ⟨_, y, e, h, q⟩ => by cases e; exact ⟨y, h, q⟩, fun ⟨y, h, q⟩ => ⟨_, y, rfl, h, q⟩⟩
theorem e_f2 {P : Addr → List V → Prop} : (∃ p ys, [V.ref a] = [V.ref p] ∧ H p = some (.lst ys) ∧ P p ys) = @OL (H a) ⟨fun ys => P a ys⟩ := propext ⟨fun ⟨_, y, e, h, q⟩ => by cases e; exact ⟨y, h, q⟩, fun ⟨y, h, q⟩ => ⟨_, y, rfl, h, q⟩⟩
theorem e_f3 {P : Addr → List V → Prop} : (∃ p ys, V.ref a = V.ref p ∧ H p = some (.lst ys) ∧ P p ys) = @OL (H a) ⟨fun ys => P a ys⟩ := propext ⟨fun ⟨_, y, e, h, q⟩ => by cases e; exact ⟨y, h, q⟩, fun ⟨y, h, q⟩ => ⟨_, y, rfl, h, q⟩⟩
theorem e_f4 {P : Addr → List V → Prop} : (∃ p ys, V.ref a = V.ref p ∧ H p = some (.tup ys) ∧ P p ys) = @OT (H a) ⟨fun ys => P a ys⟩ := propext ⟨fun ⟨_, y, e, h, q⟩ => by cases e; exact ⟨y, h, q⟩, fun ⟨y, h, q⟩ => ⟨_, y, rfl, h, q⟩⟩
theorem e_f5 {z : V} {P : List V → V → Prop} : (∃ ys y, [z] = [y] ∧ H a = some (.lst ys) ∧ P ys y) = @OL (H a) ⟨fun ys => P ys z⟩ := propext ⟨fun ⟨y, _, e, h, q⟩ => by cases e; exact ⟨y, h, q⟩, fun ⟨y, h, q⟩ => ⟨y, _, rfl, h, q⟩⟩
end
theorem e_g1 {a : Addr} {P : Addr → Prop} : (∃ p, [V.ref a] = [V.ref p] ∧ P p) = P a := propext ⟨fun ⟨_, e, q⟩ => by cases e; exact q, fun q => ⟨_, rfl, q⟩⟩
theorem e_g2 {a : Addr} {P : Addr → Prop} : (∃ p, V.ref a = V.ref p ∧ P p) = P a := propext ⟨fun ⟨_, e, q⟩ => by cases e; exact q, fun q => ⟨_, rfl, q⟩⟩
theorem e_g3 {H : Hp} {a : Addr} {P : List V → Prop} : (∃ x, sq H a = some x ∧ P x) = @OS _ (sq H a) ⟨P⟩ := rfl
theorem e_g4 {H : Hp} {a : Addr} {P : List V → Prop} : (∃ x, H a = some (.lst x) ∧ P x) = @OL (H a) ⟨P⟩ := rfl
theorem e_g5 {H : Hp} {a : Addr} {P : List V → Prop} : (∃ x, H a = some (.tup x) ∧ P x) = @OT (H a) ⟨P⟩ := rfl
theorem e_g7 {xs : List V} {n : Int} {P : V → Prop} : (∃ x, atI xs n = some x ∧ P x) = @OS _ (atI xs n) ⟨P⟩ := rfl
class CtS where
 f : St → Hp → Prop
noncomputable def LaterH [c : CtS] : St → Hp → Prop := c.f
theorem a_laterH {f : St → Hp → Prop} {σ : St} {H : Hp} : @LaterH ⟨f⟩ σ H = f σ H := rfl
theorem e_seqL {t u : TS} {D : Ends} {σ : St} {H : Hp} : tSeqL t u D σ H = t { D with nx := @LaterH ⟨u D⟩ } σ H := rfl
theorem sc_ii {a b : Int} : scal (.int a) (.int b) = true := rfl
theorem sc_bb {a b : Bool} : scal (.bl a) (.bl b) = true := rfl
theorem sc_ss {a b : Str} : scal (.str a) (.str b) = true := rfl
theorem sc_nn : scal .non .non = true := rfl
theorem sc_in {a : Int} : scal (.int a) .non = true := rfl
theorem sc_ni {a : Int} : scal .non (.int a) = true := rfl
theorem sc_bn {a : Bool} : scal (.bl a) .non = true := rfl
theorem sc_nb {a : Bool} : scal .non (.bl a) = true := rfl
theorem sc_sn {a : Str} : scal (.str a) .non = true := rfl
theorem sc_ns {a : Str} : scal .non (.str a) = true := rfl
theorem sc_is {a : Int} {b : Str} : scal (.int a) (.str b) = true := rfl
theorem sc_si {a : Int} {b : Str} : scal (.str b) (.int a) = true := rfl
theorem sc_bs {a : Bool} {b : Str} : scal (.bl a) (.str b) = true := rfl
theorem sc_sb {a : Bool} {b : Str} : scal (.str b) (.bl a) = true := rfl
end L2
end
section
set_option maxRecDepth 1000000
section
open PySem L2
set_option hygiene false in
local macro_rules | `(tactic| push_cast [$as,*]) => `(tactic| (try simp only [↓e_var0, ↓e_var1, ↓e_var2, ↓e_var3, ↓e_var4, ↓e_var5, ↓e_var6, ↓e_var7, ↓e_var8, ↓e_var9, ↓e_var10, ↓e_var11, ↓e_nam0, ↓e_nam1, ↓e_nam2, ↓e_nam3, ↓e_nam4, ↓e_nam5, ↓e_nam6, ↓e_nam7, ↓e_nam8, ↓e_nam9, ↓e_nam10, ↓e_nam11, ↓e_gN, ↓e_gC, ↓e_rI0, ↓e_rI, ↓e_rU, ↓e_xB, ↓e_xI, ↓e_xJ, ↓e_xJ2, ↓e_rEq, ↓e_rNe, ↓e_itT, ↓e_itF, ↓e_itD, ↓e_ix, ↓e_setL, ↓e_emit, ↓e_f1, ↓e_f2, ↓e_f3, ↓e_f4, ↓e_f5, ↓e_seqL, ↓e_g1, ↓e_g2, e_os, e_ol, e_ot, HO.dT.injEq, ↓a_tIdx, ↓a_iEz, V.str.injEq, HO.dK.injEq, ↓a_tExt, ↓a_tRevL, ↓a_iS0, ↓a_rRepL, ↓a_iEnum, ↓a_tLstA, ↓a_rMulT, ↓a_rSlA, ↓a_rCatA, ↓a_rCatL, ↓a_tSeq, ↓a_tFor, ↓a_rIxL, ↓a_iZip, ↓a_tSl, ↓a_rSlL0, ↓a_tNoPart, ↓a_tPart, ↓a_tApp, ↓a_tRet, ↓a_tNext, ↓a_tDrop, ↓a_tAsg, ↓a_gSub, a_gName, a_gNil, a_gCons, ↓a_gTup0, a_rSetL, ↓a_tIfS, ↓a_tAnd, ↓a_tOr, ↓a_tNot, ↓a_tTest, ↓a_tB, ↓a_tTrue, ↓a_tIf, ↓a_tAndV, ↓a_tOp, ↓a_tUn, a_rU, a_tVar, ↓a_tC, a_rI0, a_rI, a_rEq, a_rNe, a_rIx0, ↓a_rIn0, ↓a_tCB, ↓a_tCal, ↓a_tCons, ↓a_tNil, ↓a_tTupA, ↓a_tLst, ↓a_tLC, ↓a_iRng1, ↓a_iRng2, ↓a_iT0, ↓a_iL0, a_tEmit, frS, sc_ii, sc_bb, sc_ss, sc_nn, sc_in, sc_ni, sc_bn, sc_nb, sc_sn, sc_ns, sc_is, sc_si, sc_bs, sc_sb, V.ty.injEq, tyN, subN, String.reduceEq, String.reduceBEq, Bool.true_or, Bool.false_or, Bool.or_false, Bool.true_and, Bool.false_and, Bool.and_false, or_true, true_or, beq_self_eq_true, decide_true, decide_false, List.map_cons, List.map_nil, List.length_cons, List.length_nil, List.getElem?_cons_zero, List.getElem?_cons_succ, List.getElem?_nil, List.set_cons_zero, List.set_cons_succ, Option.some.injEq, Option.bind_some, Option.bind_none, id, exists_eq_left', exists_eq_left, exists_and_left, exists_eq_right, V.int.injEq, V.bl.injEq, V.ref.injEq, List.cons.injEq, and_true, true_and, and_assoc, exists_const, atI0, atI1, atI2, ixN30, ixN31, ixN32, upd_same, upd_upd, sq_updL, sq_updT, Nat.zero_add, Nat.reduceAdd, reduceCtorEq, false_and, and_false, exists_false, false_or, or_false, List.length_map, HO.lst.injEq, HO.tup.injEq, Bool.false_eq_true, if_false, if_true, decide_eq_true_eq, ite_true, ite_false, reduceIte, Int.reduceLT, Int.reduceLE, Nat.reduceLT, Int.zero_add, Bool.not_true, Bool.not_false, $as,*]))
set_option hygiene false in
local macro_rules | `(tactic| push_cast only [$as,*]) => `(tactic| ((push_cast [↓e_g3, ↓e_g4, ↓e_g5, ↓e_g7, $as,*]); (push_cast [u_os, u_ol, u_ot, $as,*])))
section
set_option Elab.async false
set_option linter.all false
set_option maxRecDepth 100000
set_option maxHeartbeats 4000000
namespace K73
open PySem L2
noncomputable def top (i : Nat) : Stmt := PySem.Challenge.pw_wantprices_k73_what_hands_pay.main.body.getD i (.Pass ⟨0, 0, 0, 0⟩)
noncomputable abbrev s_less : Stmt := top 1
noncomputable abbrev s_heap_of : Stmt := top 2
noncomputable abbrev s_is_within : Stmt := top 3
noncomputable abbrev s_heap_of_side : Stmt := top 4
noncomputable abbrev s_heaps_of : Stmt := top 6
noncomputable abbrev s_joined : Stmt := top 8
noncomputable abbrev s_most_parted : Stmt := top 9
noncomputable abbrev s_without_hand : Stmt := top 11
noncomputable abbrev s_greatest : Stmt := top 13
noncomputable abbrev s_greatest_without : Stmt := top 14
noncomputable abbrev s_greatest_sums : Stmt := top 15
noncomputable abbrev s_lost_without : Stmt := top 17
noncomputable abbrev s_pays : Stmt := top 18
noncomputable abbrev s__law_cell_at : Stmt := top 20
noncomputable abbrev s__law_left : Stmt := top 21
noncomputable abbrev s__law_pick : Stmt := top 22
noncomputable abbrev s__law_within : Stmt := top 23
noncomputable abbrev s__law_sized : Stmt := top 24
noncomputable abbrev s__law_worth : Stmt := top 25
noncomputable abbrev s__law_worths_in : Stmt := top 26
noncomputable abbrev s__law_sum_want : Stmt := top 27
noncomputable abbrev s__law_best_few : Stmt := top 28
noncomputable abbrev s__law_pair_want : Stmt := top 29
noncomputable abbrev s__law_both_wants : Stmt := top 30
noncomputable abbrev s__law_any_want : Stmt := top 31
noncomputable abbrev s__law_sided : Stmt := top 32
noncomputable abbrev s__law_sides : Stmt := top 33
noncomputable abbrev s__law_sided_town : Stmt := top 34
noncomputable abbrev s__law_more_worth : Stmt := top 35
noncomputable abbrev s__law_town : Stmt := top 36
noncomputable abbrev s__law_most : Stmt := top 37
noncomputable abbrev s__law_dealings : Stmt := top 38
noncomputable abbrev s__law_heap_of : Stmt := top 39
noncomputable abbrev s__law_sum_dealt : Stmt := top 40
noncomputable abbrev s__law_same : Stmt := top 41
noncomputable abbrev s__law_best : Stmt := top 42
noncomputable abbrev s__law_sums : Stmt := top 43
noncomputable abbrev s__law_reach : Stmt := top 44
noncomputable abbrev s__law_first_by_sums : Stmt := top 45
noncomputable abbrev s__law_great_town : Stmt := top 46
noncomputable abbrev s__law_great_right : Stmt := top 47
noncomputable abbrev s_law : Stmt := top 48
structure Txt (mg : Str → Option Value) : Prop where
 len_ : mg "len" = none
 sum_ : mg "sum" = none
 isinstance_ : mg "isinstance" = none
 all_ : mg "all" = none
 zip_ : mg "zip" = none
 sorted_ : mg "sorted" = none
 enumerate_ : mg "enumerate" = none
 min_ : mg "min" = none
 max_ : mg "max" = none
 range_ : mg "range" = none
 tuple_ : mg "tuple" = none
 int_ : mg "int" = none
 bool_ : mg "bool" = none
section
variable {P : Program} {w : World} {K : PySem.W.Frag} {mg : Str → Option Value} {base : Heap} {f : Addr} {fd : FuncData}
theorem none_of {p l : Addr} {H H1 : Hp} (s : SameX p H H1) (n : H1 l = none) (np : l ≠ p) : H l = none := by
 cases e : H l with
 | none => rfl
 | some o => rw [s _ _ np e] at n; cases n
theorem none_same {l : Addr} {H H1 : Hp} (s : Same H H1) (n : H1 l = none) : H l = none := by
 cases e : H l with
 | none => rfl
 | some o => rw [s _ _ e] at n; cases n
noncomputable def Drawn (p c : Addr) (far : Int) (τ : List (Option V)) (G : Hp) (i : Nat) (σ : St) (H : Hp) : Prop := ∃ (v : Option V) (ws : List Int), σ = v :: τ ∧ ws.length = i ∧ (∀ x ∈ ws, 0 ≤ x ∧ x < far) ∧ Box H p ∧ (∀ b o, b ≠ p → b ≠ c → G b = some o → H b = some o) ∧ H c = some (.lst (ws.map V.int))
noncomputable def sp_cell (K : PySem.W.Frag) : Sp := fun vs H Q _ => ∃ (a : Addr) (k : Nat) (ns : List Int), vs = [.ref a, .int (k : Int)] ∧ Scr K a ns H ∧ ∀ z : Int, Q (.int z) H
theorem sc__law_cell_at : FnScope ["_law_script", "_law_k"] ["_law_script", "_law_k"] (defScope s__law_cell_at) := ⟨rfl, rfl, rfl, by decide +kernel, rfl, by decide +kernel, by decide +kernel⟩
theorem ok_cell (F : Fun K "_law_cell_at" "_law_cell_at" s__law_cell_at f fd) (hm : mg "_law_cell_at" = some (.ref f)) (hb : Binds K fd ["_law_script", "_law_k"] []) (T : Txt mg) : Cal P w K mg base "_law_cell_at" ["_law_script", "_law_k"] 1 (sp_cell K) := by
 refine cal_of F hm hb sc__law_cell_at (fun vs H Q E h => ?_) (fun cdv A outer s H vs Q E hr h => ?_)
 ·obtain ⟨_, _, _, rfl, _⟩ := h; rfl
 ·obtain ⟨a, k, ns, rfl, hq, q⟩ := h
  have sc := sc__law_cell_at
  refine ⟨_, pss_cons (ps_if (pt_cmpR op_lt (pv 1) (pe_callB call_len_seq rfl T.len_ bt_len (pa_cons (pv 0) pa_nil)) (nomark _)) (pss_one (ps_ret (pe_ix ix_list (pv 0) (pv 1) (fun _ _ => rfl)))) pss_nil)
   (pss_one (ps_ret pe_int)), ?_⟩
  rw [show L2.start ["_law_script", "_law_k"] [.ref a, .int (k : Int)] = [some (.ref a), some (.int (k : Int))] from rfl]
  (push_cast only [])
  refine ⟨_, .inl hq, ?_⟩
  by_cases hlt : k < ns.length
  ·have ha : atI (ns.map V.int) (k : Int) = some (V.int ns[k]) := atI_nat (by simp [hlt])
   rw [if_pos (by simp; omega)]
   exact ⟨_, hq, _, ha, q _⟩
  ·rw [if_neg (by simp; omega)]
   exact q _
theorem sc__law_left : FnScope ["_law_script", "_law_k", "_law_cell", "_law_seed"] ["_law_script", "_law_k"] (defScope s__law_left) := ⟨rfl, rfl, rfl, by decide +kernel, rfl, by decide +kernel, by decide +kernel⟩
theorem ok_left (F : Fun K "_law_left" "_law_left" s__law_left f fd) (hm : mg "_law_left" = some (.ref f)) (hb : Binds K fd ["_law_script", "_law_k"] []) (T : Txt mg) (c__law_cell_at : Cal P w K mg base "_law_cell_at" ["_law_script", "_law_k"] 1 (sp_cell K)) : Cal P w K mg base "_law_left" ["_law_script", "_law_k"] 2 (spBox K) := by
 refine cal_of F hm hb sc__law_left (fun vs H Q E h => ?_) (fun cdv A outer s H vs Q E hr h => ?_)
 ·obtain ⟨_, _, _, rfl, _⟩ := h; rfl
 ·obtain ⟨a, k, ns, rfl, hq, hk, q⟩ := h
  have sc := sc__law_left
  refine ⟨_, pss_cons (ps_set (i := 2) sc.nd rfl (Or.inl rfl) (pe_cal c__law_cell_at hr (pa_cns (pv 0) (pa_cns (pe_op op_mod (pv 1) (pe_callB (call_max2 rfl) rfl T.max_ bt_max (pa_cns pe_int (pa_cns (pe_callB call_len_seq rfl T.len_ bt_len (pa_cons (pv 0) pa_nil)) pa_nil)))) pa_nil))))
   (pss_cons (ps_set (i := 3) sc.nd rfl (Or.inl rfl) (pe_op op_mod (pe_op op_mul (pe_op op_add (pe_op op_add (pe_op op_mod (pv 2) pe_int) (pe_op op_mul (pe_op op_mul pe_int (pv 1)) (pv 1))) pe_int) pe_int) pe_int))
   (pss_cons (ps_set (i := 3) sc.nd rfl (Or.inl rfl) (pe_op op_mod (pe_op op_add (pe_op op_add (pe_op op_mul (pv 3) pe_int) (pe_op op_mul pe_int (pv 1))) pe_int) pe_int))
   (pss_cons (ps_if (pt_cmpR op_lt (pv 2) (pe_op op_pow pe_int pe_int) (nomark _)) (pss_one (ps_set (i := 2) sc.nd rfl (Or.inl rfl) pe_int)) pss_nil)
   (pss_one (ps_ret (pe_lst (pa_cns (pv 2) (pa_cns (pv 3) (pa_cns pe_int pa_nil))))))))), ?_⟩
  rw [show L2.start ["_law_script", "_law_k", "_law_cell", "_law_seed"] [.ref a, .int (k : Int)] = [some (.ref a), some (.int (k : Int)), none, none] from rfl]
  have fin : ∀ (y z : Int) (p : Addr), H p = none → Q (V.ref p) (upd H p (.lst [.int y, .int z, .int 60])) := fun y z p hp => q p _ hp ⟨y, z, 60, upd_same⟩ But.upd
  (push_cast only [])
  refine ⟨_, .inl hq, ?_⟩
  (push_cast only [])
  have mp : (0 : Int) < if (ns.length : Int) > 1 then (ns.length : Int) else 1 := by split <;> omega
  refine ⟨mp, a, ((k : Int) % if (ns.length : Int) > 1 then (ns.length : Int) else 1).toNat, ns, ?_, hq, fun z => ?_⟩
  ·rw [Int.toNat_of_nonneg (Int.emod_nonneg _ (by omega))]
  refine ⟨z, rfl, .inl ⟨by decide, by decide⟩, .inr ⟨by omega, by omega⟩, .inr ⟨by decide, by decide⟩, .inr ⟨by decide, by decide⟩, .inl ⟨by decide, by decide⟩, ⟨by decide, by decide, by decide⟩, z, rfl, ?_⟩
  split
  ·exact ⟨by decide, fin _ _⟩
  ·exact ⟨by decide, fin _ _⟩
theorem sc__law_pick : FnScope ["_law_left_here", "_law_many", "_law_digit"] ["_law_left_here", "_law_many"] (defScope s__law_pick) := ⟨rfl, rfl, rfl, by decide +kernel, rfl, by decide +kernel, by decide +kernel⟩
theorem ok_pick (F : Fun K "_law_pick" "_law_pick" s__law_pick f fd) (hm : mg "_law_pick" = some (.ref f)) (hb : Binds K fd ["_law_left_here", "_law_many"] []) (T : Txt mg) : Cal P w K mg base "_law_pick" ["_law_left_here", "_law_many"] 1 spTake := by
 refine cal_of F hm hb sc__law_pick (fun vs H Q E h => ?_) (fun cdv A outer s H vs Q E hr h => ?_)
 ·obtain ⟨_, _, rfl, _⟩ := h; rfl
 ·obtain ⟨p, many, rfl, ⟨g, m, c, hp⟩, h1, h2, q⟩ := h
  have sc := sc__law_pick
  refine ⟨_, pss_cons (ps_if (PW.pt (pw_and (pt_cmpR op_gt (pe_ix ix0 (pv 0) pe_int (fun _ _ => rfl)) pe_int (nomark _)) (pw_and1 (pt_cmpR op_gt (pe_ix ix0 (pv 0) pe_int (fun _ _ => rfl)) pe_int (nomark _))))) (pss_cons (ps_set (i := 2) sc.nd rfl (Or.inl rfl) (pe_op op_mod (pe_ix ix0 (pv 0) pe_int (fun _ _ => rfl)) (pv 1)))
   (pss_cons (ps_asg (pe_op op_fdiv (pe_ix ix0 (pv 0) pe_int (fun _ _ => rfl)) (pv 1)) (pg_sub (pv 0) pe_int set_list))
   (pss_cons (ps_asg (pe_op op_sub (pe_ix ix0 (pv 0) pe_int (fun _ _ => rfl)) pe_int) (pg_sub (pv 0) pe_int set_list))
   (pss_one (ps_ret (pv 2)))))) pss_nil)
   (pss_cons (ps_asg (pe_op op_mod (pe_op op_add (pe_op op_mul (pe_ix ix0 (pv 0) pe_int (fun _ _ => rfl)) pe_int) pe_int) pe_int) (pg_sub (pv 0) pe_int set_list))
   (pss_one (ps_ret (pe_op op_mod (pe_op op_mod (pe_op op_mul (pe_ix ix0 (pv 0) pe_int (fun _ _ => rfl)) (pe_ix ix0 (pv 0) pe_int (fun _ _ => rfl))) pe_int) (pv 1))))), ?_⟩
  have hq := sq_lst hp
  rw [show L2.start ["_law_left_here", "_law_many", "_law_digit"] [.ref p, .int many] = [some (.ref p), some (.int many), none] from rfl]
  (push_cast only [hq, hp])
  have fin : ∀ (z g' m' c' : Int), Q (V.int (z % many)) (upd H p (.lst [.int g', .int m', .int c'])) := fun z g' m' c' => q _ _ (Int.emod_nonneg _ (by omega)) (Int.emod_lt_of_pos _ h1) ⟨g', m', c', upd_same⟩ But.upd
  have cm : ∀ a : Int, CMul (a % 2147483647) (a % 2147483647) := fun a => .inl ⟨by have := Int.emod_nonneg a (show (2147483647 : Int) ≠ 0 by decide); omega, by have := Int.emod_lt_of_pos a (show (0 : Int) < 2147483647 by decide); omega⟩
  have rest : ∀ g' c' : Int, CMul m 48271 ∧ CMul ((m * 48271 + 12345) % 2147483647) ((m * 48271 + 12345) % 2147483647) ∧ 0 < many ∧ Q (V.int ((m * 48271 + 12345) % 2147483647 * ((m * 48271 + 12345) % 2147483647) % 1999999973 % many)) (upd H p (HO.lst [V.int g', V.int ((m * 48271 + 12345) % 2147483647), V.int c'])) := fun g' c' =>
   ⟨.inr ⟨by decide, by decide⟩, cm _, h1, fin _ _ _ _⟩
  split
  ·split
   ·exact ⟨h1, ⟨h1, h2⟩, fin _ _ _ _⟩
   ·exact rest _ _
  ·exact rest _ _
noncomputable def sp_same1 : Sp := fun vs H Q _ => ∃ i d : Int, vs = [.int i, .int d] ∧ Q (.bl (decide (i = d))) H
noncomputable def sp_same2 : Sp := fun vs H Q _ => ∃ (a b : Addr) (ns ms : List Int), vs = [.ref a, .ref b] ∧ H a = some (.tup (ns.map V.int)) ∧ H b = some (.tup (ms.map V.int)) ∧ ns.length < 1000 ∧ ∀ H', Same H H' → Q (.bl (decide (ns = ms))) H'
noncomputable def sp_none : Sp := fun _ _ _ _ => False
theorem cal_none {x : Str} {ps : List Str} {st : Stmt} (F : Fun K x x st f fd) (hm : mg x = some (.ref f)) (hb : Binds K fd ps []) : Cal P w K mg base x ps 0 sp_none :=
 ⟨f, fd, ⟨fun _ _ _ _ h => h.elim, fun _ _ _ _ _ _ _ _ _ _ _ _ _ h => h.elim⟩, hm, F.kp, hb⟩
theorem sc__law_same : FnScope ["_law_found", "_law_due"] ["_law_found", "_law_due"] (defScope s__law_same) := ⟨rfl, rfl, rfl, by decide +kernel, rfl, by decide +kernel, by decide +kernel⟩
theorem ok_same1 (F : Fun K "_law_same" "_law_same" s__law_same f fd) (hm : mg "_law_same" = some (.ref f)) (hb : Binds K fd ["_law_found", "_law_due"] []) (T : Txt mg) (c__law_same : Cal P w K mg base "_law_same" ["_law_found", "_law_due"] 0 sp_none) : Cal P w K mg base "_law_same" ["_law_found", "_law_due"] 1 sp_same1 := by
 refine cal_of F hm hb sc__law_same (fun vs H Q E h => ?_) (fun cdv A outer s H vs Q E hr h => ?_)
 ·obtain ⟨_, _, rfl, _⟩ := h; rfl
 ·obtain ⟨i, d, rfl, q⟩ := h
  have sc := sc__law_same
  refine ⟨_, pss_cons (ps_if (pt_val (pe_callB isi0 rfl T.isinstance_ bt_isinstance (pa_cns (pv 1) (pa_cns (pe_bltn (v := .ty "tuple") rfl T.tuple_ bt_tuple rfl) pa_nil)))) (pss_cons (ps_if (PW.pt (pw_or (pt_not (pt_val (pe_callB isi0 rfl T.isinstance_ bt_isinstance (pa_cns (pv 0) (pa_cns (pe_bltn (v := .ty "tuple") rfl T.tuple_ bt_tuple rfl) pa_nil))))) (pw_or1 (pt_cmpR op_ne (pe_callB len0 rfl T.len_ bt_len (pa_cns (pv 0) pa_nil)) (pe_callB len0 rfl T.len_ bt_len (pa_cns (pv 1) pa_nil)) (nomark _))))) (pss_one (ps_ret pe_bl)) pss_nil)
   (pss_one (ps_ret (pe_callB (all0 rfl) rfl T.all_ bt_all (pa_cns (pe_lc (N := ["_law_one", "_law_other"]) (fr := [none, none]) rfl (pi_zip rfl T.zip_ (pa_cns (pv 0) (pa_cns (pv 1) pa_nil))) (CScope.of rfl rfl rfl) rfl (fun _ _ _ => ⟨pg_tup0 (n := 2) rfl (pgs_cons (pg_name (i := 0) (show List.Nodup (α := Str) ["_law_one", "_law_other"] by decide +kernel) rfl (Or.inl rfl)) (pgs_cons (pg_name (i := 1) (show List.Nodup (α := Str) ["_law_one", "_law_other"] by decide +kernel) rfl (Or.inl rfl)) pgs_nil)), pif_nil, pe_cal c__law_same hr (pa_cns (pv 0) (pa_cns (pv 1) pa_nil))⟩)) pa_nil))))) pss_nil)
   (pss_cons (ps_if (pt_cmpR op_isN (pv 1) pe_non (nomark _)) (pss_one (ps_ret (pe_cmpR op_isN (pv 0) pe_non (nomark _)))) pss_nil)
   (pss_cons (ps_if (PW.pt (pw_or (pt_val (pe_callB isi0 rfl T.isinstance_ bt_isinstance (pa_cns (pv 1) (pa_cns (pe_bltn (v := .ty "bool") rfl T.bool_ bt_bool rfl) pa_nil)))) (pw_or1 (pt_val (pe_callB isi0 rfl T.isinstance_ bt_isinstance (pa_cns (pv 0) (pa_cns (pe_bltn (v := .ty "bool") rfl T.bool_ bt_bool rfl) pa_nil))))))) (pss_one (ps_ret (pe_and (pe_callB isi0 rfl T.isinstance_ bt_isinstance (pa_cns (pv 0) (pa_cns (pe_bltn (v := .ty "bool") rfl T.bool_ bt_bool rfl) pa_nil))) (pe_and (pe_callB isi0 rfl T.isinstance_ bt_isinstance (pa_cns (pv 1) (pa_cns (pe_bltn (v := .ty "bool") rfl T.bool_ bt_bool rfl) pa_nil))) (pe_one (pe_cmpR op_eq (pv 0) (pv 1) (nomark _))))))) pss_nil)
   (pss_one (ps_ret (pe_and (pe_callB isi0 rfl T.isinstance_ bt_isinstance (pa_cns (pv 0) (pa_cns (pe_bltn (v := .ty "int") rfl T.int_ bt_int rfl) pa_nil))) (pe_one (pe_cmpR op_eq (pv 0) (pv 1) (nomark _)))))))), ?_⟩
  rw [show L2.start ["_law_found", "_law_due"] [.int i, .int d] = [some (.int i), some (.int d)] from rfl]
  (push_cast only [])
  exact q
noncomputable def L4 (c a b : Addr) (ns ms : List Int) (G : Hp) (i : Nat) (σ : St) (H : Hp) : Prop := ∃ (v1 v2 : Option V), σ = [v1, v2] ∧ SameX c G H ∧ H c = some (.lst ((((ns.zip ms).take i).map fun p => decide (p.1 = p.2)).map V.bl))
theorem all_eq : ∀ (ns ms : List Int), ns.length = ms.length → (((ns.zip ms).map fun p => decide (p.1 = p.2)).all id) = decide (ns = ms)
 | [], [], _ => rfl
 | n :: ns, m :: ms, h => by
  have ih := all_eq ns ms (by simpa using h)
  rw [List.zip_cons_cons, List.map_cons, List.all_cons, ih]
  by_cases e : n = m <;> by_cases e2 : ns = ms <;> simp [e, e2]
 | [], _ :: _, h => by simp at h
 | _ :: _, [], h => by simp at h
noncomputable def sp_same : Sp := fun vs H Q E => sp_same1 vs H Q E ∨ sp_same2 vs H Q E
theorem ok_same2 (F : Fun K "_law_same" "_law_same" s__law_same f fd) (hm : mg "_law_same" = some (.ref f)) (hb : Binds K fd ["_law_found", "_law_due"] []) (T : Txt mg) (c__law_same : Cal P w K mg base "_law_same" ["_law_found", "_law_due"] 1 sp_same1) : Cal P w K mg base "_law_same" ["_law_found", "_law_due"] 2 sp_same := by
 refine cal_of F hm hb sc__law_same (fun vs H Q E h => ?_) (fun cdv A outer s H vs Q E hr h => ?_)
 ·rcases h with h | h
  ·obtain ⟨_, _, rfl, _⟩ := h; rfl
  ·obtain ⟨_, _, _, _, rfl, _⟩ := h; rfl
 ·rcases h with h | h
  ·obtain ⟨i, d, rfl, q⟩ := h
   have sc := sc__law_same
   refine ⟨_, pss_cons (ps_if (pt_val (pe_callB isi0 rfl T.isinstance_ bt_isinstance (pa_cns (pv 1) (pa_cns (pe_bltn (v := .ty "tuple") rfl T.tuple_ bt_tuple rfl) pa_nil)))) (pss_cons (ps_if (PW.pt (pw_or (pt_not (pt_val (pe_callB isi0 rfl T.isinstance_ bt_isinstance (pa_cns (pv 0) (pa_cns (pe_bltn (v := .ty "tuple") rfl T.tuple_ bt_tuple rfl) pa_nil))))) (pw_or1 (pt_cmpR op_ne (pe_callB len0 rfl T.len_ bt_len (pa_cns (pv 0) pa_nil)) (pe_callB len0 rfl T.len_ bt_len (pa_cns (pv 1) pa_nil)) (nomark _))))) (pss_one (ps_ret pe_bl)) pss_nil)
   (pss_one (ps_ret (pe_callB (all0 rfl) rfl T.all_ bt_all (pa_cns (pe_lc (N := ["_law_one", "_law_other"]) (fr := [none, none]) rfl (pi_zip rfl T.zip_ (pa_cns (pv 0) (pa_cns (pv 1) pa_nil))) (CScope.of rfl rfl rfl) rfl (fun _ _ _ => ⟨pg_tup0 (n := 2) rfl (pgs_cons (pg_name (i := 0) (show List.Nodup (α := Str) ["_law_one", "_law_other"] by decide +kernel) rfl (Or.inl rfl)) (pgs_cons (pg_name (i := 1) (show List.Nodup (α := Str) ["_law_one", "_law_other"] by decide +kernel) rfl (Or.inl rfl)) pgs_nil)), pif_nil, pe_cal c__law_same hr (pa_cns (pv 0) (pa_cns (pv 1) pa_nil))⟩)) pa_nil))))) pss_nil)
   (pss_cons (ps_if (pt_cmpR op_isN (pv 1) pe_non (nomark _)) (pss_one (ps_ret (pe_cmpR op_isN (pv 0) pe_non (nomark _)))) pss_nil)
   (pss_cons (ps_if (PW.pt (pw_or (pt_val (pe_callB isi0 rfl T.isinstance_ bt_isinstance (pa_cns (pv 1) (pa_cns (pe_bltn (v := .ty "bool") rfl T.bool_ bt_bool rfl) pa_nil)))) (pw_or1 (pt_val (pe_callB isi0 rfl T.isinstance_ bt_isinstance (pa_cns (pv 0) (pa_cns (pe_bltn (v := .ty "bool") rfl T.bool_ bt_bool rfl) pa_nil))))))) (pss_one (ps_ret (pe_and (pe_callB isi0 rfl T.isinstance_ bt_isinstance (pa_cns (pv 0) (pa_cns (pe_bltn (v := .ty "bool") rfl T.bool_ bt_bool rfl) pa_nil))) (pe_and (pe_callB isi0 rfl T.isinstance_ bt_isinstance (pa_cns (pv 1) (pa_cns (pe_bltn (v := .ty "bool") rfl T.bool_ bt_bool rfl) pa_nil))) (pe_one (pe_cmpR op_eq (pv 0) (pv 1) (nomark _))))))) pss_nil)
   (pss_one (ps_ret (pe_and (pe_callB isi0 rfl T.isinstance_ bt_isinstance (pa_cns (pv 0) (pa_cns (pe_bltn (v := .ty "int") rfl T.int_ bt_int rfl) pa_nil))) (pe_one (pe_cmpR op_eq (pv 0) (pv 1) (nomark _)))))))), ?_⟩
   rw [show L2.start ["_law_found", "_law_due"] [.int i, .int d] = [some (.int i), some (.int d)] from rfl]
   (push_cast only [])
   exact q
  obtain ⟨a, b, ns, ms, rfl, ha, hb', hsm, q⟩ := h
  have sc := sc__law_same
  refine ⟨_, pss_cons (ps_if (pt_val (pe_callB isi0 rfl T.isinstance_ bt_isinstance (pa_cns (pv 1) (pa_cns (pe_bltn (v := .ty "tuple") rfl T.tuple_ bt_tuple rfl) pa_nil)))) (pss_cons (ps_if (PW.pt (pw_or (pt_not (pt_val (pe_callB isi0 rfl T.isinstance_ bt_isinstance (pa_cns (pv 0) (pa_cns (pe_bltn (v := .ty "tuple") rfl T.tuple_ bt_tuple rfl) pa_nil))))) (pw_or1 (pt_cmpR op_ne (pe_callB len0 rfl T.len_ bt_len (pa_cns (pv 0) pa_nil)) (pe_callB len0 rfl T.len_ bt_len (pa_cns (pv 1) pa_nil)) (nomark _))))) (pss_one (ps_ret pe_bl)) pss_nil)
   (pss_one (ps_ret (pe_callB (all0 rfl) rfl T.all_ bt_all (pa_cns (pe_lc (N := ["_law_one", "_law_other"]) (fr := [none, none]) rfl (pi_zip rfl T.zip_ (pa_cns (pv 0) (pa_cns (pv 1) pa_nil))) (CScope.of rfl rfl rfl) rfl (fun _ _ _ => ⟨pg_tup0 (n := 2) rfl (pgs_cons (pg_name (i := 0) (show List.Nodup (α := Str) ["_law_one", "_law_other"] by decide +kernel) rfl (Or.inl rfl)) (pgs_cons (pg_name (i := 1) (show List.Nodup (α := Str) ["_law_one", "_law_other"] by decide +kernel) rfl (Or.inl rfl)) pgs_nil)), pif_nil, pe_cal c__law_same hr (pa_cns (pv 0) (pa_cns (pv 1) pa_nil))⟩)) pa_nil))))) pss_nil)
   (pss_cons (ps_if (pt_cmpR op_isN (pv 1) pe_non (nomark _)) (pss_one (ps_ret (pe_cmpR op_isN (pv 0) pe_non (nomark _)))) pss_nil)
   (pss_cons (ps_if (PW.pt (pw_or (pt_val (pe_callB isi0 rfl T.isinstance_ bt_isinstance (pa_cns (pv 1) (pa_cns (pe_bltn (v := .ty "bool") rfl T.bool_ bt_bool rfl) pa_nil)))) (pw_or1 (pt_val (pe_callB isi0 rfl T.isinstance_ bt_isinstance (pa_cns (pv 0) (pa_cns (pe_bltn (v := .ty "bool") rfl T.bool_ bt_bool rfl) pa_nil))))))) (pss_one (ps_ret (pe_and (pe_callB isi0 rfl T.isinstance_ bt_isinstance (pa_cns (pv 0) (pa_cns (pe_bltn (v := .ty "bool") rfl T.bool_ bt_bool rfl) pa_nil))) (pe_and (pe_callB isi0 rfl T.isinstance_ bt_isinstance (pa_cns (pv 1) (pa_cns (pe_bltn (v := .ty "bool") rfl T.bool_ bt_bool rfl) pa_nil))) (pe_one (pe_cmpR op_eq (pv 0) (pv 1) (nomark _))))))) pss_nil)
   (pss_one (ps_ret (pe_and (pe_callB isi0 rfl T.isinstance_ bt_isinstance (pa_cns (pv 0) (pa_cns (pe_bltn (v := .ty "int") rfl T.int_ bt_int rfl) pa_nil))) (pe_one (pe_cmpR op_eq (pv 0) (pv 1) (nomark _)))))))), ?_⟩
  have hsa := sq_tup ha
  have hsb := sq_tup hb'
  rw [show L2.start ["_law_found", "_law_due"] [.ref a, .ref b] = [some (.ref a), some (.ref b)] from rfl]
  (push_cast only [ha, hb', hsa, hsb])
  by_cases hl' : ns.length = ms.length
  ·rw [if_neg (by simp [hl'])]
   refine ⟨_, _, _, .inr ⟨rfl, ha⟩, _, .inr ⟨rfl, hb'⟩, fun c nc => ?_⟩
   have nca : a ≠ c := ne_of_none ha nc
   have ncb : b ≠ c := ne_of_none hb' nc
   refine cl_zip (L4 c a b ns ms H) ⟨none, none, rfl, SameX.upd, upd_same⟩ (fun i σ H1 ⟨_, _, _, s, _⟩ => ⟨.inr ⟨rfl, s _ _ nca ha⟩, .inr ⟨rfl, s _ _ ncb hb'⟩⟩) ?_ ?_
   ·rintro i u v t σ H1 H2 hu hv ⟨v1, v2, rfl, s1, e1⟩ nt s2 e2
    rw [List.getElem?_map] at hu hv
    obtain ⟨n, hn, rfl⟩ := Option.map_eq_some_iff.mp hu
    obtain ⟨m, hm', rfl⟩ := Option.map_eq_some_iff.mp hv
    have ec2 := s2 _ _ e1
    (push_cast only [e2])
    refine ⟨n, m, rfl, ?_⟩
    (push_cast only [ec2])
    have hi : i < ns.length := (List.getElem?_eq_some_iff.mp hn).1
    refine ⟨small1000 (by rw [List.length_take, List.length_zip]; omega), ⟨_, _, rfl, (s1.trans s2.x).trans SameX.upd, ?_⟩⟩
    have hz : (ns.zip ms)[i]? = some (n, m) := by rw [List.getElem?_zip_eq_some]; exact ⟨hn, hm'⟩
    rw [upd_same, List.take_add_one, hz]
    simp
   ·rintro σ H1 ⟨v1, v2, rfl, s1, e1⟩
    rw [List.length_map, List.length_map, List.take_of_length_le (by rw [List.length_zip]; omega)] at e1
    refine ⟨_, sq_lst e1, ?_⟩
    rw [all_eq ns ms hl']
    exact q H1 (s1.same nc)
  ·rw [if_pos (by simp; omega)]
   have : ns ≠ ms := by rintro rfl; exact hl' rfl
   have q' := q H (Same.refl H)
   rw [decide_eq_false this] at q'
   exact q'
end
end K73
end
section
set_option Elab.async false
set_option linter.all false
set_option maxRecDepth 100000
set_option maxHeartbeats 4000000
namespace K73
open PySem L2
section
variable {P : Program} {w : World} {K : PySem.W.Frag} {mg : Str → Option Value} {base : Heap} {f : Addr} {fd : FuncData}
theorem pow32 {m : Nat} (h : m ≤ 5) : 2 ^ m ≤ 32 ∧ 0 < 2 ^ m := ⟨Nat.le_trans (Nat.pow_le_pow_right (by decide) h) (by decide), Nat.two_pow_pos m⟩
theorem pick4 {a b c d r : Int} {P : Int → Prop} (h0 : 0 ≤ r) (h1 : r < 4) (ha : P a) (hb : P b) (hc : P c) (hd : P d) : ∃ x, atI [V.int a, V.int b, V.int c, V.int d] r = some (V.int x) ∧ P x := by
 have h4 : r = 0 ∨ r = 1 ∨ r = 2 ∨ r = 3 := by omega
 rcases h4 with rfl | rfl | rfl | rfl
 ·exact ⟨a, rfl, ha⟩
 ·exact ⟨b, rfl, hb⟩
 ·exact ⟨c, rfl, hc⟩
 ·exact ⟨d, rfl, hd⟩
theorem pick3 {a b c r : Int} {P : Int → Prop} (h0 : 0 ≤ r) (h1 : r < 3) (ha : P a) (hb : P b) (hc : P c) : ∃ x, atI [V.int a, V.int b, V.int c] r = some (V.int x) ∧ P x := by
 have h4 : r = 0 ∨ r = 1 ∨ r = 2 := by omega
 rcases h4 with rfl | rfl | rfl
 ·exact ⟨a, rfl, ha⟩
 ·exact ⟨b, rfl, hb⟩
 ·exact ⟨c, rfl, hc⟩
noncomputable def sp_sized : Sp := fun vs H Q _ => ∃ p : Addr, vs = [.ref p] ∧ Box H p ∧ ∀ (t : Addr) (m n : Nat) (H' : Hp), H t = none → 1 ≤ m → m ≤ 5 → 1 ≤ n → n ≤ 5 → Box H' p → SameX p H H' → H' t = some (.tup [.int (m : Int), .int (n : Int)]) → Q (.ref t) H'
theorem sc__law_sized : FnScope ["_law_left_here", "_law_some", "_law_many", "_law_few"] ["_law_left_here"] (defScope s__law_sized) := ⟨rfl, rfl, rfl, by decide +kernel, rfl, by decide +kernel, by decide +kernel⟩
theorem ok_sized (F : Fun K "_law_sized" "_law_sized" s__law_sized f fd) (hm : mg "_law_sized" = some (.ref f)) (hb : Binds K fd ["_law_left_here"] []) (T : Txt mg) (c__law_pick : Cal P w K mg base "_law_pick" ["_law_left_here", "_law_many"] 1 spTake) : Cal P w K mg base "_law_sized" ["_law_left_here"] 2 sp_sized := by
 refine cal_of F hm hb sc__law_sized (fun vs H Q E h => ?_) (fun cdv A outer s H vs Q E hr h => ?_)
 ·obtain ⟨_, rfl, _⟩ := h; rfl
 ·obtain ⟨p, rfl, bx, q⟩ := h
  have sc := sc__law_sized
  refine ⟨_, pss_cons (ps_set (i := 1) sc.nd rfl (Or.inl rfl) (pe_lstA (pa_cns (pe_op op_add pe_int (pe_cal c__law_pick hr (pa_cns (pv 0) (pa_cns pe_int pa_nil)))) (pa_cns (pe_op op_add pe_int (pe_cal c__law_pick hr (pa_cns (pv 0) (pa_cns pe_int pa_nil)))) (pa_cns (pe_op op_add pe_int (pe_cal c__law_pick hr (pa_cns (pv 0) (pa_cns pe_int pa_nil)))) (pa_cns (pe_op op_add pe_int (pe_cal c__law_pick hr (pa_cns (pv 0) (pa_cns pe_int pa_nil)))) pa_nil))))))
   (pss_cons (ps_set (i := 2) sc.nd rfl (Or.inl rfl) (pe_ix ix0 (pv 1) (pe_cal c__law_pick hr (pa_cns (pv 0) (pa_cns pe_int pa_nil))) (fun _ _ => rfl)))
   (pss_cons (ps_set (i := 1) sc.nd rfl (Or.inl rfl) (pe_lstA (pa_cns (pe_op op_add pe_int (pe_cal c__law_pick hr (pa_cns (pv 0) (pa_cns pe_int pa_nil)))) (pa_cns (pe_op op_add pe_int (pe_cal c__law_pick hr (pa_cns (pv 0) (pa_cns pe_int pa_nil)))) (pa_cns (pe_op op_add pe_int (pe_cal c__law_pick hr (pa_cns (pv 0) (pa_cns pe_int pa_nil)))) (pa_cns (pe_op op_add pe_int (pe_cal c__law_pick hr (pa_cns (pv 0) (pa_cns pe_int pa_nil)))) pa_nil))))))
   (pss_cons (ps_set (i := 3) sc.nd rfl (Or.inl rfl) (pe_ix ix0 (pv 1) (pe_cal c__law_pick hr (pa_cns (pv 0) (pa_cns pe_int pa_nil))) (fun _ _ => rfl)))
   (pss_cons (ps_if (pt_cmpR op_eq (pv 2) pe_int (nomark _)) (pss_one (ps_set (i := 3) sc.nd rfl (Or.inl rfl) (pe_callB (call_min2 rfl) rfl T.min_ bt_min (pa_cns (pv 3) (pa_cns pe_int pa_nil))))) pss_nil)
   (pss_one (ps_ret (pe_tupA (pa_cns (pv 2) (pa_cns (pv 3) pa_nil))))))))), ?_⟩
  rw [show L2.start ["_law_left_here", "_law_some", "_law_many", "_law_few"] [.ref p] = [some (.ref p), none, none, none] from rfl]
  (push_cast only [])
  refine ⟨p, 4, rfl, bx, by decide, by decide, fun r1 H1 a1 b1 bx1 bt1 => ?_⟩
  (push_cast only [])
  refine ⟨p, 4, rfl, bx1, by decide, by decide, fun r2 H2 a2 b2 bx2 bt2 => ?_⟩
  (push_cast only [])
  refine ⟨p, 3, rfl, bx2, by decide, by decide, fun r3 H3 a3 b3 bx3 bt3 => ?_⟩
  (push_cast only [])
  refine ⟨p, 5, rfl, bx3, by decide, by decide, fun r4 H4 a4 b4 bx4 bt4 => ?_⟩
  (push_cast only [])
  refine ⟨by decide, fun l H5 n5 s5 e5 => ?_⟩
  refine ⟨p, 4, rfl, bx4.same s5, by decide, by decide, fun r6 H6 a6 b6 bx6 bt6 => ?_⟩
  have hs6 := (bt6.sq (bx4.ne n5).symm).trans (sq_lst e5)
  obtain ⟨m', hm', m0, m1⟩ := pick4 (P := fun x => 1 ≤ x ∧ x ≤ 5) a6 b6 (a := 1 + r1) (b := 1 + r2) (c := 2 + r3) (d := 1 + r4) ⟨by omega, by omega⟩ ⟨by omega, by omega⟩ ⟨by omega, by omega⟩ ⟨by omega, by omega⟩
  (push_cast only [hs6, hm'])
  refine ⟨p, 3, rfl, bx6, by decide, by decide, fun r7 H7 a7 b7 bx7 bt7 => ?_⟩
  (push_cast only [])
  refine ⟨p, 3, rfl, bx7, by decide, by decide, fun r8 H8 a8 b8 bx8 bt8 => ?_⟩
  (push_cast only [])
  refine ⟨p, 2, rfl, bx8, by decide, by decide, fun r9 H9 a9 b9 bx9 bt9 => ?_⟩
  (push_cast only [])
  refine ⟨p, 5, rfl, bx9, by decide, by decide, fun r10 H10 a10 b10 bx10 bt10 => ?_⟩
  (push_cast only [])
  refine ⟨by decide, fun l2 H11 n11 s11 e11 => ?_⟩
  refine ⟨p, 4, rfl, bx10.same s11, by decide, by decide, fun r12 H12 a12 b12 bx12 bt12 => ?_⟩
  have hs12 := (bt12.sq (bx10.ne n11).symm).trans (sq_lst e11)
  obtain ⟨n', hn', n0, n1⟩ := pick4 (P := fun x => 1 ≤ x ∧ x ≤ 5) a12 b12 (a := 1 + r7) (b := 1 + r8) (c := 2 + r9) (d := 1 + r10) ⟨by omega, by omega⟩ ⟨by omega, by omega⟩ ⟨by omega, by omega⟩ ⟨by omega, by omega⟩
  obtain ⟨m, rfl⟩ := Int.eq_ofNat_of_zero_le (show 0 ≤ m' by omega)
  obtain ⟨n, rfl⟩ := Int.eq_ofNat_of_zero_le (show 0 ≤ n' by omega)
  have sx6 : SameX p H H6 := ((((bt1.x.trans bt2.x).trans bt3.x).trans bt4.x).trans s5.x).trans bt6.x
  have sx12 : SameX p H H12 := ((((((sx6.trans bt7.x).trans bt8.x).trans bt9.x).trans bt10.x).trans s11.x).trans bt12.x)
  (push_cast only [hs12, hn'])
  split
  ·refine ⟨by decide, fun t H13 n13 s13 e13 => ?_⟩
   by_cases h3 : (3 : Int) < (n : Int)
   ·rw [if_pos h3] at e13
    exact q t m 3 H13 (none_of sx12 n13 (bx12.ne n13).symm) (by omega) (by omega) (by decide) (by decide) (bx12.same s13) (sx12.trans s13.x) e13
   ·rw [if_neg h3] at e13
    exact q t m n H13 (none_of sx12 n13 (bx12.ne n13).symm) (by omega) (by omega) (by omega) (by omega) (bx12.same s13) (sx12.trans s13.x) e13
  ·refine ⟨by decide, fun t H13 n13 s13 e13 => ?_⟩
   exact q t m n H13 (none_of sx12 n13 (bx12.ne n13).symm) (by omega) (by omega) (by omega) (by omega) (bx12.same s13) (sx12.trans s13.x) e13
noncomputable def sp_worth : Sp := fun vs H Q _ => ∃ (p : Addr) (most : Int), vs = [.ref p, .int most] ∧ Box H p ∧ 0 ≤ most ∧ most ≤ 90 ∧ ∀ (r : Int) (H' : Hp), 0 ≤ r → r ≤ 90 → Box H' p → SameX p H H' → Q (.int r) H'
theorem sc__law_worth : FnScope ["_law_left_here", "_law_most_here"] ["_law_left_here", "_law_most_here"] (defScope s__law_worth) := ⟨rfl, rfl, rfl, by decide +kernel, rfl, by decide +kernel, by decide +kernel⟩
theorem ok_worth (F : Fun K "_law_worth" "_law_worth" s__law_worth f fd) (hm : mg "_law_worth" = some (.ref f)) (hb : Binds K fd ["_law_left_here", "_law_most_here"] []) (T : Txt mg) (c__law_pick : Cal P w K mg base "_law_pick" ["_law_left_here", "_law_many"] 1 spTake) : Cal P w K mg base "_law_worth" ["_law_left_here", "_law_most_here"] 2 sp_worth := by
 refine cal_of F hm hb sc__law_worth (fun vs H Q E h => ?_) (fun cdv A outer s H vs Q E hr h => ?_)
 ·obtain ⟨_, _, rfl, _⟩ := h; rfl
 ·obtain ⟨p, most, rfl, bx, mo0, mo1, q⟩ := h
  have sc := sc__law_worth
  refine ⟨_, pss_one (ps_ret (pe_ix ix0 (pe_lstA (pa_cns (pe_cal c__law_pick hr (pa_cns (pv 0) (pa_cns pe_int pa_nil))) (pa_cns (pe_cal c__law_pick hr (pa_cns (pv 0) (pa_cns pe_int pa_nil))) (pa_cns (pe_cal c__law_pick hr (pa_cns (pv 0) (pa_cns (pe_op op_add (pv 1) pe_int) pa_nil))) pa_nil)))) (pe_cal c__law_pick hr (pa_cns (pv 0) (pa_cns pe_int pa_nil))) (fun _ _ => rfl))), ?_⟩
  rw [show L2.start ["_law_left_here", "_law_most_here"] [.ref p, .int most] = [some (.ref p), some (.int most)] from rfl]
  (push_cast only [])
  refine ⟨p, 4, rfl, bx, by decide, by decide, fun r1 H1 a1 b1 bx1 bt1 => ?_⟩
  (push_cast only [])
  refine ⟨p, 10, rfl, bx1, by decide, by decide, fun r2 H2 a2 b2 bx2 bt2 => ?_⟩
  (push_cast only [])
  refine ⟨p, most + 1, rfl, bx2, by omega, by omega, fun r3 H3 a3 b3 bx3 bt3 => ?_⟩
  (push_cast only [])
  refine ⟨by decide, fun l H4 n4 s4 e4 => ?_⟩
  refine ⟨p, 3, rfl, bx3.same s4, by decide, by decide, fun r5 H5 a5 b5 bx5 bt5 => ?_⟩
  have hs5 := (bt5.sq (bx3.ne n4).symm).trans (sq_lst e4)
  obtain ⟨x, hx, x0, x1⟩ := pick3 (P := fun x => 0 ≤ x ∧ x ≤ 90) a5 b5 (a := r1) (b := r2) (c := r3) ⟨by omega, by omega⟩ ⟨by omega, by omega⟩ ⟨by omega, by omega⟩
  (push_cast only [hs5, hx])
  exact q x H5 x0 x1 bx5 ((((bt1.x.trans bt2.x).trans bt3.x).trans s4.x).trans bt5.x)
noncomputable def sp_most : Sp := fun vs H Q _ => ∃ p : Addr, vs = [.ref p] ∧ Box H p ∧ ∀ (r : Int) (H' : Hp), 0 ≤ r → r ≤ 90 → Box H' p → SameX p H H' → Q (.int r) H'
theorem sc__law_most : FnScope ["_law_left_here"] ["_law_left_here"] (defScope s__law_most) := ⟨rfl, rfl, rfl, by decide +kernel, rfl, by decide +kernel, by decide +kernel⟩
theorem ok_most (F : Fun K "_law_most" "_law_most" s__law_most f fd) (hm : mg "_law_most" = some (.ref f)) (hb : Binds K fd ["_law_left_here"] []) (T : Txt mg) (c__law_pick : Cal P w K mg base "_law_pick" ["_law_left_here", "_law_many"] 1 spTake) : Cal P w K mg base "_law_most" ["_law_left_here"] 2 sp_most := by
 refine cal_of F hm hb sc__law_most (fun vs H Q E h => ?_) (fun cdv A outer s H vs Q E hr h => ?_)
 ·obtain ⟨_, rfl, _⟩ := h; rfl
 ·obtain ⟨p, rfl, bx, q⟩ := h
  have sc := sc__law_most
  refine ⟨_, pss_one (ps_ret (pe_ix ix0 (pe_lstA (pa_cns pe_int (pa_cns pe_int (pa_cns pe_int (pa_cns pe_int pa_nil))))) (pe_cal c__law_pick hr (pa_cns (pv 0) (pa_cns pe_int pa_nil))) (fun _ _ => rfl))), ?_⟩
  rw [show L2.start ["_law_left_here"] [.ref p] = [some (.ref p)] from rfl]
  (push_cast only [])
  refine ⟨by decide, fun l H1 n1 s1 e1 => ?_⟩
  refine ⟨p, 4, rfl, bx.same s1, by decide, by decide, fun r2 H2 a2 b2 bx2 bt2 => ?_⟩
  have hs2 := (bt2.sq (bx.ne n1).symm).trans (sq_lst e1)
  obtain ⟨x, hx, x0, x1⟩ := pick4 (P := fun x => 0 ≤ x ∧ x ≤ 90) a2 b2 (a := 5) (b := 12) (c := 30) (d := 90) ⟨by omega, by omega⟩ ⟨by omega, by omega⟩ ⟨by omega, by omega⟩ ⟨by omega, by omega⟩
  (push_cast only [hs2, hx])
  exact q x H2 x0 x1 bx2 (s1.x.trans bt2.x)
noncomputable def sp_in : Sp := fun vs H Q _ => ∃ (a : Addr) (ws : List Int) (h : Int), vs = [.ref a, .int h] ∧ H a = some (.lst (ws.map V.int)) ∧ ws.length ≤ 5 ∧ ∀ (t : Addr) (xs : List Int) (H' : Hp), H t = none → Same H H' → xs.length ≤ 5 → (∀ x ∈ xs, x ∈ ws) → (h = 0 → xs = []) → H' t = some (.lst (xs.map V.int)) → Q (.ref t) H'
noncomputable def WI (c : Addr) (ws : List Int) (h : Int) (G : Hp) (i : Nat) (σ : St) (H : Hp) : Prop := ∃ (v1 v2 : Option V) (xs : List Int), σ = [v1, v2, some (.int h)] ∧ xs.length ≤ i ∧ (∀ x ∈ xs, x ∈ ws) ∧ (h = 0 → xs = []) ∧ SameX c G H ∧ H c = some (.lst (xs.map V.int))
theorem sc__law_worths_in : FnScope ["_law_worths", "_law_heap"] ["_law_worths", "_law_heap"] (defScope s__law_worths_in) := ⟨rfl, rfl, rfl, by decide +kernel, rfl, by decide +kernel, by decide +kernel⟩
theorem ok_in (F : Fun K "_law_worths_in" "_law_worths_in" s__law_worths_in f fd) (hm : mg "_law_worths_in" = some (.ref f)) (hb : Binds K fd ["_law_worths", "_law_heap"] []) (T : Txt mg) : Cal P w K mg base "_law_worths_in" ["_law_worths", "_law_heap"] 1 sp_in := by
 refine cal_of F hm hb sc__law_worths_in (fun vs H Q E h => ?_) (fun cdv A outer s H vs Q E hr h => ?_)
 ·obtain ⟨_, _, _, rfl, _⟩ := h; rfl
 ·obtain ⟨a, ws, h, rfl, ha, h5, q⟩ := h
  have sc := sc__law_worths_in
  refine ⟨_, pss_one (ps_ret (pe_lc (N := ["_law_thing", "_law_worth_here", "_law_heap"]) (fr := [none, none, some 1]) rfl (pi_enum rfl T.enumerate_ (pa_cns (pv 0) pa_nil)) (CScope.of rfl rfl rfl) rfl (fun _ _ _ => ⟨pg_tup0 (n := 2) rfl (pgs_cons (pg_name (i := 0) (show List.Nodup (α := Str) ["_law_thing", "_law_worth_here", "_law_heap"] by decide +kernel) rfl (Or.inl rfl)) (pgs_cons (pg_name (i := 1) (show List.Nodup (α := Str) ["_law_thing", "_law_worth_here", "_law_heap"] by decide +kernel) rfl (Or.inl rfl)) pgs_nil)), pif_one (pt_cmpR op_eq (pe_op op_and (pe_op op_shr (pv 2) (pv 0)) pe_int) pe_int (nomark _)), pv 1⟩))), ?_⟩
  rw [show L2.start ["_law_worths", "_law_heap"] [.ref a, .int h] = [some (.ref a), some (.int h)] from rfl]
  (push_cast only [])
  refine ⟨_, _, .inl ⟨rfl, ha⟩, fun c nc => ?_⟩
  have nac : a ≠ c := ne_of_none ha nc
  refine cl_enum (WI c ws h H) ⟨none, none, [], rfl, Nat.le_refl _, (fun x hx => by simp at hx), (fun _ => rfl), SameX.upd, upd_same⟩ (fun i σ H2 ⟨_, _, _, _, _, _, _, s, _⟩ => .inl ⟨rfl, s _ _ nac ha⟩) ?_ ?_
  ·rintro i v T' σ H2 H3 hv ⟨v1, v2, xs, rfl, hxl, hxm, hxz, s2, e2⟩ nT s3 e3
   rw [List.getElem?_map] at hv
   obtain ⟨x, hx, rfl⟩ := Option.map_eq_some_iff.mp hv
   have hi : i < ws.length := (List.getElem?_eq_some_iff.mp hx).1
   have ec := s3 _ _ e2
   (push_cast only [e3])
   refine ⟨by omega, ?_⟩
   split
   ·rename_i hb'
    (push_cast only [ec])
    refine ⟨small1000 (by omega), ⟨_, _, xs ++ [x], rfl, by simp; omega, fun y hy => ?_, (fun z => absurd hb' (by rw [z, Int.zero_ediv]; decide)), (s2.trans s3.x).trans SameX.upd, by rw [upd_same]; simp⟩⟩
    rcases List.mem_append.mp hy with z | z
    ·exact hxm y z
    ·have : y = x := by simpa using z
     rw [this]
     exact List.mem_of_getElem? hx
   ·exact ⟨_, _, xs, rfl, by omega, hxm, hxz, s2.trans s3.x, ec⟩
  ·rintro σ H2 ⟨v1, v2, xs, rfl, hxl, hxm, hxz, s2, e2⟩
   rw [List.length_map] at hxl
   (push_cast only [])
   exact q c xs H2 nc (s2.same nc) (by omega) hxm hxz e2
end
end K73
end
section
set_option Elab.async false
set_option linter.all false
set_option maxRecDepth 100000
set_option maxHeartbeats 4000000
namespace K73
open PySem L2
section
variable {P : Program} {w : World} {K : PySem.W.Frag} {mg : Str → Option Value} {base : Heap} {f : Addr} {fd : FuncData}
noncomputable def MadeX (p c : Addr) (Pr : Int → Prop) (τ : List (Option V)) (G : Hp) (i : Nat) (σ : St) (H : Hp) : Prop := ∃ (v : Option V) (ws : List Int), σ = v :: τ ∧ ws.length = i ∧ (∀ x ∈ ws, Pr x) ∧ Box H p ∧ (∀ b o, b ≠ p → b ≠ c → G b = some o → H b = some o) ∧ H c = some (.lst (ws.map V.int))
theorem mem_snoc {ws : List Int} {r : Int} {Pr : Int → Prop} (h : ∀ x ∈ ws, Pr x) (hr : Pr r) : ∀ x ∈ ws ++ [r], Pr x := fun x hx => by
 rcases List.mem_append.mp hx with z | z
 ·exact h x z
 ·have : x = r := by simpa using z
  rw [this]
  exact hr
theorem MadeX.zero {p c : Addr} {Pr : Int → Prop} {τ : List (Option V)} {G : Hp} {v : Option V} (bx : Box G p) (nc : G c = none) : MadeX p c Pr τ G 0 (v :: τ) (upd G c (.lst [])) :=
 ⟨v, [], rfl, rfl, fun _ z => absurd z (by simp), bx.upd (bx.ne nc), fun b o _ n e => by rw [upd_ne n]; exact e, upd_same⟩
theorem MadeX.more {p c : Addr} {Pr : Int → Prop} {τ : List (Option V)} {G H H3 : Hp} {v : Option V} {ws : List Int} {r : Int} (npc : p ≠ c) (hbd : ∀ x ∈ ws, Pr x) (k : ∀ b o, b ≠ p → b ≠ c → G b = some o → H b = some o) (s : SameX p H H3) (bx : Box H3 p) (hr : Pr r) : MadeX p c Pr τ G (ws.length + 1) (v :: τ) (upd H3 c (.lst (ws.map V.int ++ [V.int r]))) :=
 ⟨v, ws ++ [r], rfl, by simp, mem_snoc hbd hr, bx.upd npc, fun b o n1 n2 e => by rw [upd_ne n2]; exact s _ _ n1 (k b o n1 n2 e), by rw [upd_same]; simp⟩
noncomputable def MadeZ (p c : Addr) (Pr : Int → Prop) (τ : List (Option V)) (G : Hp) (i : Nat) (σ : St) (H : Hp) : Prop := ∃ (v : Option V) (ws : List Int), σ = v :: τ ∧ ws.length = i ∧ (∀ x ∈ ws, Pr x) ∧ ws.getD 0 0 = 0 ∧ Box H p ∧ (∀ b o, b ≠ p → b ≠ c → G b = some o → H b = some o) ∧ H c = some (.lst (ws.map V.int))
theorem zero_snoc {ws : List Int} {r : Int} (h : ws.getD 0 0 = 0) (hr : ws = [] → r = 0) : (ws ++ [r]).getD 0 0 = 0 := by
 cases ws with
 | nil => exact hr rfl
 | cons a l => exact h
theorem MadeZ.zero {p c : Addr} {Pr : Int → Prop} {τ : List (Option V)} {G : Hp} {v : Option V} (bx : Box G p) (nc : G c = none) : MadeZ p c Pr τ G 0 (v :: τ) (upd G c (.lst [])) :=
 ⟨v, [], rfl, rfl, fun _ z => absurd z (by simp), rfl, bx.upd (bx.ne nc), fun b o _ n e => by rw [upd_ne n]; exact e, upd_same⟩
theorem MadeZ.more {p c : Addr} {Pr : Int → Prop} {τ : List (Option V)} {G H H3 : Hp} {v : Option V} {ws : List Int} {r : Int} (npc : p ≠ c) (hbd : ∀ x ∈ ws, Pr x) (hz : ws.getD 0 0 = 0) (k : ∀ b o, b ≠ p → b ≠ c → G b = some o → H b = some o) (s : SameX p H H3) (bx : Box H3 p) (hr : Pr r) (hr0 : ws = [] → r = 0) : MadeZ p c Pr τ G (ws.length + 1) (v :: τ) (upd H3 c (.lst (ws.map V.int ++ [V.int r]))) :=
 ⟨v, ws ++ [r], rfl, by simp, mem_snoc hbd hr, zero_snoc hz hr0, bx.upd npc, fun b o n1 n2 e => by rw [upd_ne n2]; exact s _ _ n1 (k b o n1 n2 e), by rw [upd_same]; simp⟩
theorem sum_bd {b : Int} : ∀ (xs : List Int), (∀ x ∈ xs, 0 ≤ x ∧ x ≤ b) → 0 ≤ xs.sum ∧ xs.sum ≤ b * (xs.length : Int)
 | [], _ => by simp
 | x :: xs, h => by
  have h1 := h x List.mem_cons_self
  have h2 := sum_bd xs fun y hy => h y (List.mem_cons_of_mem _ hy)
  rw [List.sum_cons, List.length_cons, Int.natCast_succ, Int.mul_add, Int.mul_one]
  omega
theorem hpow (m : Nat) : (1 : Int) * 2 ^ (m : Int).toNat = ((2 ^ m : Nat) : Int) := by rw [Int.one_mul, Int.toNat_natCast]; norm_cast
noncomputable def sp_tw (args : Nat → Addr → List V → Hp → Prop) (B : Int) : Sp := fun vs H Q _ => ∃ (p : Addr) (m : Nat), args m p vs H ∧ Box H p ∧ 1 ≤ m ∧ m ≤ 5 ∧ ∀ (t : Addr) (ws : List Int) (H' : Hp), H t = none → ws.length = 2 ^ m → ws.getD 0 0 = 0 → (∀ x ∈ ws, 0 ≤ x ∧ x ≤ B) → Box H' p → SameX p H H' → H' t = some (.tup (ws.map V.int)) → Q (.ref t) H'
noncomputable def aM (m : Nat) (p : Addr) (vs : List V) (H : Hp) : Prop := ∃ most : Int, vs = [.ref p, .int (m : Int), .int most] ∧ 0 ≤ most ∧ most ≤ 90
theorem sc__law_sum_want : FnScope ["_law_left_here", "_law_many", "_law_most_here", "_law_worths"] ["_law_left_here", "_law_many", "_law_most_here"] (defScope s__law_sum_want) := ⟨rfl, rfl, rfl, by decide +kernel, rfl, by decide +kernel, by decide +kernel⟩
theorem ok_sum (F : Fun K "_law_sum_want" "_law_sum_want" s__law_sum_want f fd) (hm : mg "_law_sum_want" = some (.ref f)) (hb : Binds K fd ["_law_left_here", "_law_many", "_law_most_here"] []) (T : Txt mg) (c__law_worth : Cal P w K mg base "_law_worth" ["_law_left_here", "_law_most_here"] 2 sp_worth) (c__law_worths_in : Cal P w K mg base "_law_worths_in" ["_law_worths", "_law_heap"] 1 sp_in) : Cal P w K mg base "_law_sum_want" ["_law_left_here", "_law_many", "_law_most_here"] 3 (sp_tw aM 10000) := by
 refine cal_of F hm hb sc__law_sum_want (fun vs H Q E h => ?_) (fun cdv A outer s H vs Q E hr h => ?_)
 ·obtain ⟨_, _, ⟨_, rfl, _⟩, _⟩ := h; rfl
 ·obtain ⟨p, m, ⟨most, rfl, mo0, mo1⟩, bx, m1, m5, q⟩ := h
  have sc := sc__law_sum_want
  refine ⟨_, pss_cons (ps_set (i := 3) sc.nd rfl (Or.inr rfl) (pe_lc (N := ["_law_thing", "_law_left_here", "_law_most_here"]) (fr := [none, some 0, some 2]) rfl (pi_range1 rfl T.range_ (pa_cns (pv 1) pa_nil)) (CScope.of rfl rfl rfl) rfl (fun _ _ _ => ⟨pg_name (i := 0) (show List.Nodup (α := Str) ["_law_thing", "_law_left_here", "_law_most_here"] by decide +kernel) rfl (Or.inl rfl), pif_nil, pe_cal c__law_worth hr (pa_cns (pv 1) (pa_cns (pv 2) pa_nil))⟩)))
   (pss_one (ps_ret (pe_callTy tupA0 rfl T.tuple_ bt_tuple (pa_cns (pe_lc (N := ["_law_heap", "_law_worths"]) (fr := [none, some 3]) rfl (pi_range1 rfl T.range_ (pa_cns (pe_op op_shl pe_int (pv 1)) pa_nil)) (CScope.of rfl rfl rfl) rfl (fun _ _ _ => ⟨pg_name (i := 0) (show List.Nodup (α := Str) ["_law_heap", "_law_worths"] by decide +kernel) rfl (Or.inl rfl), pif_nil, pe_callB (sum0 rfl) rfl T.sum_ bt_sum (pa_cns (pe_cal c__law_worths_in hr (pa_cns (pv 1) (pa_cns (pv 0) pa_nil))) pa_nil)⟩)) pa_nil)))), ?_⟩
  rw [show L2.start ["_law_left_here", "_law_many", "_law_most_here", "_law_worths"] [.ref p, .int (m : Int), .int most] = [some (.ref p), some (.int (m : Int)), some (.int most), none] from rfl]
  (push_cast only [])
  refine ⟨by omega, by omega, fun c nc => ?_⟩
  have ncp : p ≠ c := bx.ne nc
  refine cl_range (MadeX p c (fun x => 0 ≤ x ∧ x ≤ 90) [some (.ref p), some (.int most)] H) (MadeX.zero bx nc) ?_ ?_
  ·rintro i σ H1 hi ⟨v, ws, rfl, hl, hbd, bx1, k1, e1⟩
   rw [Int.toNat_natCast] at hi
   (push_cast only [])
   refine ⟨p, most, rfl, bx1, mo0, mo1, fun r H2 r0 r1 bx2 s2 => ?_⟩
   have e2 := s2 _ _ ncp.symm e1
   subst hl
   (push_cast only [e2])
   exact ⟨small1000 (by omega), MadeX.more ncp hbd k1 s2 bx2 ⟨r0, r1⟩⟩
  ·rintro σ H1 ⟨v, ws, rfl, hl, hbd, bx1, k1, e1⟩
   rw [Int.toNat_natCast] at hl
   have sx1 : SameX p H H1 := fun b o n e => k1 b o n (ne_of_none e nc) e
   (push_cast only [])
   rw [hpow]
   have p32 := pow32 m5
   refine ⟨⟨by omega, by omega, by decide⟩, by omega, by omega, fun d nd => ?_⟩
   have ndp : p ≠ d := bx1.ne nd
   have ncd : c ≠ d := ne_of_none e1 nd
   refine cl_range (MadeZ p d (fun x => 0 ≤ x ∧ x ≤ 10000) [some (.ref c)] H1) (MadeZ.zero bx1 nd) ?_ ?_
   ·rintro i σ H2 hi ⟨v, xs, rfl, hxl, hxb, hxz, bx2, k2, e2⟩
    rw [Int.toNat_natCast] at hi
    have e12 := k2 _ _ ncp.symm ncd e1
    (push_cast only [])
    refine ⟨c, ws, (i : Int), rfl, e12, by omega, fun t ys H3 nt s3 yl ym yz e3 => ?_⟩
    have ybd : ∀ y ∈ ys, 0 ≤ y ∧ y ≤ 90 := fun y hy => hbd y (ym y hy)
    have hs3 := sq_lst e3
    have e23 := s3 _ _ e2
    have sb := sum_bd ys ybd
    (push_cast only [hs3])
    refine ⟨ys, rfl, sumFits_of (fun y hy => by have := ybd y hy; omega) (by omega), ?_⟩
    subst hxl
    (push_cast only [e23])
    exact ⟨small1000 (by omega), MadeZ.more ndp hxb hxz k2 s3.x (bx2.same s3) ⟨sb.1, by omega⟩ (fun z => by subst z; rw [yz rfl]; rfl)⟩
   ·rintro σ H2 ⟨v, xs, rfl, hxl, hxb, hxz, bx2, k2, e2⟩
    rw [Int.toNat_natCast] at hxl
    refine ⟨_, e2, fun t H3 nt s3 e3 => ?_⟩
    have sx2 : SameX p H H2 := fun b o n e => k2 b o n (ne_of_none (sx1 _ _ n e) nd) (sx1 _ _ n e)
    exact q t xs H3 (none_of sx2 nt (bx2.ne nt).symm) hxl hxz hxb (bx2.same s3) (sx2.trans s3.x) e3
theorem cut_take (ns : List Int) (k : Nat) : cutV (ns.map V.int) none (some (k : Int)) = (ns.take k).map V.int := by
 unfold cutV
 rw [HT.sIx_none, HT.sIx_nat, List.length_map, List.drop_zero, Nat.sub_zero, ← List.map_take]
 congr 1
 rcases Nat.le_total k ns.length with h | h
 ·rw [Nat.min_eq_left h]
 ·rw [Nat.min_eq_right h, List.take_of_length_le (Nat.le_refl _), List.take_of_length_le h]
noncomputable def FB (p c w : Addr) (m most few : Int) (G : Hp) (i : Nat) (σ : St) (H : Hp) : Prop := ∃ (v6 v7 : Option V) (ws : List Int), σ = [some (.ref p), some (.int m), some (.int most), some (.ref w), some (.int few), some (.ref c), v6, v7] ∧ ws.length = i ∧ (∀ x ∈ ws, 0 ≤ x ∧ x ≤ 10000) ∧ ws.getD 0 0 = 0 ∧ Box H p ∧ (∀ b o, b ≠ p → b ≠ c → G b = some o → H b = some o) ∧ H c = some (.lst (ws.map V.int))
theorem sc__law_best_few : FnScope ["_law_left_here", "_law_many", "_law_most_here", "_law_worths", "_law_few", "_law_found", "_law_heap", "_law_some"] ["_law_left_here", "_law_many", "_law_most_here"] (defScope s__law_best_few) := ⟨rfl, rfl, rfl, by decide +kernel, rfl, by decide +kernel, by decide +kernel⟩
theorem ok_few (F : Fun K "_law_best_few" "_law_best_few" s__law_best_few f fd) (hm : mg "_law_best_few" = some (.ref f)) (hb : Binds K fd ["_law_left_here", "_law_many", "_law_most_here"] []) (T : Txt mg) (c__law_pick : Cal P w K mg base "_law_pick" ["_law_left_here", "_law_many"] 1 spTake) (c__law_worth : Cal P w K mg base "_law_worth" ["_law_left_here", "_law_most_here"] 2 sp_worth) (c__law_worths_in : Cal P w K mg base "_law_worths_in" ["_law_worths", "_law_heap"] 1 sp_in) : Cal P w K mg base "_law_best_few" ["_law_left_here", "_law_many", "_law_most_here"] 3 (sp_tw aM 10000) := by
 refine cal_of F hm hb sc__law_best_few (fun vs H Q E h => ?_) (fun cdv A outer s H vs Q E hr h => ?_)
 ·obtain ⟨_, _, ⟨_, rfl, _⟩, _⟩ := h; rfl
 ·obtain ⟨p, m, ⟨most, rfl, mo0, mo1⟩, bx, m1, m5, q⟩ := h
  have sc := sc__law_best_few
  refine ⟨_, pss_consL (ps_setLC (i := 3) sc.nd rfl (Or.inl rfl) (N := ["_law_thing", "_law_left_here", "_law_most_here"]) (fr := [none, some 0, some 2]) rfl (pi_range1 rfl T.range_ (pa_cns (pv 1) pa_nil)) (CScope.of rfl rfl rfl) rfl (fun _ _ _ => ⟨pg_name (i := 0) (show List.Nodup (α := Str) ["_law_thing", "_law_left_here", "_law_most_here"] by decide +kernel) rfl (Or.inl rfl), pif_nil, pe_cal c__law_worth hr (pa_cns (pv 1) (pa_cns (pv 2) pa_nil))⟩))
   (pss_consL (ps_set (i := 4) sc.nd rfl (Or.inl rfl) (pe_ix ix0 (pe_lstA (pa_cns pe_int (pa_cns pe_int (pa_cns pe_int (pa_cns (pe_cal c__law_pick hr (pa_cns (pv 0) (pa_cns (pe_op op_add (pv 1) pe_int) pa_nil))) pa_nil))))) (pe_cal c__law_pick hr (pa_cns (pv 0) (pa_cns pe_int pa_nil))) (fun _ _ => rfl)))
   (pss_consL (ps_set (i := 5) sc.nd rfl (Or.inl rfl) (pe_lstA pa_nil))
   (pss_consL (ps_for PassesOwn.never rfl (pi_range1 rfl T.range_ (pa_cns (pe_op op_shl pe_int (pv 1)) pa_nil)) (pg_name (i := 6) sc.nd rfl (Or.inl rfl))
    (pss_consL (ps_set (i := 7) sc.nd rfl (Or.inl rfl) (pe_callB sorted0 rfl T.sorted_ bt_sorted (pa_cns (pe_cal c__law_worths_in hr (pa_cns (pv 3) (pa_cns (pv 6) pa_nil))) pa_nil)))
   (pss_one (ps_expr (pe_append (pv 5) (pa_cns (pe_callB (sum0 rfl) rfl T.sum_ bt_sum (pa_cns (pe_slice slL0 (pe_revL (pv 7) (pe_un un_neg pe_int) (fun _ _ _ h => ⟨_, rfl, h⟩)) po_none (po_some (pv 4))) pa_nil)) pa_nil))))))
   (pss_one (ps_ret (pe_callTy tupA0 rfl T.tuple_ bt_tuple (pa_cns (pv 5) pa_nil))))))), ?_⟩
  rw [show L2.start ["_law_left_here", "_law_many", "_law_most_here", "_law_worths", "_law_few", "_law_found", "_law_heap", "_law_some"] [.ref p, .int (m : Int), .int most] = [some (.ref p), some (.int (m : Int)), some (.int most), none, none, none, none, none] from rfl]
  (push_cast only [])
  refine ⟨by omega, by omega, fun c nc => ?_⟩
  have ncp : p ≠ c := bx.ne nc
  refine cl_range (MadeX p c (fun x => 0 ≤ x ∧ x ≤ 90) [some (.ref p), some (.int most)] H) (MadeX.zero bx nc) ?_ ?_
  ·rintro i σ H1 hi ⟨v, ws, rfl, hl, hbd, bx1, k1, e1⟩
   rw [Int.toNat_natCast] at hi
   (push_cast only [])
   refine ⟨p, most, rfl, bx1, mo0, mo1, fun r H2 r0 r1 bx2 s2 => ?_⟩
   have e2 := s2 _ _ ncp.symm e1
   subst hl
   (push_cast only [e2])
   exact ⟨small1000 (by omega), MadeX.more ncp hbd k1 s2 bx2 ⟨r0, r1⟩⟩
  ·rintro σ H1 ⟨v, ws, rfl, hl, hbd, bx1, k1, e1⟩
   rw [Int.toNat_natCast] at hl
   have sx1 : SameX p H H1 := fun b o n e => k1 b o n (ne_of_none e nc) e
   (simp only [a_laterH])
   (push_cast only [])
   refine ⟨p, (m : Int) + 1, rfl, bx1, by omega, by omega, fun r1 H2 a1 b1 bx2 bt2 => ?_⟩
   (push_cast only [])
   refine ⟨by decide, fun l H3 n3 s3 e3 => ?_⟩
   refine ⟨p, 4, rfl, bx2.same s3, by decide, by decide, fun r4 H4 a4 b4 bx4 bt4 => ?_⟩
   have hs4 := (bt4.sq (bx2.ne n3).symm).trans (sq_lst e3)
   obtain ⟨fw, hfw, f0, f1⟩ := pick4 (P := fun x => 0 ≤ x ∧ x ≤ 5) a4 b4 (a := 1) (b := 1) (c := 2) (d := r1) ⟨by omega, by omega⟩ ⟨by omega, by omega⟩ ⟨by omega, by omega⟩ ⟨by omega, by omega⟩
   obtain ⟨few, rfl⟩ := Int.eq_ofNat_of_zero_le f0
   have sx14 : SameX p H1 H4 := (bt2.x.trans s3.x).trans bt4.x
   have e14 := sx14 _ _ ncp.symm e1
   (push_cast only [hs4, hfw])
   (simp only [a_laterH])
   (push_cast only [])
   refine ⟨by decide, fun d H5 nd s5 e5 => ?_⟩
   have ndp : p ≠ d := bx4.ne nd
   have ncd : c ≠ d := ne_of_none e14 nd
   have e15 := s5 _ _ e14
   (simp only [a_laterH])
   (push_cast only [])
   rw [hpow]
   have p32 := pow32 m5
   refine ⟨⟨by omega, by omega, by decide⟩, by omega, by omega, fl_range (FB p d c (m : Int) most (few : Int) H5) ⟨_, _, [], rfl, rfl, (fun x hx => by simp at hx), rfl, bx4.same s5, fun b o _ _ e => e, e5⟩ ?_ ?_⟩
   ·rintro i σ H6 hi ⟨v6, v7, xs, rfl, hxl, hxb, hxz, bx6, k6, e6⟩
    rw [Int.toNat_natCast] at hi
    have e16 := k6 _ _ ncp.symm ncd e15
    (push_cast only [])
    refine ⟨c, ws, (i : Int), rfl, e16, by omega, fun t ys H7 nt s7 yl ym yz e7 => ?_⟩
    have hs7 := sq_lst e7
    (push_cast only [hs7])
    refine ⟨ys, rfl, by omega, fun t2 zs H8 n8 s8 pm _ e8 => ?_⟩
    have zm : ∀ z ∈ zs, 0 ≤ z ∧ z ≤ 90 := fun z hz => hbd z (ym z (pm.mem_iff.mp hz))
    have zl := pm.length_eq
    have e68 := s8 _ _ (s7 _ _ e6)
    (simp only [a_laterH])
    (push_cast only [e68, e8])
    intro t3 H9 n9 s9 e9
    (push_cast only [e9])
    intro t4 n4
    rw [← List.map_reverse, cut_take]
    (push_cast only [])
    have ym2 : ∀ y ∈ zs.reverse.take few, 0 ≤ y ∧ y ≤ 90 := fun y hy => zm y (List.mem_reverse.mp (List.mem_of_mem_take hy))
    have yl2 : (zs.reverse.take few).length ≤ 5 := by rw [List.length_take, List.length_reverse]; omega
    have sb := sum_bd _ ym2
    have e69 := s9 _ _ e68
    have ndt : d ≠ t4 := ne_of_none e69 n4
    refine ⟨zs.reverse.take few, rfl, sumFits_of (fun y hy => by have := ym2 y hy; omega) (by omega), ?_⟩
    have e610 : upd H9 t4 (HO.lst ((zs.reverse.take few).map V.int)) d = some (.lst (xs.map V.int)) := by rw [upd_ne ndt]; exact e69
    have s610 : Same H6 (upd H9 t4 (HO.lst ((zs.reverse.take few).map V.int))) := ((s7.trans s8).trans s9).trans (same_upd n4)
    (push_cast only [e610])
    exact ⟨small1000 (by omega), ⟨_, _, xs ++ [(zs.reverse.take few).sum], rfl, by simp [hxl], mem_snoc hxb ⟨sb.1, by omega⟩, zero_snoc hxz (fun z => by
     have i0 : i = 0 := by rw [← hxl, z]; rfl
     have y0 := yz (by rw [i0]; rfl)
     rw [y0] at zl
     have z0 : zs = [] := List.eq_nil_of_length_eq_zero zl
     rw [z0]
     simp), (bx6.same s610).upd ndp, fun b o b1 b2 e => by rw [upd_ne b2]; exact s610 _ _ (k6 b o b1 b2 e), by rw [upd_same]; simp⟩⟩
   ·rintro σ H6 ⟨v6, v7, xs, rfl, hxl, hxb, hxz, bx6, k6, e6⟩
    rw [Int.toNat_natCast] at hxl
    (simp only [a_laterH])
    (push_cast only [e6])
    intro t H7 nt s7 e7
    have sx6 : SameX p H H6 := fun b o n e => by
     have y4 := sx14 _ _ n (sx1 _ _ n e)
     exact k6 b o n (ne_of_none y4 nd) (s5 _ _ y4)
    exact q t xs H7 (none_of sx6 nt (bx6.ne nt).symm) hxl hxz hxb (bx6.same s7) (sx6.trans s7.x) e7
end
end K73
end
section
set_option Elab.async false
set_option linter.all false
set_option maxRecDepth 100000
set_option maxHeartbeats 4000000
namespace K73
open PySem L2
section
variable {P : Program} {w : World} {K : PySem.W.Frag} {mg : Str → Option Value} {base : Heap} {f : Addr} {fd : FuncData}
noncomputable def subs (h : Nat) (k : Nat) : List Int := ((List.range k).filter fun x : Nat => decide (Builtin.bitAnd (x : Int) (h : Int) = (x : Int))).map fun x : Nat => (x : Int)
theorem subs_succ (h k : Nat) : subs h (k + 1) = subs h k ++ if Builtin.bitAnd (k : Int) (h : Int) = (k : Int) then [(k : Int)] else [] := by
 unfold subs
 rw [List.range_succ, List.filter_append, List.map_append]
 congr 1
 by_cases e : Builtin.bitAnd (k : Int) (h : Int) = (k : Int)
 ·rw [if_pos e]; simp only [List.filter, decide_eq_true e, List.map]
 ·rw [if_neg e]; simp only [List.filter, decide_eq_false e, List.map]
theorem subs_mem {h k : Nat} {x : Int} (hx : x ∈ subs h k) : ∃ n : Nat, x = (n : Int) ∧ n < k := by
 unfold subs at hx
 obtain ⟨n, hn, rfl⟩ := List.mem_map.mp hx
 exact ⟨n, rfl, List.mem_range.mp (List.mem_filter.mp hn).1⟩
theorem subs_len (h k : Nat) : (subs h k).length ≤ k := by
 unfold subs
 rw [List.length_map]
 exact Nat.le_trans (List.length_filter_le _ _) (by simp)
theorem subs_ne {h : Nat} (hh : h < 32) : subs h (h + 1) ≠ [] := by
 have key : ∀ a : _root_.Fin 32, subs a.val (a.val + 1) ≠ [] := by decide +kernel
 exact key ⟨h, hh⟩
noncomputable def sp_within : Sp := fun vs H Q _ => ∃ h : Nat, vs = [.int (h : Int)] ∧ h < 32 ∧ ∀ (t : Addr) (H' : Hp), H t = none → Same H H' → H' t = some (.lst ((subs h (h + 1)).map V.int)) → Q (.ref t) H'
noncomputable def SI (c : Addr) (h : Nat) (G : Hp) (i : Nat) (σ : St) (H : Hp) : Prop := ∃ v : Option V, σ = [v, some (.int (h : Int))] ∧ SameX c G H ∧ H c = some (.lst ((subs h i).map V.int))
theorem sc__law_within : FnScope ["_law_heap"] ["_law_heap"] (defScope s__law_within) := ⟨rfl, rfl, rfl, by decide +kernel, rfl, by decide +kernel, by decide +kernel⟩
theorem ok_within (F : Fun K "_law_within" "_law_within" s__law_within f fd) (hm : mg "_law_within" = some (.ref f)) (hb : Binds K fd ["_law_heap"] []) (T : Txt mg) : Cal P w K mg base "_law_within" ["_law_heap"] 1 sp_within := by
 refine cal_of F hm hb sc__law_within (fun vs H Q E h => ?_) (fun cdv A outer s H vs Q E hr h => ?_)
 ·obtain ⟨_, rfl, _⟩ := h; rfl
 ·obtain ⟨h, rfl, h32, q⟩ := h
  have sc := sc__law_within
  refine ⟨_, pss_one (ps_ret (pe_lc (N := ["_law_part", "_law_heap"]) (fr := [none, some 0]) rfl (pi_range1 rfl T.range_ (pa_cns (pe_op op_add (pv 0) pe_int) pa_nil)) (CScope.of rfl rfl rfl) rfl (fun _ _ _ => ⟨pg_name (i := 0) (show List.Nodup (α := Str) ["_law_part", "_law_heap"] by decide +kernel) rfl (Or.inl rfl), pif_one (pt_cmpR op_eq (pe_op op_and (pv 0) (pv 1)) (pv 0) (nomark _)), pv 0⟩))), ?_⟩
  rw [show L2.start ["_law_heap"] [.int (h : Int)] = [some (.int (h : Int))] from rfl]
  (push_cast only [])
  refine ⟨by omega, by omega, fun c nc => ?_⟩
  refine cl_range (SI c h H) ⟨none, rfl, SameX.upd, upd_same⟩ ?_ ?_
  ·rintro i σ H1 hi ⟨v, rfl, s1, e1⟩
   have il := subs_len h i
   (push_cast only [])
   by_cases hb' : Builtin.bitAnd (i : Int) (h : Int) = (i : Int)
   ·rw [if_pos (by simpa using hb')]
    (push_cast only [e1])
    refine ⟨small1000 (by omega), ⟨_, rfl, s1.trans SameX.upd, ?_⟩⟩
    rw [upd_same, subs_succ, if_pos hb']
    simp
   ·rw [if_neg (by simpa using hb')]
    refine ⟨_, rfl, s1, ?_⟩
    rw [e1, subs_succ, if_neg hb', List.append_nil]
  ·rintro σ H1 ⟨v, rfl, s1, e1⟩
   rw [show ((h : Int) + 1).toNat = h + 1 by omega] at e1
   exact q c H1 nc (s1.same nc) e1
noncomputable def sp_both (B : Int) : Sp := fun vs H Q _ => ∃ (a b : Addr) (m : Nat) (xs ys : List Int), vs = [.ref a, .ref b] ∧ H a = some (.tup (xs.map V.int)) ∧ H b = some (.tup (ys.map V.int)) ∧ m ≤ 5 ∧ xs.length = 2 ^ m ∧ ys.length = 2 ^ m ∧ (∀ x ∈ xs, 0 ≤ x ∧ x ≤ B) ∧ (∀ x ∈ ys, 0 ≤ x ∧ x ≤ B) ∧ xs.getD 0 0 = 0 ∧ ys.getD 0 0 = 0 ∧
 ∀ (t : Addr) (ws : List Int) (H' : Hp), H t = none → Same H H' → ws.length = 2 ^ m → ws.getD 0 0 = 0 → (∀ x ∈ ws, 0 ≤ x ∧ x ≤ B + B) → H' t = some (.tup (ws.map V.int)) → Q (.ref t) H'
noncomputable def BW (a b c : Addr) (B : Int) (G : Hp) (i : Nat) (σ : St) (H : Hp) : Prop := ∃ (v : Option V) (ws : List Int), σ = [some (.ref a), some (.ref b), some (.ref c), v] ∧ ws.length = i ∧ (∀ x ∈ ws, 0 ≤ x ∧ x ≤ B + B) ∧ ws.getD 0 0 = 0 ∧ SameX c G H ∧ H c = some (.lst (ws.map V.int))
noncomputable def BJ (a b d : Addr) (h : Int) (B : Int) (G : Hp) (i : Nat) (σ : St) (H : Hp) : Prop := ∃ (v : Option V) (ws : List Int), σ = [v, some (.ref a), some (.ref b), some (.int h)] ∧ ws.length = i ∧ (∀ x ∈ ws, 0 ≤ x ∧ x ≤ B + B) ∧ (h = 0 → ∀ x ∈ ws, x = 0) ∧ SameX d G H ∧ H d = some (.lst (ws.map V.int))
theorem sc__law_both_wants : FnScope ["_law_one", "_law_other", "_law_found", "_law_heap"] ["_law_one", "_law_other"] (defScope s__law_both_wants) := ⟨rfl, rfl, rfl, by decide +kernel, rfl, by decide +kernel, by decide +kernel⟩
theorem ok_both {B : Int} (F : Fun K "_law_both_wants" "_law_both_wants" s__law_both_wants f fd) (hm : mg "_law_both_wants" = some (.ref f)) (hb : Binds K fd ["_law_one", "_law_other"] []) (T : Txt mg) (c__law_within : Cal P w K mg base "_law_within" ["_law_heap"] 1 sp_within) : Cal P w K mg base "_law_both_wants" ["_law_one", "_law_other"] 2 (sp_both B) := by
 refine cal_of F hm hb sc__law_both_wants (fun vs H Q E h => ?_) (fun cdv A outer s H vs Q E hr h => ?_)
 ·obtain ⟨_, _, _, _, _, rfl, _⟩ := h; rfl
 ·obtain ⟨a, b, m, xs, ys, rfl, ha, hb', m5, hxl, hyl, hxb, hyb, hx0, hy0, q⟩ := h
  have sc := sc__law_both_wants
  refine ⟨_, pss_cons (ps_set (i := 2) sc.nd rfl (Or.inl rfl) (pe_lstA pa_nil))
   (pss_cons (ps_for PassesOwn.never rfl (pi_range1 rfl T.range_ (pa_cns (pe_callB len0 rfl T.len_ bt_len (pa_cns (pv 0) pa_nil)) pa_nil)) (pg_name (i := 3) sc.nd rfl (Or.inr rfl))
    (pss_one (ps_expr (pe_append (pv 2) (pa_cns (pe_callB (max0 rfl) rfl T.max_ bt_max (pa_cns (pe_lc (N := ["_law_part", "_law_one", "_law_other", "_law_heap"]) (fr := [none, some 0, some 1, some 3]) rfl (pi_l0 (pe_cal c__law_within hr (pa_cns (pv 3) pa_nil))) (CScope.of rfl rfl rfl) rfl (fun _ _ _ => ⟨pg_name (i := 0) (show List.Nodup (α := Str) ["_law_part", "_law_one", "_law_other", "_law_heap"] by decide +kernel) rfl (Or.inl rfl), pif_nil, pe_op op_add (pe_ix ix0 (pv 1) (pv 0) (fun _ _ => rfl)) (pe_ix ix0 (pv 2) (pe_op op_sub (pv 3) (pv 0)) (fun _ _ => rfl))⟩)) pa_nil)) pa_nil)))))
   (pss_one (ps_ret (pe_callTy tupA0 rfl T.tuple_ bt_tuple (pa_cns (pv 2) pa_nil))))), ?_⟩
  rw [show L2.start ["_law_one", "_law_other", "_law_found", "_law_heap"] [.ref a, .ref b] = [some (.ref a), some (.ref b), none, none] from rfl]
  (push_cast only [])
  refine ⟨by decide, fun c H1 nc s1 e1 => ?_⟩
  have nac : a ≠ c := ne_of_none ha nc
  have nbc : b ≠ c := ne_of_none hb' nc
  have hs1 := sq_tup (s1 _ _ ha)
  have p32 := pow32 m5
  (push_cast only [hs1])
  rw [hxl]
  refine ⟨by omega, by omega, fl_range (BW a b c B H) ⟨_, [], rfl, rfl, (fun x hx => by simp at hx), rfl, s1.x, e1⟩ ?_ ?_⟩
  ·rintro i σ H2 hi ⟨v, ws, rfl, hwl, hwb, hwz, s2, e2⟩
   rw [Int.toNat_natCast] at hi
   (push_cast only [e2])
   refine ⟨i, rfl, by omega, fun t H3 nt s3 e3 => ?_⟩
   have e23 := s3 _ _ e2
   (push_cast only [e3])
   intro d nd
   have ha3 := s3 _ _ (s2 _ _ nac ha)
   have hb3 := s3 _ _ (s2 _ _ nbc hb')
   have nad : a ≠ d := ne_of_none ha3 nd
   have nbd : b ≠ d := ne_of_none hb3 nd
   have ntd : t ≠ d := ne_of_none e3 nd
   have ncd : c ≠ d := ne_of_none e23 nd
   have sl := subs_len i (i + 1)
   refine cl_seq (BJ a b d (i : Int) B H3) ⟨none, [], rfl, rfl, (fun x hx => by simp at hx), (fun _ x hx => by simp at hx), SameX.upd, upd_same⟩ (fun j σ H' _ ⟨_, _, _, _, _, _, s, _⟩ => s _ _ ntd e3) ?_ ?_
   ·rintro j x σ H4 hx ⟨v', zs, rfl, hzl, hzb, hzz, s4, e4⟩
    rw [List.getElem?_map] at hx
    obtain ⟨y, hy, rfl⟩ := Option.map_eq_some_iff.mp hx
    obtain ⟨n, rfl, hn⟩ := subs_mem (List.mem_of_getElem? hy)
    have hj : j < (subs i (i + 1)).length := (List.getElem?_eq_some_iff.mp hy).1
    have hsa := sq_tup (s4 _ _ nad ha3)
    have hsb := sq_tup (s4 _ _ nbd hb3)
    have l1 : n < xs.length := by omega
    have l2 : i - n < ys.length := by omega
    have at1 : atI (xs.map V.int) (n : Int) = some (V.int xs[n]) := atI_nat (by simp [l1])
    have at2 : atI (ys.map V.int) ((i : Int) - (n : Int)) = some (V.int ys[i - n]) := by
     rw [show (i : Int) - (n : Int) = ((i - n : Nat) : Int) by omega]
     exact atI_nat (by simp [l2])
    (push_cast only [hsa, hsb, at1, at2, e4])
    have b1 := hxb xs[n] (List.getElem_mem l1)
    have b2 := hyb ys[i - n] (List.getElem_mem l2)
    exact ⟨small1000 (by omega), ⟨_, zs ++ [xs[n] + ys[i - n]], rfl, by simp [hzl], mem_snoc hzb ⟨by omega, by omega⟩, (fun z => mem_snoc (hzz z) (by
     have i0 : i = 0 := by omega
     have n0 : n = 0 := by omega
     subst i0 n0
     have a1 : xs[0] = 0 := by rw [List.getD_eq_getElem?_getD, List.getElem?_eq_getElem l1] at hx0; exact hx0
     have a2 : ys[0 - 0] = 0 := by rw [List.getD_eq_getElem?_getD, List.getElem?_eq_getElem (show 0 < ys.length by omega)] at hy0; exact hy0
     rw [a1, a2]
     rfl)), s4.trans SameX.upd, by rw [upd_same]; simp⟩⟩
   ·rintro σ H4 ⟨v', zs, rfl, hzl, hzb, hzz, s4, e4⟩
    have hzn : zs ≠ [] := by
     intro e
     rw [e, List.length_map] at hzl
     exact subs_ne (show i < 32 by omega) (List.eq_nil_of_length_eq_zero hzl.symm)
    refine ⟨zs, sq_lst e4, hzn, fun mx mxm _ => ?_⟩
    have e24 := s4 _ _ ncd e23
    have mb := hzb mx mxm
    subst hwl
    (push_cast only [e24])
    refine ⟨small1000 (by omega), ⟨_, ws ++ [mx], rfl, by simp, mem_snoc hwb mb, zero_snoc hwz (fun z => hzz (by rw [z]; rfl) mx mxm), fun b' o n e => ?_, by rw [upd_same]; simp⟩⟩
    have y3 := s3 _ _ (s2 _ _ n e)
    rw [upd_ne n]
    exact s4 _ _ (ne_of_none y3 nd) y3
  ·rintro σ H2 ⟨v, ws, rfl, hwl, hwb, hwz, s2, e2⟩
   rw [Int.toNat_natCast] at hwl
   (push_cast only [e2])
   intro t H3 nt s3 e3
   have S2 := s2.same nc
   exact q t ws H3 (none_same S2 nt) (S2.trans s3) hwl hwz hwb e3
theorem bit_fact {h t : Nat} (hh : h < 32) (ht : t < 5) (e : Builtin.bitAnd ((h : Int) / 2 ^ (t : Int).toNat) 1 = 1) : 2 ^ t ≤ h := by
 have key : ∀ (a : _root_.Fin 32) (b : _root_.Fin 5), Builtin.bitAnd ((a.val : Int) / 2 ^ (b.val : Int).toNat) 1 = 1 → 2 ^ b.val ≤ a.val := by decide +kernel
 exact key ⟨h, hh⟩ ⟨t, ht⟩ e
theorem bit_some {h m : Nat} (hm : m ≤ 5) (h1 : 1 ≤ h) (h2 : h < 2 ^ m) : ∃ t, t < m ∧ Builtin.bitAnd ((h : Int) / 2 ^ (t : Int).toNat) 1 = 1 := by
 have key : ∀ (a : _root_.Fin 6) (b : _root_.Fin 32), 1 ≤ b.val → b.val < 2 ^ a.val → ∃ t : _root_.Fin 5, t.val < a.val ∧ Builtin.bitAnd ((b.val : Int) / 2 ^ (t.val : Int).toNat) 1 = 1 := by decide +kernel
 have := pow32 hm
 obtain ⟨t, h3, h4⟩ := key ⟨m, by omega⟩ ⟨h, by omega⟩ h1 h2
 exact ⟨t.val, h3, h4⟩
noncomputable def LI (f d : Addr) (h : Nat) (bd : Int) (G : Hp) (i : Nat) (σ : St) (H : Hp) : Prop := ∃ (v : Option V) (xs : List Int), σ = [v, some (.ref f), some (.int (h : Int))] ∧ xs.length ≤ i ∧ (∀ x ∈ xs, 0 ≤ x ∧ x ≤ bd) ∧ SameX d G H ∧ H d = some (.lst (xs.map V.int)) ∧ ((∃ t, t < i ∧ Builtin.bitAnd ((h : Int) / 2 ^ (t : Int).toNat) 1 = 1) → xs ≠ [])
noncomputable def AW (p f : Addr) (m most : Int) (G : Hp) (i : Nat) (σ : St) (H : Hp) : Prop := ∃ (v4 v5 : Option V) (ws : List Int), σ = [some (.ref p), some (.int m), some (.int most), some (.ref f), v4, v5] ∧ ws.length = i + 1 ∧ (∀ x ∈ ws, 0 ≤ x ∧ x ≤ 100 * ((i : Int) + 1)) ∧ ws.getD 0 0 = 0 ∧ Box H p ∧ (∀ b o, b ≠ p → b ≠ f → G b = some o → H b = some o) ∧ H f = some (.lst (ws.map V.int))
theorem sc__law_any_want : FnScope ["_law_left_here", "_law_many", "_law_most_here", "_law_found", "_law_heap", "_law_least"] ["_law_left_here", "_law_many", "_law_most_here"] (defScope s__law_any_want) := ⟨rfl, rfl, rfl, by decide +kernel, rfl, by decide +kernel, by decide +kernel⟩
theorem ok_any (F : Fun K "_law_any_want" "_law_any_want" s__law_any_want f fd) (hm : mg "_law_any_want" = some (.ref f)) (hb : Binds K fd ["_law_left_here", "_law_many", "_law_most_here"] []) (T : Txt mg) (c__law_pick : Cal P w K mg base "_law_pick" ["_law_left_here", "_law_many"] 1 spTake) (c__law_worth : Cal P w K mg base "_law_worth" ["_law_left_here", "_law_most_here"] 2 sp_worth) : Cal P w K mg base "_law_any_want" ["_law_left_here", "_law_many", "_law_most_here"] 3 (sp_tw aM 10000) := by
 refine cal_of F hm hb sc__law_any_want (fun vs H Q E h => ?_) (fun cdv A outer s H vs Q E hr h => ?_)
 ·obtain ⟨_, _, ⟨_, rfl, _⟩, _⟩ := h; rfl
 ·obtain ⟨p, m, ⟨most, rfl, mo0, mo1⟩, bx, m1, m5, q⟩ := h
  have sc := sc__law_any_want
  refine ⟨_, pss_cons (ps_set (i := 3) sc.nd rfl (Or.inr rfl) (pe_lstA (pa_cns pe_int pa_nil)))
   (pss_cons (ps_for PassesOwn.never rfl (pi_range2 rfl T.range_ (pa_cns pe_int (pa_cns (pe_op op_shl pe_int (pv 1)) pa_nil))) (pg_name (i := 4) sc.nd rfl (Or.inr rfl))
    (pss_cons (ps_set (i := 5) sc.nd rfl (Or.inl rfl) (pe_callB (max0 rfl) rfl T.max_ bt_max (pa_cns (pe_lc (N := ["_law_t", "_law_found", "_law_heap"]) (fr := [none, some 3, some 4]) rfl (pi_range1 rfl T.range_ (pa_cns (pv 1) pa_nil)) (CScope.of rfl rfl rfl) rfl (fun _ _ _ => ⟨pg_name (i := 0) (show List.Nodup (α := Str) ["_law_t", "_law_found", "_law_heap"] by decide +kernel) rfl (Or.inl rfl), pif_one (pt_cmpR op_eq (pe_op op_and (pe_op op_shr (pv 2) (pv 0)) pe_int) pe_int (nomark _)), pe_ix ix0 (pv 1) (pe_op op_sub (pv 2) (pe_op op_shl pe_int (pv 0))) (fun _ _ => rfl)⟩)) pa_nil)))
   (pss_one (ps_expr (pe_append (pv 3) (pa_cns (pe_op op_add (pv 5) (pe_op op_mul (pe_cal c__law_worth hr (pa_cns (pv 0) (pa_cns (pv 2) pa_nil))) (pe_callTy call_int1 rfl T.int_ bt_int (pa_cns (pe_cmpR op_gt (pe_cal c__law_pick hr (pa_cns (pv 0) (pa_cns pe_int pa_nil))) pe_int (nomark _)) pa_nil)))) pa_nil))))))
   (pss_one (ps_ret (pe_callTy tupA0 rfl T.tuple_ bt_tuple (pa_cns (pv 3) pa_nil))))), ?_⟩
  rw [show L2.start ["_law_left_here", "_law_many", "_law_most_here", "_law_found", "_law_heap", "_law_least"] [.ref p, .int (m : Int), .int most] = [some (.ref p), some (.int (m : Int)), some (.int most), none, none, none] from rfl]
  (push_cast only [])
  refine ⟨by decide, fun f H1 nf s1 e1 => ?_⟩
  have nfp : p ≠ f := bx.ne nf
  rw [hpow]
  have p32 := pow32 m5
  refine ⟨⟨by omega, by omega, by decide⟩, by decide, by decide, by omega, by omega, ?_⟩
  refine fl_range (AW p f (m : Int) most H1) ⟨_, _, [0], rfl, rfl, (fun x hx => by have : x = 0 := (by simpa using hx); omega), rfl, bx.same s1, fun b o _ _ e => e, e1⟩ ?_ ?_
  ·rintro i σ H2 hi ⟨v4, v5, ws, rfl, hwl, hwb, hwz, bx2, k2, e2⟩
   have hi' : i + 1 < 2 ^ m := by omega
   (push_cast only [])
   refine ⟨by omega, by omega, fun d nd => ?_⟩
   have ndp : p ≠ d := bx2.ne nd
   have nfd : f ≠ d := ne_of_none e2 nd
   refine cl_range (LI f d (1 + i) (100 * ((i : Int) + 1)) H2) ⟨none, [], rfl, Nat.le_refl _, (fun x hx => by simp at hx), SameX.upd, upd_same, fun ⟨t, ht, _⟩ => absurd ht (Nat.not_lt_zero t)⟩ ?_ ?_
   ·rintro j σ H3 hj ⟨v, xs, rfl, hxl, hxb, s3, e3, hne⟩
    rw [Int.toNat_natCast] at hj
    have hsf := sq_lst (s3 _ _ nfd e2)
    (push_cast only [])
    refine ⟨by omega, ?_⟩
    by_cases hbt : Builtin.bitAnd (((1 + i : Nat) : Int) / 2 ^ (j : Int).toNat) 1 = 1
    ·rw [if_pos (by simpa using hbt)]
     have le := bit_fact (by omega) (by omega) hbt
     rw [hpow]
     have p2 : 0 < 2 ^ j := Nat.two_pow_pos j
     have hkl : 1 + i - 2 ^ j < ws.length := by omega
     have hat : atI (ws.map V.int) (((1 + i : Nat) : Int) - ((2 ^ j : Nat) : Int)) = some (V.int ws[1 + i - 2 ^ j]) := by
      rw [show ((1 + i : Nat) : Int) - ((2 ^ j : Nat) : Int) = ((1 + i - 2 ^ j : Nat) : Int) by omega]
      exact atI_nat (by simp [hkl])
     (push_cast only [hsf, hat, e3])
     exact ⟨⟨by omega, by omega, by decide⟩, small1000 (by omega), ⟨_, xs ++ [_], rfl, by simp; omega, mem_snoc hxb (hwb _ (List.getElem_mem hkl)), s3.trans SameX.upd, by rw [upd_same]; simp, fun _ => by simp⟩⟩
    ·rw [if_neg (by simpa using hbt)]
     refine ⟨_, xs, rfl, by omega, hxb, s3, e3, fun ⟨t, ht, hb2⟩ => ?_⟩
     rcases Nat.lt_or_ge t j with z | z
     ·exact hne ⟨t, z, hb2⟩
     ·have : t = j := by omega
      subst this
      exact absurd hb2 hbt
   ·rintro σ H3 ⟨v, xs, rfl, hxl, hxb, s3, e3, hne⟩
    rw [Int.toNat_natCast] at hne hxl
    have hn := hne (bit_some m5 (show 1 ≤ 1 + i by omega) (by omega))
    refine ⟨xs, sq_lst e3, hn, fun mx mxm _ => ?_⟩
    have mb := hxb mx mxm
    have e23 := s3 _ _ nfd e2
    have bx3 : Box H3 p := by obtain ⟨g, m', c', z⟩ := bx2; exact ⟨g, m', c', s3 _ _ ndp z⟩
    (push_cast only [e23])
    refine ⟨p, most, rfl, bx3, mo0, mo1, fun r H4 r0 r1 bx4 s4 => ?_⟩
    (push_cast only [])
    refine ⟨p, 3, rfl, bx4, by decide, by decide, fun r5 H5 a5 b5 bx5 bt5 => ?_⟩
    have e25 := bt5.x _ _ nfp.symm (s4 _ _ nfp.symm e23)
    (push_cast only [e25])
    have rb : 0 ≤ r * (if 0 < r5 then 1 else 0) ∧ r * (if 0 < r5 then 1 else 0) ≤ 90 := by split <;> omega
    generalize r * (if 0 < r5 then 1 else 0) = rv at rb
    refine ⟨.inl ⟨by omega, by omega⟩, small1000 (by omega), ⟨_, _, ws ++ [mx + rv], rfl, by simp; omega, mem_snoc (fun x hx => by have := hwb x hx; omega) ⟨by omega, by omega⟩, zero_snoc hwz (fun z => by rw [z] at hwl; simp at hwl), bx5.upd nfp, fun b o b1 b2 e => ?_, by rw [upd_same]; simp⟩⟩
    have y2 := k2 b o b1 b2 e
    rw [upd_ne b2]
    exact bt5.x _ _ b1 (s4 _ _ b1 (s3 _ _ (ne_of_none y2 nd) y2))
  ·rintro σ H2 ⟨v4, v5, ws, rfl, hwl, hwb, hwz, bx2, k2, e2⟩
   (push_cast only [e2])
   intro t H3 nt s3 e3
   have sx2 : SameX p H H2 := fun b o n e => k2 b o n (ne_of_none e nf) (s1 _ _ e)
   exact q t ws H3 (none_of sx2 nt (bx2.ne nt).symm) (by omega) hwz (fun x hx => by have := hwb x hx; omega) (bx2.same s3) (sx2.trans s3.x) e3
end
end K73
end
section
set_option Elab.async false
set_option linter.all false
set_option maxRecDepth 100000
set_option maxHeartbeats 4000000
namespace K73
open PySem L2
section
variable {P : Program} {w : World} {K : PySem.W.Frag} {mg : Str → Option Value} {base : Heap} {f : Addr} {fd : FuncData}
noncomputable def aS (m : Nat) (p : Addr) (vs : List V) (H : Hp) : Prop := ∃ (most : Int) (sd : Addr) (ss : List Int), vs = [.ref p, .ref sd, .int most] ∧ H sd = some (.tup (ss.map V.int)) ∧ ss.length = m ∧ (∀ x ∈ ss, x = 0 ∨ x = 1) ∧ 0 ≤ most ∧ most ≤ 90
structure Rws (p c : Addr) (n : Nat) (G : Hp) (rs : List (Addr × Int × Int)) (H : Hp) : Prop where
 len : rs.length ≤ n
 row : ∀ r ∈ rs, H r.1 = some (.tup [.int r.2.1, .int r.2.2]) ∧ (∃ k : Nat, r.2.1 = (k : Int) ∧ 1 ≤ k ∧ k < 64) ∧ 0 ≤ r.2.2 ∧ r.2.2 ≤ 90
 box : Box H p
 kp : ∀ b o, b ≠ p → b ≠ c → G b = some o → H b = some o
 at' : H c = some (.lst (rs.map fun r => V.ref r.1))
theorem Rws.x {p c : Addr} {n : Nat} {G H H' : Hp} {rs : List (Addr × Int × Int)} (R : Rws p c n G rs H) (npc : p ≠ c) (s : SameX p H H') (bx : Box H' p) : Rws p c n G rs H' :=
 ⟨R.len, fun r hr => ⟨s _ _ (fun z => by obtain ⟨_, _, _, y⟩ := R.box; have := (R.row r hr).1; rw [z, y] at this; cases this) (R.row r hr).1, (R.row r hr).2⟩, bx, fun b o n1 n2 e => s _ _ n1 (R.kp b o n1 n2 e), s _ _ npc.symm R.at'⟩
noncomputable def PO (p c sd : Addr) (most m : Int) (k : Nat) (G : Hp) (i : Nat) (σ : St) (H : Hp) : Prop := ∃ (v5 v6 v7 v8 v9 : Option V) (rs : List (Addr × Int × Int)), σ = [some (.ref p), some (.ref sd), some (.int most), some (.int m), some (.ref c), v5, v6, v7, v8, v9] ∧ Rws p c (i * k) G rs H
noncomputable def PJ (p c sd : Addr) (most m i : Int) (b : Nat) (G : Hp) (j : Nat) (σ : St) (H : Hp) : Prop := ∃ (v6 v7 v8 v9 : Option V) (rs : List (Addr × Int × Int)), σ = [some (.ref p), some (.ref sd), some (.int most), some (.int m), some (.ref c), some (.int i), v6, v7, v8, v9] ∧ Rws p c (b + j) G rs H
noncomputable def PF (p c sd f : Addr) (most m : Int) (G : Hp) (i : Nat) (σ : St) (H : Hp) : Prop := ∃ (v5 v6 v8 v9 : Option V) (ws : List Int), σ = [some (.ref p), some (.ref sd), some (.int most), some (.int m), some (.ref c), v5, v6, some (.ref f), v8, v9] ∧ ws.length = i + 1 ∧ (∀ x ∈ ws, 0 ≤ x ∧ x ≤ 100 * ((i : Int) + 1)) ∧ ws.getD 0 0 = 0 ∧ SameX f G H ∧ H f = some (.lst (ws.map V.int))
noncomputable def PR (f d : Addr) (h : Int) (bd : Int) (G : Hp) (i : Nat) (σ : St) (H : Hp) : Prop := ∃ (v1 v2 : Option V) (xs : List Int), σ = [v1, v2, some (.ref f), some (.int h)] ∧ xs.length ≤ i ∧ (∀ x ∈ xs, 0 ≤ x ∧ x ≤ bd) ∧ SameX d G H ∧ H d = some (.lst (xs.map V.int))
theorem and_fact {h t : Nat} (hh : h < 32) (ht : t < 64) (e : Builtin.bitAnd (h : Int) (t : Int) = (t : Int)) : t ≤ h := by
 have key : ∀ (a : _root_.Fin 32) (b : _root_.Fin 64), Builtin.bitAnd (a.val : Int) (b.val : Int) = (b.val : Int) → b.val ≤ a.val := by decide +kernel
 exact key ⟨h, hh⟩ ⟨t, ht⟩ e
theorem sc__law_pair_want : FnScope ["_law_left_here", "_law_sides_here", "_law_most_here", "_law_many", "_law_rows", "_law_i", "_law_j", "_law_found", "_law_heap", "_law_some"] ["_law_left_here", "_law_sides_here", "_law_most_here"] (defScope s__law_pair_want) := ⟨rfl, rfl, rfl, by decide +kernel, rfl, by decide +kernel, by decide +kernel⟩
theorem ok_pair (F : Fun K "_law_pair_want" "_law_pair_want" s__law_pair_want f fd) (hm : mg "_law_pair_want" = some (.ref f)) (hb : Binds K fd ["_law_left_here", "_law_sides_here", "_law_most_here"] []) (T : Txt mg) (c__law_pick : Cal P w K mg base "_law_pick" ["_law_left_here", "_law_many"] 1 spTake) (c__law_worth : Cal P w K mg base "_law_worth" ["_law_left_here", "_law_most_here"] 2 sp_worth) : Cal P w K mg base "_law_pair_want" ["_law_left_here", "_law_sides_here", "_law_most_here"] 3 (sp_tw aS 10000) := by
 refine cal_of F hm hb sc__law_pair_want (fun vs H Q E h => ?_) (fun cdv A outer s H vs Q E hr h => ?_)
 ·obtain ⟨_, _, ⟨_, _, _, rfl, _⟩, _⟩ := h; rfl
 ·obtain ⟨p, m, ⟨most, sd, ss, rfl, hsd, hsl, h01, mo0, mo1⟩, bx, m1, m5, q⟩ := h
  have sc := sc__law_pair_want
  refine ⟨_, pss_consL (ps_set (i := 3) sc.nd rfl (Or.inl rfl) (pe_callB len0 rfl T.len_ bt_len (pa_cns (pv 1) pa_nil)))
   (pss_consL (ps_set (i := 4) sc.nd rfl (Or.inl rfl) (pe_lstA pa_nil))
   (pss_consL (ps_for PassesOwn.never rfl (pi_range1 rfl T.range_ (pa_cns (pv 3) pa_nil)) (pg_name (i := 5) sc.nd rfl (Or.inl rfl))
    (pss_one (ps_for PassesOwn.never rfl (pi_range1 rfl T.range_ (pa_cns (pv 3) pa_nil)) (pg_name (i := 6) sc.nd rfl (Or.inl rfl))
    (pss_one (ps_if (PW.pt (pw_and (pt_cmpR op_eq (pe_ix ix0 (pv 1) (pv 5) (fun _ _ => rfl)) pe_int (nomark _)) (pw_and (pt_cmpR op_eq (pe_ix ix0 (pv 1) (pv 6) (fun _ _ => rfl)) pe_int (nomark _)) (pw_and1 (pt_cmpR op_gt (pe_cal c__law_pick hr (pa_cns (pv 0) (pa_cns pe_int pa_nil))) pe_int (nomark _)))))) (pss_one (ps_expr (pe_append (pv 4) (pa_cns (pe_tupA (pa_cns (pe_op op_add (pe_op op_shl pe_int (pv 5)) (pe_op op_shl pe_int (pv 6))) (pa_cns (pe_cal c__law_worth hr (pa_cns (pv 0) (pa_cns (pv 2) pa_nil))) pa_nil))) pa_nil)))) pss_nil)))))
   (pss_consL (ps_set (i := 7) sc.nd rfl (Or.inr rfl) (pe_lstA (pa_cns pe_int pa_nil)))
   (pss_consL (ps_for PassesOwn.never rfl (pi_range2 rfl T.range_ (pa_cns pe_int (pa_cns (pe_op op_shl pe_int (pv 3)) pa_nil))) (pg_name (i := 8) sc.nd rfl (Or.inr rfl))
    (pss_consL (ps_setLC (i := 9) sc.nd rfl (Or.inl rfl) (N := ["_law_t", "_law_found", "_law_heap"]) (fr := [none, some 7, some 8]) rfl (pi_range1 rfl T.range_ (pa_cns (pv 3) pa_nil)) (CScope.of rfl rfl rfl) rfl (fun _ _ _ => ⟨pg_name (i := 0) (show List.Nodup (α := Str) ["_law_t", "_law_found", "_law_heap"] by decide +kernel) rfl (Or.inl rfl), pif_one (pt_cmpR op_eq (pe_op op_and (pe_op op_shr (pv 2) (pv 0)) pe_int) pe_int (nomark _)), pe_ix ix0 (pv 1) (pe_op op_sub (pv 2) (pe_op op_shl pe_int (pv 0))) (fun _ _ => rfl)⟩))
   (pss_consL (ps_set (i := 9) sc.nd rfl (Or.inl rfl) (pe_op catL0 (pv 9) (pe_lc (N := ["_law_two", "_law_worth_here", "_law_found", "_law_heap"]) (fr := [none, none, some 7, some 8]) rfl (pi_l0 (pv 4)) (CScope.of rfl rfl rfl) rfl (fun _ _ _ => ⟨pg_tup0 (n := 2) rfl (pgs_cons (pg_name (i := 0) (show List.Nodup (α := Str) ["_law_two", "_law_worth_here", "_law_found", "_law_heap"] by decide +kernel) rfl (Or.inl rfl)) (pgs_cons (pg_name (i := 1) (show List.Nodup (α := Str) ["_law_two", "_law_worth_here", "_law_found", "_law_heap"] by decide +kernel) rfl (Or.inl rfl)) pgs_nil)), pif_one (pt_cmpR op_eq (pe_op op_and (pv 3) (pv 0)) (pv 0) (nomark _)), pe_op op_add (pe_ix ix0 (pv 2) (pe_op op_sub (pv 3) (pv 0)) (fun _ _ => rfl)) (pv 1)⟩))))
   (pss_one (ps_expr (pe_append (pv 7) (pa_cns (pe_callB (max0 rfl) rfl T.max_ bt_max (pa_cns (pv 9) pa_nil)) pa_nil)))))))
   (pss_one (ps_ret (pe_callTy tupA0 rfl T.tuple_ bt_tuple (pa_cns (pv 7) pa_nil)))))))), ?_⟩
  rw [show L2.start ["_law_left_here", "_law_sides_here", "_law_most_here", "_law_many", "_law_rows", "_law_i", "_law_j", "_law_found", "_law_heap", "_law_some"] [.ref p, .ref sd, .int most] = [some (.ref p), some (.ref sd), some (.int most), none, none, none, none, none, none, none] from rfl]
  have hs0 := sq_tup hsd
  have nsp : sd ≠ p := fun z => by obtain ⟨_, _, _, y⟩ := bx; rw [z, y] at hsd; cases hsd
  (push_cast only [hs0])
  rw [hsl]
  (simp only [a_laterH])
  (push_cast only [])
  refine ⟨by decide, fun c H1 nc s1 e1 => ?_⟩
  have ncp : p ≠ c := bx.ne nc
  have nsc : sd ≠ c := ne_of_none hsd nc
  have hsd1 := s1 _ _ hsd
  (simp only [a_laterH])
  (push_cast only [])
  refine ⟨by omega, by omega, fl_range (PO p c sd most (m : Int) m H1) ⟨_, _, _, _, _, [], rfl, ⟨by simp, (fun r hr => by simp at hr), bx.same s1, fun b o _ _ e => e, e1⟩⟩ ?_ ?_⟩
  ·rintro i σ H2 hi ⟨v5, v6, v7, v8, v9, rs, rfl, R⟩
   rw [Int.toNat_natCast] at hi
   (push_cast only [])
   refine ⟨by omega, by omega, fl_range (PJ p c sd most (m : Int) (i : Int) (i * m) H1) ⟨_, _, _, _, rs, rfl, R⟩ ?_ ?_⟩
   ·rintro j σ H3 hj ⟨v6, v7, v8, v9, rs, rfl, R3⟩
    rw [Int.toNat_natCast] at hj
    have hs3 := sq_tup (R3.kp _ _ nsp nsc hsd1)
    have ai : atI (ss.map V.int) (i : Int) = some (V.int (ss[i]'(by omega))) := atI_nat (by simp [show i < ss.length by omega])
    have aj : atI (ss.map V.int) (j : Int) = some (V.int (ss[j]'(by omega))) := atI_nat (by simp [show j < ss.length by omega])
    have stay : ∀ (H' : Hp) (w : Option V), Rws p c (i * m + j) H1 rs H' → PJ p c sd most (m : Int) (i : Int) (i * m) H1 (j + 1) [some (.ref p), some (.ref sd), some (.int most), some (.int (m : Int)), some (.ref c), some (.int (i : Int)), some (.int (j : Int)), v7, v8, v9] H' := fun H' w R' => ⟨_, _, _, _, rs, rfl, ⟨Nat.le_trans R'.len (by omega), R'.row, R'.box, R'.kp, R'.at'⟩⟩
    (push_cast only [hs3, ai, aj])
    split
    ·split
     ·refine ⟨p, 3, rfl, R3.box, by decide, by decide, fun r4 H4 a4 b4 bx4 bt4 => ?_⟩
      have R4 := R3.x ncp bt4.x bx4
      refine ⟨r4, rfl, ?_⟩
      split
      ·refine ⟨_, R4.at', ⟨by omega, by omega, by decide⟩, ⟨by omega, by omega, by decide⟩, p, most, rfl, bx4, mo0, mo1, fun r5 H5 a5 b5 bx5 s5 => ?_⟩
       have R5 := R4.x ncp s5 bx5
       refine ⟨by decide, fun t H6 nt s6 e6 => ?_⟩
       have R6 := R5.x ncp s6.x (bx5.same s6)
       have ntc : t ≠ c := fun z => by rw [z, R5.at'] at nt; cases nt
       rw [hpow, hpow] at e6
       have pi16 : 2 ^ i ≤ 16 ∧ 0 < 2 ^ i := by
        have h4 : i = 0 ∨ i = 1 ∨ i = 2 ∨ i = 3 ∨ i = 4 := by omega
        rcases h4 with rfl | rfl | rfl | rfl | rfl <;> decide
       have pj16 : 2 ^ j ≤ 16 ∧ 0 < 2 ^ j := by
        have h4 : j = 0 ∨ j = 1 ∨ j = 2 ∨ j = 3 ∨ j = 4 := by omega
        rcases h4 with rfl | rfl | rfl | rfl | rfl <;> decide
       have im : i * m ≤ 20 := Nat.le_trans (Nat.mul_le_mul (show i ≤ 4 by omega) m5) (by decide)
       have rl := R6.len
       refine ⟨_, R6.at', small1000 (by rw [List.length_map]; omega), ⟨_, _, _, _, rs ++ [(t, ((2 ^ i : Nat) : Int) + ((2 ^ j : Nat) : Int), r5)], rfl, ⟨by simp; omega, fun r hr => ?_, R6.box.upd ncp, fun b o b1 b2 e => by rw [upd_ne b2]; exact R6.kp b o b1 b2 e, by rw [upd_same]; simp⟩⟩⟩
       rcases List.mem_append.mp hr with z | z
       ·have y := R6.row r z
        have nrc : r.1 ≠ c := fun q => by have w := y.1; rw [q, R6.at'] at w; cases w
        exact ⟨by rw [upd_ne nrc]; exact y.1, y.2⟩
       ·have : r = (t, ((2 ^ i : Nat) : Int) + ((2 ^ j : Nat) : Int), r5) := by simpa using z
        subst this
        exact ⟨by rw [upd_ne ntc]; exact e6, ⟨2 ^ i + 2 ^ j, by norm_cast, by omega, by omega⟩, a5, b5⟩
      ·exact stay H4 none R4
     ·exact stay H3 none R3
    ·exact stay H3 none R3
   ·rintro σ H3 ⟨v6, v7, v8, v9, rs, rfl, R3⟩
    rw [Int.toNat_natCast] at R3
    exact ⟨_, _, _, _, _, rs, rfl, ⟨Nat.le_trans R3.len (Nat.le_of_eq (Nat.succ_mul i m).symm), R3.row, R3.box, R3.kp, R3.at'⟩⟩
  ·rintro σ H2 ⟨v5, v6, v7, v8, v9, rs, rfl, R⟩
   rw [Int.toNat_natCast] at R
   (simp only [a_laterH])
   (push_cast only [])
   refine ⟨by decide, fun f H3 nf s3 e3 => ?_⟩
   have nfp : p ≠ f := R.box.ne nf
   have R3 := R.x ncp s3.x (R.box.same s3)
   have nfc : c ≠ f := ne_of_none R.at' nf
   have im : rs.length ≤ 25 := Nat.le_trans R3.len (Nat.le_trans (Nat.mul_le_mul m5 m5) (by decide))
   have p32 := pow32 m5
   (simp only [a_laterH])
   (push_cast only [])
   rw [hpow]
   refine ⟨⟨by omega, by omega, by decide⟩, by decide, by decide, by omega, by omega, ?_⟩
   refine fl_range (PF p c sd f most (m : Int) H3) ⟨_, _, _, _, [0], rfl, rfl, (fun x hx => by have : x = 0 := (by simpa using hx); omega), rfl, SameX.refl, e3⟩ ?_ ?_
   ·rintro i σ H4 hi ⟨w5, w6, w8, w9, ws, rfl, hwl, hwb, hwz, s4, e4⟩
    have hi' : i + 1 < 2 ^ m := by omega
    (push_cast only [])
    refine ⟨by omega, by omega, fun d nd => ?_⟩
    have nfd : f ≠ d := ne_of_none e4 nd
    refine cl_range (LI f d (1 + i) (100 * ((i : Int) + 1)) H4) ⟨none, [], rfl, Nat.le_refl _, (fun x hx => by simp at hx), SameX.upd, upd_same, fun ⟨t, ht, _⟩ => absurd ht (Nat.not_lt_zero t)⟩ ?_ ?_
    ·rintro j σ H5 hj ⟨v, xs, rfl, hxl, hxb, s5, e5, hne⟩
     rw [Int.toNat_natCast] at hj
     have hsf := sq_lst (s5 _ _ nfd e4)
     (push_cast only [])
     refine ⟨by omega, ?_⟩
     by_cases hbt : Builtin.bitAnd (((1 + i : Nat) : Int) / 2 ^ (j : Int).toNat) 1 = 1
     ·rw [if_pos (by simpa using hbt)]
      have le := bit_fact (by omega) (by omega) hbt
      rw [hpow]
      have p2 : 0 < 2 ^ j := Nat.two_pow_pos j
      have hkl : 1 + i - 2 ^ j < ws.length := by omega
      have hat : atI (ws.map V.int) (((1 + i : Nat) : Int) - ((2 ^ j : Nat) : Int)) = some (V.int ws[1 + i - 2 ^ j]) := by
       rw [show ((1 + i : Nat) : Int) - ((2 ^ j : Nat) : Int) = ((1 + i - 2 ^ j : Nat) : Int) by omega]
       exact atI_nat (by simp [hkl])
      (push_cast only [hsf, hat, e5])
      exact ⟨⟨by omega, by omega, by decide⟩, small1000 (by omega), ⟨_, xs ++ [_], rfl, by simp; omega, mem_snoc hxb (hwb _ (List.getElem_mem hkl)), s5.trans SameX.upd, by rw [upd_same]; simp, fun _ => by simp⟩⟩
     ·rw [if_neg (by simpa using hbt)]
      refine ⟨_, xs, rfl, by omega, hxb, s5, e5, fun ⟨t, ht, hb2⟩ => ?_⟩
      rcases Nat.lt_or_ge t j with z | z
      ·exact hne ⟨t, z, hb2⟩
      ·have : t = j := by omega
       subst this
       exact absurd hb2 hbt
    ·rintro σ H5 ⟨v, xs, rfl, hxl, hxb, s5, e5, hne⟩
     rw [Int.toNat_natCast] at hne hxl
     have hn := hne (bit_some m5 (show 1 ≤ 1 + i by omega) (by omega))
     have S5 := s5.same nd
     have e45 := S5 _ _ e4
     have ec5 := S5 _ _ (s4 _ _ nfc R3.at')
     (simp only [a_laterH])
     (push_cast only [e5, ec5])
     intro g ng
     have nfg : f ≠ g := ne_of_none e45 ng
     have ncg : c ≠ g := ne_of_none ec5 ng
     have ndg : d ≠ g := ne_of_none e5 ng
     refine cl_seq (PR f g ((1 + i : Nat) : Int) (100 * ((i : Int) + 2)) H5) ⟨none, none, [], rfl, Nat.le_refl _, (fun x hx => by simp at hx), SameX.upd, upd_same⟩ (fun j σ H' _ ⟨_, _, _, _, _, _, s, _⟩ => s _ _ ncg ec5) ?_ ?_
     ·rintro j u σ H6 hu ⟨v1, v2, ys, rfl, hyl, hyb, s6, e6⟩
      rw [List.getElem?_map] at hu
      obtain ⟨r, hr', rfl⟩ := Option.map_eq_some_iff.mp hu
      have hj : j < rs.length := (List.getElem?_eq_some_iff.mp hr').1
      obtain ⟨er, ⟨k, ek, k1, k64⟩, w0, w90⟩ := R3.row r (List.mem_of_getElem? hr')
      have nrf : r.1 ≠ f := fun q => by rw [q, e3] at er; cases er
      have er5 := S5 _ _ (s4 _ _ nrf er)
      have er6 := s6 _ _ (ne_of_none er5 ng) er5
      have hsf := sq_lst (s6 _ _ nfg e45)
      (push_cast only [er6])
      rw [ek]
      by_cases hbt : Builtin.bitAnd ((1 + i : Nat) : Int) (k : Int) = (k : Int)
      ·rw [if_pos (by simpa using hbt)]
       have le := and_fact (by omega) k64 hbt
       have hkl : 1 + i - k < ws.length := by omega
       have hat : atI (ws.map V.int) (((1 + i : Nat) : Int) - (k : Int)) = some (V.int ws[1 + i - k]) := by
        rw [show ((1 + i : Nat) : Int) - (k : Int) = ((1 + i - k : Nat) : Int) by omega]
        exact atI_nat (by simp [hkl])
       have wb := hwb _ (List.getElem_mem hkl)
       (push_cast only [hsf, hat, e6])
       exact ⟨small1000 (by omega), ⟨_, _, ys ++ [ws[1 + i - k] + r.2.2], rfl, by simp; omega, mem_snoc hyb ⟨by omega, by omega⟩, s6.trans SameX.upd, by rw [upd_same]; simp⟩⟩
      ·rw [if_neg (by simpa using hbt)]
       exact ⟨_, _, ys, rfl, by omega, hyb, s6, e6⟩
     ·rintro σ H6 ⟨v1, v2, ys, rfl, hyl, hyb, s6, e6⟩
      rw [List.length_map] at hyl
      have S6 := s6.same ng
      have e56 := S6 _ _ e5
      have e46 := S6 _ _ e45
      (push_cast only [e56, e6])
      refine ⟨Nat.le_of_lt (small1000 (by omega)), fun t H7 n7 s7 e7 => ?_⟩
      rw [← List.map_append] at e7
      have e47 := s7 _ _ e46
      have hs7 := sq_lst e7
      (simp only [a_laterH])
      (push_cast only [e47, hs7])
      refine ⟨xs ++ ys, rfl, by simp [hn], fun mx mxm _ => ?_⟩
      have mb : 0 ≤ mx ∧ mx ≤ 100 * ((i : Int) + 2) := by
       rcases List.mem_append.mp mxm with z | z
       ·have := hxb mx z
        omega
       ·exact hyb mx z
      refine ⟨small1000 (by omega), ⟨_, _, _, _, ws ++ [mx], rfl, by simp; omega, mem_snoc (fun x hx => by have := hwb x hx; omega) ⟨by omega, by omega⟩, zero_snoc hwz (fun z => by rw [z] at hwl; simp at hwl), fun b o n e => ?_, by rw [upd_same]; simp⟩⟩
      rw [upd_ne n]
      exact s7 _ _ (S6 _ _ (S5 _ _ (s4 _ _ n e)))
   ·rintro σ H4 ⟨w5, w6, w8, w9, ws, rfl, hwl, hwb, hwz, s4, e4⟩
    (simp only [a_laterH])
    (push_cast only [e4])
    intro t H5 nt s5 e5
    have bx4 : Box H4 p := by obtain ⟨g, m', c', z⟩ := R3.box; exact ⟨g, m', c', s4 _ _ nfp z⟩
    have sx4 : SameX p H H4 := fun b o n e => by
     have y2 := R.kp b o n (ne_of_none e nc) (s1 _ _ e)
     exact s4 _ _ (ne_of_none y2 nf) (s3 _ _ y2)
    exact q t ws H5 (none_of sx4 nt (bx4.ne nt).symm) (by omega) hwz (fun x hx => by have := hwb x hx; omega) (bx4.same s5) (sx4.trans s5.x) e5
end
end K73
end
section
set_option Elab.async false
set_option linter.all false
set_option maxRecDepth 100000
set_option maxHeartbeats 4000000
namespace K73
open PySem L2
section
variable {P : Program} {w : World} {K : PySem.W.Frag} {mg : Str → Option Value} {base : Heap} {f : Addr} {fd : FuncData}
theorem flat_rep (x : Int) : ∀ n : Nat, (List.replicate n [V.int x]).flatten = (List.replicate n x).map V.int
 | 0 => rfl
 | n + 1 => by rw [List.replicate_succ, List.flatten_cons, flat_rep x n, List.replicate_succ, List.map_cons]; rfl
noncomputable def sp_sides : Sp := fun vs H Q _ => ∃ (p : Addr) (m : Nat), vs = [.ref p, .int (m : Int)] ∧ Box H p ∧ 1 ≤ m ∧ m ≤ 5 ∧ ∀ (t : Addr) (ss : List Int) (H' : Hp), ss.length = m → (∀ x ∈ ss, x = 0 ∨ x = 1) → Box H' p → SameX p H H' → H' t = some (.tup (ss.map V.int)) → Q (.ref t) H'
theorem sc__law_sides : FnScope ["_law_left_here", "_law_many", "_law_mixed"] ["_law_left_here", "_law_many"] (defScope s__law_sides) := ⟨rfl, rfl, rfl, by decide +kernel, rfl, by decide +kernel, by decide +kernel⟩
theorem ok_sides (F : Fun K "_law_sides" "_law_sides" s__law_sides f fd) (hm : mg "_law_sides" = some (.ref f)) (hb : Binds K fd ["_law_left_here", "_law_many"] []) (T : Txt mg) (c__law_pick : Cal P w K mg base "_law_pick" ["_law_left_here", "_law_many"] 1 spTake) : Cal P w K mg base "_law_sides" ["_law_left_here", "_law_many"] 2 sp_sides := by
 refine cal_of F hm hb sc__law_sides (fun vs H Q E h => ?_) (fun cdv A outer s H vs Q E hr h => ?_)
 ·obtain ⟨_, _, rfl, _⟩ := h; rfl
 ·obtain ⟨p, m, rfl, bx, m1, m5, q⟩ := h
  have sc := sc__law_sides
  refine ⟨_, pss_cons (ps_set (i := 2) sc.nd rfl (Or.inl rfl) (pe_callTy tupA0 rfl T.tuple_ bt_tuple (pa_cns (pe_lc (N := ["_law_thing", "_law_left_here"]) (fr := [none, some 0]) rfl (pi_range1 rfl T.range_ (pa_cns (pv 1) pa_nil)) (CScope.of rfl rfl rfl) rfl (fun _ _ _ => ⟨pg_name (i := 0) (show List.Nodup (α := Str) ["_law_thing", "_law_left_here"] by decide +kernel) rfl (Or.inl rfl), pif_nil, pe_cal c__law_pick hr (pa_cns (pv 1) (pa_cns pe_int pa_nil))⟩)) pa_nil)))
   (pss_one (ps_ret (pe_ix ix0 (pe_lstA (pa_cns (pe_op mulT0 (pe_tupA (pa_cns pe_int pa_nil)) (pv 1)) (pa_cns (pe_op mulT0 (pe_tupA (pa_cns pe_int pa_nil)) (pv 1)) (pa_cns (pe_op mulT0 (pe_tupA (pa_cns pe_int pa_nil)) (pv 1)) (pa_cns (pv 2) (pa_cns (pv 2) (pa_cns (pv 2) pa_nil))))))) (pe_cal c__law_pick hr (pa_cns (pv 0) (pa_cns pe_int pa_nil))) (fun _ _ => rfl)))), ?_⟩
  rw [show L2.start ["_law_left_here", "_law_many", "_law_mixed"] [.ref p, .int (m : Int)] = [some (.ref p), some (.int (m : Int)), none] from rfl]
  (push_cast only [])
  refine ⟨by omega, by omega, fun c nc => ?_⟩
  have ncp : p ≠ c := bx.ne nc
  refine cl_range (MadeX p c (fun x => x = 0 ∨ x = 1) [some (.ref p)] H) (MadeX.zero bx nc) ?_ ?_
  ·rintro i σ H1 hi ⟨v, ws, rfl, hl, hbd, bx1, k1, e1⟩
   rw [Int.toNat_natCast] at hi
   (push_cast only [])
   refine ⟨p, 2, rfl, bx1, by decide, by decide, fun r H2 r0 r1 bx2 bt2 => ?_⟩
   have e2 := bt2.x _ _ ncp.symm e1
   subst hl
   (push_cast only [e2])
   exact ⟨small1000 (by omega), MadeX.more ncp hbd k1 bt2.x bx2 (by omega)⟩
  ·rintro σ H1 ⟨v, ws, rfl, hl, hbd, bx1, k1, e1⟩
   rw [Int.toNat_natCast] at hl
   have sx1 : SameX p H H1 := fun b o n e => k1 b o n (ne_of_none e nc) e
   (push_cast only [e1])
   intro mx H2 nmx s2 e2
   (push_cast only [])
   refine ⟨by decide, fun z1 H3 n3 s3 e3 => ⟨m, rfl, _, e3, by simp; omega, by omega, fun t1 H4 s4 e4 => ?_⟩⟩
   (push_cast only [])
   refine ⟨by decide, fun z2 H5 n5 s5 e5 => ⟨m, rfl, _, e5, by simp; omega, by omega, fun t2 H6 s6 e6 => ?_⟩⟩
   (push_cast only [])
   refine ⟨by decide, fun z3 H7 n7 s7 e7 => ⟨m, rfl, _, e7, by simp; omega, by omega, fun t3 H8 s8 e8 => ?_⟩⟩
   rw [flat_rep] at e4 e6 e8
   (push_cast only [])
   refine ⟨by decide, fun l H9 n9 s9 e9 => ?_⟩
   have S28 : Same H2 H8 := ((((s3.trans s4).trans s5).trans s6).trans s7).trans s8
   have bx8 : Box H8 p := (bx1.same s2).same S28
   refine ⟨p, 6, rfl, bx8.same s9, by decide, by decide, fun r H10 r0 r1 bx10 bt10 => ?_⟩
   have hs10 := (bt10.sq (bx8.ne n9).symm).trans (sq_lst e9)
   have S29 := S28.trans s9
   have sx10 : SameX p H H10 := ((sx1.trans s2.x).trans S29.x).trans bt10.x
   have E4 := (((((s5.trans s6).trans s7).trans s8).trans s9)) _ _ e4
   have E6 := (((s7.trans s8).trans s9)) _ _ e6
   have E8 := s9 _ _ e8
   have E2 := S29 _ _ e2
   have bx9 := bx8.same s9
   have nn : ∀ {a : Addr} {xs : List V}, H9 a = some (.tup xs) → H10 a = some (.tup xs) := fun {a xs} e => bt10.x _ _ (fun z => by obtain ⟨_, _, _, y⟩ := bx9; rw [z, y] at e; cases e) e
   have rp : ∀ (k x : Int), x ∈ List.replicate m k → x = k := fun k x hx => List.eq_of_mem_replicate hx
   obtain ⟨t, ss, hat, hsl, h01, et⟩ : ∃ (t : Addr) (ss : List Int), atI [V.ref t1, V.ref t2, V.ref t3, V.ref mx, V.ref mx, V.ref mx] r = some (V.ref t) ∧ ss.length = m ∧ (∀ x ∈ ss, x = 0 ∨ x = 1) ∧ H10 t = some (.tup (ss.map V.int)) := by
    have h6 : r = 0 ∨ r = 1 ∨ r = 2 ∨ r = 3 ∨ r = 4 ∨ r = 5 := by omega
    rcases h6 with rfl | rfl | rfl | rfl | rfl | rfl
    ·exact ⟨t1, _, rfl, List.length_replicate, fun x hx => .inl (rp 0 x hx), nn E4⟩
    ·exact ⟨t2, _, rfl, List.length_replicate, fun x hx => .inl (rp 0 x hx), nn E6⟩
    ·exact ⟨t3, _, rfl, List.length_replicate, fun x hx => .inr (rp 1 x hx), nn E8⟩
    ·exact ⟨mx, ws, rfl, hl, hbd, nn E2⟩
    ·exact ⟨mx, ws, rfl, hl, hbd, nn E2⟩
    ·exact ⟨mx, ws, rfl, hl, hbd, nn E2⟩
   (push_cast only [hs10, hat])
   exact q t ss H10 hsl h01 bx10 sx10 et
theorem sc__law_sided : FnScope ["_law_left_here", "_law_sides_here", "_law_most_here", "_law_many", "_law_way", "_law_one"] ["_law_left_here", "_law_sides_here", "_law_most_here"] (defScope s__law_sided) := ⟨rfl, rfl, rfl, by decide +kernel, rfl, by decide +kernel, by decide +kernel⟩
theorem ok_sided (F : Fun K "_law_sided" "_law_sided" s__law_sided f fd) (hm : mg "_law_sided" = some (.ref f)) (hb : Binds K fd ["_law_left_here", "_law_sides_here", "_law_most_here"] []) (T : Txt mg) (c__law_pick : Cal P w K mg base "_law_pick" ["_law_left_here", "_law_many"] 1 spTake) (c__law_sum_want : Cal P w K mg base "_law_sum_want" ["_law_left_here", "_law_many", "_law_most_here"] 3 (sp_tw aM 10000)) (c__law_best_few : Cal P w K mg base "_law_best_few" ["_law_left_here", "_law_many", "_law_most_here"] 3 (sp_tw aM 10000)) (c__law_pair_want : Cal P w K mg base "_law_pair_want" ["_law_left_here", "_law_sides_here", "_law_most_here"] 3 (sp_tw aS 10000)) (c__law_both_wants : Cal P w K mg base "_law_both_wants" ["_law_one", "_law_other"] 2 (sp_both 10000)) : Cal P w K mg base "_law_sided" ["_law_left_here", "_law_sides_here", "_law_most_here"] 4 (sp_tw aS 20000) := by
 refine cal_of F hm hb sc__law_sided (fun vs H Q E h => ?_) (fun cdv A outer s H vs Q E hr h => ?_)
 ·obtain ⟨_, _, ⟨_, _, _, rfl, _⟩, _⟩ := h; rfl
 ·obtain ⟨p, m, ⟨most, sd, ss, rfl, hsd, hsl, h01, mo0, mo1⟩, bx, m1, m5, q⟩ := h
  have sc := sc__law_sided
  refine ⟨_, pss_consL (ps_set (i := 3) sc.nd rfl (Or.inl rfl) (pe_callB len0 rfl T.len_ bt_len (pa_cns (pv 1) pa_nil)))
   (pss_consL (ps_set (i := 4) sc.nd rfl (Or.inl rfl) (pe_cal c__law_pick hr (pa_cns (pv 0) (pa_cns pe_int pa_nil))))
   (pss_consL (ps_if (pt_cmpR op_eq (pe_callB (min0 rfl) rfl T.min_ bt_min (pa_cns (pv 1) pa_nil)) (pe_callB (max0 rfl) rfl T.max_ bt_max (pa_cns (pv 1) pa_nil)) (nomark _)) (pss_consL (ps_if (pt_cmpR op_eq (pv 4) pe_int (nomark _)) (pss_one (ps_ret (pe_cal c__law_sum_want hr (pa_cns (pv 0) (pa_cns (pv 3) (pa_cns (pv 2) pa_nil)))))) pss_nil)
   (pss_consL (ps_set (i := 5) sc.nd rfl (Or.inl rfl) (pe_cal c__law_best_few hr (pa_cns (pv 0) (pa_cns (pv 3) (pa_cns (pv 2) pa_nil)))))
   (pss_consL (ps_if (pt_cmpR op_lt (pv 4) pe_int (nomark _)) (pss_one (ps_ret (pv 5))) pss_nil)
   (pss_one (ps_ret (pe_cal c__law_both_wants hr (pa_cns (pv 5) (pa_cns (pe_cal c__law_best_few hr (pa_cns (pv 0) (pa_cns (pv 3) (pa_cns (pv 2) pa_nil)))) pa_nil)))))))) pss_nil)
   (pss_consL (ps_set (i := 5) sc.nd rfl (Or.inl rfl) (pe_cal c__law_pair_want hr (pa_cns (pv 0) (pa_cns (pv 1) (pa_cns (pv 2) pa_nil)))))
   (pss_consL (ps_if (pt_cmpR op_lt (pv 4) pe_int (nomark _)) (pss_one (ps_ret (pv 5))) pss_nil)
   (pss_consL (ps_if (pt_cmpR op_eq (pv 4) pe_int (nomark _)) (pss_one (ps_ret (pe_cal c__law_both_wants hr (pa_cns (pv 5) (pa_cns (pe_cal c__law_sum_want hr (pa_cns (pv 0) (pa_cns (pv 3) (pa_cns (pv 2) pa_nil)))) pa_nil))))) pss_nil)
   (pss_one (ps_ret (pe_cal c__law_both_wants hr (pa_cns (pv 5) (pa_cns (pe_cal c__law_pair_want hr (pa_cns (pv 0) (pa_cns (pv 1) (pa_cns (pv 2) pa_nil)))) pa_nil)))))))))), ?_⟩
  rw [show L2.start ["_law_left_here", "_law_sides_here", "_law_most_here", "_law_many", "_law_way", "_law_one"] [.ref p, .ref sd, .int most] = [some (.ref p), some (.ref sd), some (.int most), none, none, none] from rfl]
  have hs0 := sq_tup hsd
  have nsp : sd ≠ p := fun z => by obtain ⟨_, _, _, y⟩ := bx; rw [z, y] at hsd; cases hsd
  have sne : ss ≠ [] := fun z => by rw [z] at hsl; simp at hsl; omega
  have up : ∀ {ws : List Int}, (∀ x ∈ ws, 0 ≤ x ∧ x ≤ 10000) → ∀ x ∈ ws, 0 ≤ x ∧ x ≤ 20000 := fun h x hx => by have := h x hx; omega
  have both : ∀ (t1 t2 : Addr) (w1 w2 : List Int) (H1 H2 : Hp), H1 t1 = some (.tup (w1.map V.int)) → w1.length = 2 ^ m → w1.getD 0 0 = 0 → (∀ x ∈ w1, 0 ≤ x ∧ x ≤ 10000) → Box H1 p → SameX p H H1 → H1 t2 = none → w2.length = 2 ^ m → w2.getD 0 0 = 0 → (∀ x ∈ w2, 0 ≤ x ∧ x ≤ 10000) → Box H2 p → SameX p H1 H2 → H2 t2 = some (.tup (w2.map V.int)) → sp_both 10000 [.ref t1, .ref t2] H2 (fun x H' => Q x H') E0 := by
   intro t1 t2 w1 w2 H1 H2 e1 l1 z1 b1 bx1 sx1 n2 l2 z2 b2 bx2 sx2 e2
   have nt1 : t1 ≠ p := fun z => by obtain ⟨_, _, _, y⟩ := bx1; rw [z, y] at e1; cases e1
   refine ⟨t1, t2, m, w1, w2, rfl, sx2 _ _ nt1 e1, e2, m5, l1, l2, b1, b2, z1, z2, fun t ws H3 nt s3 hwl hwz hwb e3 => ?_⟩
   have sx : SameX p H H2 := sx1.trans sx2
   exact q t ws H3 (none_of sx nt (bx2.ne nt).symm) hwl hwz (fun x hx => by have := hwb x hx; omega) (bx2.same s3) (sx.trans s3.x) e3
  (push_cast only [hs0])
  rw [hsl]
  (simp only [a_laterH])
  (push_cast only [])
  refine ⟨p, 4, rfl, bx, by decide, by decide, fun w H1 a1 b1 bx1 bt1 => ?_⟩
  have hsd1 := bt1.x _ _ nsp hsd
  have hs1 := sq_tup hsd1
  (push_cast only [])
  (simp only [a_laterH])
  (push_cast only [hs1])
  refine ⟨ss, rfl, sne, fun mn _ _ => ⟨ss, rfl, sne, fun mx _ _ => ?_⟩⟩
  (push_cast only [])
  have fin : ∀ (t : Addr) (ws : List Int) (H1 H2 : Hp), Box H1 p → SameX p H H1 → H1 t = none → ws.length = 2 ^ m → ws.getD 0 0 = 0 → (∀ x ∈ ws, 0 ≤ x ∧ x ≤ 10000) → Box H2 p → SameX p H1 H2 → H2 t = some (.tup (ws.map V.int)) → Q (.ref t) H2 := fun t ws H1 H2 bx1 sx1 nt hl hz hb bx2 s2 e2 => q t ws H2 (none_of sx1 nt (bx1.ne nt).symm) hl hz (up hb) bx2 (sx1.trans s2) e2
  have sx1 := bt1.x
  split
  ·split
   ·exact ⟨p, m, ⟨most, rfl, mo0, mo1⟩, bx1, m1, m5, fun t ws H2 nt hl hz hb bx2 s2 e2 => fin t ws H1 H2 bx1 sx1 nt hl hz hb bx2 s2 e2⟩
   ·(simp only [a_laterH])
    (push_cast only [])
    refine ⟨p, m, ⟨most, rfl, mo0, mo1⟩, bx1, m1, m5, fun t1 w1 H2 n2 l1 z1 b1' bx2 s2 e2 => ?_⟩
    (push_cast only [])
    (simp only [a_laterH])
    (push_cast only [])
    split
    ·exact fin t1 w1 H1 H2 bx1 sx1 n2 l1 z1 b1' bx2 s2 e2
    ·(simp only [a_laterH])
     (push_cast only [])
     refine ⟨p, m, ⟨most, rfl, mo0, mo1⟩, bx2, m1, m5, fun t2 w2 H3 n3 l2 z2 b2' bx3 s3 e3 => ?_⟩
     (push_cast only [])
     exact both t1 t2 w1 w2 H2 H3 e2 l1 z1 b1' bx2 (sx1.trans s2) n3 l2 z2 b2' bx3 s3 e3
  ·(simp only [a_laterH])
   (push_cast only [])
   refine ⟨p, m, ⟨most, sd, ss, rfl, hsd1, hsl, h01, mo0, mo1⟩, bx1, m1, m5, fun t1 w1 H2 n2 l1 z1 b1' bx2 s2 e2 => ?_⟩
   have hsd2 := s2 _ _ nsp hsd1
   (push_cast only [])
   (simp only [a_laterH])
   (push_cast only [])
   split
   ·exact fin t1 w1 H1 H2 bx1 sx1 n2 l1 z1 b1' bx2 s2 e2
   ·(simp only [a_laterH])
    (push_cast only [])
    split
    ·refine ⟨p, m, ⟨most, rfl, mo0, mo1⟩, bx2, m1, m5, fun t2 w2 H3 n3 l2 z2 b2' bx3 s3 e3 => ?_⟩
     (push_cast only [])
     exact both t1 t2 w1 w2 H2 H3 e2 l1 z1 b1' bx2 (sx1.trans s2) n3 l2 z2 b2' bx3 s3 e3
    ·(simp only [a_laterH])
     (push_cast only [])
     refine ⟨p, m, ⟨most, sd, ss, rfl, hsd2, hsl, h01, mo0, mo1⟩, bx2, m1, m5, fun t2 w2 H3 n3 l2 z2 b2' bx3 s3 e3 => ?_⟩
     (push_cast only [])
     exact both t1 t2 w1 w2 H2 H3 e2 l1 z1 b1' bx2 (sx1.trans s2) n3 l2 z2 b2' bx3 s3 e3
structure Town (B : Int) (H : Hp) (t sd wt : Addr) (m : Nat) (ss : List Int) (ts : List (Addr × List Int)) : Prop where
 at' : H t = some (.tup [.ref sd, .ref wt])
 sd : H sd = some (.tup (ss.map V.int))
 wt : H wt = some (.tup (ts.map fun t => V.ref t.1))
 m1 : 1 ≤ m
 m5 : m ≤ 5
 slen : ss.length = m
 s01 : ∀ x ∈ ss, x = 0 ∨ x = 1
 t1 : 1 ≤ ts.length
 t5 : ts.length ≤ 5
 row : ∀ t ∈ ts, H t.1 = some (.tup (t.2.map V.int)) ∧ t.2.length = 2 ^ m ∧ (∀ x ∈ t.2, 0 ≤ x ∧ x ≤ B) ∧ t.2.getD 0 0 = 0
theorem box_net {H : Hp} {p a : Addr} {xs : List V} (bx : Box H p) (e : H a = some (.tup xs)) : a ≠ p := fun z => by obtain ⟨_, _, _, y⟩ := bx; rw [z, y] at e; cases e
theorem Town.x {B : Int} {H H' : Hp} {p t sd wt : Addr} {m : Nat} {ss : List Int} {ts : List (Addr × List Int)} (W : Town B H t sd wt m ss ts) (bx : Box H p) (s : SameX p H H') : Town B H' t sd wt m ss ts :=
 ⟨s _ _ (box_net bx W.at') W.at', s _ _ (box_net bx W.sd) W.sd, s _ _ (box_net bx W.wt) W.wt, W.m1, W.m5, W.slen, W.s01, W.t1, W.t5, fun t ht => ⟨s _ _ (box_net bx (W.row t ht).1) (W.row t ht).1, (W.row t ht).2⟩⟩
theorem Town.same {B : Int} {H H' : Hp} {t sd wt : Addr} {m : Nat} {ss : List Int} {ts : List (Addr × List Int)} (W : Town B H t sd wt m ss ts) (s : Same H H') : Town B H' t sd wt m ss ts :=
 ⟨s _ _ W.at', s _ _ W.sd, s _ _ W.wt, W.m1, W.m5, W.slen, W.s01, W.t1, W.t5, fun t ht => ⟨s _ _ (W.row t ht).1, (W.row t ht).2⟩⟩
noncomputable def TupsB (p c : Addr) (n : Nat) (B : Int) (τ : List (Option V)) (G : Hp) (i : Nat) (σ : St) (H : Hp) : Prop := ∃ (v : Option V) (ts : List (Addr × List Int)), σ = v :: τ ∧ ts.length = i ∧ (∀ t ∈ ts, H t.1 = some (.tup (t.2.map V.int)) ∧ t.2.length = n ∧ (∀ x ∈ t.2, 0 ≤ x ∧ x ≤ B) ∧ t.2.getD 0 0 = 0) ∧ Box H p ∧ (∀ b o, b ≠ p → b ≠ c → G b = some o → H b = some o) ∧ H c = some (.lst (ts.map fun t => V.ref t.1))
theorem row_more {p c t : Addr} {n : Nat} {B : Int} {H H3 : Hp} {ts : List (Addr × List Int)} {ws : List Int} (bx0 : Box H p) (e0 : H c = some (.lst (ts.map fun t => V.ref t.1))) (e3c : H3 c = some (.lst (ts.map fun t => V.ref t.1))) (hbd : ∀ t ∈ ts, H t.1 = some (.tup (t.2.map V.int)) ∧ t.2.length = n ∧ (∀ x ∈ t.2, 0 ≤ x ∧ x ≤ B) ∧ t.2.getD 0 0 = 0) (s : SameX p H H3) (e : H3 t = some (.tup (ws.map V.int))) (hl : ws.length = n) (hw : ∀ x ∈ ws, 0 ≤ x ∧ x ≤ B) (hz : ws.getD 0 0 = 0) :
  ∀ r ∈ ts ++ [(t, ws)], upd H3 c (.lst ((ts.map fun t => V.ref t.1) ++ [V.ref t])) r.1 = some (.tup (r.2.map V.int)) ∧ r.2.length = n ∧ (∀ x ∈ r.2, 0 ≤ x ∧ x ≤ B) ∧ r.2.getD 0 0 = 0 := by
 intro x hx
 have ntc : t ≠ c := fun q => by rw [q, e3c] at e; cases e
 rcases List.mem_append.mp hx with z | z
 ·obtain ⟨h1, h2, h3⟩ := hbd x z
  have nx : x.1 ≠ c := fun q => by rw [q, e0] at h1; cases h1
  exact ⟨by rw [upd_ne nx]; exact s _ _ (box_net bx0 h1) h1, h2, h3⟩
 ·have : x = (t, ws) := by simpa using z
  subst this
  exact ⟨by rw [upd_ne ntc]; exact e, hl, hw, hz⟩
noncomputable def sp_town (B : Int) : Sp := fun vs H Q _ => ∃ (p : Addr) (most : Int), vs = [.ref p, .int most] ∧ Box H p ∧ 0 ≤ most ∧ most ≤ 90 ∧ ∀ (t sd wt : Addr) (m : Nat) (ss : List Int) (ts : List (Addr × List Int)) (H' : Hp), Box H' p → SameX p H H' → Town B H' t sd wt m ss ts → Q (.ref t) H'
theorem sc__law_sided_town : FnScope ["_law_left_here", "_law_most_here", "_law_many", "_law_few", "_law_sides_here"] ["_law_left_here", "_law_most_here"] (defScope s__law_sided_town) := ⟨rfl, rfl, rfl, by decide +kernel, rfl, by decide +kernel, by decide +kernel⟩
theorem ok_sided_town (F : Fun K "_law_sided_town" "_law_sided_town" s__law_sided_town f fd) (hm : mg "_law_sided_town" = some (.ref f)) (hb : Binds K fd ["_law_left_here", "_law_most_here"] []) (T : Txt mg) (c__law_sized : Cal P w K mg base "_law_sized" ["_law_left_here"] 2 sp_sized) (c__law_sides : Cal P w K mg base "_law_sides" ["_law_left_here", "_law_many"] 2 sp_sides) (c__law_sided : Cal P w K mg base "_law_sided" ["_law_left_here", "_law_sides_here", "_law_most_here"] 4 (sp_tw aS 20000)) : Cal P w K mg base "_law_sided_town" ["_law_left_here", "_law_most_here"] 5 (sp_town 20000) := by
 refine cal_of F hm hb sc__law_sided_town (fun vs H Q E h => ?_) (fun cdv A outer s H vs Q E hr h => ?_)
 ·obtain ⟨_, _, rfl, _⟩ := h; rfl
 ·obtain ⟨p, most, rfl, bx, mo0, mo1, q⟩ := h
  have sc := sc__law_sided_town
  refine ⟨_, pss_cons (ps_asg (pe_cal c__law_sized hr (pa_cns (pv 0) pa_nil)) (pg_tup0 (n := 2) rfl (pgs_cons (pg_name (i := 2) sc.nd rfl (Or.inl rfl)) (pgs_cons (pg_name (i := 3) sc.nd rfl (Or.inl rfl)) pgs_nil))))
   (pss_cons (ps_set (i := 4) sc.nd rfl (Or.inr rfl) (pe_cal c__law_sides hr (pa_cns (pv 0) (pa_cns (pv 2) pa_nil))))
   (pss_one (ps_ret (pe_tupA (pa_cns (pv 4) (pa_cns (pe_callTy tupA0 rfl T.tuple_ bt_tuple (pa_cns (pe_lc (N := ["_law_hand", "_law_left_here", "_law_sides_here", "_law_most_here"]) (fr := [none, some 0, some 4, some 1]) rfl (pi_range1 rfl T.range_ (pa_cns (pv 3) pa_nil)) (CScope.of rfl rfl rfl) rfl (fun _ _ _ => ⟨pg_name (i := 0) (show List.Nodup (α := Str) ["_law_hand", "_law_left_here", "_law_sides_here", "_law_most_here"] by decide +kernel) rfl (Or.inl rfl), pif_nil, pe_cal c__law_sided hr (pa_cns (pv 1) (pa_cns (pv 2) (pa_cns (pv 3) pa_nil)))⟩)) pa_nil)) pa_nil)))))), ?_⟩
  rw [show L2.start ["_law_left_here", "_law_most_here", "_law_many", "_law_few", "_law_sides_here"] [.ref p, .int most] = [some (.ref p), some (.int most), none, none, none] from rfl]
  (push_cast only [])
  refine ⟨p, rfl, bx, fun z m n H1 nz m1 m5 n1 n5 bx1 s1 e1 => ?_⟩
  (push_cast only [e1])
  refine ⟨p, m, rfl, bx1, m1, m5, fun sd ss H2 hsl h01 bx2 s2 e2 => ?_⟩
  (push_cast only [])
  refine ⟨by omega, by omega, fun c nc => ?_⟩
  have ncp : p ≠ c := bx2.ne nc
  have nsp := box_net bx2 e2
  have nsc : sd ≠ c := ne_of_none e2 nc
  refine cl_range (TupsB p c (2 ^ m) 20000 [some (.ref p), some (.ref sd), some (.int most)] H2) ⟨none, [], rfl, rfl, (fun t ht => by simp at ht), bx2.upd ncp, fun b o _ n e => by rw [upd_ne n]; exact e, upd_same⟩ ?_ ?_
  ·rintro j σ H3 hj ⟨v, ts, rfl, htl, hbd, bx3, k3, e3⟩
   rw [Int.toNat_natCast] at hj
   (push_cast only [])
   refine ⟨p, m, ⟨most, sd, ss, rfl, k3 _ _ nsp nsc e2, hsl, h01, mo0, mo1⟩, bx3, m1, m5, fun t ws H4 nt hwl hwz hwb bx4 s4 e4 => ?_⟩
   have e34 := s4 _ _ ncp.symm e3
   subst htl
   (push_cast only [e34])
   exact ⟨small1000 (by omega), ⟨_, ts ++ [(t, ws)], rfl, by simp, row_more bx3 e3 e34 hbd s4 e4 hwl hwb hwz, bx4.upd ncp, fun b o b1 b2 e => by rw [upd_ne b2]; exact s4 _ _ b1 (k3 b o b1 b2 e), by rw [upd_same]; simp⟩⟩
  ·rintro σ H3 ⟨v, ts, rfl, htl, hbd, bx3, k3, e3⟩
   rw [Int.toNat_natCast] at htl
   refine ⟨_, e3, fun wt H4 nwt s4 e4 => ?_⟩
   (push_cast only [])
   refine ⟨by decide, fun t H5 nt s5 e5 => ?_⟩
   have sx3 : SameX p H H3 := fun b o n' e => by
    have y2 := s2 _ _ n' (s1 _ _ n' e)
    exact k3 b o n' (ne_of_none y2 nc) y2
   have s45 := s4.trans s5
   exact q t sd wt m ss ts H5 (bx3.same s45) (sx3.trans s45.x) ⟨e5, s45 _ _ (k3 _ _ nsp nsc e2), s5 _ _ e4, m1, m5, hsl, h01, by omega, by omega, fun t' ht' => ⟨s45 _ _ (hbd t' ht').1, (hbd t' ht').2⟩⟩
end
end K73
end
section
set_option Elab.async false
set_option linter.all false
set_option maxRecDepth 100000
set_option maxHeartbeats 4000000
namespace K73
open PySem L2
section
variable {P : Program} {w : World} {K : PySem.W.Frag} {mg : Str → Option Value} {base : Heap} {f : Addr} {fd : FuncData}
noncomputable def sp_more : Sp := fun vs H Q _ => ∃ (B : Int) (p t : Addr) (m : Nat) (ws : List Int), vs = [.ref p, .ref t] ∧ Box H p ∧ m ≤ 5 ∧ H t = some (.tup (ws.map V.int)) ∧ ws.length = 2 ^ m ∧ 0 ≤ B ∧ B ≤ 100000 ∧ (∀ x ∈ ws, 0 ≤ x ∧ x ≤ B) ∧
 ∀ (t' : Addr) (ws' : List Int) (H' : Hp), H t' = none → ws'.length = 2 ^ m → ws'.getD 0 0 = 0 → (∀ x ∈ ws', 0 ≤ x ∧ x ≤ B + 10) → Box H' p → SameX p H H' → H' t' = some (.tup (ws'.map V.int)) → Q (.ref t') H'
noncomputable def MW (p t f : Addr) (B at' wh : Int) (G : Hp) (i : Nat) (σ : St) (H : Hp) : Prop := ∃ (v5 : Option V) (ws : List Int), σ = [some (.ref p), some (.ref t), some (.int at'), some (.int wh), some (.ref f), v5] ∧ ws.length = i + 1 ∧ (∀ x ∈ ws, 0 ≤ x ∧ x ≤ B + 10) ∧ ws.getD 0 0 = 0 ∧ SameX f G H ∧ H f = some (.lst (ws.map V.int))
theorem sc__law_more_worth : FnScope ["_law_left_here", "_law_want", "_law_at", "_law_worth_here", "_law_found", "_law_heap"] ["_law_left_here", "_law_want"] (defScope s__law_more_worth) := ⟨rfl, rfl, rfl, by decide +kernel, rfl, by decide +kernel, by decide +kernel⟩
theorem ok_more (F : Fun K "_law_more_worth" "_law_more_worth" s__law_more_worth f fd) (hm : mg "_law_more_worth" = some (.ref f)) (hb : Binds K fd ["_law_left_here", "_law_want"] []) (T : Txt mg) (c__law_pick : Cal P w K mg base "_law_pick" ["_law_left_here", "_law_many"] 1 spTake) : Cal P w K mg base "_law_more_worth" ["_law_left_here", "_law_want"] 2 sp_more := by
 refine cal_of F hm hb sc__law_more_worth (fun vs H Q E h => ?_) (fun cdv A outer s H vs Q E hr h => ?_)
 ·obtain ⟨_, _, _, _, _, rfl, _⟩ := h; rfl
 ·obtain ⟨B, p, t, m, ws, rfl, bx, m5, ht, hwl, B0, B1, hwb, q⟩ := h
  have sc := sc__law_more_worth
  refine ⟨_, pss_cons (ps_set (i := 2) sc.nd rfl (Or.inl rfl) (pe_cal c__law_pick hr (pa_cns (pv 0) (pa_cns (pe_callB len0 rfl T.len_ bt_len (pa_cns (pv 1) pa_nil)) pa_nil))))
   (pss_cons (ps_set (i := 3) sc.nd rfl (Or.inl rfl) (pe_op op_add (pe_op op_add (pe_ix ix0 (pv 1) (pv 2) (fun _ _ => rfl)) pe_int) (pe_cal c__law_pick hr (pa_cns (pv 0) (pa_cns pe_int pa_nil)))))
   (pss_cons (ps_set (i := 4) sc.nd rfl (Or.inl rfl) (pe_lstA (pa_cns pe_int pa_nil)))
   (pss_cons (ps_for PassesOwn.never rfl (pi_range2 rfl T.range_ (pa_cns pe_int (pa_cns (pe_callB len0 rfl T.len_ bt_len (pa_cns (pv 1) pa_nil)) pa_nil))) (pg_name (i := 5) sc.nd rfl (Or.inl rfl))
    (pss_one (ps_expr (pe_append (pv 4) (pa_cns (pe_callB (call_max2 rfl) rfl T.max_ bt_max (pa_cns (pe_ix ix0 (pv 1) (pv 5) (fun _ _ => rfl)) (pa_cns (pe_op op_mul (pv 3) (pe_callTy call_int1 rfl T.int_ bt_int (pa_cns (pe_cmpR op_eq (pe_op op_and (pv 2) (pv 5)) (pv 2) (nomark _)) pa_nil))) pa_nil))) pa_nil)))))
   (pss_one (ps_ret (pe_callTy tupA0 rfl T.tuple_ bt_tuple (pa_cns (pv 4) pa_nil))))))), ?_⟩
  rw [show L2.start ["_law_left_here", "_law_want", "_law_at", "_law_worth_here", "_law_found", "_law_heap"] [.ref p, .ref t] = [some (.ref p), some (.ref t), none, none, none, none] from rfl]
  have hs0 := sq_tup ht
  have ntp := box_net bx ht
  have p32 := pow32 m5
  (push_cast only [hs0])
  rw [hwl]
  refine ⟨p, _, rfl, bx, by omega, by omega, fun a1 H1 a10 a11 bx1 bt1 => ?_⟩
  obtain ⟨an, rfl⟩ := Int.eq_ofNat_of_zero_le a10
  have ht1 := bt1.x _ _ ntp ht
  have hs1 := sq_tup ht1
  have hal : an < ws.length := by omega
  have hat : atI (ws.map V.int) (an : Int) = some (V.int ws[an]) := atI_nat (by simp [hal])
  have wab := hwb ws[an] (List.getElem_mem hal)
  (push_cast only [hs1, hat])
  refine ⟨p, 5, rfl, bx1, by decide, by decide, fun r2 H2 r20 r21 bx2 bt2 => ?_⟩
  have ht2 := bt2.x _ _ ntp ht1
  (push_cast only [])
  refine ⟨by decide, fun f H3 nf s3 e3 => ?_⟩
  have nfp : p ≠ f := bx2.ne nf
  have ntf : t ≠ f := ne_of_none ht2 nf
  have ht3 := s3 _ _ ht2
  have hs3 := sq_tup ht3
  (push_cast only [hs3])
  rw [hwl]
  refine ⟨by decide, by decide, by omega, by omega, fl_range (MW p t f B (an : Int) (ws[an] + 1 + r2) H3) ⟨_, [0], rfl, rfl, (fun x hx => by have : x = 0 := (by simpa using hx); omega), rfl, SameX.refl, e3⟩ ?_ ?_⟩
  ·rintro i σ H4 hi ⟨v5, zs, rfl, hzl, hzb, hzz, s4, e4⟩
   have hs4 := sq_tup (s4 _ _ ntf ht3)
   have hil : 1 + i < ws.length := by omega
   have hat2 : atI (ws.map V.int) (1 + (i : Int)) = some (V.int ws[1 + i]) := by
    rw [show 1 + (i : Int) = ((1 + i : Nat) : Int) by omega]
    exact atI_nat (by simp [hil])
   have wib := hwb ws[1 + i] (List.getElem_mem hil)
   (push_cast only [hs4, hat2, e4])
   generalize hc : (if Builtin.bitAnd (an : Int) (1 + (i : Int)) = (an : Int) then (1 : Int) else 0) = cv
   have cb : cv = 0 ∨ cv = 1 := by rw [← hc]; split <;> omega
   have vb : 0 ≤ (if (ws[an] + 1 + r2) * cv > ws[1 + i] then (ws[an] + 1 + r2) * cv else ws[1 + i]) ∧ (if (ws[an] + 1 + r2) * cv > ws[1 + i] then (ws[an] + 1 + r2) * cv else ws[1 + i]) ≤ B + 10 := by
    rcases cb with rfl | rfl <;> split <;> omega
   exact ⟨.inl ⟨by omega, by omega⟩, small1000 (by omega), ⟨_, zs ++ [_], rfl, by simp; omega, mem_snoc hzb vb, zero_snoc hzz (fun z => by rw [z] at hzl; simp at hzl), s4.trans SameX.upd, by rw [upd_same]; simp⟩⟩
  ·rintro σ H4 ⟨v5, zs, rfl, hzl, hzb, hzz, s4, e4⟩
   (push_cast only [e4])
   intro t' H5 nt' s5 e5
   have bx4 : Box H4 p := by obtain ⟨g, m', c', z⟩ := bx2.same s3; exact ⟨g, m', c', s4 _ _ nfp z⟩
   have sx4 : SameX p H H4 := fun b o n e => by
    have y2 := bt2.x _ _ n (bt1.x _ _ n e)
    exact s4 _ _ (ne_of_none y2 nf) (s3 _ _ y2)
   exact q t' zs H5 (none_of sx4 nt' (bx4.ne nt').symm) (by omega) hzz hzb (bx4.same s5) (sx4.trans s5.x) e5
noncomputable def TW (p c t : Addr) (most way : Int) (n : Nat) (G : Hp) (i : Nat) (σ : St) (H : Hp) : Prop := ∃ (v5 : Option V) (ts : List (Addr × List Int)), σ = [some (.ref p), some (.int most), some (.ref t), some (.int way), some (.ref c), v5] ∧ ts.length = i ∧ (∀ t ∈ ts, H t.1 = some (.tup (t.2.map V.int)) ∧ t.2.length = n ∧ (∀ x ∈ t.2, 0 ≤ x ∧ x ≤ 30000) ∧ t.2.getD 0 0 = 0) ∧ Box H p ∧ (∀ b o, b ≠ p → b ≠ c → G b = some o → H b = some o) ∧ H c = some (.lst (ts.map fun t => V.ref t.1))
theorem TW.more {p c t u : Addr} {most way : Int} {n : Nat} {G H H7 : Hp} {v : Option V} {ts : List (Addr × List Int)} {ws : List Int} (npc : p ≠ c) (hbd : ∀ t ∈ ts, H t.1 = some (.tup (t.2.map V.int)) ∧ t.2.length = n ∧ (∀ x ∈ t.2, 0 ≤ x ∧ x ≤ 30000) ∧ t.2.getD 0 0 = 0) (bx : Box H p) (k : ∀ b o, b ≠ p → b ≠ c → G b = some o → H b = some o) (e0 : H c = some (.lst (ts.map fun t => V.ref t.1)))
  (s : SameX p H H7) (bx7 : Box H7 p) (e7 : H7 u = some (.tup (ws.map V.int))) (hl : ws.length = n) (hw : ∀ x ∈ ws, 0 ≤ x ∧ x ≤ 30000) (hz : ws.getD 0 0 = 0) : TW p c t most way n G (ts.length + 1) [some (.ref p), some (.int most), some (.ref t), some (.int way), some (.ref c), v] (upd H7 c (.lst ((ts.map fun t => V.ref t.1) ++ [V.ref u]))) :=
 ⟨v, ts ++ [(u, ws)], rfl, by simp, row_more bx e0 (s _ _ npc.symm e0) hbd s e7 hl hw hz, bx7.upd npc, fun b o b1 b2 e => by rw [upd_ne b2]; exact s _ _ b1 (k b o b1 b2 e), by rw [upd_same]; simp⟩
theorem sc__law_town : FnScope ["_law_left_here", "_law_most_here", "_law_town_here", "_law_way", "_law_wants", "_law_want"] ["_law_left_here", "_law_most_here"] (defScope s__law_town) := ⟨rfl, rfl, rfl, by decide +kernel, rfl, by decide +kernel, by decide +kernel⟩
theorem ok_town (F : Fun K "_law_town" "_law_town" s__law_town f fd) (hm : mg "_law_town" = some (.ref f)) (hb : Binds K fd ["_law_left_here", "_law_most_here"] []) (T : Txt mg) (c__law_pick : Cal P w K mg base "_law_pick" ["_law_left_here", "_law_many"] 1 spTake) (c__law_sided_town : Cal P w K mg base "_law_sided_town" ["_law_left_here", "_law_most_here"] 5 (sp_town 20000)) (c__law_any_want : Cal P w K mg base "_law_any_want" ["_law_left_here", "_law_many", "_law_most_here"] 3 (sp_tw aM 10000)) (c__law_more_worth : Cal P w K mg base "_law_more_worth" ["_law_left_here", "_law_want"] 2 sp_more) : Cal P w K mg base "_law_town" ["_law_left_here", "_law_most_here"] 6 (sp_town 30000) := by
 refine cal_of F hm hb sc__law_town (fun vs H Q E h => ?_) (fun cdv A outer s H vs Q E hr h => ?_)
 ·obtain ⟨_, _, rfl, _⟩ := h; rfl
 ·obtain ⟨p, most, rfl, bx, mo0, mo1, q⟩ := h
  have sc := sc__law_town
  refine ⟨_, pss_consL (ps_set (i := 2) sc.nd rfl (Or.inl rfl) (pe_cal c__law_sided_town hr (pa_cns (pv 0) (pa_cns (pv 1) pa_nil))))
   (pss_consL (ps_set (i := 3) sc.nd rfl (Or.inl rfl) (pe_cal c__law_pick hr (pa_cns (pv 0) (pa_cns pe_int pa_nil))))
   (pss_consL (ps_if (pt_cmpR op_lt (pv 3) pe_int (nomark _)) (pss_one (ps_ret (pv 2))) pss_nil)
   (pss_consL (ps_set (i := 4) sc.nd rfl (Or.inl rfl) (pe_lstA pa_nil))
   (pss_consL (ps_for PassesOwn.never rfl (pi_t0 (pe_ix ix0 (pv 2) pe_int (fun _ _ => rfl))) (pg_name (i := 5) sc.nd rfl (Or.inl rfl))
    (pss_consL (ps_if (PW.pt (pw_or (pt_cmpR op_eq (pv 3) pe_int (nomark _)) (pw_or1 (pt_cmpR op_eq (pe_cal c__law_pick hr (pa_cns (pv 0) (pa_cns pe_int pa_nil))) pe_int (nomark _))))) (pss_one (ps_set (i := 5) sc.nd rfl (Or.inl rfl) (pe_cal c__law_any_want hr (pa_cns (pv 0) (pa_cns (pe_callB len0 rfl T.len_ bt_len (pa_cns (pe_ix ix0 (pv 2) pe_int (fun _ _ => rfl)) pa_nil)) (pa_cns (pv 1) pa_nil)))))) pss_nil)
   (pss_one (ps_expr (pe_append (pv 4) (pa_cns (pe_ifExp (pt_cmpR op_eq (pe_cal c__law_pick hr (pa_cns (pv 0) (pa_cns pe_int pa_nil))) pe_int (nomark _)) (pe_cal c__law_more_worth hr (pa_cns (pv 0) (pa_cns (pv 5) pa_nil))) (pv 5)) pa_nil))))))
   (pss_one (ps_ret (pe_tupA (pa_cns (pe_ix ix0 (pv 2) pe_int (fun _ _ => rfl)) (pa_cns (pe_callTy tupA0 rfl T.tuple_ bt_tuple (pa_cns (pv 4) pa_nil)) pa_nil))))))))), ?_⟩
  rw [show L2.start ["_law_left_here", "_law_most_here", "_law_town_here", "_law_way", "_law_wants", "_law_want"] [.ref p, .int most] = [some (.ref p), some (.int most), none, none, none, none] from rfl]
  (push_cast only [])
  refine ⟨p, most, rfl, bx, mo0, mo1, fun t sd wt m ss ts H1 bx1 s1 W1 => ?_⟩
  (push_cast only [])
  (simp only [a_laterH])
  (push_cast only [])
  refine ⟨p, 4, rfl, bx1, by decide, by decide, fun way H2 wa wb bx2 bt2 => ?_⟩
  have W2 := W1.x bx1 bt2.x
  have sx2 : SameX p H H2 := s1.trans bt2.x
  (push_cast only [])
  (simp only [a_laterH])
  (push_cast only [])
  split
  ·exact q t sd wt m ss ts H2 bx2 sx2 ⟨W2.at', W2.sd, W2.wt, W2.m1, W2.m5, W2.slen, W2.s01, W2.t1, W2.t5, fun t' ht' => ⟨(W2.row t' ht').1, (W2.row t' ht').2.1, fun x hx => by have := (W2.row t' ht').2.2.1 x hx; omega, (W2.row t' ht').2.2.2⟩⟩
  ·(simp only [a_laterH])
   (push_cast only [])
   refine ⟨by decide, fun c H3 nc s3 e3 => ?_⟩
   have ncp : p ≠ c := bx2.ne nc
   have W3 := W2.same s3
   have hst := sq_tup W3.at'
   have ew := W3.wt
   have i1 : ∀ x y : V, atI [x, y] 1 = some y := fun _ _ => rfl
   have i0 : ∀ x y : V, atI [x, y] 0 = some x := fun _ _ => rfl
   (simp only [a_laterH])
   (push_cast only [hst, i1, ew])
   refine fl_seq (TW p c t most way (2 ^ m) H3) ⟨_, [], rfl, rfl, (fun t ht => by simp at ht), bx2.same s3, fun b o _ _ e => e, e3⟩ (fun j σ H' _ ⟨_, _, _, _, _, _, k, _⟩ => k _ _ (box_net (bx2.same s3) ew) (fun z => by rw [z, e3] at ew; cases ew) ew) ?_ ?_
   ·rintro i x σ H4 hx ⟨v5, ts2, rfl, htl, hbd, bx4, k4, e4⟩
    rw [List.getElem?_map] at hx
    obtain ⟨tt, htt, rfl⟩ := Option.map_eq_some_iff.mp hx
    have hil : i < ts.length := (List.getElem?_eq_some_iff.mp htt).1
    have t5 := W3.t5
    have bx3 := bx2.same s3
    have keep : ∀ {a : Addr} {xs : List V}, H3 a = some (.tup xs) → H4 a = some (.tup xs) := fun {a xs} e => k4 _ _ (box_net bx3 e) (fun z => by rw [z, e3] at e; cases e) e
    have W4 : Town 20000 H4 t sd wt m ss ts := ⟨keep W3.at', keep W3.sd, keep W3.wt, W3.m1, W3.m5, W3.slen, W3.s01, W3.t1, W3.t5, fun t' ht' => ⟨keep (W3.row t' ht').1, (W3.row t' ht').2⟩⟩
    obtain ⟨ett, ltt, btt, ztt⟩ := W4.row tt (List.mem_of_getElem? htt)
    subst htl
    have hup : ∀ {us : List Int}, (∀ x ∈ us, 0 ≤ x ∧ x ≤ 10000) → ∀ x ∈ us, 0 ≤ x ∧ x ≤ 20000 := fun h x hx => by have := h x hx; omega
    (push_cast only [])
    by_cases hw3 : way = 3
    ·rw [if_pos (by simpa using hw3)]
     have hstX := sq_tup (W4.at')
     have hsdX := sq_tup (W4.sd)
     (push_cast only [hstX, i0, hsdX])
     rw [W3.slen]
     refine ⟨p, m, ⟨most, rfl, mo0, mo1⟩, bx4, W3.m1, W3.m5, fun u us H8 nu hul huz hub bx8 s8 e8 => ?_⟩
     (push_cast only [])
     have ecX := s8 _ _ ncp.symm e4
     have euX := e8
     (simp only [a_laterH])
     (push_cast only [ecX])
     refine ⟨p, 3, rfl, bx8, by decide, by decide, fun r9 H9 a9 b9 bx9 bt9 => ?_⟩
     have ec9 := bt9.x _ _ ncp.symm ecX
     have eu9 := bt9.x _ _ (box_net bx8 euX) euX
     (push_cast only [])
     split
     ·refine ⟨20000, p, u, m, us, rfl, bx9, W3.m5, eu9, hul, by decide, by decide, (hup hub), fun t' ws' H10 nt' hl' hz' hb' bx10 s10 e10 => ?_⟩
      have ec10 := s10 _ _ ncp.symm ec9
      (push_cast only [ec10])
      exact ⟨small1000 (by omega), TW.more ncp hbd bx4 k4 e4 ((s8.trans bt9.x).trans s10) bx10 e10 hl' (fun x hx => by have := hb' x hx; omega) hz'⟩
     ·(push_cast only [ec9])
      exact ⟨small1000 (by omega), TW.more ncp hbd bx4 k4 e4 (s8.trans bt9.x) bx9 eu9 hul (fun x hx => by have := (hup hub) x hx; omega) huz⟩
    ·rw [if_neg (by simpa using hw3)]
     refine ⟨p, 2, rfl, bx4, by decide, by decide, fun r5 H5 a5 b5 bx5 bt5 => ?_⟩
     have W5 := W4.x bx4 bt5.x
     (push_cast only [])
     by_cases hr0 : r5 = 0
     ·rw [if_pos (by simpa using hr0)]
      have hstX := sq_tup (W5.at')
      have hsdX := sq_tup (W5.sd)
      (push_cast only [hstX, i0, hsdX])
      rw [W3.slen]
      refine ⟨p, m, ⟨most, rfl, mo0, mo1⟩, bx5, W3.m1, W3.m5, fun u us H8 nu hul huz hub bx8 s8 e8 => ?_⟩
      (push_cast only [])
      have ecX := (bt5.x.trans s8) _ _ ncp.symm e4
      have euX := e8
      (simp only [a_laterH])
      (push_cast only [ecX])
      refine ⟨p, 3, rfl, bx8, by decide, by decide, fun r9 H9 a9 b9 bx9 bt9 => ?_⟩
      have ec9 := bt9.x _ _ ncp.symm ecX
      have eu9 := bt9.x _ _ (box_net bx8 euX) euX
      (push_cast only [])
      split
      ·refine ⟨20000, p, u, m, us, rfl, bx9, W3.m5, eu9, hul, by decide, by decide, (hup hub), fun t' ws' H10 nt' hl' hz' hb' bx10 s10 e10 => ?_⟩
       have ec10 := s10 _ _ ncp.symm ec9
       (push_cast only [ec10])
       exact ⟨small1000 (by omega), TW.more ncp hbd bx4 k4 e4 (((bt5.x.trans s8).trans bt9.x).trans s10) bx10 e10 hl' (fun x hx => by have := hb' x hx; omega) hz'⟩
      ·(push_cast only [ec9])
       exact ⟨small1000 (by omega), TW.more ncp hbd bx4 k4 e4 ((bt5.x.trans s8).trans bt9.x) bx9 eu9 hul (fun x hx => by have := (hup hub) x hx; omega) huz⟩
     ·rw [if_neg (by simpa using hr0)]
      have ecX := bt5.x _ _ ncp.symm e4
      have euX := bt5.x _ _ (box_net bx4 ett) ett
      (simp only [a_laterH])
      (push_cast only [ecX])
      refine ⟨p, 3, rfl, bx5, by decide, by decide, fun r9 H9 a9 b9 bx9 bt9 => ?_⟩
      have ec9 := bt9.x _ _ ncp.symm ecX
      have eu9 := bt9.x _ _ (box_net bx5 euX) euX
      (push_cast only [])
      split
      ·refine ⟨20000, p, tt.1, m, tt.2, rfl, bx9, W3.m5, eu9, ltt, by decide, by decide, btt, fun t' ws' H10 nt' hl' hz' hb' bx10 s10 e10 => ?_⟩
       have ec10 := s10 _ _ ncp.symm ec9
       (push_cast only [ec10])
       exact ⟨small1000 (by omega), TW.more ncp hbd bx4 k4 e4 ((bt5.x.trans bt9.x).trans s10) bx10 e10 hl' (fun x hx => by have := hb' x hx; omega) hz'⟩
      ·(push_cast only [ec9])
       exact ⟨small1000 (by omega), TW.more ncp hbd bx4 k4 e4 (bt5.x.trans bt9.x) bx9 eu9 ltt (fun x hx => by have := btt x hx; omega) ztt⟩
   ·rintro σ H4 ⟨v5, ts2, rfl, htl, hbd, bx4, k4, e4⟩
    rw [List.length_map] at htl
    have bx3 := bx2.same s3
    have keep : ∀ {a : Addr} {xs : List V}, H3 a = some (.tup xs) → H4 a = some (.tup xs) := fun {a xs} e => k4 _ _ (box_net bx3 e) (fun z => by rw [z, e3] at e; cases e) e
    have hst4 := sq_tup (keep W3.at')
    (simp only [a_laterH])
    (push_cast only [hst4, i0, e4])
    intro l H5 nl s5 e5
    refine ⟨by decide, fun r H6 nr s6 e6 => ?_⟩
    have s46 := s5.trans s6
    have t1 := W3.t1
    have t5 := W3.t5
    have sx4 : SameX p H H4 := fun b o n e => by
     have y2 := sx2 _ _ n e
     exact k4 b o n (ne_of_none y2 nc) (s3 _ _ y2)
    exact q r sd l m ss ts2 H6 (bx4.same s46) (sx4.trans s46.x) ⟨e6, s46 _ _ (keep W3.sd), s6 _ _ e5, W3.m1, W3.m5, W3.slen, W3.s01, by omega, by omega, fun t' ht' => ⟨s46 _ _ (hbd t' ht').1, (hbd t' ht').2⟩⟩
end
end K73
end
section
set_option Elab.async false
set_option linter.all false
set_option maxRecDepth 100000
set_option maxHeartbeats 4000000
namespace K73
open PySem L2
section
variable {P : Program} {w : World} {K : PySem.W.Frag} {mg : Str → Option Value} {base : Heap} {f : Addr} {fd : FuncData}
noncomputable def idxL (g : List Int) (m : Int) (k : Nat) : List Int := ((List.range k).filter fun i => decide (g.getD i 0 = m)).map fun i : Nat => (i : Int)
theorem idxL_succ (g : List Int) (m : Int) (k : Nat) : idxL g m (k + 1) = idxL g m k ++ if g.getD k 0 = m then [(k : Int)] else [] := by
 unfold idxL
 rw [List.range_succ, List.filter_append, List.map_append]
 congr 1
 by_cases h : g.getD k 0 = m
 ·rw [if_pos h]; simp only [List.filter, decide_eq_true h, List.map]
 ·rw [if_neg h]; simp only [List.filter, decide_eq_false h, List.map]
theorem idxL_len (g : List Int) (m : Int) (k : Nat) : (idxL g m k).length ≤ k := by
 unfold idxL
 rw [List.length_map]
 exact Nat.le_trans (List.length_filter_le _ _) (by simp)
theorem idxL_mem {g : List Int} {m : Int} {k : Nat} {x : Int} (h : x ∈ idxL g m k) : ∃ i : Nat, x = (i : Int) ∧ i < k := by
 unfold idxL at h
 obtain ⟨i, hi, rfl⟩ := List.mem_map.mp h
 exact ⟨i, rfl, List.mem_range.mp (List.mem_filter.mp hi).1⟩
noncomputable def hos (ds : List Int) (s : Int) : Nat → Nat
 | 0 => 0
 | k + 1 => hos ds s k + if ds.getD k 0 = s then 2 ^ k else 0
theorem hos_lt (ds : List Int) (s : Int) : ∀ k, hos ds s k < 2 ^ k
 | 0 => by simp [hos]
 | k + 1 => by
  have := hos_lt ds s k
  show hos ds s k + _ < _
  rw [Nat.pow_succ]
  split <;> omega
noncomputable def pows (xs : List Int) : List Int := xs.map fun x => ((2 ^ x.toNat : Nat) : Int)
theorem pows_sum (ds : List Int) (s : Int) : ∀ k, (pows (idxL ds s k)).sum = (hos ds s k : Int)
 | 0 => rfl
 | k + 1 => by
  have ih := pows_sum ds s k
  rw [idxL_succ]
  unfold pows at ih ⊢
  rw [List.map_append, List.sum_append, ih]
  show _ = ((hos ds s k + if ds.getD k 0 = s then 2 ^ k else 0 : Nat) : Int)
  split
  ·simp
  ·simp
theorem pows_bd {xs : List Int} (h : ∀ x ∈ xs, ∃ i : Nat, x = (i : Int) ∧ i < 5) : ∀ y ∈ pows xs, 0 ≤ y ∧ y ≤ 16 := by
 intro y hy
 unfold pows at hy
 obtain ⟨x, hx, rfl⟩ := List.mem_map.mp hy
 obtain ⟨i, rfl, hi⟩ := h x hx
 have h4 : i = 0 ∨ i = 1 ∨ i = 2 ∨ i = 3 ∨ i = 4 := by omega
 rcases h4 with rfl | rfl | rfl | rfl | rfl <;> decide
noncomputable def sp_hos : Sp := fun vs H Q _ => ∃ (a : Addr) (ds : List Int) (s : Int), vs = [.ref a, .int s] ∧ H a = some (.tup (ds.map V.int)) ∧ ds.length ≤ 5 ∧ ∀ H', Same H H' → Q (.int (hos ds s ds.length : Int)) H'
noncomputable def LHO (c : Addr) (ds : List Int) (s : Int) (G : Hp) (i : Nat) (σ : St) (H : Hp) : Prop := ∃ v1 v2 : Option V, σ = [v1, v2, some (.int s)] ∧ SameX c G H ∧ H c = some (.lst ((pows (idxL ds s i)).map V.int))
theorem sc__law_heap_of : FnScope ["_law_dealt", "_law_hand"] ["_law_dealt", "_law_hand"] (defScope s__law_heap_of) := ⟨rfl, rfl, rfl, by decide +kernel, rfl, by decide +kernel, by decide +kernel⟩
theorem ok_lho (F : Fun K "_law_heap_of" "_law_heap_of" s__law_heap_of f fd) (hm : mg "_law_heap_of" = some (.ref f)) (hb : Binds K fd ["_law_dealt", "_law_hand"] []) (T : Txt mg) : Cal P w K mg base "_law_heap_of" ["_law_dealt", "_law_hand"] 1 sp_hos := by
 refine cal_of F hm hb sc__law_heap_of (fun vs H Q E h => ?_) (fun cdv A outer s H vs Q E hr h => ?_)
 ·obtain ⟨_, _, _, rfl, _⟩ := h; rfl
 ·obtain ⟨a, ds, s', rfl, ha, h5, q⟩ := h
  have sc := sc__law_heap_of
  refine ⟨_, pss_one (ps_ret (pe_callB (sum0 rfl) rfl T.sum_ bt_sum (pa_cns (pe_lc (N := ["_law_thing", "_law_holder", "_law_hand"]) (fr := [none, none, some 1]) rfl (pi_enum rfl T.enumerate_ (pa_cns (pv 0) pa_nil)) (CScope.of rfl rfl rfl) rfl (fun _ _ _ => ⟨pg_tup0 (n := 2) rfl (pgs_cons (pg_name (i := 0) (show List.Nodup (α := Str) ["_law_thing", "_law_holder", "_law_hand"] by decide +kernel) rfl (Or.inl rfl)) (pgs_cons (pg_name (i := 1) (show List.Nodup (α := Str) ["_law_thing", "_law_holder", "_law_hand"] by decide +kernel) rfl (Or.inl rfl)) pgs_nil)), pif_one (pt_cmpR op_eq (pv 1) (pv 2) (nomark _)), pe_op op_shl pe_int (pv 0)⟩)) pa_nil))), ?_⟩
  rw [show L2.start ["_law_dealt", "_law_hand"] [.ref a, .int s'] = [some (.ref a), some (.int s')] from rfl]
  (push_cast only [])
  refine ⟨_, _, .inr ⟨rfl, ha⟩, fun c nc => ?_⟩
  have nac : a ≠ c := ne_of_none ha nc
  refine cl_enum (LHO c ds s' H) ⟨none, none, rfl, SameX.upd, upd_same⟩ (fun i σ H2 ⟨_, _, _, s, _⟩ => .inr ⟨rfl, s _ _ nac ha⟩) ?_ ?_
  ·rintro j v T' σ H1 H2 hv ⟨v1, v2, rfl, s1, e1⟩ nT s2 e2
   rw [List.getElem?_map] at hv
   obtain ⟨x, hx, rfl⟩ := Option.map_eq_some_iff.mp hv
   have hj : j < ds.length := (List.getElem?_eq_some_iff.mp hx).1
   have hg : ds.getD j 0 = x := by rw [List.getD_eq_getElem?_getD, hx]; rfl
   have il : (pows (idxL ds s' j)).length ≤ j := by unfold pows; rw [List.length_map]; exact idxL_len ds s' j
   have ec := s2 _ _ e1
   (push_cast only [e2])
   by_cases hd : x = s'
   ·rw [if_pos (by simpa using hd)]
    (push_cast only [ec])
    rw [hpow]
    refine ⟨⟨by omega, by omega, by decide⟩, small1000 (by omega), ⟨_, _, rfl, (s1.trans s2.x).trans SameX.upd, ?_⟩⟩
    rw [upd_same, idxL_succ, if_pos (by rw [hg]; exact hd)]
    simp [pows]
   ·rw [if_neg (by simpa using hd)]
    refine ⟨_, _, rfl, s1.trans s2.x, ?_⟩
    rw [ec, idxL_succ, if_neg (by rw [hg]; exact hd), List.append_nil]
  ·rintro σ H1 ⟨v1, v2, rfl, s1, e1⟩
   rw [List.length_map] at e1
   have pb := pows_bd (xs := idxL ds s' ds.length) fun x hx => by
    obtain ⟨i, e, l⟩ := idxL_mem hx
    exact ⟨i, e, by omega⟩
   refine ⟨_, sq_lst e1, sumFits_of (fun y hy => by have := pb y hy; omega) (by unfold pows; rw [List.length_map]; exact Nat.le_trans (idxL_len _ _ _) (by omega)), ?_⟩
   rw [pows_sum]
   exact q H1 (s1.same nc)
noncomputable def sumK (ts : List (Addr × List Int)) (ds : List Int) (k : Nat) : List Int := (List.range k).map fun h : Nat => ((ts.getD h (0, [])).2).getD (hos ds (h : Int) ds.length) 0
theorem sumK_succ (ts : List (Addr × List Int)) (ds : List Int) (k : Nat) : sumK ts ds (k + 1) = sumK ts ds k ++ [((ts.getD k (0, [])).2).getD (hos ds (k : Int) ds.length) 0] := by
 unfold sumK
 rw [List.range_succ, List.map_append]
 rfl
theorem sumK_len (ts : List (Addr × List Int)) (ds : List Int) (k : Nat) : (sumK ts ds k).length = k := by unfold sumK; simp
theorem sumK_bd {ts : List (Addr × List Int)} {ds : List Int} (h : ∀ t ∈ ts, ∀ x ∈ t.2, 0 ≤ x ∧ x ≤ 50000) (k : Nat) : ∀ y ∈ sumK ts ds k, 0 ≤ y ∧ y ≤ 50000 := by
 intro y hy
 unfold sumK at hy
 obtain ⟨n, hn, rfl⟩ := List.mem_map.mp hy
 simp only [List.getD_eq_getElem?_getD]
 cases e : ts[n]? with
 | none => simp
 | some t =>
  simp only [Option.getD_some]
  cases e2 : t.2[hos ds (n : Int) ds.length]? with
  | none => simp
  | some x =>
   simp only [Option.getD_some]
   exact h t (List.mem_of_getElem? e) x (List.mem_of_getElem? e2)
noncomputable def SK (c : Addr) (ts : List (Addr × List Int)) (ds : List Int) (τ : List (Option V)) (G : Hp) (i : Nat) (σ : St) (H : Hp) : Prop := ∃ v1 v2 : Option V, σ = v1 :: v2 :: τ ∧ SameX c G H ∧ H c = some (.lst ((sumK ts ds i).map V.int))
noncomputable def sp_sum_dealt : Sp := fun vs H Q _ => ∃ (wt a : Addr) (m : Nat) (ts : List (Addr × List Int)) (ds : List Int), vs = [.ref wt, .ref a] ∧ H wt = some (.tup (ts.map fun t => V.ref t.1)) ∧ ts.length ≤ 5 ∧ m ≤ 5 ∧ (∀ t ∈ ts, H t.1 = some (.tup (t.2.map V.int)) ∧ t.2.length = 2 ^ m ∧ ∀ x ∈ t.2, 0 ≤ x ∧ x ≤ 50000) ∧ H a = some (.tup (ds.map V.int)) ∧ ds.length = m ∧ ∀ H', Same H H' → Q (.int (sumK ts ds ts.length).sum) H'
theorem sc__law_sum_dealt : FnScope ["_law_wants", "_law_dealt"] ["_law_wants", "_law_dealt"] (defScope s__law_sum_dealt) := ⟨rfl, rfl, rfl, by decide +kernel, rfl, by decide +kernel, by decide +kernel⟩
theorem ok_sum_dealt (F : Fun K "_law_sum_dealt" "_law_sum_dealt" s__law_sum_dealt f fd) (hm : mg "_law_sum_dealt" = some (.ref f)) (hb : Binds K fd ["_law_wants", "_law_dealt"] []) (T : Txt mg) (c__law_heap_of : Cal P w K mg base "_law_heap_of" ["_law_dealt", "_law_hand"] 1 sp_hos) : Cal P w K mg base "_law_sum_dealt" ["_law_wants", "_law_dealt"] 2 sp_sum_dealt := by
 refine cal_of F hm hb sc__law_sum_dealt (fun vs H Q E h => ?_) (fun cdv A outer s H vs Q E hr h => ?_)
 ·obtain ⟨_, _, _, _, _, rfl, _⟩ := h; rfl
 ·obtain ⟨wt, a, m, ts, ds, rfl, hwt, t5, m5, hrow, ha, hdl, q⟩ := h
  have sc := sc__law_sum_dealt
  refine ⟨_, pss_one (ps_ret (pe_callB (sum0 rfl) rfl T.sum_ bt_sum (pa_cns (pe_lc (N := ["_law_hand", "_law_want", "_law_dealt"]) (fr := [none, none, some 1]) rfl (pi_enum rfl T.enumerate_ (pa_cns (pv 0) pa_nil)) (CScope.of rfl rfl rfl) rfl (fun _ _ _ => ⟨pg_tup0 (n := 2) rfl (pgs_cons (pg_name (i := 0) (show List.Nodup (α := Str) ["_law_hand", "_law_want", "_law_dealt"] by decide +kernel) rfl (Or.inl rfl)) (pgs_cons (pg_name (i := 1) (show List.Nodup (α := Str) ["_law_hand", "_law_want", "_law_dealt"] by decide +kernel) rfl (Or.inl rfl)) pgs_nil)), pif_nil, pe_ix ix0 (pv 1) (pe_cal c__law_heap_of hr (pa_cns (pv 2) (pa_cns (pv 0) pa_nil))) (fun _ _ => rfl)⟩)) pa_nil))), ?_⟩
  rw [show L2.start ["_law_wants", "_law_dealt"] [.ref wt, .ref a] = [some (.ref wt), some (.ref a)] from rfl]
  (push_cast only [])
  refine ⟨_, _, .inr ⟨rfl, hwt⟩, fun c nc => ?_⟩
  have nwc : wt ≠ c := ne_of_none hwt nc
  have nac : a ≠ c := ne_of_none ha nc
  refine cl_enum (SK c ts ds [some (.ref a)] H) ⟨none, none, rfl, SameX.upd, upd_same⟩ (fun i σ H2 ⟨_, _, _, s, _⟩ => .inr ⟨rfl, s _ _ nwc hwt⟩) ?_ ?_
  ·rintro j v T' σ H1 H2 hv ⟨v1, v2, rfl, s1, e1⟩ nT s2 e2
   rw [List.getElem?_map] at hv
   obtain ⟨tt, htt, rfl⟩ := Option.map_eq_some_iff.mp hv
   have hj : j < ts.length := (List.getElem?_eq_some_iff.mp htt).1
   obtain ⟨ett, ltt, _⟩ := hrow tt (List.mem_of_getElem? htt)
   have htl := hos_lt ds (j : Int) ds.length
   have hnl : hos ds (j : Int) ds.length < tt.2.length := by rw [ltt, ← hdl]; exact htl
   (push_cast only [e2])
   refine ⟨a, ds, (j : Int), rfl, s2 _ _ (s1 _ _ nac ha), by omega, fun H3 s3 => ?_⟩
   have hs3 := sq_tup (s3 _ _ (s2 _ _ (s1 _ _ (ne_of_none ett nc) ett)))
   have hat : atI (tt.2.map V.int) (hos ds (j : Int) ds.length : Int) = some (V.int tt.2[hos ds (j : Int) ds.length]) := atI_nat (by simp [hnl])
   have ec := s3 _ _ (s2 _ _ e1)
   (push_cast only [hs3, hat, ec])
   refine ⟨small1000 (by rw [sumK_len]; omega), ⟨_, _, rfl, ((s1.trans s2.x).trans s3.x).trans SameX.upd, ?_⟩⟩
   rw [upd_same, sumK_succ, List.map_append]
   simp [List.getD_eq_getElem?_getD, htt, hnl]
  ·rintro σ H1 ⟨v1, v2, rfl, s1, e1⟩
   rw [List.length_map] at e1
   have sb := sumK_bd (ds := ds) (fun t ht => (hrow t ht).2.2) ts.length
   exact ⟨_, sq_lst e1, sumFits_of (fun y hy => by have := sb y hy; omega) (by rw [sumK_len]; omega), q H1 (s1.same nc)⟩
theorem at_int {ns : List Int} {n : Nat} (h : n < ns.length) : atI (ns.map V.int) (n : Int) = some (V.int (ns.getD n 0)) := atI_nat (by simp [h, List.getD_eq_getElem?_getD])
noncomputable def lessI (a b : Int) : Int := a - Builtin.bitAnd a b
noncomputable def sp_less : Sp := fun vs H Q _ => ∃ a b : Int, vs = [.int a, .int b] ∧ Q (.int (lessI a b)) H
theorem sc_less : FnScope ["one", "other"] ["one", "other"] (defScope s_less) := ⟨rfl, rfl, rfl, by decide +kernel, rfl, by decide +kernel, by decide +kernel⟩
theorem ok_less (F : Fun K "less" "less" s_less f fd) (hm : mg "less" = some (.ref f)) (hb : Binds K fd ["one", "other"] []) (T : Txt mg) : Cal P w K mg base "less" ["one", "other"] 1 sp_less := by
 refine cal_of F hm hb sc_less (fun vs H Q E h => ?_) (fun cdv A outer s H vs Q E hr h => ?_)
 ·obtain ⟨_, _, rfl, _⟩ := h; rfl
 ·obtain ⟨h, t, rfl, q⟩ := h
  have sc := sc_less
  refine ⟨_, pss_one (ps_ret (pe_op op_sub (pv 0) (pe_op op_and (pv 0) (pv 1)))), ?_⟩
  rw [show L2.start ["one", "other"] [.int h, .int t] = [some (.int h), some (.int t)] from rfl]
  (push_cast only [])
  exact q
noncomputable def sp_isw : Sp := fun vs H Q _ => ∃ a b : Int, vs = [.int a, .int b] ∧ Q (.bl (decide (lessI a b = 0))) H
theorem sc_is_within : FnScope ["one", "other"] ["one", "other"] (defScope s_is_within) := ⟨rfl, rfl, rfl, by decide +kernel, rfl, by decide +kernel, by decide +kernel⟩
theorem ok_isw (F : Fun K "is_within" "is_within" s_is_within f fd) (hm : mg "is_within" = some (.ref f)) (hb : Binds K fd ["one", "other"] []) (T : Txt mg) (c_less : Cal P w K mg base "less" ["one", "other"] 1 sp_less) : Cal P w K mg base "is_within" ["one", "other"] 2 sp_isw := by
 refine cal_of F hm hb sc_is_within (fun vs H Q E h => ?_) (fun cdv A outer s H vs Q E hr h => ?_)
 ·obtain ⟨_, _, rfl, _⟩ := h; rfl
 ·obtain ⟨h, t, rfl, q⟩ := h
  have sc := sc_is_within
  refine ⟨_, pss_one (ps_ret (pe_cmpR op_eq (pe_cal c_less hr (pa_cns (pv 0) (pa_cns (pv 1) pa_nil))) pe_int (nomark _))), ?_⟩
  rw [show L2.start ["one", "other"] [.int h, .int t] = [some (.int h), some (.int t)] from rfl]
  (push_cast only [sp_less])
  exact q
noncomputable def maxL : List Int → Int
 | [] => 0
 | a :: l => if l = [] then a else max a (maxL l)
theorem maxL_mem : ∀ {l : List Int}, l ≠ [] → maxL l ∈ l
 | [], h => absurd rfl h
 | a :: l, _ => by
  unfold maxL
  by_cases e : l = []
  ·rw [if_pos e]; exact List.mem_cons_self
  ·rw [if_neg e]
   have := maxL_mem e
   rcases Int.le_total a (maxL l) with z | z
   ·rw [Int.max_eq_right z]; exact List.mem_cons_of_mem _ this
   ·rw [Int.max_eq_left z]; exact List.mem_cons_self
theorem maxL_ge : ∀ {l : List Int} {x : Int}, x ∈ l → x ≤ maxL l
 | a :: l, x, h => by
  unfold maxL
  by_cases e : l = []
  ·subst e; rw [if_pos rfl]; have : x = a := by simpa using h
   omega
  ·rw [if_neg e]
   rcases List.mem_cons.mp h with rfl | h
   ·exact Int.le_max_left _ _
   ·exact Int.le_trans (maxL_ge h) (Int.le_max_right _ _)
theorem maxL_eq {l : List Int} {m : Int} (h1 : m ∈ l) (h2 : ∀ x ∈ l, x ≤ m) : maxL l = m := by
 have ne : l ≠ [] := by rintro rfl; cases h1
 have a := h2 _ (maxL_mem ne)
 have b := maxL_ge h1
 omega
noncomputable def inB (p h : Nat) : Bool := decide (lessI (p : Int) (h : Int) = 0)
noncomputable def partsN (h : Nat) : List Nat := (List.range (h + 1)).filter fun p => inB p h
theorem part_facts {p h : Nat} (hh : h < 32) (hp : p ≤ h) : inB p h = true → lessI (h : Int) (p : Int) = ((h - p : Nat) : Int) ∧ inB (h - p) h = true := by
 have key : ∀ (a b : _root_.Fin 32), b.val ≤ a.val → inB b.val a.val = true → lessI (a.val : Int) (b.val : Int) = ((a.val - b.val : Nat) : Int) ∧ inB (a.val - b.val) a.val = true := by decide +kernel
 exact key ⟨h, hh⟩ ⟨p, by omega⟩ hp
theorem self_in {h : Nat} (hh : h < 32) : inB h h = true ∧ inB 0 h = true := by
 have key : ∀ a : _root_.Fin 32, inB a.val a.val = true ∧ inB 0 a.val = true := by decide +kernel
 exact key ⟨h, hh⟩
noncomputable def valsN (one other : List Int) (ps : List Nat) (h : Nat) : List Int := ps.map fun p => one.getD p 0 + other.getD (h - p) 0
noncomputable def joinAt (one other : List Int) (h : Nat) : Int := maxL (valsN one other (partsN h) h)
theorem mem_parts {p h : Nat} : p ∈ partsN h ↔ p ≤ h ∧ inB p h = true := by
 unfold partsN
 rw [List.mem_filter, List.mem_range]
 constructor
 ·rintro ⟨a, b⟩; exact ⟨by omega, b⟩
 ·rintro ⟨a, b⟩; exact ⟨by omega, b⟩
structure Two (one other : List Int) : Prop where
 same : one.length = other.length
 few : one.length ≤ 32
noncomputable def sp_parted : Sp := fun vs H Q _ => ∃ (a b : Addr) (one other : List Int) (h : Nat), vs = [.ref a, .ref b, .int (h : Int)] ∧ H a = some (.tup (one.map V.int)) ∧ H b = some (.tup (other.map V.int)) ∧ Two one other ∧ h < one.length ∧ ∀ H', Same H H' → Q (.int (joinAt one other h)) H'
noncomputable def LP (a b c : Addr) (one other : List Int) (h : Nat) (G : Hp) (i : Nat) (σ : St) (H : Hp) : Prop := ∃ v, σ = [v, some (.ref a), some (.ref b), some (.int (h : Int))] ∧ SameX c G H ∧ H c = some (.lst ((valsN one other ((List.range i).filter fun p => inB p h) h).map V.int))
theorem sc_most_parted : FnScope ["one", "other", "heap"] ["one", "other", "heap"] (defScope s_most_parted) := ⟨rfl, rfl, rfl, by decide +kernel, rfl, by decide +kernel, by decide +kernel⟩
theorem ok_parted (F : Fun K "most_parted" "most_parted" s_most_parted f fd) (hm : mg "most_parted" = some (.ref f)) (hb : Binds K fd ["one", "other", "heap"] []) (T : Txt mg) (c_less : Cal P w K mg base "less" ["one", "other"] 1 sp_less) (c_is_within : Cal P w K mg base "is_within" ["one", "other"] 2 sp_isw) : Cal P w K mg base "most_parted" ["one", "other", "heap"] 3 sp_parted := by
 refine cal_of F hm hb sc_most_parted (fun vs H Q E h => ?_) (fun cdv A outer s H vs Q E hr h => ?_)
 ·obtain ⟨_, _, _, _, _, rfl, _⟩ := h; rfl
 ·obtain ⟨a, b, one, other, h, rfl, ha, hb', tw, hh, q⟩ := h
  have sc := sc_most_parted
  have tw1 := tw.same
  have tw2 := tw.few
  refine ⟨_, pss_one (ps_ret (pe_callB (max0 rfl) rfl T.max_ bt_max (pa_cns (pe_lc (N := ["part", "one", "other", "heap"]) (fr := [none, some 0, some 1, some 2]) rfl (pi_range1 rfl T.range_ (pa_cns (pe_op op_add (pv 2) pe_int) pa_nil)) (CScope.of rfl rfl rfl) rfl (fun _ _ _ => ⟨pg_name (i := 0) (show List.Nodup (α := Str) ["part", "one", "other", "heap"] by decide +kernel) rfl (Or.inl rfl), pif_one (pt_val (pe_cal c_is_within hr (pa_cns (pv 0) (pa_cns (pv 3) pa_nil)))), pe_op op_add (pe_ix ix0 (pv 1) (pv 0) (fun _ _ => rfl)) (pe_ix ix0 (pv 2) (pe_cal c_less hr (pa_cns (pv 3) (pa_cns (pv 0) pa_nil))) (fun _ _ => rfl))⟩)) pa_nil))), ?_⟩
  rw [show L2.start ["one", "other", "heap"] [.ref a, .ref b, .int (h : Int)] = [some (.ref a), some (.ref b), some (.int (h : Int))] from rfl]
  (push_cast only [])
  refine ⟨by omega, by omega, fun c nc => ?_⟩
  have nac : a ≠ c := ne_of_none ha nc
  have nbc : b ≠ c := ne_of_none hb' nc
  refine cl_range (LP a b c one other h H) ⟨none, rfl, SameX.upd, upd_same⟩ ?_ ?_
  ·rintro i σ H1 hi ⟨v, rfl, s1, e1⟩
   have hi' : i ≤ h := by omega
   have hsa := sq_tup (s1 _ _ nac ha)
   have hsb := sq_tup (s1 _ _ nbc hb')
   (push_cast only [])
   refine ⟨(i : Int), (h : Int), rfl, ?_⟩
   have el : ((List.range (i + 1)).filter fun p => inB p h) = ((List.range i).filter fun p => inB p h) ++ if inB i h = true then [i] else [] := by
    rw [List.range_succ, List.filter_append]
    congr 1
    cases e : inB i h <;> simp [List.filter, e]
   cases hw : inB i h with
   | true =>
    have hd : decide (lessI (i : Int) (h : Int) = 0) = true := hw
    rw [hd]
    obtain ⟨f1, _⟩ := part_facts (h := h) (p := i) (by omega) hi' hw
    have hat1 := at_int (ns := one) (n := i) (by omega)
    have hat2 := at_int (ns := other) (n := h - i) (by omega)
    (push_cast only [hsa, hsb, hat1])
    refine ⟨(h : Int), (i : Int), rfl, ?_⟩
    rw [f1]
    (push_cast only [hsb, hat2, e1])
    have ll : (valsN one other ((List.range i).filter fun p => inB p h) h).length ≤ i := by
     unfold valsN
     rw [List.length_map]
     exact Nat.le_trans (List.length_filter_le _ _) (by simp)
    refine ⟨small1000 (by omega), ⟨_, rfl, s1.trans SameX.upd, ?_⟩⟩
    rw [upd_same, el, if_pos hw]
    unfold valsN
    simp
   | false =>
    have hd : decide (lessI (i : Int) (h : Int) = 0) = false := hw
    rw [hd]
    (push_cast only [])
    refine ⟨_, rfl, s1, ?_⟩
    rw [e1, el, if_neg (by rw [hw]; decide), List.append_nil]
  ·rintro σ H1 ⟨v, rfl, s1, e1⟩
   have en : ((h : Int) + 1).toNat = h + 1 := by omega
   rw [en] at e1
   have ne : valsN one other (partsN h) h ≠ [] := by
    intro z
    have : one.getD h 0 + other.getD (h - h) 0 ∈ valsN one other (partsN h) h := by
     unfold valsN
     exact List.mem_map.mpr ⟨h, mem_parts.mpr ⟨Nat.le_refl _, (self_in (by omega)).1⟩, rfl⟩
    rw [z] at this
    cases this
   refine ⟨_, sq_lst e1, ne, fun mx m1 m2 => ?_⟩
   have := q H1 (s1.same nc)
   have em : joinAt one other h = mx := maxL_eq m1 m2
   rw [em] at this
   exact this
noncomputable def joinT (one other : List Int) : List Int := (List.range one.length).map fun h => joinAt one other h
noncomputable def sp_joined : Sp := fun vs H Q _ => ∃ (a b : Addr) (one other : List Int), vs = [.ref a, .ref b] ∧ H a = some (.tup (one.map V.int)) ∧ H b = some (.tup (other.map V.int)) ∧ Two one other ∧ ∀ (l : Addr) (H' : Hp), Same H H' → H' l = some (.tup ((joinT one other).map V.int)) → Q (.ref l) H'
noncomputable def LJ (a b c : Addr) (one other : List Int) (G : Hp) (i : Nat) (σ : St) (H : Hp) : Prop := ∃ v, σ = [v, some (.ref a), some (.ref b)] ∧ SameX c G H ∧ H c = some (.lst (((List.range i).map fun h => joinAt one other h).map V.int))
theorem sc_joined : FnScope ["one", "other"] ["one", "other"] (defScope s_joined) := ⟨rfl, rfl, rfl, by decide +kernel, rfl, by decide +kernel, by decide +kernel⟩
theorem ok_joined (F : Fun K "joined" "joined" s_joined f fd) (hm : mg "joined" = some (.ref f)) (hb : Binds K fd ["one", "other"] []) (T : Txt mg) (c_most_parted : Cal P w K mg base "most_parted" ["one", "other", "heap"] 3 sp_parted) : Cal P w K mg base "joined" ["one", "other"] 4 sp_joined := by
 refine cal_of F hm hb sc_joined (fun vs H Q E h => ?_) (fun cdv A outer s H vs Q E hr h => ?_)
 ·obtain ⟨_, _, _, _, rfl, _⟩ := h; rfl
 ·obtain ⟨a, b, one, other, rfl, ha, hb', tw, q⟩ := h
  have sc := sc_joined
  have tw2 := tw.few
  refine ⟨_, pss_one (ps_ret (pe_callTy tupA0 rfl T.tuple_ bt_tuple (pa_cns (pe_lc (N := ["heap", "one", "other"]) (fr := [none, some 0, some 1]) rfl (pi_range1 rfl T.range_ (pa_cns (pe_callB len0 rfl T.len_ bt_len (pa_cns (pv 0) pa_nil)) pa_nil)) (CScope.of rfl rfl rfl) rfl (fun _ _ _ => ⟨pg_name (i := 0) (show List.Nodup (α := Str) ["heap", "one", "other"] by decide +kernel) rfl (Or.inl rfl), pif_nil, pe_cal c_most_parted hr (pa_cns (pv 1) (pa_cns (pv 2) (pa_cns (pv 0) pa_nil)))⟩)) pa_nil))), ?_⟩
  rw [show L2.start ["one", "other"] [.ref a, .ref b] = [some (.ref a), some (.ref b)] from rfl]
  have hsa := sq_tup ha
  (push_cast only [hsa])
  refine ⟨by omega, by omega, fun c nc => ?_⟩
  have nac : a ≠ c := ne_of_none ha nc
  have nbc : b ≠ c := ne_of_none hb' nc
  refine cl_range (LJ a b c one other H) ⟨none, rfl, SameX.upd, upd_same⟩ ?_ ?_
  ·rintro i σ H1 hi ⟨v, rfl, s1, e1⟩
   rw [Int.toNat_natCast] at hi
   (push_cast only [])
   refine ⟨a, b, one, other, i, rfl, s1 _ _ nac ha, s1 _ _ nbc hb', tw, hi, fun H2 s2 => ?_⟩
   have e2 := s2 _ _ e1
   (push_cast only [e2])
   refine ⟨small1000 (by simp; omega), ⟨_, rfl, (s1.trans s2.x).trans SameX.upd, ?_⟩⟩
   rw [upd_same, List.range_succ]
   simp
  ·rintro σ H1 ⟨v, rfl, s1, e1⟩
   rw [Int.toNat_natCast] at e1
   refine ⟨_, e1, fun l H2 nl s2 e2 => ?_⟩
   exact q l H2 ((s1.same nc).trans s2) e2
noncomputable def dpL (m : Nat) (wss : List (List Int)) : List Int := wss.foldl joinT (List.replicate (2 ^ m) 0)
theorem joinT_len (one other : List Int) : (joinT one other).length = one.length := by unfold joinT; simp
theorem dp_len (m : Nat) : ∀ (wss : List (List Int)) (s : List Int), s.length = 2 ^ m → (wss.foldl joinT s).length = 2 ^ m
 | [], _, h => h
 | _ :: wss, s, h => dp_len m wss _ (by rw [joinT_len]; exact h)
noncomputable def sp_gsums : Sp := fun vs H Q _ => ∃ (wt : Addr) (m : Nat) (ts : List (Addr × List Int)), vs = [.ref wt, .int (m : Int)] ∧ H wt = some (.tup (ts.map fun t => V.ref t.1)) ∧ m ≤ 5 ∧ ts.length ≤ 5 ∧ (∀ t ∈ ts, H t.1 = some (.tup (t.2.map V.int)) ∧ t.2.length = 2 ^ m) ∧
 ∀ (l : Addr) (H' : Hp), Same H H' → H' l = some (.tup ((dpL m (ts.map fun t => t.2)).map V.int)) → Q (.ref l) H'
noncomputable def GS (wt : Addr) (m : Nat) (ts : List (Addr × List Int)) (G : Hp) (i : Nat) (σ : St) (H : Hp) : Prop := ∃ (v : Option V) (l : Addr), σ = [some (.ref wt), some (.int (m : Int)), some (.ref l), v] ∧ Same G H ∧ H l = some (.tup ((dpL m ((ts.take i).map fun t => t.2)).map V.int))
theorem rep_flat (x : Int) : ∀ n : Nat, (List.replicate n [V.int x]).flatten = (List.replicate n x).map V.int
 | 0 => rfl
 | n + 1 => by rw [List.replicate_succ, List.flatten_cons, rep_flat x n, List.replicate_succ, List.map_cons]; rfl
theorem sc_greatest_sums : FnScope ["wants", "many", "sums", "want"] ["wants", "many"] (defScope s_greatest_sums) := ⟨rfl, rfl, rfl, by decide +kernel, rfl, by decide +kernel, by decide +kernel⟩
theorem ok_gsums (F : Fun K "greatest_sums" "greatest_sums" s_greatest_sums f fd) (hm : mg "greatest_sums" = some (.ref f)) (hb : Binds K fd ["wants", "many"] []) (T : Txt mg) (c_joined : Cal P w K mg base "joined" ["one", "other"] 4 sp_joined) : Cal P w K mg base "greatest_sums" ["wants", "many"] 5 sp_gsums := by
 refine cal_of F hm hb sc_greatest_sums (fun vs H Q E h => ?_) (fun cdv A outer s H vs Q E hr h => ?_)
 ·obtain ⟨_, _, _, rfl, _⟩ := h; rfl
 ·obtain ⟨wt, m, ts, rfl, hwt, m5, t5, hrow, q⟩ := h
  have sc := sc_greatest_sums
  refine ⟨_, pss_cons (ps_set (i := 2) sc.nd rfl (Or.inl rfl) (pe_op mulT0 (pe_tupA (pa_cns pe_int pa_nil)) (pe_op op_shl pe_int (pv 1))))
   (pss_cons (ps_for PassesOwn.never rfl (pi_t0 (pv 0)) (pg_name (i := 3) sc.nd rfl (Or.inl rfl))
    (pss_one (ps_set (i := 2) sc.nd rfl (Or.inl rfl) (pe_cal c_joined hr (pa_cns (pv 2) (pa_cns (pv 3) pa_nil))))))
   (pss_one (ps_ret (pv 2)))), ?_⟩
  rw [show L2.start ["wants", "many", "sums", "want"] [.ref wt, .int (m : Int)] = [some (.ref wt), some (.int (m : Int)), none, none] from rfl]
  have p32 := pow32 m5
  (push_cast only [])
  rw [hpow]
  refine ⟨by decide, fun z H1 n1 s1 e1 => ⟨⟨by omega, by omega, by decide⟩, 2 ^ m, rfl, _, e1, by simp; omega, by omega, fun l H2 s2 e2 => ?_⟩⟩
  rw [rep_flat] at e2
  have S2 := s1.trans s2
  have ew := S2 _ _ hwt
  (push_cast only [ew])
  refine fl_seq (GS wt m ts H) ⟨_, l, rfl, S2, e2⟩ (fun j σ H' _ ⟨_, _, _, s, _⟩ => s _ _ hwt) ?_ ?_
  ·rintro i x σ H3 hx ⟨v, l3, rfl, s3, e3⟩
   rw [List.getElem?_map] at hx
   obtain ⟨t, ht, rfl⟩ := Option.map_eq_some_iff.mp hx
   obtain ⟨et, lt⟩ := hrow t (List.mem_of_getElem? ht)
   have dl : (dpL m ((ts.take i).map fun t => t.2)).length = 2 ^ m := dp_len m _ _ List.length_replicate
   (push_cast only [])
   refine ⟨l3, t.1, _, t.2, rfl, e3, s3 _ _ et, ⟨by rw [dl, lt], by omega⟩, fun l4 H4 s4 e4 => ?_⟩
   (push_cast only [])
   refine ⟨_, l4, rfl, s3.trans s4, ?_⟩
   rw [e4, List.take_add_one, ht]
   unfold dpL
   simp [List.foldl_append]
  ·rintro σ H3 ⟨v, l3, rfl, s3, e3⟩
   rw [List.length_map, List.take_length] at e3
   (push_cast only [])
   exact q l3 H3 s3 e3
structure TownW (H : Hp) (t sd wt : Addr) (m : Nat) (ss : List Int) (ts : List (Addr × List Int)) : Prop where
 at' : H t = some (.tup [.ref sd, .ref wt])
 sd : H sd = some (.tup (ss.map V.int))
 wt : H wt = some (.tup (ts.map fun t => V.ref t.1))
 m5 : m ≤ 5
 slen : ss.length = m
 t5 : ts.length ≤ 5
 row : ∀ t ∈ ts, H t.1 = some (.tup (t.2.map V.int)) ∧ t.2.length = 2 ^ m
theorem Town.weak {B : Int} {H : Hp} {t sd wt : Addr} {m : Nat} {ss : List Int} {ts : List (Addr × List Int)} (W : Town B H t sd wt m ss ts) : TownW H t sd wt m ss ts := ⟨W.at', W.sd, W.wt, W.m5, W.slen, W.t5, fun t ht => ⟨(W.row t ht).1, (W.row t ht).2.1⟩⟩
noncomputable def sp_greatest : Sp := fun vs H Q _ => ∃ (t sd wt : Addr) (m : Nat) (ss : List Int) (ts : List (Addr × List Int)), vs = [.ref t] ∧ TownW H t sd wt m ss ts ∧ ∀ H', Same H H' → Q (.int ((dpL m (ts.map fun t => t.2)).getD (2 ^ m - 1) 0)) H'
theorem atI_last {xs : List Int} (h : 0 < xs.length) : atI (xs.map V.int) (-1) = some (V.int (xs.getD (xs.length - 1) 0)) := by
 have hne : xs ≠ [] := by rintro rfl; simp at h
 obtain ⟨ys, y, rfl⟩ : ∃ ys y, xs = ys ++ [y] := ⟨xs.dropLast, xs.getLast hne, (List.dropLast_concat_getLast hne).symm⟩
 unfold atI ixN
 rw [if_neg (by decide), if_pos (by simp; omega)]
 have e : (-1 + ((List.map V.int (ys ++ [y])).length : Int)).toNat = ys.length := by simp; omega
 rw [e]
 simp
theorem sc_greatest : FnScope ["town"] ["town"] (defScope s_greatest) := ⟨rfl, rfl, rfl, by decide +kernel, rfl, by decide +kernel, by decide +kernel⟩
theorem ok_greatest (F : Fun K "greatest" "greatest" s_greatest f fd) (hm : mg "greatest" = some (.ref f)) (hb : Binds K fd ["town"] []) (T : Txt mg) (c_greatest_sums : Cal P w K mg base "greatest_sums" ["wants", "many"] 5 sp_gsums) : Cal P w K mg base "greatest" ["town"] 6 sp_greatest := by
 refine cal_of F hm hb sc_greatest (fun vs H Q E h => ?_) (fun cdv A outer s H vs Q E hr h => ?_)
 ·obtain ⟨_, _, _, _, _, _, rfl, _⟩ := h; rfl
 ·obtain ⟨t, sd, wt, m, ss, ts, rfl, W, q⟩ := h
  have sc := sc_greatest
  refine ⟨_, pss_one (ps_ret (pe_ix ix0 (pe_cal c_greatest_sums hr (pa_cns (pe_ix ix0 (pv 0) pe_int (fun _ _ => rfl)) (pa_cns (pe_callB len0 rfl T.len_ bt_len (pa_cns (pe_ix ix0 (pv 0) pe_int (fun _ _ => rfl)) pa_nil)) pa_nil))) (pe_un un_neg pe_int) (fun _ _ => rfl))), ?_⟩
  rw [show L2.start ["town"] [.ref t] = [some (.ref t)] from rfl]
  have hst := sq_tup W.at'
  have hss := sq_tup W.sd
  have i1 : ∀ x y : V, atI [x, y] 1 = some y := fun _ _ => rfl
  have i0 : ∀ x y : V, atI [x, y] 0 = some x := fun _ _ => rfl
  (push_cast only [hst, i1, i0, hss])
  rw [W.slen]
  have dl : (dpL m (ts.map fun t => t.2)).length = 2 ^ m := dp_len m _ _ List.length_replicate
  have p32 := pow32 W.m5
  refine ⟨wt, m, ts, rfl, W.wt, W.m5, W.t5, W.row, fun l H1 s1 e1 => ?_⟩
  have hs1 := sq_tup e1
  have hat := atI_last (xs := dpL m (ts.map fun t => t.2)) (by omega)
  (push_cast only [hs1, hat])
  rw [dl]
  exact q H1 s1
end
end K73
end
section
set_option Elab.async false
set_option linter.all false
set_option maxRecDepth 100000
set_option maxHeartbeats 4000000
namespace K73
open PySem L2
section
variable {P : Program} {w : World} {K : PySem.W.Frag} {mg : Str → Option Value} {base : Heap} {f : Addr} {fd : FuncData}
theorem inB_and {p h : Nat} (hp : p < 32) (hh : h < 32) : inB p h = decide (p &&& h = p) := by
 have key : ∀ a b : _root_.Fin 32, inB a.val b.val = decide (a.val &&& b.val = a.val) := by decide +kernel
 exact key ⟨p, hp⟩ ⟨h, hh⟩
theorem sub_bits {p h t : Nat} (hp : p < 32) (hh : h < 32) (ht : t < 5) (e : p &&& h = p) : Nat.testBit (h - p) t = (Nat.testBit h t && !Nat.testBit p t) := by
 have key : ∀ (a b : _root_.Fin 32) (t : _root_.Fin 5), a.val &&& b.val = a.val → Nat.testBit (b.val - a.val) t.val = (Nat.testBit b.val t.val && !Nat.testBit a.val t.val) := by decide +kernel
 exact key ⟨p, hp⟩ ⟨h, hh⟩ ⟨t, ht⟩ e
noncomputable def low (ds : List Int) (k : Int) : Nat → Nat
 | 0 => 0
 | t + 1 => low ds k t + if ds.getD t 0 < k then 2 ^ t else 0
theorem low_lt (ds : List Int) (k : Int) : ∀ t, low ds k t < 2 ^ t
 | 0 => by simp [low]
 | t + 1 => by
  have := low_lt ds k t
  show low ds k t + _ < _
  rw [Nat.pow_succ]
  split <;> omega
theorem low_step (ds : List Int) (k : Int) : ∀ t, low ds (k + 1) t = low ds k t + hos ds k t
 | 0 => rfl
 | t + 1 => by
  have ih := low_step ds k t
  show low ds (k + 1) t + (if ds.getD t 0 < k + 1 then 2 ^ t else 0) = low ds k t + (if ds.getD t 0 < k then 2 ^ t else 0) + (hos ds k t + if ds.getD t 0 = k then 2 ^ t else 0)
  rw [ih]
  by_cases h1 : ds.getD t 0 < k
  ·rw [if_pos h1, if_pos (by omega), if_neg (by omega)]; omega
  ·by_cases h2 : ds.getD t 0 = k
   ·rw [if_neg h1, if_pos h2, if_pos (by omega)]; omega
   ·rw [if_neg h1, if_neg h2, if_neg (by omega)]; omega
theorem low_all (ds : List Int) (n : Int) : ∀ t, t ≤ ds.length → (∀ x ∈ ds, x < n) → low ds n t = 2 ^ t - 1
 | 0, _, _ => rfl
 | t + 1, h, hb => by
  have ih := low_all ds n t (by omega) hb
  have hg : ds.getD t 0 < n := by
   rw [List.getD_eq_getElem?_getD, List.getElem?_eq_getElem (by omega)]
   exact hb _ (List.getElem_mem _)
  show low ds n t + (if ds.getD t 0 < n then 2 ^ t else 0) = _
  rw [if_pos hg, ih, Nat.pow_succ]
  have := Nat.two_pow_pos t
  omega
theorem low_sub (ds : List Int) (k : Int) : ∀ t, low ds k t &&& low ds (k + 1) t = low ds k t
 | 0 => by simp [low]
 | t + 1 => by
  have ih := low_sub ds k t
  have l1 := low_lt ds k t
  have l2 := low_lt ds (k + 1) t
  show (low ds k t + if ds.getD t 0 < k then 2 ^ t else 0) &&& (low ds (k + 1) t + if ds.getD t 0 < k + 1 then 2 ^ t else 0) = low ds k t + if ds.getD t 0 < k then 2 ^ t else 0
  apply Nat.eq_of_testBit_eq
  intro i
  rw [Nat.testBit_and]
  have ii : (Nat.testBit (low ds k t) i && Nat.testBit (low ds (k + 1) t) i) = Nat.testBit (low ds k t) i := by rw [← Nat.testBit_and, ih]
  have tb : ∀ (x : Nat), x < 2 ^ t → Nat.testBit (x + 2 ^ t) i = (Nat.testBit x i || decide (i = t)) := by
   intro x hx
   rw [Nat.add_comm]
   rcases Nat.lt_trichotomy i t with h | h | h
   ·rw [Nat.testBit_two_pow_add_gt h]
    simp [show ¬ i = t by omega]
   ·subst h
    rw [Nat.testBit_two_pow_add_eq, Nat.testBit_lt_two_pow hx]
    simp
   ·rw [Nat.testBit_lt_two_pow (show 2 ^ t + x < 2 ^ i by have := Nat.pow_le_pow_right (show 0 < 2 by decide) (show t + 1 ≤ i by omega); rw [Nat.pow_succ] at this; omega), Nat.testBit_lt_two_pow (show x < 2 ^ i by have := Nat.pow_le_pow_right (show 0 < 2 by decide) (show t ≤ i by omega); omega)]
    simp [show ¬ i = t by omega]
  by_cases h1 : ds.getD t 0 < k
  ·rw [if_pos h1, if_pos (show ds.getD t 0 < k + 1 by omega), tb _ l1, tb _ l2]
   rcases h : decide (i = t) with _ | _ <;> simp [ii]
  ·rw [if_neg h1, Nat.add_zero]
   by_cases h2 : ds.getD t 0 < k + 1
   ·rw [if_pos h2, tb _ l2]
    rcases h : decide (i = t) with _ | _
    ·simp [ii]
    ·have : i = t := by simpa using h
     subst this
     rw [Nat.testBit_lt_two_pow l1]
     simp
   ·rw [if_neg h2, Nat.add_zero, ii]
noncomputable def wsum (wss : List (List Int)) (ds : List Int) (k : Nat) : Int := ((List.range k).map fun h : Nat => (wss.getD h []).getD (hos ds (h : Int) ds.length) 0).sum
theorem wsum_succ (wss : List (List Int)) (ds : List Int) (k : Nat) : wsum wss ds (k + 1) = wsum wss ds k + (wss.getD k []).getD (hos ds (k : Int) ds.length) 0 := by
 unfold wsum
 rw [List.range_succ, List.map_append, List.sum_append]
 simp
theorem join_ge {one other : List Int} {h p : Nat} (hh : h < one.length) (h32 : one.length ≤ 32) (hp : p ≤ h) (e : p &&& h = p) : one.getD p 0 + other.getD (h - p) 0 ≤ (joinT one other).getD h 0 := by
 have : (joinT one other).getD h 0 = joinAt one other h := by unfold joinT; simp [List.getD_eq_getElem?_getD, hh]
 rw [this]
 refine maxL_ge ?_
 unfold valsN
 refine List.mem_map.mpr ⟨p, mem_parts.mpr ⟨hp, ?_⟩, rfl⟩
 rw [inB_and (by omega) (by omega)]
 simpa using e
theorem join_at {one other : List Int} {h : Nat} (hh : h < one.length) (h32 : one.length ≤ 32) : ∃ p, p ≤ h ∧ p &&& h = p ∧ (joinT one other).getD h 0 = one.getD p 0 + other.getD (h - p) 0 := by
 have e : (joinT one other).getD h 0 = joinAt one other h := by unfold joinT; simp [List.getD_eq_getElem?_getD, hh]
 have ne : valsN one other (partsN h) h ≠ [] := by
  intro z
  have : one.getD h 0 + other.getD (h - h) 0 ∈ valsN one other (partsN h) h := by
   unfold valsN
   exact List.mem_map.mpr ⟨h, mem_parts.mpr ⟨Nat.le_refl _, (self_in (by omega)).1⟩, rfl⟩
  rw [z] at this
  cases this
 have m := maxL_mem ne
 unfold valsN at m
 obtain ⟨p, hp, ep⟩ := List.mem_map.mp m
 obtain ⟨p1, p2⟩ := mem_parts.mp hp
 rw [inB_and (by omega) (by omega)] at p2
 refine ⟨p, p1, by simpa using p2, ?_⟩
 rw [e]
 exact ep.symm
theorem dp_take (m : Nat) (wss : List (List Int)) {k : Nat} (hk : k < wss.length) : dpL m (wss.take (k + 1)) = joinT (dpL m (wss.take k)) (wss.getD k []) := by
 unfold dpL
 rw [List.take_add_one, List.getElem?_eq_getElem hk, List.foldl_append]
 simp [List.getD_eq_getElem?_getD, hk]
theorem dp_length (m : Nat) (wss : List (List Int)) : (dpL m wss).length = 2 ^ m := dp_len m _ _ List.length_replicate
theorem dp_ge {m : Nat} (m5 : m ≤ 5) (wss : List (List Int)) (ds : List Int) (hl : ds.length = m) : ∀ k, k ≤ wss.length → wsum wss ds k ≤ (dpL m (wss.take k)).getD (low ds (k : Int) m) 0
 | 0, _ => by
  have lt := low_lt ds 0 m
  unfold wsum dpL
  simp [List.getD_eq_getElem?_getD]
  rw [List.getElem?_replicate]
  split <;> simp
 | k + 1, hk => by
  have ih := dp_ge m5 wss ds hl k (by omega)
  have p32 := pow32 m5
  have l1 := low_lt ds (k : Int) m
  have l2 := low_lt ds ((k : Int) + 1) m
  have st := low_step ds (k : Int) m
  rw [wsum_succ, dp_take m wss (by omega), Int.natCast_succ]
  have g := join_ge (one := dpL m (wss.take k)) (other := wss.getD k []) (h := low ds ((k : Int) + 1) m) (p := low ds (k : Int) m) (by rw [dp_length]; exact l2) (by rw [dp_length]; omega) (by omega) (low_sub ds (k : Int) m)
  rw [show low ds ((k : Int) + 1) m - low ds (k : Int) m = hos ds (k : Int) m by omega] at g
  rw [hl]
  omega
theorem bits_mod {x m : Nat} (hx : x < 2 ^ m) (hm : m ≤ 5) : ((List.range m).map fun t => if Nat.testBit x t then 2 ^ t else 0).sum = x := by
 have key : ∀ (a : _root_.Fin 32) (b : _root_.Fin 6), a.val < 2 ^ b.val → ((List.range b.val).map fun t => if Nat.testBit a.val t then 2 ^ t else 0).sum = a.val := by decide +kernel
 have := pow32 hm
 exact key ⟨x, by omega⟩ ⟨m, by omega⟩ hx
theorem hos_bits (ds : List Int) (s : Int) (x : Nat) : ∀ m, (∀ t, t < m → (ds.getD t 0 = s ↔ Nat.testBit x t = true)) → hos ds s m = ((List.range m).map fun t => if Nat.testBit x t then 2 ^ t else 0).sum
 | 0, _ => rfl
 | m + 1, h => by
  have ih := hos_bits ds s x m fun t ht => h t (by omega)
  show hos ds s m + (if ds.getD m 0 = s then 2 ^ m else 0) = _
  rw [List.range_succ, List.map_append, List.sum_append, ih]
  by_cases e : ds.getD m 0 = s
  ·rw [if_pos e]; simp [(h m (by omega)).mp e]
  ·rw [if_neg e]
   have : Nat.testBit x m = false := by
    rcases hb : Nat.testBit x m with _ | _
    ·rfl
    ·exact absurd ((h m (by omega)).mpr hb) e
   simp [this]
theorem hos_congr (ds ds' : List Int) (s : Int) : ∀ m, (∀ t, t < m → (ds.getD t 0 = s ↔ ds'.getD t 0 = s)) → hos ds s m = hos ds' s m
 | 0, _ => rfl
 | m + 1, h => by
  have ih := hos_congr ds ds' s m fun t ht => h t (by omega)
  show hos ds s m + (if ds.getD m 0 = s then 2 ^ m else 0) = hos ds' s m + (if ds'.getD m 0 = s then 2 ^ m else 0)
  rw [ih]
  by_cases e : ds.getD m 0 = s
  ·rw [if_pos e, if_pos ((h m (by omega)).mp e)]
  ·rw [if_neg e, if_neg fun z => e ((h m (by omega)).mpr z)]
theorem dp_at {m : Nat} (m5 : m ≤ 5) (wss : List (List Int)) : ∀ k, k ≤ wss.length → ∀ h, h < 2 ^ m → ∃ ds : List Int, ds.length = m ∧ (∀ x ∈ ds, -1 ≤ x ∧ x < (k : Int)) ∧ (∀ t, t < m → Nat.testBit h t = false → ds.getD t 0 = -1) ∧ wsum wss ds k = (dpL m (wss.take k)).getD h 0
 | 0, _, h, hh => by
  refine ⟨List.replicate m (-1), List.length_replicate, fun x hx => by have := List.eq_of_mem_replicate hx; omega, fun t ht _ => by simp [List.getD_eq_getElem?_getD, ht], ?_⟩
  unfold wsum dpL
  simp [List.getD_eq_getElem?_getD, hh]
 | k + 1, hk, h, hh => by
  have p32 := pow32 m5
  have dl := dp_length m (wss.take k)
  obtain ⟨p, p1, p2, p3⟩ := join_at (one := dpL m (wss.take k)) (other := wss.getD k []) (h := h) (by omega) (by omega)
  obtain ⟨ds, d1, d2, d3, d4⟩ := dp_at m5 wss k (by omega) p (by omega)
  have sb : ∀ t, t < m → Nat.testBit (h - p) t = (Nat.testBit h t && !Nat.testBit p t) := fun t ht => sub_bits (by omega) (by omega) (by omega) p2
  let es : List Int := (List.range m).map fun t => if Nat.testBit (h - p) t then (k : Int) else ds.getD t 0
  have el : es.length = m := by simp [es]
  have eg : ∀ t, t < m → es.getD t 0 = if Nat.testBit (h - p) t then (k : Int) else ds.getD t 0 := fun t ht => by
   simp only [es, List.getD_eq_getElem?_getD, List.getElem?_map, List.getElem?_range ht]
   rfl
  have dg : ∀ t, t < m → -1 ≤ ds.getD t 0 ∧ ds.getD t 0 < (k : Int) := fun t ht => by
   rw [List.getD_eq_getElem?_getD, List.getElem?_eq_getElem (by omega)]
   exact d2 _ (List.getElem_mem _)
  refine ⟨es, el, fun x hx => ?_, fun t ht hb => ?_, ?_⟩
  ·obtain ⟨t, ht, rfl⟩ := List.mem_map.mp hx
   have := dg t (List.mem_range.mp ht)
   split <;> omega
  ·rw [eg t ht]
   have hp : Nat.testBit p t = false := by
    have z : Nat.testBit (p &&& h) t = Nat.testBit p t := by rw [p2]
    rw [Nat.testBit_and, hb, Bool.and_false] at z
    exact z.symm
   rw [sb t ht, hb, Bool.false_and]
   simp only [Bool.false_eq_true, if_false]
   exact d3 t ht hp
  ·rw [wsum_succ, dp_take m wss (by omega), p3, ← d4]
   have hlast : hos es (k : Int) es.length = h - p := by
    rw [el, hos_bits es (k : Int) (h - p) m fun t ht => ?_, bits_mod (by omega) m5]
    rw [eg t ht]
    constructor
    ·intro z
     rcases hb : Nat.testBit (h - p) t with _ | _
     ·rw [hb] at z
      have := dg t ht
      simp only [Bool.false_eq_true, if_false] at z
      omega
     ·rfl
    ·intro z
     rw [z]
     rfl
   rw [hlast]
   congr 1
   unfold wsum
   congr 1
   refine List.map_congr_left fun hd hhd => ?_
   have hk' := List.mem_range.mp hhd
   congr 1
   rw [el, d1]
   refine hos_congr es ds (hd : Int) m fun t ht => ?_
   rw [eg t ht]
   rcases hb : Nat.testBit (h - p) t with _ | _
   ·simp
   ·have hp : Nat.testBit p t = false := by
     have := sb t ht
     rw [hb] at this
     rcases hq : Nat.testBit p t with _ | _
     ·rfl
     ·rw [hq] at this; simp at this
    rw [d3 t ht hp]
    simp
    omega
end
end K73
end
section
set_option Elab.async false
set_option linter.all false
set_option maxRecDepth 100000
set_option maxHeartbeats 4000000
namespace K73
open PySem L2
section
variable {P : Program} {w : World} {K : PySem.W.Frag} {mg : Str → Option Value} {base : Heap} {f : Addr} {fd : FuncData}
noncomputable def dealsL (n : Nat) : Nat → List (List Int)
 | 0 => [[]]
 | k + 1 => (dealsL n k).flatMap fun d => (List.range (n + 1)).map fun j : Nat => d ++ [(j : Int) - 1]
theorem deals_len (n : Nat) : ∀ k, (dealsL n k).length = (n + 1) ^ k
 | 0 => rfl
 | k + 1 => by
  show ((dealsL n k).flatMap _).length = _
  rw [List.length_flatMap]
  simp only [List.length_map, List.length_range]
  rw [List.map_const', List.sum_replicate_nat, deals_len n k, Nat.pow_succ]
theorem deals_mem {n : Nat} : ∀ {k : Nat} {d : List Int}, d ∈ dealsL n k ↔ d.length = k ∧ ∀ x ∈ d, -1 ≤ x ∧ x < (n : Int)
 | 0, d => by
  show d ∈ [[]] ↔ _
  constructor
  ·intro h
   have : d = [] := by simpa using h
   subst this
   exact ⟨rfl, fun x hx => by simp at hx⟩
  ·rintro ⟨h, _⟩
   have := List.eq_nil_of_length_eq_zero h
   simp [this]
 | k + 1, d => by
  show d ∈ (dealsL n k).flatMap _ ↔ _
  rw [List.mem_flatMap]
  constructor
  ·rintro ⟨e, he, hd⟩
   obtain ⟨j, hj, rfl⟩ := List.mem_map.mp hd
   obtain ⟨l, b⟩ := deals_mem.mp he
   have hj' := List.mem_range.mp hj
   refine ⟨by simp [l], fun x hx => ?_⟩
   rcases List.mem_append.mp hx with z | z
   ·exact b x z
   ·have : x = (j : Int) - 1 := by simpa using z
    omega
  ·rintro ⟨l, b⟩
   have hne : d ≠ [] := by rintro rfl; simp at l
   have hd := List.dropLast_concat_getLast hne
   have bl := b _ (List.getLast_mem hne)
   refine ⟨d.dropLast, deals_mem.mpr ⟨by simp [l], fun x hx => b x ((List.dropLast_sublist d).subset hx)⟩, List.mem_map.mpr ⟨(d.getLast hne + 1).toNat, List.mem_range.mpr (by omega), ?_⟩⟩
   rw [show (((d.getLast hne + 1).toNat : Nat) : Int) - 1 = d.getLast hne by omega]
   exact hd
theorem deals_few {n k : Nat} (hn : n ≤ 5) (hk : k ≤ 5) : (dealsL n k).length ≤ 7776 := by
 rw [deals_len]
 exact Nat.le_trans (Nat.pow_le_pow_left (show n + 1 ≤ 6 by omega) k) (Nat.le_trans (Nat.pow_le_pow_right (by decide) hk) (by decide))
theorem small10000 {n : Nat} (h : n ≤ 100000) : n < sizeLine := Nat.lt_of_le_of_lt h (by decide)
noncomputable def Rows (H : Hp) (rs : List (Addr × List Int)) : Prop := ∀ r ∈ rs, H r.1 = some (.tup (r.2.map V.int))
theorem Rows.same {H H' : Hp} {rs : List (Addr × List Int)} (R : Rows H rs) (s : Same H H') : Rows H' rs := fun r hr => s _ _ (R r hr)
noncomputable def sp_deals : Sp := fun vs H Q _ => ∃ m n : Nat, vs = [.int (m : Int), .int (n : Int)] ∧ m ≤ 5 ∧ n ≤ 5 ∧ ∀ (l : Addr) (rs : List (Addr × List Int)) (H' : Hp), Same H H' → Rows H' rs → (rs.map fun r => r.2) = dealsL n m → H' l = some (.lst (rs.map fun r => V.ref r.1)) → Q (.ref l) H'
noncomputable def DO (m n : Nat) (G : Hp) (i : Nat) (σ : St) (H : Hp) : Prop := ∃ (v3 v4 v5 : Option V) (l : Addr) (rs : List (Addr × List Int)), σ = [some (.int (m : Int)), some (.int (n : Int)), some (.ref l), v3, v4, v5] ∧ Same G H ∧ Rows H rs ∧ (rs.map fun r => r.2) = dealsL n i ∧ H l = some (.lst (rs.map fun r => V.ref r.1))
noncomputable def DM (m n : Nat) (l c : Addr) (th : Int) (rs : List (Addr × List Int)) (G : Hp) (i : Nat) (σ : St) (H : Hp) : Prop := ∃ (v5 : Option V) (qs : List (Addr × List Int)), σ = [some (.int (m : Int)), some (.int (n : Int)), some (.ref l), some (.int th), some (.ref c), v5] ∧ SameX c G H ∧ Rows H qs ∧ (qs.map fun r => r.2) = ((rs.take i).map fun r => r.2).flatMap (fun d => (List.range (n + 1)).map fun j : Nat => d ++ [(j : Int) - 1]) ∧ H c = some (.lst (qs.map fun r => V.ref r.1))
noncomputable def DN (a d : Addr) (ds : List Int) (G : Hp) (i : Nat) (σ : St) (H : Hp) : Prop := ∃ (v : Option V) (qs : List (Addr × List Int)), σ = [v, some (.ref a)] ∧ SameX d G H ∧ Rows H qs ∧ (qs.map fun r => r.2) = (List.range i).map (fun j : Nat => ds ++ [(j : Int) - 1]) ∧ H d = some (.lst (qs.map fun r => V.ref r.1))
theorem sc__law_dealings : FnScope ["_law_many", "_law_few", "_law_found", "_law_thing", "_law_longer", "_law_dealt"] ["_law_many", "_law_few"] (defScope s__law_dealings) := ⟨rfl, rfl, rfl, by decide +kernel, rfl, by decide +kernel, by decide +kernel⟩
theorem ok_deals (F : Fun K "_law_dealings" "_law_dealings" s__law_dealings f fd) (hm : mg "_law_dealings" = some (.ref f)) (hb : Binds K fd ["_law_many", "_law_few"] []) (T : Txt mg) : Cal P w K mg base "_law_dealings" ["_law_many", "_law_few"] 1 sp_deals := by
 refine cal_of F hm hb sc__law_dealings (fun vs H Q E h => ?_) (fun cdv A outer s H vs Q E hr h => ?_)
 ·obtain ⟨_, _, rfl, _⟩ := h; rfl
 ·obtain ⟨m, n, rfl, m5, n5, q⟩ := h
  have sc := sc__law_dealings
  refine ⟨_, pss_cons (ps_set (i := 2) sc.nd rfl (Or.inl rfl) (pe_lstA (pa_cns (pe_tupA pa_nil) pa_nil)))
   (pss_cons (ps_for PassesOwn.never rfl (pi_range1 rfl T.range_ (pa_cns (pv 0) pa_nil)) (pg_name (i := 3) sc.nd rfl (Or.inl rfl))
    (pss_cons (ps_set (i := 4) sc.nd rfl (Or.inl rfl) (pe_lstA pa_nil))
   (pss_cons (ps_for PassesOwn.never rfl (pi_l0 (pv 2)) (pg_name (i := 5) sc.nd rfl (Or.inr rfl))
    (pss_one (ps_expr (pe_extend (pv 4) (pa_cns (pe_lc (N := ["_law_hand", "_law_dealt"]) (fr := [none, some 5]) rfl (pi_range2 rfl T.range_ (pa_cns (pe_un un_neg pe_int) (pa_cns (pv 1) pa_nil))) (CScope.of rfl rfl rfl) rfl (fun _ _ _ => ⟨pg_name (i := 0) (show List.Nodup (α := Str) ["_law_hand", "_law_dealt"] by decide +kernel) rfl (Or.inl rfl), pif_nil, pe_op catA0 (pv 1) (pe_tupA (pa_cns (pv 0) pa_nil))⟩)) pa_nil)))))
   (pss_one (ps_set (i := 2) sc.nd rfl (Or.inl rfl) (pv 4))))))
   (pss_one (ps_ret (pv 2)))), ?_⟩
  rw [show L2.start ["_law_many", "_law_few", "_law_found", "_law_thing", "_law_longer", "_law_dealt"] [.int (m : Int), .int (n : Int)] = [some (.int (m : Int)), some (.int (n : Int)), none, none, none, none] from rfl]
  (push_cast only [])
  refine ⟨by decide, fun t0 H0 n0 s0 e0 => ⟨by decide, fun l0 H1 n1 s1 e1 => ?_⟩⟩
  (push_cast only [])
  refine ⟨by omega, by omega, fl_range (DO m n H) ⟨_, _, _, l0, [(t0, [])], rfl, s0.trans s1, (fun r hr => by have : r = (t0, []) := (by simpa using hr); subst this; exact s1 _ _ e0), rfl, e1⟩ ?_ ?_⟩
  ·rintro i σ H2 hi ⟨v3, v4, v5, l, rs, rfl, s2, R2, d2, e2⟩
   rw [Int.toNat_natCast] at hi
   have rl : rs.length ≤ 7776 := by
    have := congrArg List.length d2
    rw [List.length_map] at this
    rw [this]
    exact deals_few n5 (by omega)
   (push_cast only [])
   refine ⟨by decide, fun c H3 nc s3 e3 => ?_⟩
   have e23 := s3 _ _ e2
   have nlc : l ≠ c := ne_of_none e2 nc
   (push_cast only [e23])
   refine fl_seq (DM m n l c (i : Int) rs H3) ⟨_, [], rfl, SameX.refl, (fun r hr => by simp at hr), rfl, e3⟩ (fun j σ H' _ ⟨_, _, _, s, _⟩ => s _ _ nlc e23) ?_ ?_
   ·rintro j x σ H4 hx ⟨v5, qs, rfl, s4, R4, d4, e4⟩
    rw [List.getElem?_map] at hx
    obtain ⟨r, hr', rfl⟩ := Option.map_eq_some_iff.mp hx
    have hj : j < rs.length := (List.getElem?_eq_some_iff.mp hr').1
    have er3 := (R2.same s3) r (List.mem_of_getElem? hr')
    have nrc : r.1 ≠ c := fun z => by rw [z, e3] at er3; cases er3
    have er4 := s4 _ _ nrc er3
    (push_cast only [e4])
    refine ⟨by decide, by decide, by omega, by omega, fun d nd => ?_⟩
    have ncd : c ≠ d := ne_of_none e4 nd
    have nrd : r.1 ≠ d := ne_of_none er4 nd
    refine cl_range (DN r.1 d r.2 H4) ⟨none, [], rfl, SameX.upd, (fun r hr => by simp at hr), rfl, upd_same⟩ ?_ ?_
    ·rintro k σ H5 hk ⟨v, ps, rfl, s5, R5, d5, e5⟩
     have er5 := s5 _ _ nrd er4
     (push_cast only [])
     refine ⟨by decide, fun z H6 n6 s6 e6 => ?_⟩
     (push_cast only [e6])
     have rlen : r.2.length ≤ 5 := by
      have hm : r.2 ∈ dealsL n i := by rw [← d2]; exact List.mem_map.mpr ⟨r, List.mem_of_getElem? hr', rfl⟩
      have := (deals_mem.mp hm).1
      omega
     have pl : ps.length = k := by have := congrArg List.length d5; simpa using this
     refine ⟨_, s6 _ _ er5, Nat.le_of_lt (small1000 (by rw [List.length_map]; omega)), fun p H7 s7 e7 => ?_⟩
     have e57 := s7 _ _ (s6 _ _ e5)
     have R7 := (R5.same s6).same s7
     have e7' : H7 p = some (.tup ((r.2 ++ [(k : Int) - 1]).map V.int)) := by
      rw [e7, List.map_append, show (-1 : Int) + (k : Int) = (k : Int) - 1 by omega]
      rfl
     refine ⟨_, e57, small10000 (by rw [List.length_map]; omega), ⟨_, ps ++ [(p, r.2 ++ [(k : Int) - 1])], rfl, ((s5.trans s6.x).trans s7.x).trans SameX.upd, fun r' hr2 => ?_, ?_, by rw [upd_same]; simp⟩⟩
     ·rcases List.mem_append.mp hr2 with y | y
      ·have := R7 r' y
       rw [upd_ne (fun q => by rw [q, e57] at this; cases this)]
       exact this
      ·have : r' = (p, r.2 ++ [(k : Int) - 1]) := by simpa using y
       subst this
       rw [upd_ne (fun q => by simp only at q; rw [q, e57] at e7'; cases e7')]
       exact e7'
     ·rw [List.map_append, d5, List.range_succ, List.map_append]
      rfl
    ·rintro σ H5 ⟨v, ps, rfl, s5, R5, d5, e5⟩
     have ec5 := s5 _ _ ncd e4
     rw [show ((n : Int) - -1).toNat = n + 1 by omega] at d5
     have pl : ps.length = n + 1 := by have := congrArg List.length d5; simpa using this
     have ql : qs.length = j * (n + 1) := by
      have := congrArg List.length d4
      rw [List.length_map, List.length_flatMap] at this
      simp only [List.length_map, List.length_range] at this
      rw [List.map_const', List.sum_replicate_nat, List.length_map, List.length_take, Nat.min_eq_left (by omega)] at this
      exact this
     have qb : qs.length ≤ 46656 := by rw [ql]; exact Nat.le_trans (Nat.mul_le_mul (show j ≤ 7776 by omega) (show n + 1 ≤ 6 by omega)) (by decide)
     have S5 := s5.same nd
     refine ⟨_, ec5, _, e5, Nat.le_of_lt (small10000 (by rw [List.length_map, List.length_map]; omega)), ⟨_, qs ++ ps, rfl, (s4.trans S5.x).trans SameX.upd, fun r' hr2 => ?_, ?_, by rw [upd_same]; simp⟩⟩
     ·have h5 : H5 r'.1 = some (.tup (r'.2.map V.int)) := by
       rcases List.mem_append.mp hr2 with y | y
       ·exact (R4.same S5) r' y
       ·exact R5 r' y
      rw [upd_ne (fun q => by rw [q, ec5] at h5; cases h5)]
      exact h5
     ·rw [List.map_append, d4, d5, List.take_add_one, hr', List.map_append, List.flatMap_append]
      simp
   ·rintro σ H4 ⟨v5, qs, rfl, s4, R4, d4, e4⟩
    rw [List.length_map, List.take_length] at d4
    (push_cast only [])
    refine ⟨_, _, _, c, qs, rfl, (fun b o e => by have y := s2 _ _ e; exact s4 _ _ (ne_of_none y nc) (s3 _ _ y)), R4, ?_, e4⟩
    rw [d4, d2]
    rfl
  ·rintro σ H2 ⟨v3, v4, v5, l, rs, rfl, s2, R2, d2, e2⟩
   rw [Int.toNat_natCast] at d2
   (push_cast only [])
   exact q l rs H2 s2 R2 d2 e2
noncomputable def SD (ts : List (Addr × List Int)) (ds : List Int) : Int := (sumK ts ds ts.length).sum
theorem SD_wsum (ts : List (Addr × List Int)) (ds : List Int) : SD ts ds = wsum (ts.map fun t => t.2) ds ts.length := by
 unfold SD sumK wsum
 congr 1
 refine List.map_congr_left fun h hh => ?_
 have hl := List.mem_range.mp hh
 simp [List.getD_eq_getElem?_getD, hl]
noncomputable def skip (k h : Nat) : Nat := if h < k then h else h + 1
theorem sum_skip (F : Nat → Int) (k : Nat) : ∀ n, k ≤ n → ((List.range n).map fun h => F (skip k h)).sum + F k = ((List.range (n + 1)).map F).sum
 | 0, h => by
  have : k = 0 := by omega
  subst this
  simp
 | n + 1, h => by
  rw [List.range_succ (n := n + 1), List.map_append, List.sum_append]
  by_cases e : k = n + 1
  ·subst e
   have : ((List.range (n + 1)).map fun h => F (skip (n + 1) h)) = (List.range (n + 1)).map F := List.map_congr_left fun h hh => by
    have := List.mem_range.mp hh
    unfold skip
    rw [if_pos this]
   rw [this]
   simp
  ·have ih := sum_skip F k n (by omega)
   rw [← ih, List.range_succ (n := n), List.map_append, List.sum_append]
   have : skip k n = n + 1 := by unfold skip; rw [if_neg (by omega)]
   simp [this]
   omega
theorem erase_getD (wss : List (List Int)) (k h : Nat) : (wss.eraseIdx k).getD h [] = wss.getD (skip k h) [] := by
 simp only [List.getD_eq_getElem?_getD, List.getElem?_eraseIdx]
 unfold skip
 split <;> rfl
theorem hos_zero (ds : List Int) (s : Int) : ∀ m, (∀ t, t < m → ds.getD t 0 ≠ s) → hos ds s m = 0
 | 0, _ => rfl
 | m + 1, h => by
  show hos ds s m + _ = 0
  rw [hos_zero ds s m fun t ht => h t (by omega), if_neg (h m (by omega))]
theorem hos_map (ds : List Int) (g : Int → Int) (s s' : Int) : ∀ m, m ≤ ds.length → (∀ x ∈ ds, g x = s ↔ x = s') → hos (ds.map g) s m = hos ds s' m
 | 0, _, _ => rfl
 | m + 1, hm, h => by
  have ih := hos_map ds g s s' m (by omega) h
  have hl : m < ds.length := by omega
  have e1 : (ds.map g).getD m 0 = g ds[m] := by simp [List.getD_eq_getElem?_getD, hl]
  have e2 : ds.getD m 0 = ds[m] := by simp [List.getD_eq_getElem?_getD, hl]
  show hos (ds.map g) s m + (if (ds.map g).getD m 0 = s then 2 ^ m else 0) = hos ds s' m + (if ds.getD m 0 = s' then 2 ^ m else 0)
  rw [ih, e1, e2]
  have := h ds[m] (List.getElem_mem hl)
  by_cases q : ds[m] = s'
  ·rw [if_pos (this.mpr q), if_pos q]
  ·rw [if_neg (fun z => q (this.mp z)), if_neg q]
noncomputable def down (k : Nat) (v : Int) : Int := if v < (k : Int) then v else v - 1
noncomputable def up1 (k : Nat) (v : Int) : Int := if v < (k : Int) then v else v + 1
theorem wsum_down {wss : List (List Int)} {k : Nat} (hk : k < wss.length) (hz : (wss.getD k []).getD 0 0 = 0) (ds : List Int) (hn : ∀ x ∈ ds, x ≠ (k : Int)) : wsum (wss.eraseIdx k) (ds.map (down k)) (wss.length - 1) = wsum wss ds wss.length := by
 have e := sum_skip (fun h : Nat => (wss.getD h []).getD (hos ds (h : Int) ds.length) 0) k (wss.length - 1) (by omega)
 rw [show wss.length - 1 + 1 = wss.length by omega] at e
 have hk0 : hos ds (k : Int) ds.length = 0 := hos_zero ds (k : Int) ds.length fun t ht => by
  rw [List.getD_eq_getElem?_getD, List.getElem?_eq_getElem ht]
  exact hn _ (List.getElem_mem ht)
 simp only [hk0, hz, Int.add_zero] at e
 unfold wsum
 rw [← e]
 congr 1
 refine List.map_congr_left fun h hh => ?_
 rw [erase_getD, List.length_map]
 congr 1
 refine hos_map ds (down k) (h : Int) ((skip k h : Nat) : Int) ds.length (Nat.le_refl _) fun x hx => ?_
 have := hn x hx
 unfold down skip
 split <;> split <;> omega
theorem wsum_up {wss : List (List Int)} {k : Nat} (hk : k < wss.length) (hz : (wss.getD k []).getD 0 0 = 0) (es : List Int) : wsum wss (es.map (up1 k)) wss.length = wsum (wss.eraseIdx k) es (wss.length - 1) := by
 have hn : ∀ x ∈ es.map (up1 k), x ≠ (k : Int) := by
  intro x hx
  obtain ⟨y, hy, rfl⟩ := List.mem_map.mp hx
  unfold up1
  split <;> omega
 rw [← wsum_down hk hz (es.map (up1 k)) hn]
 congr 1
 rw [List.map_map]
 have : (down k ∘ up1 k) = id := by
  funext v
  show down k (up1 k v) = v
  unfold down up1
  by_cases h : v < (k : Int)
  ·rw [if_pos h, if_pos h]
  ·rw [if_neg h, if_neg (by omega)]
   omega
 rw [this, List.map_id]
theorem dp_without {m : Nat} (m5 : m ≤ 5) (ts : List (Addr × List Int)) {k : Nat} (hk : k < ts.length) (hz : ∀ t ∈ ts, t.2.getD 0 0 = 0) {w' : Int} (h1 : ∃ ds ∈ dealsL ts.length m, (∀ x ∈ ds, x ≠ (k : Int)) ∧ w' = SD ts ds) (h2 : ∀ ds ∈ dealsL ts.length m, (∀ x ∈ ds, x ≠ (k : Int)) → SD ts ds ≤ w') : (dpL m ((ts.map fun t => t.2).eraseIdx k)).getD (2 ^ m - 1) 0 = w' := by
 have p32 := pow32 m5
 generalize hw : (ts.map fun t => t.2) = wss
 have wl : wss.length = ts.length := by rw [← hw, List.length_map]
 have hzk : (wss.getD k []).getD 0 0 = 0 := by
  rw [← hw]
  simp only [List.getD_eq_getElem?_getD, List.getElem?_map, List.getElem?_eq_getElem hk]
  have := hz ts[k] (List.getElem_mem hk)
  rw [List.getD_eq_getElem?_getD] at this
  exact this
 have el : (wss.eraseIdx k).length = wss.length - 1 := by rw [List.length_eraseIdx, if_pos (by omega)]
 have tl : (wss.eraseIdx k).take (wss.length - 1) = wss.eraseIdx k := List.take_of_length_le (by omega)
 obtain ⟨ds, hm, hn, e⟩ := h1
 obtain ⟨dl, db⟩ := deals_mem.mp hm
 have a := dp_ge m5 (wss.eraseIdx k) (ds.map (down k)) (by rw [List.length_map]; exact dl) (wss.length - 1) (by omega)
 rw [low_all (ds.map (down k)) ((wss.length - 1 : Nat) : Int) m (by rw [List.length_map]; omega) (fun x hx => by
  obtain ⟨y, hy, rfl⟩ := List.mem_map.mp hx
  have := db y hy
  have := hn y hy
  unfold down
  split <;> omega), tl, wsum_down (by omega) hzk ds hn] at a
 rw [SD_wsum, hw, ← wl] at e
 rw [← e] at a
 obtain ⟨es, l1, eb, _, ee⟩ := dp_at m5 (wss.eraseIdx k) (wss.length - 1) (by omega) (2 ^ m - 1) (by omega)
 rw [tl, ← wsum_up (by omega) hzk es] at ee
 have b := h2 (es.map (up1 k)) (deals_mem.mpr ⟨by rw [List.length_map]; exact l1, fun x hx => by
  obtain ⟨y, hy, rfl⟩ := List.mem_map.mp hx
  have := eb y hy
  unfold up1
  split <;> omega⟩) (fun x hx => by
  obtain ⟨y, hy, rfl⟩ := List.mem_map.mp hx
  unfold up1
  split <;> omega)
 rw [SD_wsum, hw, ← wl] at b
 omega
noncomputable def sp_wout : Sp := fun vs H Q _ => ∃ (t sd wt : Addr) (m : Nat) (ss : List Int) (ts : List (Addr × List Int)) (k : Nat), vs = [.ref t, .int (k : Int)] ∧ TownW H t sd wt m ss ts ∧ k < ts.length ∧ ∀ (t' wt' : Addr) (H' : Hp), Same H H' → TownW H' t' sd wt' m ss (ts.eraseIdx k) → Q (.ref t') H'
theorem cutV_take (xs : List V) (t : Nat) (ht : t ≤ xs.length) : cutV xs none (some (t : Int)) = xs.take t := by
 unfold cutV
 rw [HT.sIx_none, HT.sIx_nat, List.drop_zero, Nat.min_eq_left ht, Nat.sub_zero]
theorem cutV_drop (xs : List V) (t : Nat) (ht : t ≤ xs.length) : cutV xs (some (t : Int)) none = xs.drop t := by
 unfold cutV
 rw [HT.sIx_none, HT.sIx_nat, Nat.min_eq_left ht, List.take_of_length_le (by simp)]
theorem sc_without_hand : FnScope ["town", "hand", "sides", "wants"] ["town", "hand"] (defScope s_without_hand) := ⟨rfl, rfl, rfl, by decide +kernel, rfl, by decide +kernel, by decide +kernel⟩
theorem ok_wout (F : Fun K "without_hand" "without_hand" s_without_hand f fd) (hm : mg "without_hand" = some (.ref f)) (hb : Binds K fd ["town", "hand"] []) (T : Txt mg) : Cal P w K mg base "without_hand" ["town", "hand"] 1 sp_wout := by
 refine cal_of F hm hb sc_without_hand (fun vs H Q E h => ?_) (fun cdv A outer s H vs Q E hr h => ?_)
 ·obtain ⟨_, _, _, _, _, _, _, rfl, _⟩ := h; rfl
 ·obtain ⟨t, sd, wt, m, ss, ts, k, rfl, W, hk, q⟩ := h
  have sc := sc_without_hand
  refine ⟨_, pss_cons (ps_asg (pv 0) (pg_tup0 (n := 2) rfl (pgs_cons (pg_name (i := 2) sc.nd rfl (Or.inl rfl)) (pgs_cons (pg_name (i := 3) sc.nd rfl (Or.inl rfl)) pgs_nil))))
   (pss_one (ps_ret (pe_tupA (pa_cns (pv 2) (pa_cns (pe_op catA0 (pe_slice slA0 (pv 3) po_none (po_some (pv 1))) (pe_slice slA0 (pv 3) (po_some (pe_op op_add (pv 1) pe_int)) po_none)) pa_nil))))), ?_⟩
  rw [show L2.start ["town", "hand", "sides", "wants"] [.ref t, .int (k : Int)] = [some (.ref t), some (.int (k : Int)), none, none] from rfl]
  have et := W.at'
  have ew := W.wt
  have t5 := W.t5
  (push_cast only [et, ew])
  intro z1 H1 s1 e1
  have ew1 := s1 _ _ ew
  (push_cast only [ew1])
  intro z2 H2 s2 e2
  rw [cutV_take _ k (by rw [List.length_map]; omega)] at e1
  rw [show (k : Int) + 1 = ((k + 1 : Nat) : Int) by omega, cutV_drop _ (k + 1) (by rw [List.length_map]; omega)] at e2
  have e12 := s2 _ _ e1
  (push_cast only [e12, e2])
  refine ⟨Nat.le_of_lt (small1000 (by simp; omega)), fun z3 H3 s3 e3 => ?_⟩
  have e3' : H3 z3 = some (.tup ((ts.eraseIdx k).map fun t => V.ref t.1)) := by
   rw [e3, List.eraseIdx_eq_take_drop_succ]
   simp
  have S3 := (s1.trans s2).trans s3
  (push_cast only [])
  refine ⟨by decide, fun t' H4 nt' s4 e4 => ?_⟩
  have S4 := S3.trans s4
  exact q t' z3 H4 S4 ⟨e4, S4 _ _ W.sd, s4 _ _ e3', W.m5, W.slen, by rw [List.length_eraseIdx, if_pos hk]; omega, fun r hr' => by
   have := W.row r (List.mem_of_mem_eraseIdx hr')
   exact ⟨S4 _ _ this.1, this.2⟩⟩
noncomputable def sp_gwout : Sp := fun vs H Q _ => ∃ (t sd wt : Addr) (m : Nat) (ss : List Int) (ts : List (Addr × List Int)) (k : Nat), vs = [.ref t, .int (k : Int)] ∧ TownW H t sd wt m ss ts ∧ k < ts.length ∧ ∀ H', Same H H' → Q (.int ((dpL m ((ts.eraseIdx k).map fun t => t.2)).getD (2 ^ m - 1) 0)) H'
theorem sc_greatest_without : FnScope ["town", "hand"] ["town", "hand"] (defScope s_greatest_without) := ⟨rfl, rfl, rfl, by decide +kernel, rfl, by decide +kernel, by decide +kernel⟩
theorem ok_gwout (F : Fun K "greatest_without" "greatest_without" s_greatest_without f fd) (hm : mg "greatest_without" = some (.ref f)) (hb : Binds K fd ["town", "hand"] []) (T : Txt mg) (c_without_hand : Cal P w K mg base "without_hand" ["town", "hand"] 1 sp_wout) (c_greatest : Cal P w K mg base "greatest" ["town"] 6 sp_greatest) : Cal P w K mg base "greatest_without" ["town", "hand"] 7 sp_gwout := by
 refine cal_of F hm hb sc_greatest_without (fun vs H Q E h => ?_) (fun cdv A outer s H vs Q E hr h => ?_)
 ·obtain ⟨_, _, _, _, _, _, _, rfl, _⟩ := h; rfl
 ·obtain ⟨t, sd, wt, m, ss, ts, k, rfl, W, hk, q⟩ := h
  have sc := sc_greatest_without
  refine ⟨_, pss_one (ps_ret (pe_cal c_greatest hr (pa_cns (pe_cal c_without_hand hr (pa_cns (pv 0) (pa_cns (pv 1) pa_nil))) pa_nil))), ?_⟩
  rw [show L2.start ["town", "hand"] [.ref t, .int (k : Int)] = [some (.ref t), some (.int (k : Int))] from rfl]
  (push_cast only [])
  refine ⟨t, sd, wt, m, ss, ts, k, rfl, W, hk, fun t' wt' H1 s1 W1 => ?_⟩
  (push_cast only [])
  exact ⟨t', sd, wt', m, ss, ts.eraseIdx k, rfl, W1, fun H2 s2 => q H2 (s1.trans s2)⟩
end
end K73
end
section
set_option Elab.async false
set_option linter.all false
set_option maxRecDepth 100000
set_option maxHeartbeats 8000000
namespace K73
open PySem L2
section
variable {P : Program} {w : World} {K : PySem.W.Frag} {mg : Str → Option Value} {base : Heap} {f : Addr} {fd : FuncData}
theorem lex_cons_false {x y : Int} {a b : List Int} : HT.lexLt (x :: a) (y :: b) = false ↔ y < x ∨ (x = y ∧ HT.lexLt a b = false) := by
 rw [HT.lexLt_cons]
 by_cases e : x = y
 ·rw [if_pos e]
  exact ⟨fun z => .inr ⟨e, z⟩, fun z => by rcases z with z | z; omega; exact z.2⟩
 ·rw [if_neg e]
  constructor
  ·intro z
   have := of_decide_eq_false z
   exact .inl (by omega)
  ·rintro (z | z)
   ·exact decide_eq_false (by omega)
   ·exact absurd z.1 e
end
end K73
end
section
set_option Elab.async false
set_option linter.all false
set_option maxRecDepth 100000
set_option maxHeartbeats 8000000
namespace K73
open PySem L2
section
variable {P : Program} {w : World} {K : PySem.W.Frag} {mg : Str → Option Value} {base : Heap} {f : Addr} {fd : FuncData}
noncomputable def sp_heap_of : Sp := fun vs H Q _ => ∃ (a : Addr) (xs : List Int), vs = [.ref a] ∧ H a = some (.lst (xs.map V.int)) ∧ xs.length ≤ 5 ∧ (∀ x ∈ xs, ∃ i : Nat, x = (i : Int) ∧ i < 5) ∧ ∀ H', Same H H' → Q (.int (pows xs).sum) H'
noncomputable def HO' (c : Addr) (xs : List Int) (G : Hp) (i : Nat) (σ : St) (H : Hp) : Prop := ∃ v : Option V, σ = [v] ∧ SameX c G H ∧ H c = some (.lst (((pows xs).take i).map V.int))
theorem sc_heap_of : FnScope ["things"] ["things"] (defScope s_heap_of) := ⟨rfl, rfl, rfl, by decide +kernel, rfl, by decide +kernel, by decide +kernel⟩
theorem ok_heap_of (F : Fun K "heap_of" "heap_of" s_heap_of f fd) (hm : mg "heap_of" = some (.ref f)) (hb : Binds K fd ["things"] []) (T : Txt mg) : Cal P w K mg base "heap_of" ["things"] 1 sp_heap_of := by
 refine cal_of F hm hb sc_heap_of (fun vs H Q E h => ?_) (fun cdv A outer s H vs Q E hr h => ?_)
 ·obtain ⟨_, _, rfl, _⟩ := h; rfl
 ·obtain ⟨a, xs, rfl, ha, hl, hx5, q⟩ := h
  have sc := sc_heap_of
  refine ⟨_, pss_one (ps_ret (pe_callB (sum0 rfl) rfl T.sum_ bt_sum (pa_cns (pe_lc (N := ["thing"]) (fr := [none]) rfl (pi_l0 (pv 0)) (CScope.of rfl rfl rfl) rfl (fun _ _ _ => ⟨pg_name (i := 0) (show List.Nodup (α := Str) ["thing"] by decide +kernel) rfl (Or.inl rfl), pif_nil, pe_op op_shl pe_int (pv 0)⟩)) pa_nil))), ?_⟩
  rw [show L2.start ["things"] [.ref a] = [some (.ref a)] from rfl]
  (push_cast only [ha])
  intro c nc
  have nac : a ≠ c := ne_of_none ha nc
  refine cl_seq (HO' c xs H) ⟨none, rfl, SameX.upd, upd_same⟩ (fun j σ H' _ ⟨_, _, s, _⟩ => s _ _ nac ha) ?_ ?_
  ·rintro j x σ H1 hx ⟨v, rfl, s1, e1⟩
   rw [List.getElem?_map] at hx
   obtain ⟨y, hy, rfl⟩ := Option.map_eq_some_iff.mp hx
   obtain ⟨i, rfl, hi⟩ := hx5 y (List.mem_of_getElem? hy)
   have hj : j < xs.length := (List.getElem?_eq_some_iff.mp hy).1
   (push_cast only [e1])
   rw [hpow]
   refine ⟨⟨by omega, by omega, by decide⟩, small1000 (by rw [List.length_take]; omega), ⟨_, rfl, s1.trans SameX.upd, ?_⟩⟩
   rw [upd_same, List.take_add_one]
   unfold pows
   rw [List.getElem?_map, hy]
   simp
  ·rintro σ H1 ⟨v, rfl, s1, e1⟩
   rw [List.length_map, List.take_of_length_le (by unfold pows; simp)] at e1
   have pb := pows_bd hx5
   exact ⟨_, sq_lst e1, sumFits_of (fun y hy => by have := pb y hy; omega) (by unfold pows; rw [List.length_map]; omega), q H1 (s1.same nc)⟩
noncomputable def HS (a c : Addr) (ds : List Int) (s : Int) (G : Hp) (i : Nat) (σ : St) (H : Hp) : Prop := ∃ v : Option V, σ = [v, some (.ref a), some (.int s)] ∧ SameX c G H ∧ H c = some (.lst ((idxL ds s i).map V.int))
theorem sc_heap_of_side : FnScope ["sides", "side"] ["sides", "side"] (defScope s_heap_of_side) := ⟨rfl, rfl, rfl, by decide +kernel, rfl, by decide +kernel, by decide +kernel⟩
theorem ok_hos (F : Fun K "heap_of_side" "heap_of_side" s_heap_of_side f fd) (hm : mg "heap_of_side" = some (.ref f)) (hb : Binds K fd ["sides", "side"] []) (T : Txt mg) (c_heap_of : Cal P w K mg base "heap_of" ["things"] 1 sp_heap_of) : Cal P w K mg base "heap_of_side" ["sides", "side"] 2 sp_hos := by
 refine cal_of F hm hb sc_heap_of_side (fun vs H Q E h => ?_) (fun cdv A outer s H vs Q E hr h => ?_)
 ·obtain ⟨_, _, _, rfl, _⟩ := h; rfl
 ·obtain ⟨a, ds, s', rfl, ha, h5, q⟩ := h
  have sc := sc_heap_of_side
  refine ⟨_, pss_one (ps_ret (pe_cal c_heap_of hr (pa_cns (pe_lc (N := ["thing", "sides", "side"]) (fr := [none, some 0, some 1]) rfl (pi_range1 rfl T.range_ (pa_cns (pe_callB len0 rfl T.len_ bt_len (pa_cns (pv 0) pa_nil)) pa_nil)) (CScope.of rfl rfl rfl) rfl (fun _ _ _ => ⟨pg_name (i := 0) (show List.Nodup (α := Str) ["thing", "sides", "side"] by decide +kernel) rfl (Or.inl rfl), pif_one (pt_cmpR op_eq (pe_ix ix0 (pv 1) (pv 0) (fun _ _ => rfl)) (pv 2) (nomark _)), pv 0⟩)) pa_nil))), ?_⟩
  rw [show L2.start ["sides", "side"] [.ref a, .int s'] = [some (.ref a), some (.int s')] from rfl]
  have hs := sq_tup ha
  (push_cast only [hs])
  refine ⟨by omega, by omega, fun c nc => ?_⟩
  have nac : a ≠ c := ne_of_none ha nc
  refine cl_range (HS a c ds s' H) ⟨none, rfl, SameX.upd, upd_same⟩ ?_ ?_
  ·rintro j σ H1 hj ⟨v, rfl, s1, e1⟩
   rw [Int.toNat_natCast] at hj
   have hs1 := sq_tup (s1 _ _ nac ha)
   have hat : atI (ds.map V.int) (j : Int) = some (V.int ds[j]) := atI_nat (by simp [hj])
   have hg : ds.getD j 0 = ds[j] := by rw [List.getD_eq_getElem?_getD, List.getElem?_eq_getElem hj]; rfl
   have il := idxL_len ds s' j
   (push_cast only [hs1, hat])
   by_cases hd : ds[j] = s'
   ·rw [if_pos (by simpa using hd)]
    (push_cast only [e1])
    refine ⟨small1000 (by omega), ⟨_, rfl, s1.trans SameX.upd, ?_⟩⟩
    rw [upd_same, idxL_succ, if_pos (by rw [hg]; exact hd)]
    simp
   ·rw [if_neg (by simpa using hd)]
    refine ⟨_, rfl, s1, ?_⟩
    rw [e1, idxL_succ, if_neg (by rw [hg]; exact hd), List.append_nil]
  ·rintro σ H1 ⟨v, rfl, s1, e1⟩
   rw [Int.toNat_natCast] at e1
   (push_cast only [])
   refine ⟨c, _, rfl, e1, Nat.le_trans (idxL_len _ _ _) h5, fun x hx => ?_, fun H2 s2 => ?_⟩
   ·obtain ⟨i, e, l⟩ := idxL_mem hx
    exact ⟨i, e, by omega⟩
   ·rw [pows_sum]
    exact q H2 ((s1.same nc).trans s2)
noncomputable def heapsL (ds : List Int) (k : Nat) : List Int := (List.range k).map fun h : Nat => (hos ds (h : Int) ds.length : Int)
theorem heapsL_succ (ds : List Int) (k : Nat) : heapsL ds (k + 1) = heapsL ds k ++ [(hos ds (k : Int) ds.length : Int)] := by
 unfold heapsL
 rw [List.range_succ, List.map_append]
 rfl
theorem heapsL_len (ds : List Int) (k : Nat) : (heapsL ds k).length = k := by unfold heapsL; simp
noncomputable def HL (a c : Addr) (ds : List Int) (G : Hp) (i : Nat) (σ : St) (H : Hp) : Prop := ∃ v : Option V, σ = [v, some (.ref a)] ∧ SameX c G H ∧ H c = some (.lst ((heapsL ds i).map V.int))
noncomputable def sp_heaps : Sp := fun vs H Q _ => ∃ (t sd wt a : Addr) (m : Nat) (ss : List Int) (ts : List (Addr × List Int)) (ds : List Int), vs = [.ref t, .ref a] ∧ TownW H t sd wt m ss ts ∧ H a = some (.tup (ds.map V.int)) ∧ ds.length ≤ 5 ∧ ∀ (r : Addr) (H' : Hp), H r = none → Same H H' → H' r = some (.tup ((heapsL ds ts.length).map V.int)) → Q (.ref r) H'
theorem sc_heaps_of : FnScope ["town", "dealing"] ["town", "dealing"] (defScope s_heaps_of) := ⟨rfl, rfl, rfl, by decide +kernel, rfl, by decide +kernel, by decide +kernel⟩
theorem ok_heaps (F : Fun K "heaps_of" "heaps_of" s_heaps_of f fd) (hm : mg "heaps_of" = some (.ref f)) (hb : Binds K fd ["town", "dealing"] []) (T : Txt mg) (c_heap_of_side : Cal P w K mg base "heap_of_side" ["sides", "side"] 2 sp_hos) : Cal P w K mg base "heaps_of" ["town", "dealing"] 3 sp_heaps := by
 refine cal_of F hm hb sc_heaps_of (fun vs H Q E h => ?_) (fun cdv A outer s H vs Q E hr h => ?_)
 ·obtain ⟨_, _, _, _, _, _, _, _, rfl, _⟩ := h; rfl
 ·obtain ⟨t, sd, wt, a, m, ss, ts, ds, rfl, W, ha, h5, q⟩ := h
  have sc := sc_heaps_of
  refine ⟨_, pss_one (ps_ret (pe_callTy tupA0 rfl T.tuple_ bt_tuple (pa_cns (pe_lc (N := ["hand", "dealing"]) (fr := [none, some 1]) rfl (pi_range1 rfl T.range_ (pa_cns (pe_callB len0 rfl T.len_ bt_len (pa_cns (pe_ix ix0 (pv 0) pe_int (fun _ _ => rfl)) pa_nil)) pa_nil)) (CScope.of rfl rfl rfl) rfl (fun _ _ _ => ⟨pg_name (i := 0) (show List.Nodup (α := Str) ["hand", "dealing"] by decide +kernel) rfl (Or.inl rfl), pif_nil, pe_cal c_heap_of_side hr (pa_cns (pv 1) (pa_cns (pv 0) pa_nil))⟩)) pa_nil))), ?_⟩
  rw [show L2.start ["town", "dealing"] [.ref t, .ref a] = [some (.ref t), some (.ref a)] from rfl]
  have hst := sq_tup W.at'
  have hsw := sq_tup W.wt
  have i1 : ∀ x y : V, atI [x, y] 1 = some y := fun _ _ => rfl
  have t5 := W.t5
  (push_cast only [hst, i1, hsw])
  refine ⟨by omega, by omega, fun c nc => ?_⟩
  have nac : a ≠ c := ne_of_none ha nc
  refine cl_range (HL a c ds H) ⟨none, rfl, SameX.upd, upd_same⟩ ?_ ?_
  ·rintro j σ H1 hj ⟨v, rfl, s1, e1⟩
   rw [Int.toNat_natCast] at hj
   (push_cast only [])
   refine ⟨a, ds, (j : Int), rfl, s1 _ _ nac ha, h5, fun H2 s2 => ?_⟩
   have e12 := s2 _ _ e1
   (push_cast only [e12])
   refine ⟨small1000 (by rw [heapsL_len]; omega), ⟨_, rfl, (s1.trans s2.x).trans SameX.upd, ?_⟩⟩
   rw [upd_same, heapsL_succ, List.map_append]
   rfl
  ·rintro σ H1 ⟨v, rfl, s1, e1⟩
   rw [Int.toNat_natCast] at e1
   refine ⟨_, e1, fun r H2 nr s2 e2 => ?_⟩
   have S1 := s1.same nc
   exact q r H2 (none_same S1 nr) (S1.trans s2) e2
theorem erase_map (ts : List (Addr × List Int)) (k : Nat) : (ts.eraseIdx k).map (fun t => t.2) = (ts.map fun t => t.2).eraseIdx k := by
 rw [List.eraseIdx_eq_take_drop_succ, List.eraseIdx_eq_take_drop_succ, List.map_append, List.map_take, List.map_drop]
noncomputable def sp_lost : Sp := fun vs H Q _ => ∃ (t sd wt : Addr) (m : Nat) (ss : List Int) (ts : List (Addr × List Int)) (k : Nat), vs = [.ref t, .int (k : Int)] ∧ TownW H t sd wt m ss ts ∧ k < ts.length ∧ ∀ H', Same H H' → Q (.int ((dpL m (ts.map fun t => t.2)).getD (2 ^ m - 1) 0 - (dpL m ((ts.eraseIdx k).map fun t => t.2)).getD (2 ^ m - 1) 0)) H'
theorem TownW.same {H H' : Hp} {t sd wt : Addr} {m : Nat} {ss : List Int} {ts : List (Addr × List Int)} (W : TownW H t sd wt m ss ts) (s : Same H H') : TownW H' t sd wt m ss ts := ⟨s _ _ W.at', s _ _ W.sd, s _ _ W.wt, W.m5, W.slen, W.t5, fun t ht => ⟨s _ _ (W.row t ht).1, (W.row t ht).2⟩⟩
theorem sc_lost_without : FnScope ["town", "hand"] ["town", "hand"] (defScope s_lost_without) := ⟨rfl, rfl, rfl, by decide +kernel, rfl, by decide +kernel, by decide +kernel⟩
theorem ok_lost (F : Fun K "lost_without" "lost_without" s_lost_without f fd) (hm : mg "lost_without" = some (.ref f)) (hb : Binds K fd ["town", "hand"] []) (T : Txt mg) (c_greatest : Cal P w K mg base "greatest" ["town"] 6 sp_greatest) (c_greatest_without : Cal P w K mg base "greatest_without" ["town", "hand"] 7 sp_gwout) : Cal P w K mg base "lost_without" ["town", "hand"] 8 sp_lost := by
 refine cal_of F hm hb sc_lost_without (fun vs H Q E h => ?_) (fun cdv A outer s H vs Q E hr h => ?_)
 ·obtain ⟨_, _, _, _, _, _, _, rfl, _⟩ := h; rfl
 ·obtain ⟨t, sd, wt, m, ss, ts, k, rfl, W, hk, q⟩ := h
  have sc := sc_lost_without
  refine ⟨_, pss_one (ps_ret (pe_op op_sub (pe_cal c_greatest hr (pa_cns (pv 0) pa_nil)) (pe_cal c_greatest_without hr (pa_cns (pv 0) (pa_cns (pv 1) pa_nil))))), ?_⟩
  rw [show L2.start ["town", "hand"] [.ref t, .int (k : Int)] = [some (.ref t), some (.int (k : Int))] from rfl]
  (push_cast only [])
  refine ⟨t, sd, wt, m, ss, ts, rfl, W, fun H1 s1 => ?_⟩
  (push_cast only [])
  refine ⟨t, sd, wt, m, ss, ts, k, rfl, W.same s1, hk, fun H2 s2 => ?_⟩
  (push_cast only [])
  exact q H2 (s1.trans s2)
noncomputable def lostOf (m : Nat) (wss : List (List Int)) (k : Nat) : Int := (dpL m wss).getD (2 ^ m - 1) 0 - (dpL m (wss.eraseIdx k)).getD (2 ^ m - 1) 0
noncomputable def paysL (m : Nat) (ts : List (Addr × List Int)) (ds : List Int) (n : Nat) : List Int := (List.range n).map fun k : Nat => ((ts.getD k (0, [])).2).getD (hos ds (k : Int) ds.length) 0 - lostOf m (ts.map fun t => t.2) k
theorem paysL_succ (m : Nat) (ts : List (Addr × List Int)) (ds : List Int) (n : Nat) : paysL m ts ds (n + 1) = paysL m ts ds n ++ [((ts.getD n (0, [])).2).getD (hos ds (n : Int) ds.length) 0 - lostOf m (ts.map fun t => t.2) n] := by
 unfold paysL
 rw [List.range_succ, List.map_append]
 rfl
theorem paysL_len (m : Nat) (ts : List (Addr × List Int)) (ds : List Int) (n : Nat) : (paysL m ts ds n).length = n := by unfold paysL; simp
theorem paysL_at {m : Nat} {ts : List (Addr × List Int)} {ds : List Int} {n k : Nat} (h : k < n) : (paysL m ts ds n).getD k 0 = ((ts.getD k (0, [])).2).getD (hos ds (k : Int) ds.length) 0 - lostOf m (ts.map fun t => t.2) k := by
 unfold paysL
 rw [List.getD_eq_getElem?_getD, List.getElem?_map, List.getElem?_range h]
 rfl
noncomputable def sp_pays : Sp := fun vs H Q _ => ∃ (t sd wt a : Addr) (m : Nat) (ss : List Int) (ts : List (Addr × List Int)) (ds : List Int), vs = [.ref t, .ref a] ∧ TownW H t sd wt m ss ts ∧ H a = some (.tup (ds.map V.int)) ∧ ds.length = m ∧ ∀ (r : Addr) (H' : Hp), H r = none → Same H H' → H' r = some (.tup ((paysL m ts ds ts.length).map V.int)) → Q (.ref r) H'
noncomputable def PYI (t c : Addr) (m : Nat) (ts : List (Addr × List Int)) (ds : List Int) (G : Hp) (i : Nat) (σ : St) (H : Hp) : Prop := ∃ v1 v2 v3 : Option V, σ = [v1, v2, v3, some (.ref t)] ∧ SameX c G H ∧ H c = some (.lst ((paysL m ts ds i).map V.int))
theorem sc_pays : FnScope ["town", "dealing", "heaps"] ["town", "dealing"] (defScope s_pays) := ⟨rfl, rfl, rfl, by decide +kernel, rfl, by decide +kernel, by decide +kernel⟩
theorem ok_pays (F : Fun K "pays" "pays" s_pays f fd) (hm : mg "pays" = some (.ref f)) (hb : Binds K fd ["town", "dealing"] []) (T : Txt mg) (c_heaps_of : Cal P w K mg base "heaps_of" ["town", "dealing"] 3 sp_heaps) (c_lost_without : Cal P w K mg base "lost_without" ["town", "hand"] 8 sp_lost) : Cal P w K mg base "pays" ["town", "dealing"] 9 sp_pays := by
 refine cal_of F hm hb sc_pays (fun vs H Q E h => ?_) (fun cdv A outer s H vs Q E hr h => ?_)
 ·obtain ⟨_, _, _, _, _, _, _, _, rfl, _⟩ := h; rfl
 ·obtain ⟨t, sd, wt, a, m, ss, ts, ds, rfl, W, ha, dl, q⟩ := h
  have sc := sc_pays
  refine ⟨_, pss_cons (ps_set (i := 2) sc.nd rfl (Or.inl rfl) (pe_cal c_heaps_of hr (pa_cns (pv 0) (pa_cns (pv 1) pa_nil))))
   (pss_one (ps_ret (pe_callTy tupA0 rfl T.tuple_ bt_tuple (pa_cns (pe_lc (N := ["hand", "want", "heap", "town"]) (fr := [none, none, none, some 0]) rfl (pi_ez rfl T.enumerate_ rfl T.zip_ (pa_cns (pe_ix ix0 (pv 0) pe_int (fun _ _ => rfl)) (pa_cns (pv 2) pa_nil))) (CScope.of rfl rfl rfl) rfl (fun _ _ _ => ⟨pg_tup0 (n := 2) rfl (pgs_cons (pg_name (i := 0) (show List.Nodup (α := Str) ["hand", "want", "heap", "town"] by decide +kernel) rfl (Or.inl rfl)) (pgs_cons (pg_tup0 (n := 2) rfl (pgs_cons (pg_name (i := 1) (show List.Nodup (α := Str) ["hand", "want", "heap", "town"] by decide +kernel) rfl (Or.inl rfl)) (pgs_cons (pg_name (i := 2) (show List.Nodup (α := Str) ["hand", "want", "heap", "town"] by decide +kernel) rfl (Or.inl rfl)) pgs_nil))) pgs_nil)), pif_nil, pe_op op_sub (pe_ix ix0 (pv 1) (pv 2) (fun _ _ => rfl)) (pe_cal c_lost_without hr (pa_cns (pv 3) (pa_cns (pv 0) pa_nil)))⟩)) pa_nil)))), ?_⟩
  rw [show L2.start ["town", "dealing", "heaps"] [.ref t, .ref a] = [some (.ref t), some (.ref a), none] from rfl]
  have m5 := W.m5
  have t5 := W.t5
  (push_cast only [])
  refine ⟨t, sd, wt, a, m, ss, ts, ds, rfl, W, ha, by omega, fun hp H1 nhp s1 e1 => ?_⟩
  have W1 := W.same s1
  have hst := sq_tup W1.at'
  have i1 : ∀ x y : V, atI [x, y] 1 = some y := fun _ _ => rfl
  (push_cast only [hst, i1])
  refine ⟨_, _, _, .inr ⟨rfl, W1.wt⟩, _, .inr ⟨rfl, e1⟩, fun c nc => ?_⟩
  refine cl_ez (PYI t c m ts ds H1) ⟨none, none, none, rfl, SameX.upd, upd_same⟩ (fun i σ H2 ⟨_, _, _, _, s, _⟩ => ⟨.inr ⟨rfl, s _ _ (ne_of_none W1.wt nc) W1.wt⟩, .inr ⟨rfl, s _ _ (ne_of_none e1 nc) e1⟩⟩) ?_ ?_
  ·rintro i u v T1 T2 σ H2 H3 hu hv ⟨v1, v2, v3, rfl, s2, e2⟩ s3 eT1 eT2
   rw [List.getElem?_map] at hu hv
   obtain ⟨tt, htt, rfl⟩ := Option.map_eq_some_iff.mp hu
   obtain ⟨hh, hhh, rfl⟩ := Option.map_eq_some_iff.mp hv
   have hi : i < ts.length := (List.getElem?_eq_some_iff.mp htt).1
   have ehh : hh = (hos ds (i : Int) ds.length : Int) := by
    unfold heapsL at hhh
    rw [List.getElem?_map, List.getElem?_range hi] at hhh
    simpa using hhh.symm
   subst ehh
   have K3 : ∀ {b : Addr} {L : List V}, H1 b = some (.tup L) → H3 b = some (.tup L) := fun h => s3 _ _ (s2 _ _ (ne_of_none h nc) h)
   have W3 : TownW H3 t sd wt m ss ts := ⟨K3 W1.at', K3 W1.sd, K3 W1.wt, m5, W1.slen, t5, fun x hx => ⟨K3 (W1.row x hx).1, (W1.row x hx).2⟩⟩
   obtain ⟨ett, ltt⟩ := W3.row tt (List.mem_of_getElem? htt)
   have hlt := hos_lt ds (i : Int) ds.length
   have hst3 := sq_tup ett
   have hat := at_int (ns := tt.2) (n := hos ds (i : Int) ds.length) (by rw [ltt, ← dl]; exact hlt)
   have ec := s3 _ _ e2
   have gt : ts.getD i (0, []) = tt := by rw [List.getD_eq_getElem?_getD, htt]; rfl
   (push_cast only [eT2, eT1, hst3, hat])
   refine ⟨t, sd, wt, m, ss, ts, i, rfl, W3, hi, fun H4 s4 => ?_⟩
   have e4 := s4 _ _ ec
   (push_cast only [e4])
   refine ⟨small1000 (by rw [paysL_len]; omega), ⟨_, _, _, rfl, (s2.trans (s3.trans s4).x).trans SameX.upd, ?_⟩⟩
   rw [upd_same, paysL_succ, List.map_append, gt, erase_map]
   rfl
  ·rintro σ H2 ⟨v1, v2, v3, rfl, s2, e2⟩
   rw [List.length_map, List.length_map, heapsL_len, Nat.min_self] at e2
   refine ⟨_, e2, fun r H3 nr s3 e3 => ?_⟩
   have S2 := s1.trans (s2.same nc)
   exact q r H3 (none_same S2 nr) (S2.trans s3) e3
end
end K73
end
section
set_option Elab.async false
set_option linter.all false
set_option maxRecDepth 100000
set_option maxHeartbeats 8000000
namespace K73
open PySem L2
section
theorem sub_rest {p h : Nat} (hh : h < 32) (hp : p ≤ h) (e : p &&& h = p) : (h - p) &&& h = h - p := by
 have key : ∀ h p : _root_.Fin 32, p.val &&& h.val = p.val → (h.val - p.val) &&& h.val = h.val - p.val := by decide +kernel
 exact key ⟨h, hh⟩ ⟨p, by omega⟩ e
theorem getD_ext {a b : List Int} (l : a.length = b.length) (h : ∀ i, i < a.length → a.getD i 0 = b.getD i 0) : a = b := by
 refine List.ext_getElem l fun i h1 h2 => ?_
 have := h i h1
 rw [List.getD_eq_getElem?_getD, List.getD_eq_getElem?_getD, List.getElem?_eq_getElem h1, List.getElem?_eq_getElem h2] at this
 exact this
theorem join_comm {a b : List Int} (l1 : a.length = b.length) (l3 : a.length ≤ 32) : joinT a b = joinT b a := by
 have half : ∀ a b : List Int, a.length = b.length → a.length ≤ 32 → ∀ h, h < a.length → (joinT a b).getD h 0 ≤ (joinT b a).getD h 0 := fun a b l1 l3 h hh => by
  obtain ⟨p, p1, p2, pe⟩ := join_at (one := a) (other := b) hh l3
  have g := join_ge (one := b) (other := a) (h := h) (p := h - p) (by omega) (by omega) (by omega) (sub_rest (by omega) p1 p2)
  rw [show h - (h - p) = p by omega] at g
  omega
 refine getD_ext (by rw [joinT_len, joinT_len, l1]) fun h hh => ?_
 rw [joinT_len] at hh
 exact Int.le_antisymm (half a b l1 l3 h hh) (half b a l1.symm (by omega) h (by omega))
theorem hos_append (P e : List Int) (k : Int) : ∀ j, hos (P ++ e) k (P.length + j) = hos P k P.length + hos e k j * 2 ^ P.length
 | 0 => by
  show hos (P ++ e) k P.length = hos P k P.length + 0 * _
  rw [Nat.zero_mul, Nat.add_zero]
  refine hos_congr _ _ _ _ fun t ht => ?_
  rw [List.getD_eq_getElem?_getD, List.getElem?_append_left ht, List.getD_eq_getElem?_getD]
 | j + 1 => by
  show hos (P ++ e) k (P.length + j) + (if (P ++ e).getD (P.length + j) 0 = k then 2 ^ (P.length + j) else 0) = hos P k P.length + (hos e k j + if e.getD j 0 = k then 2 ^ j else 0) * 2 ^ P.length
  rw [hos_append P e k j, show (P ++ e).getD (P.length + j) 0 = e.getD j 0 by rw [List.getD_eq_getElem?_getD, List.getElem?_append_right (by omega), Nat.add_sub_cancel_left, List.getD_eq_getElem?_getD], Nat.add_mul, Nat.pow_add]
  split
  ·rw [Nat.mul_comm (2 ^ P.length) (2 ^ j)]; omega
  ·omega
noncomputable def restr (P w : List Int) (k : Int) (j : Nat) : List Int := (List.range (2 ^ j)).map fun p => w.getD (hos P k P.length + p * 2 ^ P.length) 0
theorem restr_len (P w : List Int) (k : Int) (j : Nat) : (restr P w k j).length = 2 ^ j := by unfold restr; simp
theorem restr_at {P w : List Int} {k : Int} {j p : Nat} (h : p < 2 ^ j) : (restr P w k j).getD p 0 = w.getD (hos P k P.length + p * 2 ^ P.length) 0 := by
 unfold restr
 simp [List.getD_eq_getElem?_getD, h]
noncomputable def restrs (wss : List (List Int)) (P : List Int) (j n : Nat) : List (List Int) := (List.range n).map fun k : Nat => restr P (wss.getD k []) (k : Int) j
theorem restrs_succ (wss : List (List Int)) (P : List Int) (j n : Nat) : restrs wss P j (n + 1) = restrs wss P j n ++ [restr P (wss.getD n []) (n : Int) j] := by
 unfold restrs
 rw [List.range_succ, List.map_append]
 rfl
theorem restrs_len (wss : List (List Int)) (P : List Int) (j n : Nat) : (restrs wss P j n).length = n := by unfold restrs; simp
theorem restrs_row {wss : List (List Int)} {P : List Int} {j n : Nat} {x : List Int} (h : x ∈ restrs wss P j n) : x.length = 2 ^ j := by
 unfold restrs at h
 obtain ⟨k, _, rfl⟩ := List.mem_map.mp h
 exact restr_len _ _ _ _
theorem restrs_at {wss : List (List Int)} {P : List Int} {j n k : Nat} (h : k < n) : (restrs wss P j n).getD k [] = restr P (wss.getD k []) (k : Int) j := by
 unfold restrs
 simp [List.getD_eq_getElem?_getD, h]
theorem wsum_restr (wss : List (List Int)) (P e : List Int) (n : Nat) : ∀ k, k ≤ n → wsum (restrs wss P e.length n) e k = wsum wss (P ++ e) k
 | 0, _ => rfl
 | k + 1, h => by
  rw [wsum_succ, wsum_succ, wsum_restr wss P e n k (by omega), restrs_at (by omega), restr_at (hos_lt e k e.length), List.length_append, hos_append]
noncomputable def Deal (m n : Nat) (d : List Int) : Prop := d.length = m ∧ ∀ x ∈ d, -1 ≤ x ∧ x < (n : Int)
theorem top_ge {m : Nat} (m5 : m ≤ 5) {wss : List (List Int)} {d : List Int} (h : Deal m wss.length d) : wsum wss d wss.length ≤ (dpL m wss).getD (2 ^ m - 1) 0 := by
 have := dp_ge m5 wss d h.1 wss.length (Nat.le_refl _)
 rw [List.take_length, low_all d _ m (by rw [h.1]; exact Nat.le_refl _) fun x hx => (h.2 x hx).2] at this
 exact this
theorem top_ex {m : Nat} (m5 : m ≤ 5) (wss : List (List Int)) : ∃ d, Deal m wss.length d ∧ wsum wss d wss.length = (dpL m wss).getD (2 ^ m - 1) 0 := by
 have p := Nat.two_pow_pos m
 obtain ⟨d, h1, h2, _, h4⟩ := dp_at m5 wss wss.length (Nat.le_refl _) (2 ^ m - 1) (by omega)
 rw [List.take_length] at h4
 exact ⟨d, ⟨h1, h2⟩, h4⟩
noncomputable def reachV (wss : List (List Int)) (P : List Int) (j : Nat) : Int := (dpL j (restrs wss P j wss.length)).getD (2 ^ j - 1) 0
theorem reach_ge {wss : List (List Int)} {P e : List Int} (m5 : e.length ≤ 5) (h : ∀ x ∈ e, -1 ≤ x ∧ x < (wss.length : Int)) : wsum wss (P ++ e) wss.length ≤ reachV wss P e.length := by
 have l := restrs_len wss P e.length wss.length
 have := top_ge m5 (wss := restrs wss P e.length wss.length) (d := e) ⟨rfl, by rw [l]; exact h⟩
 rw [l, wsum_restr wss P e _ _ (Nat.le_refl _)] at this
 exact this
theorem reach_ex {wss : List (List Int)} {P : List Int} {j : Nat} (m5 : j ≤ 5) : ∃ e : List Int, e.length = j ∧ (∀ x ∈ e, -1 ≤ x ∧ x < (wss.length : Int)) ∧ wsum wss (P ++ e) wss.length = reachV wss P j := by
 have l := restrs_len wss P j wss.length
 obtain ⟨e, ⟨h1, h2⟩, h3⟩ := top_ex m5 (restrs wss P j wss.length)
 subst h1
 rw [l] at h2 h3
 rw [wsum_restr wss P e _ _ (Nat.le_refl _)] at h3
 exact ⟨e, rfl, h2, h3⟩
structure Fst (wss : List (List Int)) (m : Nat) (most : Int) (P : List Int) : Prop where
 len : P.length ≤ m
 bd : ∀ x ∈ P, -1 ≤ x ∧ x < (wss.length : Int)
 val : reachV wss P (m - P.length) = most
 first : ∀ d, Deal m wss.length d → wsum wss d wss.length = most → HT.lexLt (d.take P.length) P = false
theorem fst_zero {wss : List (List Int)} {m : Nat} (hw : ∀ w ∈ wss, w.length = 2 ^ m) : Fst wss m ((dpL m wss).getD (2 ^ m - 1) 0) [] := by
 refine ⟨Nat.zero_le _, fun x hx => absurd hx (by simp), ?_, fun d _ _ => lex_irrefl []⟩
 unfold reachV
 congr 2
 refine List.ext_getElem (restrs_len _ _ _ _) fun k h1 h2 => ?_
 have a := restrs_at (wss := wss) (P := []) (j := m - ([] : List Int).length) h2
 rw [List.getD_eq_getElem?_getD, List.getElem?_eq_getElem h1, List.getD_eq_getElem?_getD, List.getElem?_eq_getElem h2] at a
 have a' : (restrs wss [] (m - ([] : List Int).length) wss.length)[k] = restr [] wss[k] (k : Int) m := a
 rw [a']
 have hl := hw _ (List.getElem_mem h2)
 refine getD_ext (by rw [restr_len, hl]) fun p q1 => ?_
 rw [restr_len] at q1
 rw [restr_at q1]
 show (wss[k]).getD (0 + p * 1) 0 = _
 rw [Nat.zero_add, Nat.mul_one]
theorem reach_le {wss : List (List Int)} {P : List Int} {m : Nat} (m5 : m ≤ 5) (hl : P.length ≤ m) (hb : ∀ x ∈ P, -1 ≤ x ∧ x < (wss.length : Int)) : reachV wss P (m - P.length) ≤ (dpL m wss).getD (2 ^ m - 1) 0 := by
 obtain ⟨e, e1, e2, e3⟩ := reach_ex (wss := wss) (P := P) (j := m - P.length) (by omega)
 rw [← e3]
 refine top_ge m5 ⟨by rw [List.length_append, e1]; omega, fun x hx => ?_⟩
 rcases List.mem_append.mp hx with h | h
 ·exact hb x h
 ·exact e2 x h
theorem fst_some {wss : List (List Int)} {m : Nat} {P : List Int} (m5 : m ≤ 5) (F : Fst wss m ((dpL m wss).getD (2 ^ m - 1) 0) P) (hl : P.length < m) : ∃ x : Int, -1 ≤ x ∧ x < (wss.length : Int) ∧ reachV wss (P ++ [x]) (m - (P.length + 1)) = (dpL m wss).getD (2 ^ m - 1) 0 := by
 obtain ⟨e, e1, e2, e3⟩ := reach_ex (wss := wss) (P := P) (j := m - P.length) (by omega)
 rw [F.val] at e3
 cases e with
 | nil => simp at e1; omega
 | cons x e =>
  obtain ⟨x1, x2⟩ := e2 x List.mem_cons_self
  refine ⟨x, x1, x2, Int.le_antisymm ?_ ?_⟩
  ·have := reach_le (wss := wss) (P := P ++ [x]) m5 (by simp; omega) (fun y hy => by
    rcases List.mem_append.mp hy with h | h
    ·exact F.bd y h
    ·have : y = x := by simpa using h
     subst this
     exact ⟨x1, x2⟩)
   rwa [List.length_append] at this
  ·rw [← e3, show P ++ x :: e = (P ++ [x]) ++ e by simp]
   have el : e.length = m - (P.length + 1) := by simp at e1; omega
   rw [← el]
   exact reach_ge (by omega) fun y hy => e2 y (List.mem_cons_of_mem _ hy)
theorem fst_step {wss : List (List Int)} {m : Nat} {P : List Int} {x : Int} (m5 : m ≤ 5) (F : Fst wss m ((dpL m wss).getD (2 ^ m - 1) 0) P) (hl : P.length < m) (x1 : -1 ≤ x) (x2 : x < (wss.length : Int))
  (hv : reachV wss (P ++ [x]) (m - (P.length + 1)) = (dpL m wss).getD (2 ^ m - 1) 0) (hf : ∀ y : Int, -1 ≤ y → y < x → reachV wss (P ++ [y]) (m - (P.length + 1)) ≠ (dpL m wss).getD (2 ^ m - 1) 0) : Fst wss m ((dpL m wss).getD (2 ^ m - 1) 0) (P ++ [x]) := by
 have bd : ∀ z : Int, -1 ≤ z → z < (wss.length : Int) → ∀ y ∈ P ++ [z], -1 ≤ y ∧ y < (wss.length : Int) := fun z z1 z2 y hy => by
  rcases List.mem_append.mp hy with h | h
  ·exact F.bd y h
  ·have : y = z := by simpa using h
   subst this
   exact ⟨z1, z2⟩
 refine ⟨by simp; omega, bd x x1 x2, by rw [List.length_append]; exact hv, fun d D e => ?_⟩
 have hd : P.length < d.length := by rw [D.1]; exact hl
 obtain ⟨y, hy⟩ : ∃ y, d[P.length]? = some y := ⟨_, List.getElem?_eq_getElem hd⟩
 rw [List.length_append, List.length_singleton, List.take_add_one, hy, lex_app _ _ _ _ (by rw [List.length_take]; omega)]
 have f := F.first d D e
 split
 ·rename_i eq
  have yb := D.2 y (List.mem_of_getElem? hy)
  have : ¬ y < x := fun lt => hf y yb.1 lt (Int.le_antisymm (by
   have := reach_le (wss := wss) (P := P ++ [y]) m5 (by simp; omega) (bd y yb.1 yb.2)
   rwa [List.length_append] at this) (by
   rw [← e]
   have ed : d = (P ++ [y]) ++ d.drop (P.length + 1) := by
    conv => lhs; rw [← List.take_append_drop (P.length + 1) d]
    rw [List.take_add_one, hy, eq]
    rfl
   have el : (d.drop (P.length + 1)).length = m - (P.length + 1) := by rw [List.length_drop, D.1]
   rw [← el]
   conv => lhs; rw [ed]
   exact reach_ge (by omega) fun z hz => D.2 z (List.mem_of_mem_drop hz)))
  show HT.lexLt [y] [x] = false
  rw [lex_cons_false]
  by_cases e' : x < y
  ·exact .inl e'
  ·exact .inr ⟨by omega, rfl⟩
 ·exact f
end
end K73
end
section
set_option Elab.async false
set_option linter.all false
set_option maxRecDepth 100000
set_option maxHeartbeats 8000000
namespace K73
open PySem L2
section
variable {P : Program} {w : World} {K : PySem.W.Frag} {mg : Str → Option Value} {base : Heap} {f : Addr} {fd : FuncData}
theorem subs_parts {h : Nat} (hh : h < 32) : subs h (h + 1) = (partsN h).map fun p : Nat => (p : Int) := by
 have key : ∀ h : _root_.Fin 32, subs h.val (h.val + 1) = (partsN h.val).map fun p : Nat => (p : Int) := by decide +kernel
 exact key ⟨h, hh⟩
structure RwS (H : Hp) (rs : List (Addr × List Int)) (j : Nat) : Prop where
 few : rs.length ≤ 5
 row : ∀ r ∈ rs, sq H r.1 = some (r.2.map V.int) ∧ r.2.length = 2 ^ j
theorem RwS.same {H H' : Hp} {rs : List (Addr × List Int)} {j : Nat} (R : RwS H rs j) (s : Same H H') : RwS H' rs j := ⟨R.few, fun r hr => ⟨s.sq (R.row r hr).1, (R.row r hr).2⟩⟩
noncomputable def sp_lsums : Sp := fun vs H Q _ => ∃ (wa : Addr) (j : Nat) (o : HO) (rs : List (Addr × List Int)), vs = [.ref wa, .int ((2 ^ j : Nat) : Int)] ∧ j ≤ 5 ∧ (o = HO.tup (rs.map fun r => V.ref r.1) ∨ o = HO.lst (rs.map fun r => V.ref r.1)) ∧ H wa = some o ∧ RwS H rs j ∧ ∀ (l : Addr) (H' : Hp), Same H H' → H' l = some (.lst ((dpL j (rs.map fun r => r.2)).map V.int)) → Q (.ref l) H'
noncomputable def LS0 (wa : Addr) (j : Nat) (rs : List (Addr × List Int)) (G : Hp) (i : Nat) (σ : St) (H : Hp) : Prop := ∃ (v3 v4 v5 v6 : Option V) (fo : Addr), σ = [some (.ref wa), some (.int ((2 ^ j : Nat) : Int)), some (.ref fo), v3, v4, v5, v6] ∧ Same G H ∧ H fo = some (.lst ((dpL j ((rs.take i).map fun r => r.2)).map V.int))
noncomputable def LS1 (wa fo ra c : Addr) (j : Nat) (fs ws : List Int) (G : Hp) (i : Nat) (σ : St) (H : Hp) : Prop := ∃ (v5 v6 : Option V), σ = [some (.ref wa), some (.int ((2 ^ j : Nat) : Int)), some (.ref fo), some (.ref ra), some (.ref c), v5, v6] ∧ SameX c G H ∧ H c = some (.lst (((List.range i).map fun h => joinAt ws fs h).map V.int))
noncomputable def LS2 (fo ra d : Addr) (h : Nat) (fs ws : List Int) (G : Hp) (i : Nat) (σ : St) (H : Hp) : Prop := ∃ v : Option V, σ = [v, some (.ref fo), some (.int (h : Int)), some (.ref ra)] ∧ SameX d G H ∧ H d = some (.lst ((valsN ws fs ((partsN h).take i) h).map V.int))
theorem parts_few (h : Nat) : (partsN h).length ≤ h + 1 := by
 unfold partsN
 exact Nat.le_trans (List.length_filter_le _ _) (by simp)
theorem sc__law_sums : FnScope ["_law_wants", "_law_size", "_law_found", "_law_want", "_law_some", "_law_heap", "_law_sums_here"] ["_law_wants", "_law_size"] (defScope s__law_sums) := ⟨rfl, rfl, rfl, by decide +kernel, rfl, by decide +kernel, by decide +kernel⟩
theorem ok_lsums (F : Fun K "_law_sums" "_law_sums" s__law_sums f fd) (hm : mg "_law_sums" = some (.ref f)) (hb : Binds K fd ["_law_wants", "_law_size"] []) (T : Txt mg) (c__law_within : Cal P w K mg base "_law_within" ["_law_heap"] 1 sp_within) : Cal P w K mg base "_law_sums" ["_law_wants", "_law_size"] 2 sp_lsums := by
 refine cal_of F hm hb sc__law_sums (fun vs H Q E h => ?_) (fun cdv A outer s H vs Q E hr h => ?_)
 ·obtain ⟨_, _, _, _, rfl, _⟩ := h; rfl
 ·obtain ⟨wa, j, o, rs, rfl, j5, ho, hwa, R, q⟩ := h
  have sc := sc__law_sums
  refine ⟨_, pss_consL (ps_set (i := 2) sc.nd rfl (Or.inr rfl) (pe_op repL0 (pe_lstA (pa_cns pe_int pa_nil)) (pv 1)))
   (pss_consL (ps_for PassesOwn.never rfl (pi_s0 (pv 0)) (pg_name (i := 3) sc.nd rfl (Or.inr rfl))
    (pss_consL (ps_set (i := 4) sc.nd rfl (Or.inl rfl) (pe_lstA pa_nil))
   (pss_consL (ps_for PassesOwn.never rfl (pi_range1 rfl T.range_ (pa_cns (pv 1) pa_nil)) (pg_name (i := 5) sc.nd rfl (Or.inr rfl))
    (pss_consL (ps_setLC (i := 6) sc.nd rfl (Or.inl rfl) (N := ["_law_part", "_law_found", "_law_heap", "_law_want"]) (fr := [none, some 2, some 5, some 3]) rfl (pi_l0 (pe_cal c__law_within hr (pa_cns (pv 5) pa_nil))) (CScope.of rfl rfl rfl) rfl (fun _ _ _ => ⟨pg_name (i := 0) (show List.Nodup (α := Str) ["_law_part", "_law_found", "_law_heap", "_law_want"] by decide +kernel) rfl (Or.inl rfl), pif_nil, pe_op op_add (pe_ix ix0 (pv 1) (pe_op op_sub (pv 2) (pv 0)) (fun _ _ => rfl)) (pe_ix ix0 (pv 3) (pv 0) (fun _ _ => rfl))⟩))
   (pss_one (ps_expr (pe_append (pv 4) (pa_cns (pe_callB (max0 rfl) rfl T.max_ bt_max (pa_cns (pv 6) pa_nil)) pa_nil))))))
   (pss_one (ps_set (i := 2) sc.nd rfl (Or.inr rfl) (pv 4))))))
   (pss_one (ps_ret (pv 2)))), ?_⟩
  rw [show L2.start ["_law_wants", "_law_size", "_law_found", "_law_want", "_law_some", "_law_heap", "_law_sums_here"] [.ref wa, .int ((2 ^ j : Nat) : Int)] = [some (.ref wa), some (.int ((2 ^ j : Nat) : Int)), none, none, none, none, none] from rfl]
  have p32 := pow32 j5
  (push_cast only [])
  refine ⟨by decide, fun z0 H1 n1 s1 e1 => ?_⟩
  (push_cast only [e1])
  refine ⟨2 ^ j, rfl, by omega, by simp; exact Nat.le_of_lt (small1000 (by omega)), fun fo H2 n2 s2 e2 => ?_⟩
  have e2' : H2 fo = some (.lst ((dpL j ((rs.take 0).map fun r => r.2)).map V.int)) := by
   rw [e2, rep_flat]
   rfl
  have S2 := s1.trans s2
  have hwa2 := S2 _ _ hwa
  (simp only [a_laterH])
  (push_cast only [hwa2])
  refine ⟨_, _, ho, rfl, fl_seq (LS0 wa j rs H2) ⟨none, none, none, none, fo, rfl, fun _ _ h => h, e2'⟩ (fun i σ H' _ ⟨_, _, _, _, _, _, s, _⟩ => s _ _ hwa2) ?_ ?_⟩
  ·rintro i x σ H3 hx ⟨v3, v4, v5, v6, fo, rfl, s3, e3⟩
   rw [List.getElem?_map] at hx
   obtain ⟨r, hr', rfl⟩ := Option.map_eq_some_iff.mp hx
   have hi : i < rs.length := (List.getElem?_eq_some_iff.mp hr').1
   have R3 := (R.same S2).same s3
   obtain ⟨er, rl⟩ := R3.row r (List.mem_of_getElem? hr')
   generalize hfs : dpL j ((rs.take i).map fun r => r.2) = fs at e3
   have fl : fs.length = 2 ^ j := by rw [← hfs, dp_length]
   (push_cast only [])
   refine ⟨by decide, fun c H4 nc s4 e4 => ?_⟩
   have e34 := s4 _ _ e3
   (simp only [a_laterH])
   (push_cast only [])
   refine ⟨by omega, by omega, fl_range (LS1 wa fo r.1 c j fs r.2 H4) ⟨_, _, rfl, SameX.refl, e4⟩ ?_ ?_⟩
   ·rintro h σ H5 hh ⟨v5, v6, rfl, s5, e5⟩
    rw [Int.toNat_natCast] at hh
    (push_cast only [])
    refine ⟨h, rfl, by omega, fun t H6 nt s6 e6 => ?_⟩
    have e56 := s6 _ _ e5
    rw [subs_parts (by omega)] at e6
    (push_cast only [e6])
    intro d nd
    have ncd : c ≠ d := ne_of_none e56 nd
    have er6 : sq H6 r.1 = some (r.2.map V.int) := s6.sq (SameX.sq s5 (sq_ne er nc) (s4.sq er))
    have nfc : fo ≠ c := ne_of_none e3 nc
    have ef6 := s6 _ _ (s5 _ _ nfc e34)
    have ntd : t ≠ d := ne_of_none e6 nd
    have pf := parts_few h
    refine cl_seq (LS2 fo r.1 d h fs r.2 H6) ⟨none, rfl, SameX.upd, upd_same⟩ (fun j σ H' _ ⟨_, _, s, _⟩ => s _ _ ntd e6) ?_ ?_
    ·rintro k x σ H7 hx ⟨v, rfl, s7, e7⟩
     rw [List.getElem?_map, List.getElem?_map] at hx
     obtain ⟨y, hy, rfl⟩ := Option.map_eq_some_iff.mp hx
     obtain ⟨p, hp, rfl⟩ := Option.map_eq_some_iff.mp hy
     have hk : k < (partsN h).length := (List.getElem?_eq_some_iff.mp hp).1
     have hph := (mem_parts.mp (List.mem_of_getElem? hp)).1
     have hsf := sq_lst (s7 _ _ (ne_of_none ef6 nd) ef6)
     have hsr := SameX.sq s7 (sq_ne er6 nd) er6
     have at1 := at_int (ns := fs) (n := h - p) (by omega)
     have at2 := at_int (ns := r.2) (n := p) (by omega)
     rw [show ((h - p : Nat) : Int) = (h : Int) - (p : Int) by omega] at at1
     (push_cast only [hsf, hsr, at1, at2, e7])
     refine ⟨small1000 (by unfold valsN; rw [List.length_map, List.length_take]; omega), ⟨_, rfl, s7.trans SameX.upd, ?_⟩⟩
     rw [upd_same]
     unfold valsN
     rw [List.take_add_one, hp, List.map_append, List.map_append, Int.add_comm]
     rfl
    ·rintro σ H7 ⟨v, rfl, s7, e7⟩
     rw [List.length_map, List.length_map, List.take_length] at e7
     have e57 := s7 _ _ ncd e56
     have hsd := sq_lst e7
     (simp only [a_laterH])
     (push_cast only [e57])
     have ne : valsN r.2 fs (partsN h) h ≠ [] := fun z => by
      unfold valsN at z
      have := mem_parts.mpr ⟨Nat.zero_le h, (self_in (show h < 32 by omega)).2⟩
      rw [List.map_eq_nil_iff.mp z] at this
      cases this
     refine ⟨_, hsd, ne, fun mx m1 m2 => ?_⟩
     (push_cast only [e57])
     refine ⟨small1000 (by simp; omega), ⟨_, _, rfl, ((s5.trans s6.x).trans ((s7.same nd).x)).trans SameX.upd, ?_⟩⟩
     rw [upd_same, List.range_succ, List.map_append, List.map_append, ← show joinAt r.2 fs h = mx from maxL_eq m1 m2]
     rfl
   ·rintro σ H5 ⟨v5, v6, rfl, s5, e5⟩
    rw [Int.toNat_natCast] at e5
    (simp only [a_laterH])
    (push_cast only [])
    refine ⟨_, _, _, _, c, rfl, s3.trans ((s4.x.trans s5).same nc), ?_⟩
    rw [e5, show rs.take (i + 1) = rs.take i ++ [r] by rw [List.take_add_one, hr']; rfl, List.map_append]
    have eq : dpL j ((rs.take i).map (fun r => r.2) ++ [r].map fun r => r.2) = joinT r.2 fs := by
     have : dpL j ((rs.take i).map (fun r => r.2) ++ [r].map fun r => r.2) = joinT (dpL j ((rs.take i).map fun r => r.2)) r.2 := by unfold dpL; rw [List.foldl_append]; rfl
     rw [this, hfs]
     exact join_comm (by omega) (by omega)
    rw [eq]
    unfold joinT
    rw [rl]
  ·rintro σ H3 ⟨v3, v4, v5, v6, fo, rfl, s3, e3⟩
   (simp only [a_laterH])
   (push_cast only [])
   rw [List.length_map, List.take_length] at e3
   exact q _ _ (S2.trans s3) e3
end
end K73
end
section
set_option Elab.async false
set_option linter.all false
set_option maxRecDepth 100000
set_option maxHeartbeats 8000000
namespace K73
open PySem L2
section
variable {P : Program} {w : World} {K : PySem.W.Frag} {mg : Str → Option Value} {base : Heap} {f : Addr} {fd : FuncData}
structure Wts (H : Hp) (wt : Addr) (ts : List (Addr × List Int)) (m : Nat) : Prop where
 at' : H wt = some (.tup (ts.map fun t => V.ref t.1))
 few : ts.length ≤ 5
 row : ∀ t ∈ ts, H t.1 = some (.tup (t.2.map V.int)) ∧ t.2.length = 2 ^ m
theorem Wts.same {H H' : Hp} {wt : Addr} {ts : List (Addr × List Int)} {m : Nat} (W : Wts H wt ts m) (s : Same H H') : Wts H' wt ts m := ⟨s _ _ W.at', W.few, fun t ht => ⟨s _ _ (W.row t ht).1, (W.row t ht).2⟩⟩
noncomputable def sp_reach : Sp := fun vs H Q _ => ∃ (wt dt : Addr) (m : Nat) (Pf : List Int) (ts : List (Addr × List Int)), vs = [.ref wt, .int (m : Int), .ref dt] ∧ Wts H wt ts m ∧ H dt = some (.tup (Pf.map V.int)) ∧ m ≤ 5 ∧ Pf.length ≤ m ∧ ∀ H', Same H H' → Q (.int (reachV (ts.map fun t => t.2) Pf (m - Pf.length))) H'
noncomputable def RC0 (wt dt l : Addr) (m j : Nat) (Pf : List Int) (wss : List (List Int)) (G : Hp) (i : Nat) (σ : St) (H : Hp) : Prop := ∃ (v5 v6 v7 : Option V) (qs : List (Addr × List Int)), σ = [some (.ref wt), some (.int (m : Int)), some (.ref dt), some (.int ((2 ^ j : Nat) : Int)), some (.ref l), v5, v6, v7] ∧ SameX l G H ∧ (qs.map fun q => q.2) = restrs wss Pf j i ∧ (∀ q ∈ qs, H q.1 = some (.lst (q.2.map V.int))) ∧ H l = some (.lst (qs.map fun q => V.ref q.1))
noncomputable def RC1 (ra dt d : Addr) (held : Int) (Pf ws : List Int) (k : Int) (G : Hp) (i : Nat) (σ : St) (H : Hp) : Prop := ∃ v : Option V, σ = [v, some (.ref ra), some (.int held), some (.ref dt)] ∧ SameX d G H ∧ H d = some (.lst (((List.range i).map fun p => ws.getD (hos Pf k Pf.length + p * 2 ^ Pf.length) 0).map V.int))
theorem sc__law_reach : FnScope ["_law_wants", "_law_many", "_law_dealt", "_law_size", "_law_some", "_law_hand", "_law_want", "_law_held"] ["_law_wants", "_law_many", "_law_dealt"] (defScope s__law_reach) := ⟨rfl, rfl, rfl, by decide +kernel, rfl, by decide +kernel, by decide +kernel⟩
theorem ok_reach (F : Fun K "_law_reach" "_law_reach" s__law_reach f fd) (hm : mg "_law_reach" = some (.ref f)) (hb : Binds K fd ["_law_wants", "_law_many", "_law_dealt"] []) (T : Txt mg) (c__law_heap_of : Cal P w K mg base "_law_heap_of" ["_law_dealt", "_law_hand"] 1 sp_hos) (c__law_sums : Cal P w K mg base "_law_sums" ["_law_wants", "_law_size"] 2 sp_lsums) : Cal P w K mg base "_law_reach" ["_law_wants", "_law_many", "_law_dealt"] 3 sp_reach := by
 refine cal_of F hm hb sc__law_reach (fun vs H Q E h => ?_) (fun cdv A outer s H vs Q E hr h => ?_)
 ·obtain ⟨_, _, _, _, _, rfl, _⟩ := h; rfl
 ·obtain ⟨wt, dt, m, Pf, ts, rfl, W, hd, m5, pl, q⟩ := h
  have sc := sc__law_reach
  refine ⟨_, pss_consL (ps_set (i := 3) sc.nd rfl (Or.inl rfl) (pe_op op_shl pe_int (pe_op op_sub (pv 1) (pe_callB len0 rfl T.len_ bt_len (pa_cns (pv 2) pa_nil)))))
   (pss_consL (ps_set (i := 4) sc.nd rfl (Or.inl rfl) (pe_lstA pa_nil))
   (pss_consL (ps_for PassesOwn.never rfl (pi_enum rfl T.enumerate_ (pa_cns (pv 0) pa_nil)) (pg_tup0 (n := 2) rfl (pgs_cons (pg_name (i := 5) sc.nd rfl (Or.inl rfl)) (pgs_cons (pg_name (i := 6) sc.nd rfl (Or.inr rfl)) pgs_nil)))
    (pss_consL (ps_set (i := 7) sc.nd rfl (Or.inr rfl) (pe_cal c__law_heap_of hr (pa_cns (pv 2) (pa_cns (pv 5) pa_nil))))
   (pss_one (ps_expr (pe_append (pv 4) (pa_cns (pe_lc (N := ["_law_part", "_law_want", "_law_held", "_law_dealt"]) (fr := [none, some 6, some 7, some 2]) rfl (pi_range1 rfl T.range_ (pa_cns (pv 3) pa_nil)) (CScope.of rfl rfl rfl) rfl (fun _ _ _ => ⟨pg_name (i := 0) (show List.Nodup (α := Str) ["_law_part", "_law_want", "_law_held", "_law_dealt"] by decide +kernel) rfl (Or.inl rfl), pif_nil, pe_ix ix0 (pv 1) (pe_op op_add (pv 2) (pe_op op_shl (pv 0) (pe_callB len0 rfl T.len_ bt_len (pa_cns (pv 3) pa_nil)))) (fun _ _ => rfl)⟩)) pa_nil))))))
   (pss_one (ps_ret (pe_ix ix0 (pe_cal c__law_sums hr (pa_cns (pv 4) (pa_cns (pv 3) pa_nil))) (pe_un un_neg pe_int) (fun _ _ => rfl)))))), ?_⟩
  rw [show L2.start ["_law_wants", "_law_many", "_law_dealt", "_law_size", "_law_some", "_law_hand", "_law_want", "_law_held"] [.ref wt, .int (m : Int), .ref dt] = [some (.ref wt), some (.int (m : Int)), some (.ref dt), none, none, none, none, none] from rfl]
  have hsd := sq_tup hd
  (push_cast only [hsd])
  refine ⟨⟨by omega, by omega, by decide⟩, ?_⟩
  obtain ⟨j, hj⟩ : ∃ j, j = m - Pf.length := ⟨_, rfl⟩
  have j5 : j ≤ 5 := by omega
  have p32 := pow32 j5
  have p32m := pow32 m5
  rw [show (1 : Int) * 2 ^ ((m : Int) - (Pf.length : Int)).toNat = ((2 ^ j : Nat) : Int) by rw [show ((m : Int) - (Pf.length : Int)).toNat = j by omega, Int.one_mul, Int.natCast_pow]; rfl]
  (simp only [a_laterH])
  (push_cast only [])
  refine ⟨by decide, fun l H1 nl s1 e1 => ?_⟩
  have hd1 := s1 _ _ hd
  have W1 := W.same s1
  (simp only [a_laterH])
  (push_cast only [])
  refine ⟨_, _, .inr ⟨rfl, W1.at'⟩, fl_enum (RC0 wt dt l m j Pf (ts.map fun t => t.2) H1) ⟨_, _, _, [], rfl, SameX.refl, rfl, fun _ z => absurd z (by simp), e1⟩ (fun i σ H2 ⟨_, _, _, _, _, s, _⟩ => .inr ⟨rfl, s _ _ (ne_of_none W.at' nl) W1.at'⟩) ?_ ?_⟩
  ·rintro i v T' σ H2 H3 hv ⟨v5, v6, v7, qs, rfl, s2, qe, qr, e2⟩ nT s3 e3
   rw [List.getElem?_map] at hv
   obtain ⟨tt, htt, rfl⟩ := Option.map_eq_some_iff.mp hv
   have hi : i < ts.length := (List.getElem?_eq_some_iff.mp htt).1
   obtain ⟨ett0, ltt⟩ := W.row tt (List.mem_of_getElem? htt)
   have ett := s3 _ _ (s2 _ _ (ne_of_none ett0 nl) (s1 _ _ ett0))
   have hd3 := s3 _ _ (s2 _ _ (ne_of_none hd nl) hd1)
   have e23 := s3 _ _ e2
   (push_cast only [e3])
   refine ⟨dt, Pf, (i : Int), rfl, hd3, by omega, fun H4 s4 => ?_⟩
   have e4 := s4 _ _ e23
   have hd4 := s4 _ _ hd3
   have ett4 := s4 _ _ ett
   (push_cast only [])
   (simp only [a_laterH])
   (push_cast only [e4])
   refine ⟨by omega, by omega, fun d nd => ?_⟩
   have nld : l ≠ d := ne_of_none e4 nd
   have few := W.few
   have ql : qs.length = i := by
    have := congrArg List.length qe
    rwa [List.length_map, restrs_len] at this
   refine cl_range (RC1 tt.1 dt d (hos Pf (i : Int) Pf.length : Int) Pf tt.2 (i : Int) H4) ⟨none, rfl, SameX.upd, upd_same⟩ ?_ ?_
   ·rintro p σ H5 hp ⟨v, rfl, s5, e5⟩
    rw [Int.toNat_natCast] at hp
    have hst := sq_tup (s5 _ _ (ne_of_none ett4 nd) ett4)
    have hsd5 := sq_tup (s5 _ _ (ne_of_none hd4 nd) hd4)
    (push_cast only [hst, hsd5, e5])
    have lt : hos Pf (i : Int) Pf.length + p * 2 ^ Pf.length < tt.2.length := by
     have h1 := hos_lt Pf (i : Int) Pf.length
     have h2 : (p + 1) * 2 ^ Pf.length ≤ 2 ^ j * 2 ^ Pf.length := Nat.mul_le_mul_right _ hp
     rw [← Nat.pow_add, show j + Pf.length = m by omega, Nat.add_mul] at h2
     omega
    have hat := at_int (ns := tt.2) lt
    refine ⟨⟨by omega, by omega, by omega⟩, _, by rw [Int.toNat_natCast, ← hat]; congr 1, small1000 (by simp; omega), ⟨_, rfl, s5.trans SameX.upd, ?_⟩⟩
    rw [upd_same, List.range_succ, List.map_append, List.map_append]
    rfl
   ·rintro σ H5 ⟨v, rfl, s5, e5⟩
    rw [Int.toNat_natCast] at e5
    have e45 := s5 _ _ nld e4
    refine ⟨_, e45, small1000 (by simp; omega), ⟨_, _, _, qs ++ [(d, restr Pf tt.2 (i : Int) j)], rfl, ((s2.trans (s3.trans s4).x).trans ((s5.same nd).x)).trans SameX.upd, ?_, fun x hx => ?_, by rw [upd_same]; simp⟩⟩
    ·rw [List.map_append, qe, restrs_succ]
     have : (ts.map fun t => t.2).getD i [] = tt.2 := by rw [List.getD_eq_getElem?_getD, List.getElem?_map, htt]; rfl
     rw [this]
     rfl
    ·rcases List.mem_append.mp hx with h | h
     ·have h2 := qr x h
      have nxl : x.1 ≠ l := fun z => by
       have hm : V.ref x.1 ∈ qs.map fun q => V.ref q.1 := List.mem_map.mpr ⟨x, h, rfl⟩
       rw [z, e2] at h2
       have h3 := HO.lst.inj (Option.some.inj h2)
       rw [h3] at hm
       obtain ⟨n, _, e⟩ := List.mem_map.mp hm
       cases e
      have h4 := s4 _ _ (s3 _ _ h2)
      rw [upd_ne nxl]
      exact s5 _ _ (ne_of_none h4 nd) h4
     ·have : x = (d, restr Pf tt.2 (i : Int) j) := by simpa using h
      subst this
      rw [upd_ne nld.symm, e5]
      rfl
  ·rintro σ H2 ⟨v5, v6, v7, qs, rfl, s2, qe, qr, e2⟩
   rw [List.length_map] at qe
   (simp only [a_laterH])
   (push_cast only [])
   refine ⟨l, j, _, qs, rfl, j5, .inr rfl, e2, ⟨?_, fun r hr' => ⟨sq_lst (qr r hr'), ?_⟩⟩, fun r H3 s3 e3 => ?_⟩
   ·have := congrArg List.length qe
    rw [List.length_map, restrs_len] at this
    have := W.few
    omega
   ·have : r.2 ∈ qs.map fun q => q.2 := List.mem_map.mpr ⟨r, hr', rfl⟩
    rw [qe] at this
    exact restrs_row this
   ·have hl := sq_lst e3
    have hat := atI_last (xs := dpL j (qs.map fun r => r.2)) (by rw [dp_length]; omega)
    rw [dp_length, qe] at hat
    rw [qe] at hl
    (push_cast only [hl, hat])
    have := q H3 ((s1.x.trans s2).same nl |>.trans s3)
    unfold reachV at this
    rw [← hj, List.length_map] at this
    exact this
noncomputable def sp_fbs : Sp := fun vs H Q _ => ∃ (wt : Addr) (m : Nat) (ts : List (Addr × List Int)), vs = [.ref wt, .int (m : Int)] ∧ Wts H wt ts m ∧ m ≤ 5 ∧ ∀ (a : Addr) (ds : List Int) (H' : Hp), Same H H' → H' a = some (.tup (ds.map V.int)) → ds.length = m → Fst (ts.map fun t => t.2) m ((dpL m (ts.map fun t => t.2)).getD (2 ^ m - 1) 0) ds → Q (.ref a) H'
noncomputable def FB0 (wt : Addr) (m : Nat) (most : Int) (wss : List (List Int)) (G : Hp) (i : Nat) (σ : St) (H : Hp) : Prop := ∃ (v4 v5 : Option V) (dt : Addr) (Pf : List Int), σ = [some (.ref wt), some (.int (m : Int)), some (.int most), some (.ref dt), v4, v5] ∧ Same G H ∧ H dt = some (.tup (Pf.map V.int)) ∧ Pf.length = i ∧ Fst wss m most Pf
noncomputable def FB1 (wt dt d : Addr) (m : Nat) (Pf : List Int) (wss : List (List Int)) (G : Hp) (i : Nat) (σ : St) (H : Hp) : Prop := ∃ v : Option V, σ = [v, some (.ref wt), some (.int (m : Int)), some (.ref dt)] ∧ SameX d G H ∧ H d = some (.lst (((List.range i).map fun x : Nat => reachV wss (Pf ++ [(x : Int) - 1]) (m - (Pf.length + 1))).map V.int))
theorem sc__law_first_by_sums : FnScope ["_law_wants", "_law_many", "_law_most_here", "_law_dealt", "_law_thing", "_law_some"] ["_law_wants", "_law_many"] (defScope s__law_first_by_sums) := ⟨rfl, rfl, rfl, by decide +kernel, rfl, by decide +kernel, by decide +kernel⟩
theorem ok_fbs (F : Fun K "_law_first_by_sums" "_law_first_by_sums" s__law_first_by_sums f fd) (hm : mg "_law_first_by_sums" = some (.ref f)) (hb : Binds K fd ["_law_wants", "_law_many"] []) (T : Txt mg) (c__law_sums : Cal P w K mg base "_law_sums" ["_law_wants", "_law_size"] 2 sp_lsums) (c__law_reach : Cal P w K mg base "_law_reach" ["_law_wants", "_law_many", "_law_dealt"] 3 sp_reach) : Cal P w K mg base "_law_first_by_sums" ["_law_wants", "_law_many"] 4 sp_fbs := by
 refine cal_of F hm hb sc__law_first_by_sums (fun vs H Q E h => ?_) (fun cdv A outer s H vs Q E hr h => ?_)
 ·obtain ⟨_, _, _, rfl, _⟩ := h; rfl
 ·obtain ⟨wt, m, ts, rfl, W, m5, q⟩ := h
  have sc := sc__law_first_by_sums
  refine ⟨_, pss_consL (ps_set (i := 2) sc.nd rfl (Or.inl rfl) (pe_ix ix0 (pe_cal c__law_sums hr (pa_cns (pv 0) (pa_cns (pe_op op_shl pe_int (pv 1)) pa_nil))) (pe_un un_neg pe_int) (fun _ _ => rfl)))
   (pss_consL (ps_set (i := 3) sc.nd rfl (Or.inr rfl) (pe_tupA pa_nil))
   (pss_consL (ps_for PassesOwn.never rfl (pi_range1 rfl T.range_ (pa_cns (pv 1) pa_nil)) (pg_name (i := 4) sc.nd rfl (Or.inl rfl))
    (pss_consL (ps_setLC (i := 5) sc.nd rfl (Or.inl rfl) (N := ["_law_hand", "_law_wants", "_law_many", "_law_dealt"]) (fr := [none, some 0, some 1, some 3]) rfl (pi_range2 rfl T.range_ (pa_cns (pe_un un_neg pe_int) (pa_cns (pe_callB len0 rfl T.len_ bt_len (pa_cns (pv 0) pa_nil)) pa_nil))) (CScope.of rfl rfl rfl) rfl (fun _ _ _ => ⟨pg_name (i := 0) (show List.Nodup (α := Str) ["_law_hand", "_law_wants", "_law_many", "_law_dealt"] by decide +kernel) rfl (Or.inl rfl), pif_nil, pe_cal c__law_reach hr (pa_cns (pv 1) (pa_cns (pv 2) (pa_cns (pe_op catA0 (pv 3) (pe_tupA (pa_cns (pv 0) pa_nil))) pa_nil)))⟩))
   (pss_one (ps_set (i := 3) sc.nd rfl (Or.inr rfl) (pe_op catA0 (pv 3) (pe_tupA (pa_cns (pe_op op_sub (pe_index (pv 5) (pa_cns (pv 2) pa_nil)) pe_int) pa_nil)))))))
   (pss_one (ps_ret (pv 3))))), ?_⟩
  rw [show L2.start ["_law_wants", "_law_many", "_law_most_here", "_law_dealt", "_law_thing", "_law_some"] [.ref wt, .int (m : Int)] = [some (.ref wt), some (.int (m : Int)), none, none, none, none] from rfl]
  have p32 := pow32 m5
  have few := W.few
  (push_cast only [])
  refine ⟨⟨by omega, by omega, by decide⟩, ?_⟩
  rw [show (1 : Int) * 2 ^ ((m : Int)).toNat = ((2 ^ m : Nat) : Int) by rw [Int.toNat_natCast, Int.one_mul, Int.natCast_pow]; rfl]
  refine ⟨wt, m, _, ts, rfl, m5, .inl rfl, W.at', ⟨few, fun r hr' => ⟨sq_tup (W.row r hr').1, (W.row r hr').2⟩⟩, fun r H1 s1 e1 => ?_⟩
  have hl := sq_lst e1
  have hat := atI_last (xs := dpL m (ts.map fun r => r.2)) (by rw [dp_length]; omega)
  rw [dp_length] at hat
  generalize hmost : (dpL m (ts.map fun r => r.2)).getD (2 ^ m - 1) 0 = most at hat
  (push_cast only [hl, hat])
  (simp only [a_laterH])
  (push_cast only [])
  refine ⟨by decide, fun z0 H2 n2 s2 e2 => ?_⟩
  have W2 := W.same (s1.trans s2)
  have wl : (ts.map fun t => t.2).length = ts.length := List.length_map _
  (simp only [a_laterH])
  (push_cast only [])
  refine ⟨by omega, by omega, fl_range (FB0 wt m most (ts.map fun t => t.2) H2) ⟨_, _, z0, [], rfl, fun _ _ h => h, e2, rfl, ?_⟩ ?_ ?_⟩
  ·rw [← hmost]
   exact fst_zero fun w hw => by obtain ⟨t, ht, rfl⟩ := List.mem_map.mp hw; exact (W.row t ht).2
  ·rintro i σ H3 hi ⟨v4, v5, dt, Pf, rfl, s3, ed, pl, FF⟩
   rw [Int.toNat_natCast] at hi
   have W3 := W2.same s3
   have hsw := sq_tup W3.at'
   (push_cast only [hsw])
   refine ⟨by decide, by decide, by omega, by omega, fun d nd => ?_⟩
   have hn : ((ts.length : Int) - -1).toNat = ts.length + 1 := by omega
   rw [hn]
   refine cl_range (FB1 wt dt d m Pf (ts.map fun t => t.2) H3) ⟨none, rfl, SameX.upd, upd_same⟩ ?_ ?_
   ·rintro x σ H4 hx ⟨v, rfl, s4, e4⟩
    have ed4 := s4 _ _ (ne_of_none ed nd) ed
    (push_cast only [])
    refine ⟨by decide, fun z1 H5 n5 s5 e5 => ?_⟩
    have ed5 := s5 _ _ ed4
    (push_cast only [ed5, e5])
    refine ⟨Nat.le_of_lt (small1000 (by omega)), fun z2 H6 s6 e6 => ?_⟩
    have e46 := s6 _ _ (s5 _ _ e4)
    have e6' : H6 z2 = some (.tup ((Pf ++ [(x : Int) - 1]).map V.int)) := by
     rw [e6, List.map_append, show (-1 : Int) + (x : Int) = (x : Int) - 1 by omega]
     rfl
    have K6 : ∀ {b : Addr} {L : List V}, H3 b = some (.tup L) → H6 b = some (.tup L) := fun h => s6 _ _ (s5 _ _ (s4 _ _ (ne_of_none h nd) h))
    refine ⟨wt, z2, m, _, ts, rfl, ⟨K6 W3.at', few, fun t ht => ⟨K6 (W3.row t ht).1, (W3.row t ht).2⟩⟩, e6', m5, by simp; omega, fun H7 s7 => ?_⟩
    have e47 := s7 _ _ e46
    (push_cast only [e47])
    refine ⟨small1000 (by simp; omega), ⟨_, rfl, (s4.trans ((s5.trans s6).trans s7).x).trans SameX.upd, ?_⟩⟩
    rw [upd_same, List.range_succ, List.map_append, List.map_append, List.length_append]
    rfl
   ·rintro σ H4 ⟨v, rfl, s4, e4⟩
    have ed4 := s4 _ _ (ne_of_none ed nd) ed
    rw [← hmost] at FF
    obtain ⟨x, x1, x2, hx⟩ := fst_some m5 FF (by omega)
    rw [wl] at x2
    obtain ⟨xn, hxn⟩ := Int.eq_ofNat_of_zero_le (show 0 ≤ x + 1 by omega)
    obtain ⟨rv, hrv⟩ : ∃ rv, rv = (List.range (ts.length + 1)).map fun x : Nat => reachV (ts.map fun t => t.2) (Pf ++ [(x : Int) - 1]) (m - (Pf.length + 1)) := ⟨_, rfl⟩
    rw [← hrv] at e4
    have rl : rv.length = ts.length + 1 := by rw [hrv]; simp
    have rat : ∀ k, k < ts.length + 1 → rv[k]? = some (reachV (ts.map fun t => t.2) (Pf ++ [(k : Int) - 1]) (m - (Pf.length + 1))) := fun k hk => by rw [hrv, List.getElem?_map, List.getElem?_range hk]; rfl
    have mem : most ∈ rv := by
     refine List.mem_of_getElem? (i := xn) ?_
     rw [rat xn (by omega), show (xn : Int) - 1 = x by omega, hx, hmost]
    have S4 := s4.same nd
    (simp only [a_laterH])
    (push_cast only [e4])
    refine ⟨rv, rfl, mem, by decide, fun z1 H5 n5 s5 e5 => ?_⟩
    have ed5 := s5 _ _ ed4
    (push_cast only [ed5, e5])
    refine ⟨Nat.le_of_lt (small1000 (by omega)), fun z2 H6 s6 e6 => ?_⟩
    have jlt : rv.idxOf most < rv.length := List.idxOf_lt_length_of_mem mem
    have jat := rat (rv.idxOf most) (by omega)
    have jv : rv[rv.idxOf most]? = some most := by rw [List.getElem?_eq_getElem jlt, List.getElem_idxOf jlt]
    rw [jv] at jat
    refine ⟨_, _, z2, Pf ++ [((rv.idxOf most : Nat) : Int) - 1], rfl, (s3.trans S4).trans (s5.trans s6), by rw [e6, List.map_append]; rfl, by simp; omega, ?_⟩
    have FS := fst_step (x := ((rv.idxOf most : Nat) : Int) - 1) m5 FF (by omega) (by omega) (by rw [wl]; omega) (by rw [hmost]; exact (Option.some.inj jat).symm) (fun y y1 y2 hy => ?_)
    ·rw [hmost] at FS
     exact FS
    obtain ⟨yn, hyn⟩ := Int.eq_ofNat_of_zero_le (show 0 ≤ y + 1 by omega)
    have lt : yn < rv.idxOf most := by omega
    have nm : rv.getD yn 0 ≠ most := idx_before lt (by omega)
    apply nm
    rw [List.getD_eq_getElem?_getD, rat yn (by omega), show (yn : Int) - 1 = y by omega, hy, hmost]
    rfl
  ·rintro σ H3 ⟨v4, v5, dt, Pf, rfl, s3, ed, pl, FF⟩
   rw [Int.toNat_natCast] at pl
   (simp only [a_laterH])
   (push_cast only [])
   rw [← hmost] at FF
   exact q _ _ _ ((s1.trans s2).trans s3) ed pl FF
end
end K73
end
section
set_option Elab.async false
set_option linter.all false
set_option maxRecDepth 100000
set_option maxHeartbeats 8000000
namespace K73
open PySem L2
section
variable {P : Program} {w : World} {K : PySem.W.Frag} {mg : Str → Option Value} {base : Heap} {f : Addr} {fd : FuncData}
theorem way2 {c : Prop} [Decidable c] {A : Prop} {L : St → Hp → Prop} {σ : St} {G : Hp} (Pd : St → Hp → Prop) (h0 : Pd σ G) (hA : c → (∀ σ H, Pd σ H → L σ H) → A) (hL : ∀ σ H, Pd σ H → L σ H) : if c then A else L σ G := by
 split
 ·exact hA (by assumption) hL
 ·exact hL _ _ h0
theorem way2n {c : Prop} [Decidable c] {A : Prop} {L : St → Hp → Prop} {σ : St} {G : Hp} (Pd : St → Hp → Prop) (h0 : ¬ c → Pd σ G) (hA : c → (∀ σ H, Pd σ H → L σ H) → A) (hL : ∀ σ H, Pd σ H → L σ H) : if c then A else L σ G := by
 split
 ·exact hA (by assumption) hL
 ·exact hL _ _ (h0 (by assumption))
noncomputable def WB (H : Hp) (wt : Addr) (ts : List (Addr × List Int)) (m : Nat) : Prop := H wt = some (.tup (ts.map fun t => V.ref t.1)) ∧ ∀ t ∈ ts, H t.1 = some (.tup (t.2.map V.int)) ∧ t.2.length = 2 ^ m ∧ (∀ x ∈ t.2, 0 ≤ x ∧ x ≤ 50000) ∧ t.2.getD 0 0 = 0
structure BestF (ts : List (Addr × List Int)) (m : Nat) (most : Int) (bs : List (Addr × List Int)) (fs : List Int) : Prop where
 ne : bs ≠ []
 few : bs.length ≤ 7776
 all : ∀ b ∈ bs, Deal m ts.length b.2 ∧ SD ts b.2 = most
 top : most = (dpL m (ts.map fun t => t.2)).getD (2 ^ m - 1) 0
 len : fs.length = ts.length
 less : ∀ k, k < ts.length → fs.getD k 0 = (dpL m ((ts.map fun t => t.2).eraseIdx k)).getD (2 ^ m - 1) 0
noncomputable def sp_lbest : Sp := fun vs H Q _ => ∃ (wt : Addr) (m : Nat) (ts : List (Addr × List Int)), vs = [.ref wt, .int (m : Int)] ∧ WB H wt ts m ∧ 1 ≤ ts.length ∧ ts.length ≤ 5 ∧ m ≤ 5 ∧ ∀ (t so fo : Addr) (most : Int) (bs : List (Addr × List Int)) (fs : List Int) (H' : Hp), H fo = none → Same H H' → H' t = some (.tup [.ref so, .int most, .ref fo]) → H' so = some (.lst (bs.map fun b => V.ref b.1)) → H' fo = some (.lst (fs.map V.int)) → Rows H' bs → BestF ts m most bs fs → Q (.ref t) H'
structure BA (ts rs : List (Addr × List Int)) (i : Nat) (most : Int) (bs : List (Addr × List Int)) : Prop where
 le : ∀ j r, j < i → rs[j]? = some r → SD ts r.2 ≤ most
 mem : ∀ b ∈ bs, b ∈ rs ∧ SD ts b.2 = most
 ne : 0 < i → bs ≠ []
 nil : bs = [] → most = -1
 lo : -1 ≤ most
 few : bs.length ≤ i
structure BN (ts rs : List (Addr × List Int)) (i : Nat) (fs : List Int) : Prop where
 len : fs.length = ts.length
 le : ∀ k, k < ts.length → ∀ j r, j < i → rs[j]? = some r → (k : Int) ∉ r.2 → SD ts r.2 ≤ fs.getD k 0
 ex : ∀ k, k < ts.length → 0 ≤ fs.getD k 0 ∧ (fs.getD k 0 = 0 ∨ ∃ j r, j < i ∧ rs[j]? = some r ∧ (k : Int) ∉ r.2 ∧ fs.getD k 0 = SD ts r.2)
noncomputable def LB0 (wt so0 fo l : Addr) (m : Nat) (ts rs : List (Addr × List Int)) (G : Hp) (i : Nat) (σ : St) (H : Hp) : Prop := ∃ (v5 v6 v7 : Option V) (so : Addr) (most : Int) (bs : List (Addr × List Int)) (fs : List Int), σ = [some (.ref wt), some (.int (m : Int)), some (.ref so), some (.int most), some (.ref fo), v5, v6, v7] ∧ (so = so0 ∨ G so = none) ∧ so ≠ fo ∧ (∃ o, H so0 = some o) ∧ (∀ b o, b ≠ so0 → b ≠ fo → G b = some o → H b = some o) ∧ H so = some (.lst (bs.map fun b => V.ref b.1)) ∧ H fo = some (.lst (fs.map V.int)) ∧ BA ts rs i most bs ∧ BN ts rs i fs
noncomputable def LB1 (wt so fo d : Addr) (m : Nat) (most wr : Int) (ts : List (Addr × List Int)) (ds fs : List Int) (G : Hp) (i : Nat) (σ : St) (H : Hp) : Prop := ∃ (v7 : Option V) (gs : List Int), σ = [some (.ref wt), some (.int (m : Int)), some (.ref so), some (.int most), some (.ref fo), some (.ref d), some (.int wr), v7] ∧ SameX fo G H ∧ H fo = some (.lst (gs.map V.int)) ∧ gs.length = fs.length ∧ ∀ k, k < fs.length → gs.getD k 0 = if k < i ∧ (k : Int) ∉ ds then (if fs.getD k 0 < wr then wr else fs.getD k 0) else fs.getD k 0
theorem row_at (ts : List (Addr × List Int)) (k : Nat) : (ts.map fun t => t.2).getD k [] = match ts[k]? with | some t => t.2 | none => [] := by
 rw [List.getD_eq_getElem?_getD, List.getElem?_map]
 cases ts[k]? <;> rfl
theorem SD_nonneg {ts : List (Addr × List Int)} {m : Nat} (hb : ∀ t ∈ ts, t.2.length = 2 ^ m ∧ ∀ x ∈ t.2, 0 ≤ x ∧ x ≤ (50000 : Int)) (ds : List Int) : 0 ≤ SD ts ds := by
 rw [SD_wsum]
 have : ∀ k, 0 ≤ wsum (ts.map fun t => t.2) ds k := by
  intro k
  induction k with
  | zero => exact Int.le_refl _
  | succ k ih =>
   rw [wsum_succ]
   have : 0 ≤ ((ts.map fun t => t.2).getD k []).getD (hos ds (k : Int) ds.length) 0 := by
    rw [row_at]
    cases e : ts[k]? with
    | none => exact Int.le_refl _
    | some t =>
     show 0 ≤ t.2.getD _ 0
     rw [List.getD_eq_getElem?_getD]
     cases e' : t.2[hos ds (k : Int) ds.length]? with
     | none => exact Int.le_refl _
     | some x => exact ((hb t (List.mem_of_getElem? e)).2 x (List.mem_of_getElem? e')).1
   omega
 exact this _
theorem SD_left {ts : List (Addr × List Int)} (hz : ∀ t ∈ ts, t.2.getD 0 0 = 0) (m : Nat) : SD ts (List.replicate m (-1)) = 0 := by
 rw [SD_wsum]
 have : ∀ k, wsum (ts.map fun t => t.2) (List.replicate m (-1)) k = 0 := by
  intro k
  induction k with
  | zero => rfl
  | succ k ih =>
   rw [wsum_succ, ih, hos_zero _ _ _ fun t ht => by
    rw [List.length_replicate] at ht
    simp [List.getD_eq_getElem?_getD, ht]]
   rw [row_at]
   cases e : ts[k]? with
   | none => rfl
   | some t =>
    show (0 : Int) + t.2.getD 0 0 = 0
    rw [hz t (List.mem_of_getElem? e)]
    rfl
 exact this _
theorem best_end {ts rs : List (Addr × List Int)} {m : Nat} {most : Int} {bs : List (Addr × List Int)} {fs : List Int} (m5 : m ≤ 5) (t5 : ts.length ≤ 5) (hz : ∀ t ∈ ts, t.2.getD 0 0 = 0) (re : (rs.map fun r => r.2) = dealsL ts.length m) (A : BA ts rs rs.length most bs) (N : BN ts rs rs.length fs) : BestF ts m most bs fs := by
 have rl : rs.length = (dealsL ts.length m).length := by rw [← re, List.length_map]
 have r1 : rs.length ≤ 7776 := by rw [rl]; exact deals_few t5 m5
 have r0 : 0 < rs.length := by rw [rl, deals_len]; exact Nat.pow_pos (by omega)
 have mem : ∀ d, d ∈ dealsL ts.length m → ∃ (j : Nat) (r : Addr × List Int), j < rs.length ∧ rs[j]? = some r ∧ r.2 = d := fun d hd => by
  rw [← re] at hd
  obtain ⟨r, hr, e⟩ := List.mem_map.mp hd
  obtain ⟨j, hj⟩ := List.mem_iff_getElem?.mp hr
  exact ⟨j, r, (List.getElem?_eq_some_iff.mp hj).1, hj, e⟩
 have inn : ∀ r ∈ rs, r.2 ∈ dealsL ts.length m := fun r hr => by rw [← re]; exact List.mem_map.mpr ⟨r, hr, rfl⟩
 have al : ∀ d, d ∈ dealsL ts.length m → SD ts d ≤ most := fun d hd => by
  obtain ⟨j, r, h1, h2, rfl⟩ := mem d hd
  exact A.le j r h1 h2
 refine ⟨A.ne r0, Nat.le_trans A.few r1, fun b hb => ⟨deals_mem.mp (inn b (A.mem b hb).1), (A.mem b hb).2⟩, ?_, N.len, fun k hk => ?_⟩
 ·obtain ⟨b, hb⟩ := List.exists_mem_of_ne_nil _ (A.ne r0)
  have h1 := inn b (A.mem b hb).1
  have g := top_ge m5 (wss := ts.map fun t => t.2) (d := b.2) (by rw [List.length_map]; exact deals_mem.mp h1)
  obtain ⟨d, hd, e⟩ := top_ex m5 (ts.map fun t => t.2)
  rw [List.length_map] at hd e g
  rw [← SD_wsum] at e g
  rw [(A.mem b hb).2] at g
  have := al d (deals_mem.mpr hd)
  omega
 ·obtain ⟨f0, fe⟩ := N.ex k hk
  refine (dp_without m5 ts hk hz ?_ fun d hd hn => ?_).symm
  ·rcases fe with e | ⟨j, r, h1, h2, h3, h4⟩
   ·refine ⟨List.replicate m (-1), deals_mem.mpr ⟨List.length_replicate, fun x hx => by have := List.eq_of_mem_replicate hx; omega⟩, fun x hx => by have := List.eq_of_mem_replicate hx; omega, ?_⟩
    rw [SD_left hz, e]
   ·exact ⟨r.2, inn r (List.mem_of_getElem? h2), fun x hx z => h3 (z ▸ hx), h4⟩
  ·obtain ⟨j, r, h1, h2, rfl⟩ := mem d hd
   exact N.le k hk j r h1 h2 fun hx => hn _ hx rfl
theorem inV_int (x : Int) (xs : List Int) : inV (.int x) (xs.map V.int) = decide (x ∈ xs) := by
 unfold inV
 rw [Bool.eq_iff_iff, List.any_eq_true, decide_eq_true_eq]
 constructor
 ·rintro ⟨y, hy, e⟩
  obtain ⟨z, hz, rfl⟩ := List.mem_map.mp hy
  have : z = x := by simpa [eqV] using e
  exact this ▸ hz
 ·intro h
  exact ⟨.int x, List.mem_map.mpr ⟨x, h, rfl⟩, by simp [eqV]⟩
theorem all_flat (xs : List Int) : (xs.map V.int).all flatV = true := by
 rw [List.all_eq_true]
 intro y hy
 obtain ⟨n, _, rfl⟩ := List.mem_map.mp hy
 rfl
theorem live_upd {H : Hp} {a b : Addr} {x : HO} (h : ∃ o, H a = some o) : ∃ o, upd H b x a = some o := by
 by_cases e : a = b
 ·subst e
  exact ⟨_, upd_same⟩
 ·obtain ⟨o, ho⟩ := h
  exact ⟨o, by rw [upd_ne e]; exact ho⟩
theorem ixN_nat {n k : Nat} (h : k < n) : ixN n (k : Int) = some k := by
 unfold ixN
 rw [if_pos (by omega)]
 simp [h]
theorem sc__law_best : FnScope ["_law_wants", "_law_many", "_law_some", "_law_most_here", "_law_found", "_law_dealt", "_law_worth_here", "_law_hand"] ["_law_wants", "_law_many"] (defScope s__law_best) := ⟨rfl, rfl, rfl, by decide +kernel, rfl, by decide +kernel, by decide +kernel⟩
theorem ok_lbest (F : Fun K "_law_best" "_law_best" s__law_best f fd) (hm : mg "_law_best" = some (.ref f)) (hb : Binds K fd ["_law_wants", "_law_many"] []) (T : Txt mg) (c__law_dealings : Cal P w K mg base "_law_dealings" ["_law_many", "_law_few"] 1 sp_deals) (c__law_sum_dealt : Cal P w K mg base "_law_sum_dealt" ["_law_wants", "_law_dealt"] 2 sp_sum_dealt) : Cal P w K mg base "_law_best" ["_law_wants", "_law_many"] 3 sp_lbest := by
 refine cal_of F hm hb sc__law_best (fun vs H Q E h => ?_) (fun cdv A outer s H vs Q E hr h => ?_)
 ·obtain ⟨_, _, _, rfl, _⟩ := h; rfl
 ·obtain ⟨wt, m, ts, rfl, ⟨hwt, hrow⟩, t1, t5, m5, q⟩ := h
  have sc := sc__law_best
  refine ⟨_, pss_consL (ps_set (i := 2) sc.nd rfl (Or.inl rfl) (pe_lstA pa_nil))
   (pss_consL (ps_set (i := 3) sc.nd rfl (Or.inl rfl) (pe_un un_neg pe_int))
   (pss_consL (ps_set (i := 4) sc.nd rfl (Or.inl rfl) (pe_op repL0 (pe_lstA (pa_cns pe_int pa_nil)) (pe_callB len0 rfl T.len_ bt_len (pa_cns (pv 0) pa_nil))))
   (pss_consL (ps_for PassesOwn.never rfl (pi_l0 (pe_cal c__law_dealings hr (pa_cns (pv 1) (pa_cns (pe_callB len0 rfl T.len_ bt_len (pa_cns (pv 0) pa_nil)) pa_nil)))) (pg_name (i := 5) sc.nd rfl (Or.inl rfl))
    (pss_consL (ps_set (i := 6) sc.nd rfl (Or.inl rfl) (pe_cal c__law_sum_dealt hr (pa_cns (pv 0) (pa_cns (pv 5) pa_nil))))
   (pss_consL (ps_if (pt_cmpR op_gt (pv 6) (pv 3) (nomark _)) (pss_consL (ps_set (i := 2) sc.nd rfl (Or.inl rfl) (pe_lstA pa_nil))
   (pss_one (ps_set (i := 3) sc.nd rfl (Or.inl rfl) (pv 6)))) pss_nil)
   (pss_consL (ps_if (pt_cmpR op_eq (pv 6) (pv 3) (nomark _)) (pss_one (ps_expr (pe_append (pv 2) (pa_cns (pv 5) pa_nil)))) pss_nil)
   (pss_one (ps_for PassesOwn.never rfl (pi_range1 rfl T.range_ (pa_cns (pe_callB len0 rfl T.len_ bt_len (pa_cns (pv 0) pa_nil)) pa_nil)) (pg_name (i := 7) sc.nd rfl (Or.inl rfl))
    (pss_one (ps_if (pt_cmpR notin0 (pv 7) (pv 5) rfl) (pss_one (ps_asg (pe_callB (call_max2 rfl) rfl T.max_ bt_max (pa_cns (pe_ix ix0 (pv 4) (pv 7) (fun _ _ => rfl)) (pa_cns (pv 6) pa_nil))) (pg_sub (pv 4) (pv 7) set_list))) pss_nil))))))))
   (pss_one (ps_ret (pe_tupA (pa_cns (pv 2) (pa_cns (pv 3) (pa_cns (pv 4) pa_nil))))))))), ?_⟩
  rw [show L2.start ["_law_wants", "_law_many", "_law_some", "_law_most_here", "_law_found", "_law_dealt", "_law_worth_here", "_law_hand"] [.ref wt, .int (m : Int)] = [some (.ref wt), some (.int (m : Int)), none, none, none, none, none, none] from rfl]
  (push_cast only [])
  refine ⟨by decide, fun so0 H1 n1 s1 e1 => ?_⟩
  (simp only [a_laterH])
  (push_cast only [])
  (simp only [a_laterH])
  (push_cast only [])
  refine ⟨by decide, fun z0 H2 n2 s2 e2 => ?_⟩
  have hsw2 := sq_tup (s2 _ _ (s1 _ _ hwt))
  (push_cast only [hsw2, e2])
  refine ⟨ts.length, rfl, by omega, by simp; exact Nat.le_of_lt (small1000 (by omega)), fun fo H3 n3 s3 e3 => ?_⟩
  have e3' : H3 fo = some (.lst ((List.replicate ts.length (0 : Int)).map V.int)) := by
   rw [e3, rep_flat]
  have S3 := (s1.trans s2).trans s3
  have hsw3 := sq_tup (S3 _ _ hwt)
  (simp only [a_laterH])
  (push_cast only [hsw3])
  refine ⟨m, ts.length, rfl, m5, t5, fun l rs H4 s4 R4 re e4 => ?_⟩
  have S4 := S3.trans s4
  have so4 : H4 so0 = some (.lst []) := s4 _ _ (s3 _ _ (s2 _ _ e1))
  have fo4 := s4 _ _ e3'
  have nsf : so0 ≠ fo := ne_of_none (s2 _ _ e1) n3
  have hz : ∀ t ∈ ts, t.2.getD 0 0 = 0 := fun t ht => (hrow t ht).2.2.2
  have rl : rs.length ≤ 7776 := by
   have := congrArg List.length re
   rw [List.length_map] at this
   rw [this]
   exact deals_few t5 m5
  have len0 : ∀ r ∈ rs, Deal m ts.length r.2 := fun r hr' => deals_mem.mp (by rw [← re]; exact List.mem_map.mpr ⟨r, hr', rfl⟩)
  (push_cast only [e4])
  have nl1 : l ≠ fo := fun z => by
   rw [z, fo4] at e4
   have h := HO.lst.inj (Option.some.inj e4)
   obtain ⟨n, hn⟩ : ∃ n, ts.length = n + 1 := ⟨ts.length - 1, by omega⟩
   rw [hn] at h
   cases rs with
   | nil => simp [List.replicate_succ] at h
   | cons r rs => simp [List.replicate_succ] at h
  have nl0 : l ≠ so0 := fun z => by
   rw [z, so4] at e4
   have h := HO.lst.inj (Option.some.inj e4)
   cases rs with
   | nil =>
    have h1 := congrArg List.length re
    rw [deals_len] at h1
    have : 0 < (ts.length + 1) ^ m := Nat.pow_pos (by omega)
    simp at h1
    omega
   | cons r rs => cases h
  refine fl_seq (LB0 wt so0 fo l m ts rs H4) ⟨_, _, _, so0, -1, [], _, rfl, .inl rfl, nsf, ⟨_, so4⟩, fun b o _ _ e => e, so4, fo4, ⟨fun _ _ h => absurd h (Nat.not_lt_zero _), fun _ h => absurd h (by simp), fun h => absurd h (Nat.lt_irrefl _), fun _ => rfl, Int.le_refl _, Nat.le_refl _⟩, ⟨List.length_replicate, fun _ _ _ _ h => absurd h (Nat.not_lt_zero _), fun k hk => ?_⟩⟩ (fun i σ H' _ ⟨_, _, _, _, _, _, _, _, _, _, _, k, _⟩ => k _ _ nl0 nl1 e4) ?_ ?_
  ·have : (List.replicate ts.length (0 : Int)).getD k 0 = 0 := by simp [List.getD_eq_getElem?_getD, hk]
   exact ⟨by omega, .inl this⟩
  ·rintro i x σ H5 hx ⟨v5, v6, v7, so, most, bs, fs, rfl, hso, nso, ⟨o5, so5⟩, k5, es5, ef5, BA5, BN5⟩
   rw [List.getElem?_map] at hx
   obtain ⟨r, hr', rfl⟩ := Option.map_eq_some_iff.mp hx
   have hi : i < rs.length := (List.getElem?_eq_some_iff.mp hr').1
   have hrm := List.mem_of_getElem? hr'
   have ner : ∀ {b : Addr} {L : List V}, H4 b = some (.tup L) → b ≠ so0 ∧ b ≠ fo := fun h => ⟨fun z => (by rw [z, so4] at h; cases h), fun z => (by rw [z, fo4] at h; cases h)⟩
   have keep : ∀ {b : Addr} {L : List V}, H4 b = some (.tup L) → H5 b = some (.tup L) := fun h => k5 _ _ (ner h).1 (ner h).2 h
   have er5 := keep (R4 r hrm)
   have dl := (len0 r hrm).1
   (push_cast only [])
   refine ⟨wt, r.1, m, ts, r.2, rfl, keep (S4 _ _ hwt), t5, m5, fun t ht => ⟨keep (S4 _ _ (hrow t ht).1), (hrow t ht).2.1, (hrow t ht).2.2.1⟩, er5, dl, fun H6 s6 => ?_⟩
   have es6 := s6 _ _ es5
   have ef6 := s6 _ _ ef5
   have er6 := s6 _ _ er5
   rw [show (sumK ts r.2 ts.length).sum = SD ts r.2 from rfl]
   have w0 := SD_nonneg (m := m) (fun t ht => ⟨(hrow t ht).2.1, (hrow t ht).2.2.1⟩) r.2
   generalize hw : SD ts r.2 = wr at w0
   have k6 : ∀ b o, b ≠ so0 → b ≠ fo → H4 b = some o → H6 b = some o := fun b o h1 h2 h => s6 _ _ (k5 b o h1 h2 h)
   (push_cast only [])
   (simp only [a_laterH])
   (push_cast only [])
   refine way2n (fun σ H' => ∃ (so : Addr) (most : Int) (bs : List (Addr × List Int)), σ = [some (V.ref wt), some (V.int (m : Int)), some (V.ref so), some (V.int most), some (V.ref fo), some (V.ref r.1), some (V.int wr), v7] ∧ (so = so0 ∨ H4 so = none) ∧ so ≠ fo ∧ (∃ o, H' so0 = some o) ∧ (∀ b o, b ≠ so0 → b ≠ fo → H4 b = some o → H' b = some o) ∧ H' so = some (.lst (bs.map fun b => V.ref b.1)) ∧ H' fo = some (.lst (fs.map V.int)) ∧ wr ≤ most ∧ (∀ j r, j < i → rs[j]? = some r → SD ts r.2 ≤ most) ∧ (∀ b ∈ bs, b ∈ rs ∧ SD ts b.2 = most) ∧ (bs = [] → wr = most) ∧ bs.length ≤ i) (fun hc => ⟨so, most, bs, rfl, hso, nso, ⟨_, s6 _ _ so5⟩, k6, es6, ef6, by omega, BA5.le, BA5.mem, (fun z => by have := BA5.nil z; omega), BA5.few⟩) (fun hc hL => ⟨by decide, fun so' H7 n7 s7 e7 => ?_⟩) ?_
   ·(simp only [a_laterH])
    (push_cast only [])
    have n4 : H4 so' = none := by
     cases e : H4 so' with
     | none => rfl
     | some o =>
      by_cases z1 : so' = so0
      ·rw [z1, s6 _ _ so5] at n7; cases n7
      ·by_cases z2 : so' = fo
       ·rw [z2, ef6] at n7; cases n7
       ·rw [k6 _ _ z1 z2 e] at n7; cases n7
    exact hL _ _ ⟨so', wr, [], rfl, .inr n4, (fun z => by rw [z, ef6] at n7; cases n7), ⟨_, s7 _ _ (s6 _ _ so5)⟩, fun b o h1 h2 h => s7 _ _ (k6 b o h1 h2 h), e7, s7 _ _ ef6, Int.le_refl _, fun j r hj hr'' => by have := BA5.le j r hj hr''; omega, fun _ h => absurd h (by simp), fun _ => rfl, Nat.zero_le _⟩
   ·rintro σ H7 ⟨so, most, bs, rfl, hso, nso, ⟨o7, so7⟩, k7, es7, ef7, wm, ble, bme, bnil, bfew⟩
    (simp only [a_laterH])
    (push_cast only [])
    have step : ∀ b2 : List (Addr × List Int), (b2 = bs ∧ wr ≠ most ∨ b2 = bs ++ [r] ∧ wr = most) → BA ts rs (i + 1) most b2 := fun b2 h2 => by
     refine ⟨fun j r' hj hr'' => ?_, fun b hb' => ?_, fun _ z => ?_, fun z => ?_, by omega, ?_⟩
     ·by_cases e : j = i
      ·rw [e, hr'] at hr''
       cases hr''
       omega
      ·exact ble j r' (by omega) hr''
     ·rcases h2 with ⟨rfl, _⟩ | ⟨rfl, e⟩
      ·exact bme b hb'
      ·rcases List.mem_append.mp hb' with h | h
       ·exact bme b h
       ·have : b = r := by simpa using h
        subst this
        exact ⟨hrm, by omega⟩
     ·rcases h2 with ⟨rfl, e⟩ | ⟨rfl, _⟩
      ·exact e (bnil z)
      ·simp at z
     ·rcases h2 with ⟨rfl, e⟩ | ⟨rfl, _⟩
      ·exact absurd (bnil z) e
      ·simp at z
     ·rcases h2 with ⟨rfl, e⟩ | ⟨rfl, _⟩
      ·omega
      ·simp; omega
    refine way2n (fun σ H' => ∃ bs : List (Addr × List Int), σ = [some (V.ref wt), some (V.int (m : Int)), some (V.ref so), some (V.int most), some (V.ref fo), some (V.ref r.1), some (V.int wr), v7] ∧ (∃ o, H' so0 = some o) ∧ (∀ b o, b ≠ so0 → b ≠ fo → H4 b = some o → H' b = some o) ∧ H' so = some (.lst (bs.map fun b => V.ref b.1)) ∧ H' fo = some (.lst (fs.map V.int)) ∧ BA ts rs (i + 1) most bs) (fun hc => ⟨bs, rfl, ⟨_, so7⟩, k7, es7, ef7, step bs (.inl ⟨rfl, hc⟩)⟩) (fun hc hL => ?_) ?_
    ·(push_cast only [es7])
     refine ⟨small10000 (by omega), hL _ _ ⟨bs ++ [r], rfl, live_upd ⟨_, so7⟩, fun b o h1 h2 h => ?_, by rw [upd_same]; simp, by rw [upd_ne nso.symm]; exact ef7, step _ (.inr ⟨rfl, hc⟩)⟩⟩
     have nb : b ≠ so := fun z => by
      rcases hso with hs | hs
      ·exact h1 (z.trans hs)
      ·rw [z, hs] at h; cases h
     rw [upd_ne nb]
     exact k7 b o h1 h2 h
    ·rintro σ H8 ⟨bs, rfl, ⟨o8, so8⟩, k8, es8, ef8, BA8⟩
     have keep8 : ∀ {b : Addr} {L : List V}, H4 b = some (.tup L) → H8 b = some (.tup L) := fun h => k8 _ _ (ner h).1 (ner h).2 h
     have hwt8 := keep8 (S4 _ _ hwt)
     have er8 := keep8 (R4 r hrm)
     have hsw8 := sq_tup hwt8
     (simp only [a_laterH])
     (push_cast only [hsw8])
     refine ⟨by omega, by omega, fl_range (LB1 wt so fo r.1 m most wr ts r.2 fs H8) ⟨_, fs, rfl, SameX.refl, ef8, rfl, fun k hk => by rw [if_neg (fun z => absurd z.1 (Nat.not_lt_zero _))]⟩ ?_ ?_⟩
     ·rintro k σ H9 hk ⟨v7, gs, rfl, s9, ef9, gl, ga⟩
      rw [Int.toNat_natCast] at hk
      have hsr := sq_tup (s9 _ _ (fun z => by rw [z, ef8] at er8; cases er8) er8)
      (push_cast only [hsr])
      have fl := BN5.len
      refine ⟨rfl, all_flat r.2, ?_⟩
      rw [inV_int]
      have gk : ∀ y : Int, (gs.set k y).length = fs.length ∧ ∀ j, j < fs.length → (gs.set k y).getD j 0 = if j = k then y else gs.getD j 0 := fun y => ⟨by rw [List.length_set]; exact gl, fun j hj => by
       rw [List.getD_eq_getElem?_getD, List.getElem?_set]
       by_cases e : k = j
       ·subst e
        rw [if_pos rfl, if_pos (by omega), if_pos rfl]
        rfl
       ·rw [if_neg e, if_neg (fun z => e z.symm), List.getD_eq_getElem?_getD]⟩
      by_cases hin : (k : Int) ∈ r.2
      ·rw [decide_eq_true hin, if_neg (by decide)]
       refine ⟨_, gs, rfl, s9, ef9, gl, fun j hj => ?_⟩
       rw [ga j hj]
       by_cases e : j = k
       ·subst e
        rw [if_neg (fun z => z.2 hin), if_neg (fun z => z.2 hin)]
       ·by_cases e2 : j < k
        ·simp only [show (j < k) = True from eq_true e2, show (j < k + 1) = True from eq_true (by omega), true_and]
        ·rw [if_neg (fun z => e2 z.1), if_neg (fun z => e2 (by omega))]
      ·rw [decide_eq_false hin, if_pos (by decide)]
       have hsg := sq_lst ef9
       have hat := at_int (ns := gs) (n := k) (by omega)
       refine ⟨_, hsg, _, hat, _, rfl, _, ef9, k, by rw [List.length_map]; exact ixN_nat (by omega), ?_⟩
       obtain ⟨g1, g2⟩ := gk (if wr > gs.getD k 0 then wr else gs.getD k 0)
       refine ⟨_, gs.set k (if wr > gs.getD k 0 then wr else gs.getD k 0), rfl, s9.trans SameX.upd, by rw [upd_same, List.map_set], g1, fun j hj => ?_⟩
       rw [g2 j hj]
       by_cases e : j = k
       ·subst e
        rw [if_pos rfl, ga j hj, if_neg (show ¬ (j < j ∧ (j : Int) ∉ r.2) from fun z => absurd z.1 (Nat.lt_irrefl _)), if_pos (show j < j + 1 ∧ (j : Int) ∉ r.2 from ⟨by omega, hin⟩)]
       ·rw [if_neg e, ga j hj]
        by_cases e2 : j < k
        ·simp only [show (j < k) = True from eq_true e2, show (j < k + 1) = True from eq_true (by omega), true_and]
        ·rw [if_neg (fun z => e2 z.1), if_neg (fun z => e2 (by omega))]
     ·rintro σ H9 ⟨v7, gs, rfl, s9, ef9, gl, ga⟩
      rw [Int.toNat_natCast] at ga
      refine ⟨_, _, _, so, most, bs, gs, rfl, hso, nso, ⟨_, s9 _ _ nsf so8⟩, fun b o h1 h2 h => s9 _ _ h2 (k8 b o h1 h2 h), s9 _ _ nso es8, ef9, BA8, ?_⟩
      have fl := BN5.len
      refine ⟨by omega, fun k hk j r' hj hr'' hn => ?_, fun k hk => ?_⟩
      ·rw [ga k (by omega)]
       by_cases e : j = i
       ·rw [e, hr'] at hr''
        cases hr''
        rw [if_pos ⟨hk, hn⟩, hw]
        split <;> omega
       ·have := BN5.le k hk j r' (by omega) hr'' hn
        split
        ·split <;> omega
        ·exact this
      ·obtain ⟨f0, fe⟩ := BN5.ex k hk
       rw [ga k (by omega)]
       have old : 0 ≤ fs.getD k 0 ∧ (fs.getD k 0 = 0 ∨ ∃ j r, j < i + 1 ∧ rs[j]? = some r ∧ (k : Int) ∉ r.2 ∧ fs.getD k 0 = SD ts r.2) := ⟨f0, by
        rcases fe with e | ⟨j, r', h1, h2, h3, h4⟩
        ·exact .inl e
        ·exact .inr ⟨j, r', by omega, h2, h3, h4⟩⟩
       split
       ·rename_i hc
        split
        ·exact ⟨w0, .inr ⟨i, r, by omega, hr', hc.2, hw.symm⟩⟩
        ·exact old
       ·exact old
  ·rintro σ H5 ⟨v5, v6, v7, so, most, bs, fs, rfl, hso, nso, ⟨o5, so5⟩, k5, es5, ef5, BA5, BN5⟩
   rw [List.length_map] at BA5 BN5
   (simp only [a_laterH])
   (push_cast only [])
   refine ⟨by decide, fun t H6 n6 s6 e6 => ?_⟩
   have S5 : Same H H5 := fun b o e => k5 _ _ (ne_of_none e n1) (ne_of_none (s2 _ _ (s1 _ _ e)) n3) (S4 _ _ e)
   refine q t so fo most bs fs H6 (by cases e : H fo with | none => rfl | some o => rw [s2 _ _ (s1 _ _ e)] at n3; cases n3) (S5.trans s6) e6 (s6 _ _ es5) (s6 _ _ ef5) (fun b hb' => ?_) (best_end m5 t5 hz re BA5 BN5)
   have h4 := R4 b (BA5.mem b hb').1
   exact s6 _ _ (k5 _ _ (fun z => by rw [z, so4] at h4; cases h4) (fun z => by rw [z, fo4] at h4; cases h4) h4)
end
end K73
end
section
set_option Elab.async false
set_option linter.all false
set_option maxRecDepth 100000
set_option maxHeartbeats 8000000
namespace K73
open PySem L2
section
variable {P : Program} {w : World} {K : PySem.W.Frag} {mg : Str → Option Value} {base : Heap} {f : Addr} {fd : FuncData}
noncomputable def sp_gtown : Sp := fun vs H Q _ => ∃ p : Addr, vs = [.ref p] ∧ Box H p ∧ ∀ (t sd wt : Addr) (ss : List Int) (ts : List (Addr × List Int)) (H' : Hp), Box H' p → SameX p H H' → Town 20000 H' t sd wt 5 ss ts → Q (.ref t) H'
noncomputable def GT (p c sd : Addr) (most : Int) (G : Hp) (i : Nat) (σ : St) (H : Hp) : Prop := ∃ (v4 v5 : Option V) (ts : List (Addr × List Int)), σ = [some (.ref p), some (.int most), some (.ref sd), some (.ref c), v4, v5] ∧ ts.length = i ∧ (∀ t ∈ ts, H t.1 = some (.tup (t.2.map V.int)) ∧ t.2.length = 2 ^ 5 ∧ (∀ x ∈ t.2, 0 ≤ x ∧ x ≤ 20000) ∧ t.2.getD 0 0 = 0) ∧ Box H p ∧ (∀ b o, b ≠ p → b ≠ c → G b = some o → H b = some o) ∧ H c = some (.lst (ts.map fun t => V.ref t.1))
theorem sc__law_great_town : FnScope ["_law_left_here", "_law_most_here", "_law_sides_here", "_law_wants", "_law_hand", "_law_want"] ["_law_left_here"] (defScope s__law_great_town) := ⟨rfl, rfl, rfl, by decide +kernel, rfl, by decide +kernel, by decide +kernel⟩
theorem ok_gtown (F : Fun K "_law_great_town" "_law_great_town" s__law_great_town f fd) (hm : mg "_law_great_town" = some (.ref f)) (hb : Binds K fd ["_law_left_here"] []) (T : Txt mg) (c__law_pick : Cal P w K mg base "_law_pick" ["_law_left_here", "_law_many"] 1 spTake) (c__law_sides : Cal P w K mg base "_law_sides" ["_law_left_here", "_law_many"] 2 sp_sides) (c__law_sided : Cal P w K mg base "_law_sided" ["_law_left_here", "_law_sides_here", "_law_most_here"] 4 (sp_tw aS 20000)) (c__law_any_want : Cal P w K mg base "_law_any_want" ["_law_left_here", "_law_many", "_law_most_here"] 3 (sp_tw aM 10000)) : Cal P w K mg base "_law_great_town" ["_law_left_here"] 5 sp_gtown := by
 refine cal_of F hm hb sc__law_great_town (fun vs H Q E h => ?_) (fun cdv A outer s H vs Q E hr h => ?_)
 ·obtain ⟨_, rfl, _⟩ := h; rfl
 ·obtain ⟨p, rfl, bx, q⟩ := h
  have sc := sc__law_great_town
  refine ⟨_, pss_consL (ps_set (i := 1) sc.nd rfl (Or.inl rfl) (pe_ix ix0 (pe_lstA (pa_cns pe_int (pa_cns pe_int (pa_cns pe_int pa_nil)))) (pe_cal c__law_pick hr (pa_cns (pv 0) (pa_cns pe_int pa_nil))) (fun _ _ => rfl)))
   (pss_consL (ps_set (i := 2) sc.nd rfl (Or.inl rfl) (pe_cal c__law_sides hr (pa_cns (pv 0) (pa_cns pe_int pa_nil))))
   (pss_consL (ps_set (i := 3) sc.nd rfl (Or.inl rfl) (pe_lstA pa_nil))
   (pss_consL (ps_for PassesOwn.never rfl (pi_range1 rfl T.range_ (pa_cns (pe_op op_add pe_int (pe_cal c__law_pick hr (pa_cns (pv 0) (pa_cns pe_int pa_nil)))) pa_nil)) (pg_name (i := 4) sc.nd rfl (Or.inl rfl))
    (pss_consL (ps_set (i := 5) sc.nd rfl (Or.inl rfl) (pe_cal c__law_sided hr (pa_cns (pv 0) (pa_cns (pv 2) (pa_cns (pv 1) pa_nil)))))
   (pss_consL (ps_if (pt_cmpR op_eq (pe_cal c__law_pick hr (pa_cns (pv 0) (pa_cns pe_int pa_nil))) pe_int (nomark _)) (pss_one (ps_set (i := 5) sc.nd rfl (Or.inl rfl) (pe_cal c__law_any_want hr (pa_cns (pv 0) (pa_cns pe_int (pa_cns (pv 1) pa_nil)))))) pss_nil)
   (pss_one (ps_expr (pe_append (pv 3) (pa_cns (pv 5) pa_nil)))))))
   (pss_one (ps_ret (pe_tupA (pa_cns (pv 2) (pa_cns (pe_callTy tupA0 rfl T.tuple_ bt_tuple (pa_cns (pv 3) pa_nil)) pa_nil)))))))), ?_⟩
  rw [show L2.start ["_law_left_here", "_law_most_here", "_law_sides_here", "_law_wants", "_law_hand", "_law_want"] [.ref p] = [some (.ref p), none, none, none, none, none] from rfl]
  (push_cast only [])
  refine ⟨by decide, fun l H1 n1 s1 e1 => ?_⟩
  refine ⟨p, 3, rfl, bx.same s1, by decide, by decide, fun r2 H2 a2 b2 bx2 bt2 => ?_⟩
  have hs2 := (bt2.sq (bx.ne n1).symm).trans (sq_lst e1)
  obtain ⟨most, hx, x0, x1⟩ := pick3 (P := fun x => 0 ≤ x ∧ x ≤ 90) a2 b2 (a := 4) (b := 12) (c := 30) ⟨by omega, by omega⟩ ⟨by omega, by omega⟩ ⟨by omega, by omega⟩
  have sx2 : SameX p H H2 := s1.x.trans bt2.x
  (push_cast only [hs2, hx])
  (simp only [a_laterH])
  (push_cast only [])
  refine ⟨p, 5, rfl, bx2, by decide, by decide, fun sd ss H3 hsl h01 bx3 s3 e3 => ?_⟩
  (push_cast only [])
  (simp only [a_laterH])
  (push_cast only [])
  refine ⟨by decide, fun c H4 nc s4 e4 => ?_⟩
  have ncp : p ≠ c := bx3.ne nc
  have bx4 := bx3.same s4
  have e3' := s4 _ _ e3
  have nsp := box_net bx4 e3'
  have nsc : sd ≠ c := ne_of_none e3 nc
  (simp only [a_laterH])
  (push_cast only [])
  refine ⟨p, 2, rfl, bx4, by decide, by decide, fun n H5 n50 n51 bx5 bt5 => ?_⟩
  have e45 := bt5.x _ _ ncp.symm e4
  have e35 := bt5.x _ _ nsp e3'
  (push_cast only [])
  refine ⟨by omega, by omega, fl_range (GT p c sd most H5) ⟨_, _, [], rfl, rfl, (fun t ht => by simp at ht), bx5, fun b o _ _ e => e, e45⟩ ?_ ?_⟩
  ·rintro i σ H6 hi ⟨v4, v5, ts, rfl, htl, hbd, bx6, k6, e6⟩
   subst htl
   have e36 := k6 _ _ nsp nsc e35
   (push_cast only [])
   refine ⟨p, 5, ⟨most, sd, ss, rfl, e36, hsl, h01, x0, x1⟩, bx6, by decide, by decide, fun t ws H7 nt hwl hwz hwb bx7 s7 e7 => ?_⟩
   (push_cast only [])
   (simp only [a_laterH])
   (push_cast only [])
   refine ⟨p, 2, rfl, bx7, by decide, by decide, fun r8 H8 a8 b8 bx8 bt8 => ?_⟩
   have e78 := bt8.x _ _ (box_net bx7 e7) e7
   (push_cast only [])
   refine way2 (fun σ H' => ∃ (u : Addr) (us : List Int), σ = [some (V.ref p), some (V.int most), some (V.ref sd), some (V.ref c), some (V.int (ts.length : Int)), some (V.ref u)] ∧ us.length = 2 ^ 5 ∧ us.getD 0 0 = 0 ∧ (∀ x ∈ us, 0 ≤ x ∧ x ≤ 20000) ∧ Box H' p ∧ SameX p H6 H' ∧ H' u = some (.tup (us.map V.int))) ⟨t, ws, rfl, hwl, hwz, hwb, bx8, s7.trans bt8.x, e78⟩ (fun _ hL => ?_) ?_
   ·refine ⟨p, 5, ⟨most, rfl, x0, x1⟩, bx8, by decide, by decide, fun u us H9 nu hul huz hub bx9 s9 e9 => ?_⟩
    (push_cast only [])
    exact hL _ _ ⟨u, us, rfl, hul, huz, (fun x hx => by have := hub x hx; omega), bx9, (s7.trans bt8.x).trans s9, e9⟩
   ·rintro σ H9 ⟨u, us, rfl, hul, huz, hub, bx9, s9, e9⟩
    have e69 := s9 _ _ ncp.symm e6
    (simp only [a_laterH])
    (push_cast only [e69])
    exact ⟨small1000 (by omega), ⟨_, _, ts ++ [(u, us)], rfl, by simp, row_more bx6 e6 e69 hbd s9 e9 hul hub huz, bx9.upd ncp, fun b o b1 b2 e => by rw [upd_ne b2]; exact s9 _ _ b1 (k6 b o b1 b2 e), by rw [upd_same]; simp⟩⟩
  ·rintro σ H6 ⟨v4, v5, ts, rfl, htl, hbd, bx6, k6, e6⟩
   (simp only [a_laterH])
   (push_cast only [e6])
   intro wt H7 nwt s7 e7
   refine ⟨by decide, fun t H8 nt s8 e8 => ?_⟩
   have sx6 : SameX p H H6 := fun b o n' e => by
    have y3 := s3 _ _ n' (sx2 _ _ n' e)
    exact k6 b o n' (ne_of_none y3 nc) (bt5.x _ _ n' (s4 _ _ y3))
   have s78 := s7.trans s8
   exact q t sd wt ss ts H8 (bx6.same s78) (sx6.trans s78.x) ⟨e8, s78 _ _ (k6 _ _ nsp nsc e35), s8 _ _ e7, by decide, by decide, hsl, h01, by omega, by omega, fun t' ht' => ⟨s78 _ _ (hbd t' ht').1, (hbd t' ht').2⟩⟩
noncomputable def sp_gright : Sp := fun vs H Q _ => ∃ (t sd wt : Addr) (ss : List Int) (ts : List (Addr × List Int)), vs = [.ref t] ∧ Town 20000 H t sd wt 5 ss ts ∧ ∀ H', Same H H' → Q (.bl true) H'
noncomputable def GRI (t wt dt du : Addr) (most : Int) (ts : List (Addr × List Int)) (ds : List Int) (G : Hp) (i : Nat) (σ : St) (H : Hp) : Prop := ∃ v5 v6 v7 : Option V, σ = [some (.ref t), some (.ref wt), some (.int most), some (.ref dt), some (.ref du), v5, v6, v7] ∧ Same G H ∧ H du = some (.lst ((paysL 5 ts ds i).map V.int))
theorem sc__law_great_right : FnScope ["_law_town_here", "_law_wants", "_law_most_here", "_law_dealt", "_law_due", "_law_hand", "_law_want", "_law_less"] ["_law_town_here"] (defScope s__law_great_right) := ⟨rfl, rfl, rfl, by decide +kernel, rfl, by decide +kernel, by decide +kernel⟩
theorem ok_gright (F : Fun K "_law_great_right" "_law_great_right" s__law_great_right f fd) (hm : mg "_law_great_right" = some (.ref f)) (hb : Binds K fd ["_law_town_here"] []) (T : Txt mg) (c__law_sums : Cal P w K mg base "_law_sums" ["_law_wants", "_law_size"] 2 sp_lsums) (c__law_first_by_sums : Cal P w K mg base "_law_first_by_sums" ["_law_wants", "_law_many"] 4 sp_fbs) (c__law_heap_of : Cal P w K mg base "_law_heap_of" ["_law_dealt", "_law_hand"] 1 sp_hos) (c_pays : Cal P w K mg base "pays" ["town", "dealing"] 9 sp_pays) (c__law_same : Cal P w K mg base "_law_same" ["_law_found", "_law_due"] 2 sp_same) : Cal P w K mg base "_law_great_right" ["_law_town_here"] 10 sp_gright := by
 refine cal_of F hm hb sc__law_great_right (fun vs H Q E h => ?_) (fun cdv A outer s H vs Q E hr h => ?_)
 ·obtain ⟨_, _, _, _, _, rfl, _⟩ := h; rfl
 ·obtain ⟨t, sd, wt, ss, ts, rfl, W, q⟩ := h
  have sc := sc__law_great_right
  refine ⟨_, pss_consL (ps_set (i := 1) sc.nd rfl (Or.inl rfl) (pe_ix ix0 (pv 0) pe_int (fun _ _ => rfl)))
   (pss_consL (ps_set (i := 2) sc.nd rfl (Or.inl rfl) (pe_ix ix0 (pe_cal c__law_sums hr (pa_cns (pv 1) (pa_cns pe_int pa_nil))) (pe_un un_neg pe_int) (fun _ _ => rfl)))
   (pss_consL (ps_set (i := 3) sc.nd rfl (Or.inl rfl) (pe_cal c__law_first_by_sums hr (pa_cns (pv 1) (pa_cns pe_int pa_nil))))
   (pss_consL (ps_set (i := 4) sc.nd rfl (Or.inl rfl) (pe_lstA pa_nil))
   (pss_consL (ps_for PassesOwn.never rfl (pi_enum rfl T.enumerate_ (pa_cns (pv 1) pa_nil)) (pg_tup0 (n := 2) rfl (pgs_cons (pg_name (i := 5) sc.nd rfl (Or.inl rfl)) (pgs_cons (pg_name (i := 6) sc.nd rfl (Or.inl rfl)) pgs_nil)))
    (pss_consL (ps_set (i := 7) sc.nd rfl (Or.inl rfl) (pe_ix ix0 (pe_cal c__law_sums hr (pa_cns (pe_op catA0 (pe_slice slA0 (pv 1) po_none (po_some (pv 5))) (pe_slice slA0 (pv 1) (po_some (pe_op op_add (pv 5) pe_int)) po_none)) (pa_cns pe_int pa_nil))) (pe_un un_neg pe_int) (fun _ _ => rfl)))
   (pss_one (ps_expr (pe_append (pv 4) (pa_cns (pe_op op_add (pe_op op_sub (pe_ix ix0 (pv 6) (pe_cal c__law_heap_of hr (pa_cns (pv 3) (pa_cns (pv 5) pa_nil))) (fun _ _ => rfl)) (pv 2)) (pv 7)) pa_nil))))))
   (pss_one (ps_ret (pe_cal c__law_same hr (pa_cns (pe_cal c_pays hr (pa_cns (pv 0) (pa_cns (pv 3) pa_nil))) (pa_cns (pe_callTy tupA0 rfl T.tuple_ bt_tuple (pa_cns (pv 4) pa_nil)) pa_nil))))))))), ?_⟩
  rw [show L2.start ["_law_town_here", "_law_wants", "_law_most_here", "_law_dealt", "_law_due", "_law_hand", "_law_want", "_law_less"] [.ref t] = [some (.ref t), none, none, none, none, none, none, none] from rfl]
  have hst := sq_tup W.at'
  have i1 : ∀ x y : V, atI [x, y] 1 = some y := fun _ _ => rfl
  have t5 := W.t5
  (push_cast only [hst, i1])
  (simp only [a_laterH])
  (push_cast only [])
  refine ⟨wt, 5, _, ts, rfl, by decide, .inl rfl, W.wt, ⟨W.t5, fun r hr => ⟨sq_tup (W.row r hr).1, (W.row r hr).2.1⟩⟩, fun l1 H1 s1 e1 => ?_⟩
  have hs1 := sq_lst e1
  have lst : ∀ wss : List (List Int), atI ((dpL 5 wss).map V.int) (-1) = some (V.int ((dpL 5 wss).getD (2 ^ 5 - 1) 0)) := fun wss => by
   have h := atI_last (xs := dpL 5 wss) (by rw [dp_length]; decide)
   rw [dp_length] at h
   exact h
  have l1' := lst (ts.map fun t => t.2)
  (push_cast only [hs1, l1'])
  (simp only [a_laterH])
  (push_cast only [])
  have W1 := W.same s1
  refine ⟨wt, 5, ts, rfl, ⟨W1.wt, W.t5, fun r hr => ⟨(W1.row r hr).1, (W1.row r hr).2.1⟩⟩, by decide, fun dt ds H2 s2 e2 dl fst => ?_⟩
  have W2 := W1.same s2
  (simp only [a_laterH])
  (push_cast only [])
  refine ⟨Nat.zero_le _, fun du H3 nd s3 e3 => ?_⟩
  have W3 := W2.same s3
  (simp only [a_laterH])
  (push_cast only [])
  refine ⟨_, _, .inr ⟨rfl, W3.wt⟩, fl_enum (GRI t wt dt du ((dpL 5 (ts.map fun t => t.2)).getD (2 ^ 5 - 1) 0) ts ds H2) ⟨_, _, _, rfl, s3, e3⟩ (fun i σ H4 ⟨_, _, _, _, s, _⟩ => .inr ⟨rfl, s _ _ W2.wt⟩) ?_ ?_⟩
  ·rintro i v T' σ H4 H5 hv ⟨v5, v6, v7, rfl, s4, e4⟩ nT s5 e5
   rw [List.getElem?_map] at hv
   obtain ⟨tt, htt, rfl⟩ := Option.map_eq_some_iff.mp hv
   have hi : i < ts.length := (List.getElem?_eq_some_iff.mp htt).1
   have S5 := s4.trans s5
   have W5 := W2.same S5
   have ew5 := W5.wt
   have e45 := s5 _ _ e4
   (push_cast only [e5])
   (simp only [a_laterH])
   (push_cast only [ew5])
   intro z1 H6 s6 e6
   have ew6 := s6 _ _ ew5
   refine ⟨_, ew6, fun z2 H7 s7 e7 => ?_⟩
   rw [cutV_take _ i (by rw [List.length_map]; omega)] at e6
   rw [show (i : Int) + 1 = ((i + 1 : Nat) : Int) by omega, cutV_drop _ (i + 1) (by rw [List.length_map]; omega)] at e7
   have e67 := s7 _ _ e6
   refine ⟨_, e67, _, e7, Nat.le_of_lt (small1000 (by simp; omega)), fun z3 H8 s8 e8 => ?_⟩
   have e8' : H8 z3 = some (.tup ((ts.eraseIdx i).map fun t => V.ref t.1)) := by
    rw [e8, List.eraseIdx_eq_take_drop_succ]
    simp
   have S8 := ((S5.trans s6).trans s7).trans s8
   have W8 := W2.same S8
   refine ⟨z3, 5, _, ts.eraseIdx i, rfl, by decide, .inl rfl, e8', ⟨by rw [List.length_eraseIdx, if_pos hi]; omega, fun r hr' => ?_⟩, fun l9 H9 s9 e9 => ?_⟩
   ·have := W8.row r (List.mem_of_mem_eraseIdx hr')
    exact ⟨sq_tup this.1, this.2.1⟩
   have S9 := S8.trans s9
   have ed9 : H9 dt = some (.tup (ds.map V.int)) := S9 _ _ e2
   have edu9 := s9 _ _ (s8 _ _ (s7 _ _ (s6 _ _ e45)))
   refine ⟨_, rfl, _, sq_lst e9, _, lst _, _, edu9, dt, ds, (i : Int), rfl, ed9, by omega, fun H10 s10 => ?_⟩
   have rt := ((W2.same (S9.trans s10)).row tt (List.mem_of_getElem? htt))
   have hlt : hos ds (i : Int) ds.length < tt.2.length := by
    rw [rt.2.1, dl]
    exact hos_lt _ _ _
   refine ⟨_, _, rfl, sq_tup rt.1, _, at_int hlt, _, rfl, _, rfl, ?_⟩
   have e : (tt.2).getD (hos ds (i : Int) ds.length) 0 - (dpL 5 (ts.map fun t => t.2)).getD (2 ^ 5 - 1) 0 + (dpL 5 ((ts.eraseIdx i).map fun t => t.2)).getD (2 ^ 5 - 1) 0 = ((ts.getD i (0, [])).2).getD (hos ds (i : Int) ds.length) 0 - lostOf 5 (ts.map fun t => t.2) i := by
    have eg : ts.getD i (0, []) = tt := by rw [List.getD_eq_getElem?_getD, htt]; rfl
    unfold lostOf
    rw [eg, erase_map]
    omega
   refine ⟨_, s10 _ _ edu9, small1000 (by rw [List.length_map, paysL_len]; omega), ⟨_, _, _, rfl, fun b o h => ?_, ?_⟩⟩
   ·rw [upd_ne (ne_of_none h nd)]
    exact s10 _ _ (S9 _ _ h)
   ·rw [upd_same, paysL_succ, List.map_append, e]
    rfl
  ·rintro σ H4 ⟨v5, v6, v7, rfl, s4, e4⟩
   rw [List.length_map] at e4
   dsimp only
   (simp only [a_laterH])
   (push_cast only [])
   refine ⟨t, sd, wt, dt, 5, ss, ts, ds, rfl, (W2.same s4).weak, s4 _ _ e2, dl, fun r H5 nr s5 e5 => ⟨_, s5 _ _ e4, fun l H6 nl s6 e6 => ?_⟩⟩
   refine .inr ⟨r, l, _, _, rfl, s6 _ _ e5, e6, by rw [paysL_len]; omega, fun H7 s7 => ?_⟩
   rw [decide_eq_true rfl]
   exact q H7 (((((s1.trans s2).trans s4).trans s5).trans s6).trans s7)
end
end K73
end
section
set_option Elab.async false
set_option linter.all false
set_option maxRecDepth 100000
set_option maxHeartbeats 8000000
namespace K73
open PySem L2
section
variable {P : Program} {w : World} {K : PySem.W.Frag} {mg : Str → Option Value} {base : Heap} {f : Addr} {fd : FuncData}
noncomputable def leave (k : Nat) (x : Int) : Int := if x = (k : Int) then -1 else x
theorem hos_leave_k (d : List Int) (k : Nat) : hos (d.map (leave k)) (k : Int) (d.map (leave k)).length = 0 := by
 refine hos_zero _ _ _ fun t ht => ?_
 rw [List.length_map] at ht
 have : (d.map (leave k)).getD t 0 = leave k d[t] := by simp [List.getD_eq_getElem?_getD, ht]
 rw [this]
 unfold leave
 split <;> omega
theorem hos_leave_ne (d : List Int) {k h : Nat} (n : h ≠ k) : hos (d.map (leave k)) (h : Int) (d.map (leave k)).length = hos d (h : Int) d.length := by
 rw [List.length_map]
 refine hos_map d (leave k) (h : Int) (h : Int) d.length (Nat.le_refl _) fun x hx => ?_
 unfold leave
 split <;> omega
theorem skip_ne (k h : Nat) : skip k h ≠ k := by
 unfold skip
 split <;> omega
theorem wsum_leave {wss : List (List Int)} {k : Nat} (hk : k < wss.length) (hz : (wss.getD k []).getD 0 0 = 0) (d : List Int) : wsum wss (d.map (leave k)) wss.length = wsum wss d wss.length - (wss.getD k []).getD (hos d (k : Int) d.length) 0 := by
 obtain ⟨n, hn⟩ : ∃ n, wss.length = n + 1 := ⟨wss.length - 1, by omega⟩
 have e1 := sum_skip (fun h : Nat => (wss.getD h []).getD (hos d (h : Int) d.length) 0) k n (by omega)
 have e2 := sum_skip (fun h : Nat => (wss.getD h []).getD (hos (d.map (leave k)) (h : Int) (d.map (leave k)).length) 0) k n (by omega)
 have e3 : ((List.range n).map fun h => (wss.getD (skip k h) []).getD (hos (d.map (leave k)) ((skip k h : Nat) : Int) (d.map (leave k)).length) 0) = (List.range n).map fun h => (wss.getD (skip k h) []).getD (hos d ((skip k h : Nat) : Int) d.length) 0 := by
  refine List.map_congr_left fun h _ => ?_
  rw [hos_leave_ne d (skip_ne k h)]
 unfold wsum
 rw [hn, ← e1, ← e2]
 show ((List.range n).map fun h => (wss.getD (skip k h) []).getD (hos (d.map (leave k)) ((skip k h : Nat) : Int) (d.map (leave k)).length) 0).sum + _ = _
 rw [e3, hos_leave_k, hz]
 omega
theorem less_ge {m : Nat} (m5 : m ≤ 5) {wss : List (List Int)} {k : Nat} (hk : k < wss.length) (hz : (wss.getD k []).getD 0 0 = 0) {d : List Int} (hd : Deal m wss.length d) : wsum wss d wss.length - (wss.getD k []).getD (hos d (k : Int) d.length) 0 ≤ (dpL m (wss.eraseIdx k)).getD (2 ^ m - 1) 0 := by
 rw [← wsum_leave hk hz d]
 have hn : ∀ x ∈ d.map (leave k), x ≠ (k : Int) := fun x hx => by
  obtain ⟨y, _, rfl⟩ := List.mem_map.mp hx
  unfold leave
  split <;> omega
 rw [← wsum_down hk hz _ hn]
 have le : (wss.eraseIdx k).length = wss.length - 1 := by rw [List.length_eraseIdx, if_pos hk]
 have := top_ge m5 (wss := wss.eraseIdx k) (d := (d.map (leave k)).map (down k)) ⟨by rw [List.length_map, List.length_map]; exact hd.1, fun x hx => by
  obtain ⟨y, hy, rfl⟩ := List.mem_map.mp hx
  obtain ⟨z, hz', rfl⟩ := List.mem_map.mp hy
  have b := hd.2 z hz'
  rw [le]
  unfold down leave
  split <;> split <;> omega⟩
 rw [le] at this
 exact this
theorem less_le {m : Nat} (m5 : m ≤ 5) {wss : List (List Int)} {k : Nat} (hk : k < wss.length) (hz : (wss.getD k []).getD 0 0 = 0) : (dpL m (wss.eraseIdx k)).getD (2 ^ m - 1) 0 ≤ (dpL m wss).getD (2 ^ m - 1) 0 := by
 obtain ⟨d, hd, e⟩ := top_ex m5 (wss.eraseIdx k)
 have le : (wss.eraseIdx k).length = wss.length - 1 := by rw [List.length_eraseIdx, if_pos hk]
 rw [← e, le, ← wsum_up hk hz d]
 refine top_ge m5 ⟨by rw [List.length_map]; exact hd.1, fun x hx => ?_⟩
 obtain ⟨y, hy, rfl⟩ := List.mem_map.mp hx
 have b := hd.2 y hy
 rw [le] at b
 unfold up1
 split <;> omega
noncomputable def sp_law (K : PySem.W.Frag) : Sp := fun vs H Q _ => ∃ (a : Addr) (ns : List Int), vs = [.ref a] ∧ Scr K a ns H ∧ ns.length ≤ 63 ∧ ∀ H', Q (.bl true) H'
noncomputable def J0 (K : PySem.W.Frag) (a : Addr) (ns : List Int) (i : Nat) (σ : St) (H : Hp) : Prop := ∃ v1 v2 v3 v4 v5 v6 v7 v8 v9 v10 v11 : Option V, σ = [some (.ref a), v1, v2, v3, v4, v5, v6, v7, v8, v9, v10, v11] ∧ Scr K a ns H
noncomputable def J1 (a p t so fo : Addr) (most : Int) (v1 : Option V) (G : Hp) (i : Nat) (σ : St) (H : Hp) : Prop := ∃ v7 v8 v9 v10 v11 : Option V, σ = [some (.ref a), v1, some (.ref p), some (.ref t), some (.ref so), some (.int most), some (.ref fo), v7, v8, v9, v10, v11] ∧ Same G H
noncomputable def J2 (a p t so fo b du : Addr) (most : Int) (m : Nat) (ts : List (Addr × List Int)) (ds : List Int) (v1 : Option V) (G : Hp) (i : Nat) (σ : St) (H : Hp) : Prop := ∃ v9 v10 v11 : Option V, σ = [some (.ref a), v1, some (.ref p), some (.ref t), some (.ref so), some (.int most), some (.ref fo), some (.ref b), some (.ref du), v9, v10, v11] ∧ Same G H ∧ H du = some (.lst ((paysL m ts ds i).map V.int))
theorem sc_law : FnScope ["_law_script", "_law_k", "_law_left_here", "_law_town_here", "_law_some", "_law_most_here", "_law_less", "_law_dealt", "_law_due", "_law_hand", "_law_want", "_law_others"] ["_law_script"] (defScope s_law) := ⟨rfl, rfl, rfl, by decide +kernel, rfl, by decide +kernel, by decide +kernel⟩
theorem ok_law (F : Fun K "law" "law" s_law f fd) (T : Txt mg) (c__law_left : Cal P w K mg base "_law_left" ["_law_script", "_law_k"] 2 (spBox K)) (c__law_pick : Cal P w K mg base "_law_pick" ["_law_left_here", "_law_many"] 1 spTake) (c__law_most : Cal P w K mg base "_law_most" ["_law_left_here"] 2 sp_most) (c__law_town : Cal P w K mg base "_law_town" ["_law_left_here", "_law_most_here"] 6 (sp_town 30000)) (c__law_best : Cal P w K mg base "_law_best" ["_law_wants", "_law_many"] 3 sp_lbest) (c__law_heap_of : Cal P w K mg base "_law_heap_of" ["_law_dealt", "_law_hand"] 1 sp_hos) (c_pays : Cal P w K mg base "pays" ["town", "dealing"] 9 sp_pays) (c__law_same : Cal P w K mg base "_law_same" ["_law_found", "_law_due"] 2 sp_same) (c__law_great_town : Cal P w K mg base "_law_great_town" ["_law_left_here"] 5 sp_gtown) (c__law_great_right : Cal P w K mg base "_law_great_right" ["_law_town_here"] 10 sp_gright) :
  FnOk P w K mg base CX0 11 f fd ["_law_script"] (sp_law K) := by
 refine F.ok sc_law (fun vs H Q E h => ?_) (fun cdv A outer s H vs Q E hr h => ?_)
 ·obtain ⟨_, _, rfl, _⟩ := h; rfl
 ·obtain ⟨a, ns, rfl, hq, hlen, q⟩ := h
  have sc := sc_law
  refine ⟨_, pss_consL (ps_for PassesOwn.never rfl (pi_range1 rfl T.range_ (pa_cns (pe_op op_add pe_int (pe_callB (call_min2 rfl) rfl T.min_ bt_min (pa_cns pe_int (pa_cns (pe_callB call_len_seq rfl T.len_ bt_len (pa_cons (pv 0) pa_nil)) pa_nil)))) pa_nil)) (pg_name (i := 1) sc.nd rfl (Or.inl rfl))
    (pss_consL (ps_set (i := 2) sc.nd rfl (Or.inl rfl) (pe_cal c__law_left hr (pa_cns (pv 0) (pa_cns (pv 1) pa_nil))))
   (pss_consL (ps_set (i := 3) sc.nd rfl (Or.inl rfl) (pe_cal c__law_town hr (pa_cns (pv 2) (pa_cns (pe_cal c__law_most hr (pa_cns (pv 2) pa_nil)) pa_nil))))
   (pss_consL (ps_asg (pe_cal c__law_best hr (pa_cns (pe_ix ix0 (pv 3) pe_int (fun _ _ => rfl)) (pa_cns (pe_callB len0 rfl T.len_ bt_len (pa_cns (pe_ix ix0 (pv 3) pe_int (fun _ _ => rfl)) pa_nil)) pa_nil))) (pg_tup0 (n := 3) rfl (pgs_cons (pg_name (i := 4) sc.nd rfl (Or.inl rfl)) (pgs_cons (pg_name (i := 5) sc.nd rfl (Or.inl rfl)) (pgs_cons (pg_name (i := 6) sc.nd rfl (Or.inl rfl)) pgs_nil)))))
   (pss_consL (ps_for PassesOwn.never rfl (pi_t0 (pe_tupA (pa_cns (pe_ix ix0 (pv 4) pe_int (fun _ _ => rfl)) (pa_cns (pe_ix ix0 (pv 4) (pe_un un_neg pe_int) (fun _ _ => rfl)) (pa_cns (pe_ix ix0 (pv 4) (pe_cal c__law_pick hr (pa_cns (pv 2) (pa_cns (pe_callB len0 rfl T.len_ bt_len (pa_cns (pv 4) pa_nil)) pa_nil))) (fun _ _ => rfl)) pa_nil))))) (pg_name (i := 7) sc.nd rfl (Or.inl rfl))
    (pss_consL (ps_set (i := 8) sc.nd rfl (Or.inl rfl) (pe_lstA pa_nil))
   (pss_consL (ps_for PassesOwn.never rfl (pi_enum rfl T.enumerate_ (pa_cns (pe_ix ix0 (pv 3) pe_int (fun _ _ => rfl)) pa_nil)) (pg_tup0 (n := 2) rfl (pgs_cons (pg_name (i := 9) sc.nd rfl (Or.inl rfl)) (pgs_cons (pg_name (i := 10) sc.nd rfl (Or.inl rfl)) pgs_nil)))
    (pss_consL (ps_set (i := 11) sc.nd rfl (Or.inl rfl) (pe_op op_sub (pv 5) (pe_ix ix0 (pv 10) (pe_cal c__law_heap_of hr (pa_cns (pv 7) (pa_cns (pv 9) pa_nil))) (fun _ _ => rfl))))
   (pss_consL (ps_expr (pe_append (pv 8) (pa_cns (pe_op op_sub (pe_ix ix0 (pv 6) (pv 9) (fun _ _ => rfl)) (pv 11)) pa_nil)))
   (pss_one (ps_if (PW.pt (pw_or (pt_cmpR op_lt (pe_ix ix0 (pv 8) (pv 9) (fun _ _ => rfl)) pe_int (nomark _)) (pw_or1 (PW.pt (pw_and (pt_cmpR notin0 (pv 9) (pv 7) rfl) (pw_and1 (pt_cmpR op_ne (pe_ix ix0 (pv 8) (pv 9) (fun _ _ => rfl)) pe_int (nomark _)))))))) (pss_one (ps_ret pe_bl)) pss_nil)))))
   (pss_one (ps_if (pt_not (pt_val (pe_cal c__law_same hr (pa_cns (pe_cal c_pays hr (pa_cns (pv 3) (pa_cns (pv 7) pa_nil))) (pa_cns (pe_callTy tupA0 rfl T.tuple_ bt_tuple (pa_cns (pv 8) pa_nil)) pa_nil))))) (pss_one (ps_ret pe_bl)) pss_nil)))))
   (pss_one (ps_if (pt_not (pt_val (pe_cal c__law_great_right hr (pa_cns (pe_cal c__law_great_town hr (pa_cns (pv 2) pa_nil)) pa_nil)))) (pss_one (ps_ret pe_bl)) pss_nil)))))))
   (pss_one (ps_ret pe_bl)), ?_⟩
  rw [show L2.start ["_law_script", "_law_k", "_law_left_here", "_law_town_here", "_law_some", "_law_most_here", "_law_less", "_law_dealt", "_law_due", "_law_hand", "_law_want", "_law_others"] [.ref a] = [some (.ref a), none, none, none, none, none, none, none, none, none, none, none] from rfl]
  (push_cast only [])
  refine ⟨_, .inl hq, ?_⟩
  (push_cast only [])
  have hn : (1 + if (ns.length : Int) < 3 then (ns.length : Int) else 3).toNat ≤ 4 := by split <;> omega
  refine ⟨by split <;> omega, by split <;> omega, fl_range (J0 K a ns) ⟨none, none, none, none, none, none, none, none, none, none, none, rfl, hq⟩ ?_ ?_⟩
  ·rintro i σ H1 hi ⟨v1, v2, v3, v4, v5, v6, v7, v8, v9, v10, v11, rfl, hq1⟩
   (push_cast only [])
   refine ⟨a, i, ns, rfl, hq1, by omega, fun p H2 np bx2 bt2 => ?_⟩
   have sx2 : SameX p H1 H2 := bt2.x
   (push_cast only [])
   (simp only [a_laterH])
   (push_cast only [])
   refine ⟨p, rfl, bx2, fun most H3 mo0 mo1 bx3 s3 => ?_⟩
   (push_cast only [])
   refine ⟨p, most, rfl, bx3, mo0, mo1, fun t sd wt m ss ts H4 bx4 s4 W => ?_⟩
   have hst := sq_tup W.at'
   have hss := sq_tup W.sd
   have i1 : ∀ x y : V, atI [x, y] 1 = some y := fun _ _ => rfl
   have i0 : ∀ x y : V, atI [x, y] 0 = some x := fun _ _ => rfl
   have t5 := W.t5
   (push_cast only [])
   (simp only [a_laterH])
   (push_cast only [hst, i0, i1, hss])
   rw [W.slen]
   have hz : ∀ t ∈ ts, t.2.getD 0 0 = 0 := fun t ht => (W.row t ht).2.2.2
   refine ⟨wt, m, ts, rfl, ⟨W.wt, fun t ht => ⟨(W.row t ht).1, (W.row t ht).2.1, (fun x hx => by have := (W.row t ht).2.2.1 x hx; omega), hz t ht⟩⟩, W.t1, W.t5, W.m5, fun t9 so fo mst bs fs H5 nfo s5 e5 eso efo R5 B5 => ⟨t9, rfl, _, e5, rfl, _, _, rfl, _, _, rfl, _, _, rfl, rfl, ?_⟩⟩
   have bx5 : Box H5 p := bx4.same s5
   have hso := sq_lst eso
   have b0 : 0 < bs.length := List.length_pos_iff.mpr B5.ne
   have few := B5.few
   (simp only [a_laterH])
   (push_cast only [hso])
   have npfo : p ≠ fo := bx4.ne nfo
   have fsl := B5.len
   have bm : ∀ {k : Nat} (h : k < bs.length), ∃ b ∈ bs, (bs.map fun b => V.ref b.1)[k]? = some (V.ref b.1) := fun {k} h => ⟨bs[k], List.getElem_mem h, by rw [List.getElem?_map, List.getElem?_eq_getElem h]; rfl⟩
   obtain ⟨b1, b1m, b1e⟩ := bm b0
   obtain ⟨b2, b2m, b2e⟩ := bm (k := bs.length - 1) (by omega)
   have a1 : atI (bs.map fun b => V.ref b.1) 0 = some (V.ref b1.1) := atI_nat (j := 0) b1e
   have a2 : atI (bs.map fun b => V.ref b.1) (-1) = some (V.ref b2.1) := by
    unfold atI ixN
    rw [if_neg (by decide), if_pos (by rw [List.length_map]; omega)]
    rw [show (-1 + ((bs.map fun b => V.ref b.1).length : Int)).toNat = bs.length - 1 by rw [List.length_map]; omega]
    exact b2e
   refine ⟨_, a1, _, a2, p, _, rfl, bx5, by omega, by omega, fun r3 H6 r30 r31 bx6 bt6 => ?_⟩
   obtain ⟨k3, rfl⟩ := Int.eq_ofNat_of_zero_le r30
   obtain ⟨b3, b3m, b3e⟩ := bm (k := k3) (by omega)
   have nso : so ≠ p := fun z => by
    obtain ⟨_, _, _, y⟩ := bx5
    rw [z, y] at eso
    cases hb : bs with
    | nil => rw [hb] at b0; exact absurd b0 (by decide)
    | cons x r => rw [hb] at eso; cases eso
   have sx6 : SameX p H5 H6 := bt6.x
   refine ⟨_, _, rfl, sq_lst (sx6 _ _ nso eso), _, atI_nat b3e, by decide, fun tp H7 ntp s7 e7 => ⟨_, e7, ?_⟩⟩
   have sx7 : SameX p H5 H7 := sx6.trans s7.x
   have bx7 : Box H7 p := bx6.same s7
   have W7 := (W.same s5).x bx5 sx7
   have efo7 := sx7 _ _ npfo.symm efo
   have row7 : ∀ b ∈ bs, H7 b.1 = some (.tup (b.2.map V.int)) := fun b hb => sx7 _ _ (fun z => by
    have h := R5 b hb
    obtain ⟨_, _, _, y⟩ := bx5
    rw [z, y] at h
    cases h) (R5 b hb)
   have in3 : ∀ (j : Nat) (x : V), [V.ref b1.1, V.ref b2.1, V.ref b3.1][j]? = some x → ∃ b ∈ bs, x = V.ref b.1 := fun j x hx => by
    have := List.mem_of_getElem? hx
    simp only [List.mem_cons, List.not_mem_nil, or_false] at this
    rcases this with rfl | rfl | rfl
    ·exact ⟨b1, b1m, rfl⟩
    ·exact ⟨b2, b2m, rfl⟩
    ·exact ⟨b3, b3m, rfl⟩
   refine fl_seq (J1 a p t so fo mst (some (.int (i : Int))) H7) ⟨_, _, _, _, _, rfl, Same.refl H7⟩ (fun j σ H' _ ⟨_, _, _, _, _, _, s⟩ => s _ _ e7) ?_ ?_
   ·rintro j x σ H8 hx ⟨w7, w8, w9, w10, w11, rfl, s8⟩
    obtain ⟨b, hbm, rfl⟩ := in3 j x hx
    obtain ⟨dl, hsd⟩ := B5.all b hbm
    (push_cast only [])
    refine ⟨Nat.zero_le _, fun du H9 nd s9 e9 => ?_⟩
    have W8 := W7.same s8
    have W9 := W8.same s9
    have hst9 := sq_tup W9.at'
    (simp only [a_laterH])
    (push_cast only [hst9, i1])
    refine ⟨_, _, .inr ⟨rfl, W9.wt⟩, fl_enum (J2 a p t so fo b.1 du mst m ts b.2 (some (.int (i : Int))) H8) ⟨_, _, _, rfl, s9, e9⟩ (fun i σ H4 ⟨_, _, _, _, s, _⟩ => .inr ⟨rfl, s _ _ W8.wt⟩) ?_ ?_⟩
    ·rintro k v T' σ H10 H11 hv ⟨x9, x10, x11, rfl, s10, e10⟩ nT s11 e11
     rw [List.getElem?_map] at hv
     obtain ⟨tt, htt, rfl⟩ := Option.map_eq_some_iff.mp hv
     have hk : k < ts.length := (List.getElem?_eq_some_iff.mp htt).1
     have S11 := s10.trans s11
     have S811 : Same H7 H11 := s8.trans S11
     have eb := S811 _ _ (row7 b hbm)
     have edu := s11 _ _ e10
     (push_cast only [e11])
     refine ⟨b.1, b.2, (k : Int), rfl, eb, by rw [dl.1]; exact W.m5, fun H12 s12 => ?_⟩
     have rt := (W7.same (S811.trans s12)).row tt (List.mem_of_getElem? htt)
     have hlt : hos b.2 (k : Int) b.2.length < tt.2.length := by
      rw [rt.2.1, dl.1]
      exact hos_lt _ _ _
     refine ⟨_, _, rfl, sq_tup rt.1, _, at_int hlt, _, rfl, ?_⟩
     have efo12 := s12 _ _ (S811 _ _ efo7)
     have edu12 := s12 _ _ edu
     have hsf := sq_lst efo12
     have hatf := at_int (ns := fs) (n := k) (by omega)
     have eg : ts.getD k (0, []) = tt := by rw [List.getD_eq_getElem?_getD, htt]; rfl
     have ew : (ts.map fun t => t.2).getD k [] = tt.2 := by rw [List.getD_eq_getElem?_getD, List.getElem?_map, htt]; rfl
     have wl : (ts.map fun t => t.2).length = ts.length := List.length_map _
     have lg := less_ge W.m5 (wss := ts.map fun t => t.2) (k := k) (by omega) (by rw [ew]; exact hz tt (List.mem_of_getElem? htt)) (d := b.2) (by rw [wl]; exact dl)
     have ll := less_le W.m5 (wss := ts.map fun t => t.2) (k := k) (by omega) (by rw [ew]; exact hz tt (List.mem_of_getElem? htt))
     rw [wl, ← SD_wsum, hsd, ew, ← B5.less k hk] at lg
     rw [← B5.less k hk, ← B5.top] at ll
     have val : fs.getD k 0 - (mst - tt.2.getD (hos b.2 (k : Int) b.2.length) 0) = ((ts.getD k (0, [])).2).getD (hos b.2 (k : Int) b.2.length) 0 - lostOf m (ts.map fun t => t.2) k := by
      unfold lostOf
      rw [eg, ← B5.top, ← B5.less k hk]
      omega
     (simp only [a_laterH])
     (push_cast only [hsf, hatf, edu12])
     refine ⟨small1000 (by rw [paysL_len]; omega), ?_⟩
     have E13 : upd H12 du (HO.lst ((paysL m ts b.2 k).map V.int ++ [V.int (fs.getD k 0 - (mst - tt.2.getD (hos b.2 (k : Int) b.2.length) 0))])) du = some (.lst ((paysL m ts b.2 (k + 1)).map V.int)) := by
      rw [upd_same, paysL_succ, List.map_append, val]
      rfl
     have S13 : Same H8 (upd H12 du (HO.lst ((paysL m ts b.2 k).map V.int ++ [V.int (fs.getD k 0 - (mst - tt.2.getD (hos b.2 (k : Int) b.2.length) 0))]))) := fun x o h => by
      rw [upd_ne (ne_of_none h nd)]
      exact s12 _ _ (S11 _ _ h)
     generalize upd H12 du (HO.lst ((paysL m ts b.2 k).map V.int ++ [V.int (fs.getD k 0 - (mst - tt.2.getD (hos b.2 (k : Int) b.2.length) 0))])) = H13 at E13 S13 ⊢
     have hs13 := sq_lst E13
     have hat13 := at_int (ns := paysL m ts b.2 (k + 1)) (n := k) (by rw [paysL_len]; omega)
     rw [paysL_at (by omega), ← val] at hat13
     have hsb := sq_tup (S13 _ _ (s8 _ _ (row7 b hbm)))
     (simp only [a_laterH])
     (push_cast only [hs13, hat13])
     rw [if_neg (by omega)]
     refine ⟨_, hsb, rfl, all_flat _, ?_⟩
     rw [inV_int]
     by_cases hin : (k : Int) ∈ b.2
     ·rw [decide_eq_true hin, if_neg (by decide)]
      exact ⟨_, _, _, rfl, S13, E13⟩
     ·rw [decide_eq_false hin, if_pos (by decide)]
      have h0 : hos b.2 (k : Int) b.2.length = 0 := hos_zero _ _ _ fun t ht z => hin (by
       have : b.2.getD t 0 = b.2[t] := by simp [List.getD_eq_getElem?_getD, ht]
       rw [← z, this]
       exact List.getElem_mem ht)
      have z0 := hz tt (List.mem_of_getElem? htt)
      rw [h0] at lg
      rw [if_neg (by rw [h0, z0, decide_eq_true (by omega)]; decide)]
      exact ⟨_, _, _, rfl, S13, E13⟩
    ·rintro σ H10 ⟨x9, x10, x11, rfl, s10, e10⟩
     rw [List.length_map] at e10
     (simp only [a_laterH])
     (push_cast only [])
     have S10 : Same H7 H10 := s8.trans s10
     refine ⟨t, sd, wt, b.1, m, ss, ts, b.2, rfl, (W7.same S10).weak, S10 _ _ (row7 b hbm), dl.1, fun r H11 nr s11 e11 => ⟨_, s11 _ _ e10, fun l H12 nl s12 e12 => ?_⟩⟩
     refine .inr ⟨r, l, _, _, rfl, s12 _ _ e11, e12, by rw [paysL_len]; omega, fun H13 s13 => ⟨true, by rw [decide_eq_true rfl], ?_⟩⟩
     rw [if_neg (by decide)]
     exact ⟨_, _, _, _, _, rfl, ((S10.trans s11).trans s12).trans s13⟩
   ·rintro σ H8 ⟨w7, w8, w9, w10, w11, rfl, s8⟩
    dsimp only
    (simp only [a_laterH])
    (push_cast only [])
    refine ⟨p, rfl, bx7.same s8, fun t' sd' wt' ss' ts' H9 bx9 s9 T9 => ⟨t', sd', wt', ss', ts', rfl, T9, fun H10 s10 => ⟨true, rfl, ?_⟩⟩⟩
    rw [if_neg (by decide)]
    exact ⟨_, _, _, _, _, _, _, _, _, _, _, rfl, hq1.keep np fun b o n e => s10 _ _ (s9 _ _ n (s8 _ _ (sx7 _ _ n (s5 _ _ (s4 _ _ n (s3 _ _ n (sx2 _ _ n e)))))))⟩
  ·rintro σ H1 ⟨v1, v2, v3, v4, v5, v6, v7, v8, v9, v10, v11, rfl, hq1⟩
   (simp only [a_laterH])
   (push_cast only [])
   exact q H1
end
theorem all_mk {l : PySem.W.OpenLaw} {w : World} {K : PySem.W.Frag} {h : Heap} {mg : Str → Option Value} {fa : Addr} (X : K.In h) (G : h.Ns mainGlobals mg) (hfa : mg "law" = some (.ref fa))
  {f0 : Addr} {od0 an0 : Option Addr} {sl0 : Array (Option Value)} {oc0 kV0 dc0 pm0 cd0 ct0 : Value}
  (a0 : PySem.W.nsIn K mainGlobals "less" = some (some (.ref f0))) (l0 : K.lookup f0 = some ⟨oc0, od0, .func (PySem.W.fnOf "less" "less" (defArgs s_less) (defBody s_less) (defScope s_less) .none kV0 dc0 pm0 an0 cd0 ct0), sl0⟩) (c0 : PySem.W.codeIn K cd0 "less" = true) (k0 : PySem.W.keepIn K (.ref f0) = true)
  {f1 : Addr} {od1 an1 : Option Addr} {sl1 : Array (Option Value)} {oc1 kV1 dc1 pm1 cd1 ct1 : Value}
  (a1 : PySem.W.nsIn K mainGlobals "heap_of" = some (some (.ref f1))) (l1 : K.lookup f1 = some ⟨oc1, od1, .func (PySem.W.fnOf "heap_of" "heap_of" (defArgs s_heap_of) (defBody s_heap_of) (defScope s_heap_of) .none kV1 dc1 pm1 an1 cd1 ct1), sl1⟩) (c1 : PySem.W.codeIn K cd1 "heap_of" = true) (k1 : PySem.W.keepIn K (.ref f1) = true)
  {f2 : Addr} {od2 an2 : Option Addr} {sl2 : Array (Option Value)} {oc2 kV2 dc2 pm2 cd2 ct2 : Value}
  (a2 : PySem.W.nsIn K mainGlobals "is_within" = some (some (.ref f2))) (l2 : K.lookup f2 = some ⟨oc2, od2, .func (PySem.W.fnOf "is_within" "is_within" (defArgs s_is_within) (defBody s_is_within) (defScope s_is_within) .none kV2 dc2 pm2 an2 cd2 ct2), sl2⟩) (c2 : PySem.W.codeIn K cd2 "is_within" = true) (k2 : PySem.W.keepIn K (.ref f2) = true)
  {f3 : Addr} {od3 an3 : Option Addr} {sl3 : Array (Option Value)} {oc3 kV3 dc3 pm3 cd3 ct3 : Value}
  (a3 : PySem.W.nsIn K mainGlobals "heap_of_side" = some (some (.ref f3))) (l3 : K.lookup f3 = some ⟨oc3, od3, .func (PySem.W.fnOf "heap_of_side" "heap_of_side" (defArgs s_heap_of_side) (defBody s_heap_of_side) (defScope s_heap_of_side) .none kV3 dc3 pm3 an3 cd3 ct3), sl3⟩) (c3 : PySem.W.codeIn K cd3 "heap_of_side" = true) (k3 : PySem.W.keepIn K (.ref f3) = true)
  {f4 : Addr} {od4 an4 : Option Addr} {sl4 : Array (Option Value)} {oc4 kV4 dc4 pm4 cd4 ct4 : Value}
  (a4 : PySem.W.nsIn K mainGlobals "heaps_of" = some (some (.ref f4))) (l4 : K.lookup f4 = some ⟨oc4, od4, .func (PySem.W.fnOf "heaps_of" "heaps_of" (defArgs s_heaps_of) (defBody s_heaps_of) (defScope s_heaps_of) .none kV4 dc4 pm4 an4 cd4 ct4), sl4⟩) (c4 : PySem.W.codeIn K cd4 "heaps_of" = true) (k4 : PySem.W.keepIn K (.ref f4) = true)
  {f5 : Addr} {od5 an5 : Option Addr} {sl5 : Array (Option Value)} {oc5 kV5 dc5 pm5 cd5 ct5 : Value}
  (a5 : PySem.W.nsIn K mainGlobals "joined" = some (some (.ref f5))) (l5 : K.lookup f5 = some ⟨oc5, od5, .func (PySem.W.fnOf "joined" "joined" (defArgs s_joined) (defBody s_joined) (defScope s_joined) .none kV5 dc5 pm5 an5 cd5 ct5), sl5⟩) (c5 : PySem.W.codeIn K cd5 "joined" = true) (k5 : PySem.W.keepIn K (.ref f5) = true)
  {f6 : Addr} {od6 an6 : Option Addr} {sl6 : Array (Option Value)} {oc6 kV6 dc6 pm6 cd6 ct6 : Value}
  (a6 : PySem.W.nsIn K mainGlobals "most_parted" = some (some (.ref f6))) (l6 : K.lookup f6 = some ⟨oc6, od6, .func (PySem.W.fnOf "most_parted" "most_parted" (defArgs s_most_parted) (defBody s_most_parted) (defScope s_most_parted) .none kV6 dc6 pm6 an6 cd6 ct6), sl6⟩) (c6 : PySem.W.codeIn K cd6 "most_parted" = true) (k6 : PySem.W.keepIn K (.ref f6) = true)
  {f7 : Addr} {od7 an7 : Option Addr} {sl7 : Array (Option Value)} {oc7 kV7 dc7 pm7 cd7 ct7 : Value}
  (a7 : PySem.W.nsIn K mainGlobals "without_hand" = some (some (.ref f7))) (l7 : K.lookup f7 = some ⟨oc7, od7, .func (PySem.W.fnOf "without_hand" "without_hand" (defArgs s_without_hand) (defBody s_without_hand) (defScope s_without_hand) .none kV7 dc7 pm7 an7 cd7 ct7), sl7⟩) (c7 : PySem.W.codeIn K cd7 "without_hand" = true) (k7 : PySem.W.keepIn K (.ref f7) = true)
  {f8 : Addr} {od8 an8 : Option Addr} {sl8 : Array (Option Value)} {oc8 kV8 dc8 pm8 cd8 ct8 : Value}
  (a8 : PySem.W.nsIn K mainGlobals "greatest" = some (some (.ref f8))) (l8 : K.lookup f8 = some ⟨oc8, od8, .func (PySem.W.fnOf "greatest" "greatest" (defArgs s_greatest) (defBody s_greatest) (defScope s_greatest) .none kV8 dc8 pm8 an8 cd8 ct8), sl8⟩) (c8 : PySem.W.codeIn K cd8 "greatest" = true) (k8 : PySem.W.keepIn K (.ref f8) = true)
  {f9 : Addr} {od9 an9 : Option Addr} {sl9 : Array (Option Value)} {oc9 kV9 dc9 pm9 cd9 ct9 : Value}
  (a9 : PySem.W.nsIn K mainGlobals "greatest_without" = some (some (.ref f9))) (l9 : K.lookup f9 = some ⟨oc9, od9, .func (PySem.W.fnOf "greatest_without" "greatest_without" (defArgs s_greatest_without) (defBody s_greatest_without) (defScope s_greatest_without) .none kV9 dc9 pm9 an9 cd9 ct9), sl9⟩) (c9 : PySem.W.codeIn K cd9 "greatest_without" = true) (k9 : PySem.W.keepIn K (.ref f9) = true)
  {f10 : Addr} {od10 an10 : Option Addr} {sl10 : Array (Option Value)} {oc10 kV10 dc10 pm10 cd10 ct10 : Value}
  (a10 : PySem.W.nsIn K mainGlobals "greatest_sums" = some (some (.ref f10))) (l10 : K.lookup f10 = some ⟨oc10, od10, .func (PySem.W.fnOf "greatest_sums" "greatest_sums" (defArgs s_greatest_sums) (defBody s_greatest_sums) (defScope s_greatest_sums) .none kV10 dc10 pm10 an10 cd10 ct10), sl10⟩) (c10 : PySem.W.codeIn K cd10 "greatest_sums" = true) (k10 : PySem.W.keepIn K (.ref f10) = true)
  {f11 : Addr} {od11 an11 : Option Addr} {sl11 : Array (Option Value)} {oc11 kV11 dc11 pm11 cd11 ct11 : Value}
  (a11 : PySem.W.nsIn K mainGlobals "lost_without" = some (some (.ref f11))) (l11 : K.lookup f11 = some ⟨oc11, od11, .func (PySem.W.fnOf "lost_without" "lost_without" (defArgs s_lost_without) (defBody s_lost_without) (defScope s_lost_without) .none kV11 dc11 pm11 an11 cd11 ct11), sl11⟩) (c11 : PySem.W.codeIn K cd11 "lost_without" = true) (k11 : PySem.W.keepIn K (.ref f11) = true)
  {f12 : Addr} {od12 an12 : Option Addr} {sl12 : Array (Option Value)} {oc12 kV12 dc12 pm12 cd12 ct12 : Value}
  (a12 : PySem.W.nsIn K mainGlobals "pays" = some (some (.ref f12))) (l12 : K.lookup f12 = some ⟨oc12, od12, .func (PySem.W.fnOf "pays" "pays" (defArgs s_pays) (defBody s_pays) (defScope s_pays) .none kV12 dc12 pm12 an12 cd12 ct12), sl12⟩) (c12 : PySem.W.codeIn K cd12 "pays" = true) (k12 : PySem.W.keepIn K (.ref f12) = true)
  {f13 : Addr} {od13 an13 : Option Addr} {sl13 : Array (Option Value)} {oc13 kV13 dc13 pm13 cd13 ct13 : Value}
  (a13 : PySem.W.nsIn K mainGlobals "_law_cell_at" = some (some (.ref f13))) (l13 : K.lookup f13 = some ⟨oc13, od13, .func (PySem.W.fnOf "_law_cell_at" "_law_cell_at" (defArgs s__law_cell_at) (defBody s__law_cell_at) (defScope s__law_cell_at) .none kV13 dc13 pm13 an13 cd13 ct13), sl13⟩) (c13 : PySem.W.codeIn K cd13 "_law_cell_at" = true) (k13 : PySem.W.keepIn K (.ref f13) = true)
  {f14 : Addr} {od14 an14 : Option Addr} {sl14 : Array (Option Value)} {oc14 kV14 dc14 pm14 cd14 ct14 : Value}
  (a14 : PySem.W.nsIn K mainGlobals "_law_left" = some (some (.ref f14))) (l14 : K.lookup f14 = some ⟨oc14, od14, .func (PySem.W.fnOf "_law_left" "_law_left" (defArgs s__law_left) (defBody s__law_left) (defScope s__law_left) .none kV14 dc14 pm14 an14 cd14 ct14), sl14⟩) (c14 : PySem.W.codeIn K cd14 "_law_left" = true) (k14 : PySem.W.keepIn K (.ref f14) = true)
  {f15 : Addr} {od15 an15 : Option Addr} {sl15 : Array (Option Value)} {oc15 kV15 dc15 pm15 cd15 ct15 : Value}
  (a15 : PySem.W.nsIn K mainGlobals "_law_pick" = some (some (.ref f15))) (l15 : K.lookup f15 = some ⟨oc15, od15, .func (PySem.W.fnOf "_law_pick" "_law_pick" (defArgs s__law_pick) (defBody s__law_pick) (defScope s__law_pick) .none kV15 dc15 pm15 an15 cd15 ct15), sl15⟩) (c15 : PySem.W.codeIn K cd15 "_law_pick" = true) (k15 : PySem.W.keepIn K (.ref f15) = true)
  {f16 : Addr} {od16 an16 : Option Addr} {sl16 : Array (Option Value)} {oc16 kV16 dc16 pm16 cd16 ct16 : Value}
  (a16 : PySem.W.nsIn K mainGlobals "_law_within" = some (some (.ref f16))) (l16 : K.lookup f16 = some ⟨oc16, od16, .func (PySem.W.fnOf "_law_within" "_law_within" (defArgs s__law_within) (defBody s__law_within) (defScope s__law_within) .none kV16 dc16 pm16 an16 cd16 ct16), sl16⟩) (c16 : PySem.W.codeIn K cd16 "_law_within" = true) (k16 : PySem.W.keepIn K (.ref f16) = true)
  {f17 : Addr} {od17 an17 : Option Addr} {sl17 : Array (Option Value)} {oc17 kV17 dc17 pm17 cd17 ct17 : Value}
  (a17 : PySem.W.nsIn K mainGlobals "_law_sized" = some (some (.ref f17))) (l17 : K.lookup f17 = some ⟨oc17, od17, .func (PySem.W.fnOf "_law_sized" "_law_sized" (defArgs s__law_sized) (defBody s__law_sized) (defScope s__law_sized) .none kV17 dc17 pm17 an17 cd17 ct17), sl17⟩) (c17 : PySem.W.codeIn K cd17 "_law_sized" = true) (k17 : PySem.W.keepIn K (.ref f17) = true)
  {f18 : Addr} {od18 an18 : Option Addr} {sl18 : Array (Option Value)} {oc18 kV18 dc18 pm18 cd18 ct18 : Value}
  (a18 : PySem.W.nsIn K mainGlobals "_law_worth" = some (some (.ref f18))) (l18 : K.lookup f18 = some ⟨oc18, od18, .func (PySem.W.fnOf "_law_worth" "_law_worth" (defArgs s__law_worth) (defBody s__law_worth) (defScope s__law_worth) .none kV18 dc18 pm18 an18 cd18 ct18), sl18⟩) (c18 : PySem.W.codeIn K cd18 "_law_worth" = true) (k18 : PySem.W.keepIn K (.ref f18) = true)
  {f19 : Addr} {od19 an19 : Option Addr} {sl19 : Array (Option Value)} {oc19 kV19 dc19 pm19 cd19 ct19 : Value}
  (a19 : PySem.W.nsIn K mainGlobals "_law_worths_in" = some (some (.ref f19))) (l19 : K.lookup f19 = some ⟨oc19, od19, .func (PySem.W.fnOf "_law_worths_in" "_law_worths_in" (defArgs s__law_worths_in) (defBody s__law_worths_in) (defScope s__law_worths_in) .none kV19 dc19 pm19 an19 cd19 ct19), sl19⟩) (c19 : PySem.W.codeIn K cd19 "_law_worths_in" = true) (k19 : PySem.W.keepIn K (.ref f19) = true)
  {f20 : Addr} {od20 an20 : Option Addr} {sl20 : Array (Option Value)} {oc20 kV20 dc20 pm20 cd20 ct20 : Value}
  (a20 : PySem.W.nsIn K mainGlobals "_law_sum_want" = some (some (.ref f20))) (l20 : K.lookup f20 = some ⟨oc20, od20, .func (PySem.W.fnOf "_law_sum_want" "_law_sum_want" (defArgs s__law_sum_want) (defBody s__law_sum_want) (defScope s__law_sum_want) .none kV20 dc20 pm20 an20 cd20 ct20), sl20⟩) (c20 : PySem.W.codeIn K cd20 "_law_sum_want" = true) (k20 : PySem.W.keepIn K (.ref f20) = true)
  {f21 : Addr} {od21 an21 : Option Addr} {sl21 : Array (Option Value)} {oc21 kV21 dc21 pm21 cd21 ct21 : Value}
  (a21 : PySem.W.nsIn K mainGlobals "_law_best_few" = some (some (.ref f21))) (l21 : K.lookup f21 = some ⟨oc21, od21, .func (PySem.W.fnOf "_law_best_few" "_law_best_few" (defArgs s__law_best_few) (defBody s__law_best_few) (defScope s__law_best_few) .none kV21 dc21 pm21 an21 cd21 ct21), sl21⟩) (c21 : PySem.W.codeIn K cd21 "_law_best_few" = true) (k21 : PySem.W.keepIn K (.ref f21) = true)
  {f22 : Addr} {od22 an22 : Option Addr} {sl22 : Array (Option Value)} {oc22 kV22 dc22 pm22 cd22 ct22 : Value}
  (a22 : PySem.W.nsIn K mainGlobals "_law_pair_want" = some (some (.ref f22))) (l22 : K.lookup f22 = some ⟨oc22, od22, .func (PySem.W.fnOf "_law_pair_want" "_law_pair_want" (defArgs s__law_pair_want) (defBody s__law_pair_want) (defScope s__law_pair_want) .none kV22 dc22 pm22 an22 cd22 ct22), sl22⟩) (c22 : PySem.W.codeIn K cd22 "_law_pair_want" = true) (k22 : PySem.W.keepIn K (.ref f22) = true)
  {f23 : Addr} {od23 an23 : Option Addr} {sl23 : Array (Option Value)} {oc23 kV23 dc23 pm23 cd23 ct23 : Value}
  (a23 : PySem.W.nsIn K mainGlobals "_law_both_wants" = some (some (.ref f23))) (l23 : K.lookup f23 = some ⟨oc23, od23, .func (PySem.W.fnOf "_law_both_wants" "_law_both_wants" (defArgs s__law_both_wants) (defBody s__law_both_wants) (defScope s__law_both_wants) .none kV23 dc23 pm23 an23 cd23 ct23), sl23⟩) (c23 : PySem.W.codeIn K cd23 "_law_both_wants" = true) (k23 : PySem.W.keepIn K (.ref f23) = true)
  {f24 : Addr} {od24 an24 : Option Addr} {sl24 : Array (Option Value)} {oc24 kV24 dc24 pm24 cd24 ct24 : Value}
  (a24 : PySem.W.nsIn K mainGlobals "_law_any_want" = some (some (.ref f24))) (l24 : K.lookup f24 = some ⟨oc24, od24, .func (PySem.W.fnOf "_law_any_want" "_law_any_want" (defArgs s__law_any_want) (defBody s__law_any_want) (defScope s__law_any_want) .none kV24 dc24 pm24 an24 cd24 ct24), sl24⟩) (c24 : PySem.W.codeIn K cd24 "_law_any_want" = true) (k24 : PySem.W.keepIn K (.ref f24) = true)
  {f25 : Addr} {od25 an25 : Option Addr} {sl25 : Array (Option Value)} {oc25 kV25 dc25 pm25 cd25 ct25 : Value}
  (a25 : PySem.W.nsIn K mainGlobals "_law_sided" = some (some (.ref f25))) (l25 : K.lookup f25 = some ⟨oc25, od25, .func (PySem.W.fnOf "_law_sided" "_law_sided" (defArgs s__law_sided) (defBody s__law_sided) (defScope s__law_sided) .none kV25 dc25 pm25 an25 cd25 ct25), sl25⟩) (c25 : PySem.W.codeIn K cd25 "_law_sided" = true) (k25 : PySem.W.keepIn K (.ref f25) = true)
  {f26 : Addr} {od26 an26 : Option Addr} {sl26 : Array (Option Value)} {oc26 kV26 dc26 pm26 cd26 ct26 : Value}
  (a26 : PySem.W.nsIn K mainGlobals "_law_sides" = some (some (.ref f26))) (l26 : K.lookup f26 = some ⟨oc26, od26, .func (PySem.W.fnOf "_law_sides" "_law_sides" (defArgs s__law_sides) (defBody s__law_sides) (defScope s__law_sides) .none kV26 dc26 pm26 an26 cd26 ct26), sl26⟩) (c26 : PySem.W.codeIn K cd26 "_law_sides" = true) (k26 : PySem.W.keepIn K (.ref f26) = true)
  {f27 : Addr} {od27 an27 : Option Addr} {sl27 : Array (Option Value)} {oc27 kV27 dc27 pm27 cd27 ct27 : Value}
  (a27 : PySem.W.nsIn K mainGlobals "_law_sided_town" = some (some (.ref f27))) (l27 : K.lookup f27 = some ⟨oc27, od27, .func (PySem.W.fnOf "_law_sided_town" "_law_sided_town" (defArgs s__law_sided_town) (defBody s__law_sided_town) (defScope s__law_sided_town) .none kV27 dc27 pm27 an27 cd27 ct27), sl27⟩) (c27 : PySem.W.codeIn K cd27 "_law_sided_town" = true) (k27 : PySem.W.keepIn K (.ref f27) = true)
  {f28 : Addr} {od28 an28 : Option Addr} {sl28 : Array (Option Value)} {oc28 kV28 dc28 pm28 cd28 ct28 : Value}
  (a28 : PySem.W.nsIn K mainGlobals "_law_more_worth" = some (some (.ref f28))) (l28 : K.lookup f28 = some ⟨oc28, od28, .func (PySem.W.fnOf "_law_more_worth" "_law_more_worth" (defArgs s__law_more_worth) (defBody s__law_more_worth) (defScope s__law_more_worth) .none kV28 dc28 pm28 an28 cd28 ct28), sl28⟩) (c28 : PySem.W.codeIn K cd28 "_law_more_worth" = true) (k28 : PySem.W.keepIn K (.ref f28) = true)
  {f29 : Addr} {od29 an29 : Option Addr} {sl29 : Array (Option Value)} {oc29 kV29 dc29 pm29 cd29 ct29 : Value}
  (a29 : PySem.W.nsIn K mainGlobals "_law_town" = some (some (.ref f29))) (l29 : K.lookup f29 = some ⟨oc29, od29, .func (PySem.W.fnOf "_law_town" "_law_town" (defArgs s__law_town) (defBody s__law_town) (defScope s__law_town) .none kV29 dc29 pm29 an29 cd29 ct29), sl29⟩) (c29 : PySem.W.codeIn K cd29 "_law_town" = true) (k29 : PySem.W.keepIn K (.ref f29) = true)
  {f30 : Addr} {od30 an30 : Option Addr} {sl30 : Array (Option Value)} {oc30 kV30 dc30 pm30 cd30 ct30 : Value}
  (a30 : PySem.W.nsIn K mainGlobals "_law_most" = some (some (.ref f30))) (l30 : K.lookup f30 = some ⟨oc30, od30, .func (PySem.W.fnOf "_law_most" "_law_most" (defArgs s__law_most) (defBody s__law_most) (defScope s__law_most) .none kV30 dc30 pm30 an30 cd30 ct30), sl30⟩) (c30 : PySem.W.codeIn K cd30 "_law_most" = true) (k30 : PySem.W.keepIn K (.ref f30) = true)
  {f31 : Addr} {od31 an31 : Option Addr} {sl31 : Array (Option Value)} {oc31 kV31 dc31 pm31 cd31 ct31 : Value}
  (a31 : PySem.W.nsIn K mainGlobals "_law_dealings" = some (some (.ref f31))) (l31 : K.lookup f31 = some ⟨oc31, od31, .func (PySem.W.fnOf "_law_dealings" "_law_dealings" (defArgs s__law_dealings) (defBody s__law_dealings) (defScope s__law_dealings) .none kV31 dc31 pm31 an31 cd31 ct31), sl31⟩) (c31 : PySem.W.codeIn K cd31 "_law_dealings" = true) (k31 : PySem.W.keepIn K (.ref f31) = true)
  {f32 : Addr} {od32 an32 : Option Addr} {sl32 : Array (Option Value)} {oc32 kV32 dc32 pm32 cd32 ct32 : Value}
  (a32 : PySem.W.nsIn K mainGlobals "_law_heap_of" = some (some (.ref f32))) (l32 : K.lookup f32 = some ⟨oc32, od32, .func (PySem.W.fnOf "_law_heap_of" "_law_heap_of" (defArgs s__law_heap_of) (defBody s__law_heap_of) (defScope s__law_heap_of) .none kV32 dc32 pm32 an32 cd32 ct32), sl32⟩) (c32 : PySem.W.codeIn K cd32 "_law_heap_of" = true) (k32 : PySem.W.keepIn K (.ref f32) = true)
  {f33 : Addr} {od33 an33 : Option Addr} {sl33 : Array (Option Value)} {oc33 kV33 dc33 pm33 cd33 ct33 : Value}
  (a33 : PySem.W.nsIn K mainGlobals "_law_sum_dealt" = some (some (.ref f33))) (l33 : K.lookup f33 = some ⟨oc33, od33, .func (PySem.W.fnOf "_law_sum_dealt" "_law_sum_dealt" (defArgs s__law_sum_dealt) (defBody s__law_sum_dealt) (defScope s__law_sum_dealt) .none kV33 dc33 pm33 an33 cd33 ct33), sl33⟩) (c33 : PySem.W.codeIn K cd33 "_law_sum_dealt" = true) (k33 : PySem.W.keepIn K (.ref f33) = true)
  {f34 : Addr} {od34 an34 : Option Addr} {sl34 : Array (Option Value)} {oc34 kV34 dc34 pm34 cd34 ct34 : Value}
  (a34 : PySem.W.nsIn K mainGlobals "_law_same" = some (some (.ref f34))) (l34 : K.lookup f34 = some ⟨oc34, od34, .func (PySem.W.fnOf "_law_same" "_law_same" (defArgs s__law_same) (defBody s__law_same) (defScope s__law_same) .none kV34 dc34 pm34 an34 cd34 ct34), sl34⟩) (c34 : PySem.W.codeIn K cd34 "_law_same" = true) (k34 : PySem.W.keepIn K (.ref f34) = true)
  {f35 : Addr} {od35 an35 : Option Addr} {sl35 : Array (Option Value)} {oc35 kV35 dc35 pm35 cd35 ct35 : Value}
  (a35 : PySem.W.nsIn K mainGlobals "_law_best" = some (some (.ref f35))) (l35 : K.lookup f35 = some ⟨oc35, od35, .func (PySem.W.fnOf "_law_best" "_law_best" (defArgs s__law_best) (defBody s__law_best) (defScope s__law_best) .none kV35 dc35 pm35 an35 cd35 ct35), sl35⟩) (c35 : PySem.W.codeIn K cd35 "_law_best" = true) (k35 : PySem.W.keepIn K (.ref f35) = true)
  {f36 : Addr} {od36 an36 : Option Addr} {sl36 : Array (Option Value)} {oc36 kV36 dc36 pm36 cd36 ct36 : Value}
  (a36 : PySem.W.nsIn K mainGlobals "_law_sums" = some (some (.ref f36))) (l36 : K.lookup f36 = some ⟨oc36, od36, .func (PySem.W.fnOf "_law_sums" "_law_sums" (defArgs s__law_sums) (defBody s__law_sums) (defScope s__law_sums) .none kV36 dc36 pm36 an36 cd36 ct36), sl36⟩) (c36 : PySem.W.codeIn K cd36 "_law_sums" = true) (k36 : PySem.W.keepIn K (.ref f36) = true)
  {f37 : Addr} {od37 an37 : Option Addr} {sl37 : Array (Option Value)} {oc37 kV37 dc37 pm37 cd37 ct37 : Value}
  (a37 : PySem.W.nsIn K mainGlobals "_law_reach" = some (some (.ref f37))) (l37 : K.lookup f37 = some ⟨oc37, od37, .func (PySem.W.fnOf "_law_reach" "_law_reach" (defArgs s__law_reach) (defBody s__law_reach) (defScope s__law_reach) .none kV37 dc37 pm37 an37 cd37 ct37), sl37⟩) (c37 : PySem.W.codeIn K cd37 "_law_reach" = true) (k37 : PySem.W.keepIn K (.ref f37) = true)
  {f38 : Addr} {od38 an38 : Option Addr} {sl38 : Array (Option Value)} {oc38 kV38 dc38 pm38 cd38 ct38 : Value}
  (a38 : PySem.W.nsIn K mainGlobals "_law_first_by_sums" = some (some (.ref f38))) (l38 : K.lookup f38 = some ⟨oc38, od38, .func (PySem.W.fnOf "_law_first_by_sums" "_law_first_by_sums" (defArgs s__law_first_by_sums) (defBody s__law_first_by_sums) (defScope s__law_first_by_sums) .none kV38 dc38 pm38 an38 cd38 ct38), sl38⟩) (c38 : PySem.W.codeIn K cd38 "_law_first_by_sums" = true) (k38 : PySem.W.keepIn K (.ref f38) = true)
  {f39 : Addr} {od39 an39 : Option Addr} {sl39 : Array (Option Value)} {oc39 kV39 dc39 pm39 cd39 ct39 : Value}
  (a39 : PySem.W.nsIn K mainGlobals "_law_great_town" = some (some (.ref f39))) (l39 : K.lookup f39 = some ⟨oc39, od39, .func (PySem.W.fnOf "_law_great_town" "_law_great_town" (defArgs s__law_great_town) (defBody s__law_great_town) (defScope s__law_great_town) .none kV39 dc39 pm39 an39 cd39 ct39), sl39⟩) (c39 : PySem.W.codeIn K cd39 "_law_great_town" = true) (k39 : PySem.W.keepIn K (.ref f39) = true)
  {f40 : Addr} {od40 an40 : Option Addr} {sl40 : Array (Option Value)} {oc40 kV40 dc40 pm40 cd40 ct40 : Value}
  (a40 : PySem.W.nsIn K mainGlobals "_law_great_right" = some (some (.ref f40))) (l40 : K.lookup f40 = some ⟨oc40, od40, .func (PySem.W.fnOf "_law_great_right" "_law_great_right" (defArgs s__law_great_right) (defBody s__law_great_right) (defScope s__law_great_right) .none kV40 dc40 pm40 an40 cd40 ct40), sl40⟩) (c40 : PySem.W.codeIn K cd40 "_law_great_right" = true) (k40 : PySem.W.keepIn K (.ref f40) = true)
  {f41 : Addr} {od41 an41 : Option Addr} {sl41 : Array (Option Value)} {oc41 kV41 dc41 pm41 cd41 ct41 : Value}
  (a41 : PySem.W.nsIn K mainGlobals "law" = some (some (.ref f41))) (l41 : K.lookup f41 = some ⟨oc41, od41, .func (PySem.W.fnOf "law" "law" (defArgs s_law) (defBody s_law) (defScope s_law) .none kV41 dc41 pm41 an41 cd41 ct41), sl41⟩) (c41 : PySem.W.codeIn K cd41 "law" = true) (k41 : PySem.W.keepIn K (.ref f41) = true)
  (z_len : PySem.W.nsIn K mainGlobals "len" = some none)
  (z_sum : PySem.W.nsIn K mainGlobals "sum" = some none)
  (z_isinstance : PySem.W.nsIn K mainGlobals "isinstance" = some none)
  (z_all : PySem.W.nsIn K mainGlobals "all" = some none)
  (z_zip : PySem.W.nsIn K mainGlobals "zip" = some none)
  (z_sorted : PySem.W.nsIn K mainGlobals "sorted" = some none)
  (z_enumerate : PySem.W.nsIn K mainGlobals "enumerate" = some none)
  (z_min : PySem.W.nsIn K mainGlobals "min" = some none)
  (z_max : PySem.W.nsIn K mainGlobals "max" = some none)
  (z_range : PySem.W.nsIn K mainGlobals "range" = some none)
  (z_tuple : PySem.W.nsIn K mainGlobals "tuple" = some none)
  (z_int : PySem.W.nsIn K mainGlobals "int" = some none)
  (z_bool : PySem.W.nsIn K mainGlobals "bool" = some none)
  : ∃ fd : FuncData, (∀ (s : Shared) (v : Value), BindsTo s fd ⟨[v], []⟩ [("_law_script", v)]) ∧ ∀ base : Heap, K.In base → base.Ns mainGlobals mg → FnOk l.prog w K mg base CX0 11 fa fd ["_law_script"] (sp_law K) := by
 have e := hfa.symm.trans (PySem.W.mg_of X G a41)
 cases e
 have T : Txt mg := ⟨PySem.W.mg_none_of X G z_len, PySem.W.mg_none_of X G z_sum, PySem.W.mg_none_of X G z_isinstance, PySem.W.mg_none_of X G z_all, PySem.W.mg_none_of X G z_zip, PySem.W.mg_none_of X G z_sorted, PySem.W.mg_none_of X G z_enumerate, PySem.W.mg_none_of X G z_min, PySem.W.mg_none_of X G z_max, PySem.W.mg_none_of X G z_range, PySem.W.mg_none_of X G z_tuple, PySem.W.mg_none_of X G z_int, PySem.W.mg_none_of X G z_bool⟩
 have F_less := fun_mk (st := s_less) l0 c0 k0
 have m_less := PySem.W.mg_of X G a0
 have b_less := F_less.binds (ps := ["one", "other"]) fun _ _ _ _ _ _ => L2.us2 (fun _ _ => rfl)
 have F_heap_of := fun_mk (st := s_heap_of) l1 c1 k1
 have m_heap_of := PySem.W.mg_of X G a1
 have b_heap_of := F_heap_of.binds (ps := ["things"]) fun _ _ _ _ _ _ => L2.us1 (fun _ => rfl)
 have F_is_within := fun_mk (st := s_is_within) l2 c2 k2
 have m_is_within := PySem.W.mg_of X G a2
 have b_is_within := F_is_within.binds (ps := ["one", "other"]) fun _ _ _ _ _ _ => L2.us2 (fun _ _ => rfl)
 have F_heap_of_side := fun_mk (st := s_heap_of_side) l3 c3 k3
 have m_heap_of_side := PySem.W.mg_of X G a3
 have b_heap_of_side := F_heap_of_side.binds (ps := ["sides", "side"]) fun _ _ _ _ _ _ => L2.us2 (fun _ _ => rfl)
 have F_heaps_of := fun_mk (st := s_heaps_of) l4 c4 k4
 have m_heaps_of := PySem.W.mg_of X G a4
 have b_heaps_of := F_heaps_of.binds (ps := ["town", "dealing"]) fun _ _ _ _ _ _ => L2.us2 (fun _ _ => rfl)
 have F_joined := fun_mk (st := s_joined) l5 c5 k5
 have m_joined := PySem.W.mg_of X G a5
 have b_joined := F_joined.binds (ps := ["one", "other"]) fun _ _ _ _ _ _ => L2.us2 (fun _ _ => rfl)
 have F_most_parted := fun_mk (st := s_most_parted) l6 c6 k6
 have m_most_parted := PySem.W.mg_of X G a6
 have b_most_parted := F_most_parted.binds (ps := ["one", "other", "heap"]) fun _ _ _ _ _ _ => L2.us3 (fun _ _ _ => rfl)
 have F_without_hand := fun_mk (st := s_without_hand) l7 c7 k7
 have m_without_hand := PySem.W.mg_of X G a7
 have b_without_hand := F_without_hand.binds (ps := ["town", "hand"]) fun _ _ _ _ _ _ => L2.us2 (fun _ _ => rfl)
 have F_greatest := fun_mk (st := s_greatest) l8 c8 k8
 have m_greatest := PySem.W.mg_of X G a8
 have b_greatest := F_greatest.binds (ps := ["town"]) fun _ _ _ _ _ _ => L2.us1 (fun _ => rfl)
 have F_greatest_without := fun_mk (st := s_greatest_without) l9 c9 k9
 have m_greatest_without := PySem.W.mg_of X G a9
 have b_greatest_without := F_greatest_without.binds (ps := ["town", "hand"]) fun _ _ _ _ _ _ => L2.us2 (fun _ _ => rfl)
 have F_greatest_sums := fun_mk (st := s_greatest_sums) l10 c10 k10
 have m_greatest_sums := PySem.W.mg_of X G a10
 have b_greatest_sums := F_greatest_sums.binds (ps := ["wants", "many"]) fun _ _ _ _ _ _ => L2.us2 (fun _ _ => rfl)
 have F_lost_without := fun_mk (st := s_lost_without) l11 c11 k11
 have m_lost_without := PySem.W.mg_of X G a11
 have b_lost_without := F_lost_without.binds (ps := ["town", "hand"]) fun _ _ _ _ _ _ => L2.us2 (fun _ _ => rfl)
 have F_pays := fun_mk (st := s_pays) l12 c12 k12
 have m_pays := PySem.W.mg_of X G a12
 have b_pays := F_pays.binds (ps := ["town", "dealing"]) fun _ _ _ _ _ _ => L2.us2 (fun _ _ => rfl)
 have F__law_cell_at := fun_mk (st := s__law_cell_at) l13 c13 k13
 have m__law_cell_at := PySem.W.mg_of X G a13
 have b__law_cell_at := F__law_cell_at.binds (ps := ["_law_script", "_law_k"]) fun _ _ _ _ _ _ => L2.us2 (fun _ _ => rfl)
 have F__law_left := fun_mk (st := s__law_left) l14 c14 k14
 have m__law_left := PySem.W.mg_of X G a14
 have b__law_left := F__law_left.binds (ps := ["_law_script", "_law_k"]) fun _ _ _ _ _ _ => L2.us2 (fun _ _ => rfl)
 have F__law_pick := fun_mk (st := s__law_pick) l15 c15 k15
 have m__law_pick := PySem.W.mg_of X G a15
 have b__law_pick := F__law_pick.binds (ps := ["_law_left_here", "_law_many"]) fun _ _ _ _ _ _ => L2.us2 (fun _ _ => rfl)
 have F__law_within := fun_mk (st := s__law_within) l16 c16 k16
 have m__law_within := PySem.W.mg_of X G a16
 have b__law_within := F__law_within.binds (ps := ["_law_heap"]) fun _ _ _ _ _ _ => L2.us1 (fun _ => rfl)
 have F__law_sized := fun_mk (st := s__law_sized) l17 c17 k17
 have m__law_sized := PySem.W.mg_of X G a17
 have b__law_sized := F__law_sized.binds (ps := ["_law_left_here"]) fun _ _ _ _ _ _ => L2.us1 (fun _ => rfl)
 have F__law_worth := fun_mk (st := s__law_worth) l18 c18 k18
 have m__law_worth := PySem.W.mg_of X G a18
 have b__law_worth := F__law_worth.binds (ps := ["_law_left_here", "_law_most_here"]) fun _ _ _ _ _ _ => L2.us2 (fun _ _ => rfl)
 have F__law_worths_in := fun_mk (st := s__law_worths_in) l19 c19 k19
 have m__law_worths_in := PySem.W.mg_of X G a19
 have b__law_worths_in := F__law_worths_in.binds (ps := ["_law_worths", "_law_heap"]) fun _ _ _ _ _ _ => L2.us2 (fun _ _ => rfl)
 have F__law_sum_want := fun_mk (st := s__law_sum_want) l20 c20 k20
 have m__law_sum_want := PySem.W.mg_of X G a20
 have b__law_sum_want := F__law_sum_want.binds (ps := ["_law_left_here", "_law_many", "_law_most_here"]) fun _ _ _ _ _ _ => L2.us3 (fun _ _ _ => rfl)
 have F__law_best_few := fun_mk (st := s__law_best_few) l21 c21 k21
 have m__law_best_few := PySem.W.mg_of X G a21
 have b__law_best_few := F__law_best_few.binds (ps := ["_law_left_here", "_law_many", "_law_most_here"]) fun _ _ _ _ _ _ => L2.us3 (fun _ _ _ => rfl)
 have F__law_pair_want := fun_mk (st := s__law_pair_want) l22 c22 k22
 have m__law_pair_want := PySem.W.mg_of X G a22
 have b__law_pair_want := F__law_pair_want.binds (ps := ["_law_left_here", "_law_sides_here", "_law_most_here"]) fun _ _ _ _ _ _ => L2.us3 (fun _ _ _ => rfl)
 have F__law_both_wants := fun_mk (st := s__law_both_wants) l23 c23 k23
 have m__law_both_wants := PySem.W.mg_of X G a23
 have b__law_both_wants := F__law_both_wants.binds (ps := ["_law_one", "_law_other"]) fun _ _ _ _ _ _ => L2.us2 (fun _ _ => rfl)
 have F__law_any_want := fun_mk (st := s__law_any_want) l24 c24 k24
 have m__law_any_want := PySem.W.mg_of X G a24
 have b__law_any_want := F__law_any_want.binds (ps := ["_law_left_here", "_law_many", "_law_most_here"]) fun _ _ _ _ _ _ => L2.us3 (fun _ _ _ => rfl)
 have F__law_sided := fun_mk (st := s__law_sided) l25 c25 k25
 have m__law_sided := PySem.W.mg_of X G a25
 have b__law_sided := F__law_sided.binds (ps := ["_law_left_here", "_law_sides_here", "_law_most_here"]) fun _ _ _ _ _ _ => L2.us3 (fun _ _ _ => rfl)
 have F__law_sides := fun_mk (st := s__law_sides) l26 c26 k26
 have m__law_sides := PySem.W.mg_of X G a26
 have b__law_sides := F__law_sides.binds (ps := ["_law_left_here", "_law_many"]) fun _ _ _ _ _ _ => L2.us2 (fun _ _ => rfl)
 have F__law_sided_town := fun_mk (st := s__law_sided_town) l27 c27 k27
 have m__law_sided_town := PySem.W.mg_of X G a27
 have b__law_sided_town := F__law_sided_town.binds (ps := ["_law_left_here", "_law_most_here"]) fun _ _ _ _ _ _ => L2.us2 (fun _ _ => rfl)
 have F__law_more_worth := fun_mk (st := s__law_more_worth) l28 c28 k28
 have m__law_more_worth := PySem.W.mg_of X G a28
 have b__law_more_worth := F__law_more_worth.binds (ps := ["_law_left_here", "_law_want"]) fun _ _ _ _ _ _ => L2.us2 (fun _ _ => rfl)
 have F__law_town := fun_mk (st := s__law_town) l29 c29 k29
 have m__law_town := PySem.W.mg_of X G a29
 have b__law_town := F__law_town.binds (ps := ["_law_left_here", "_law_most_here"]) fun _ _ _ _ _ _ => L2.us2 (fun _ _ => rfl)
 have F__law_most := fun_mk (st := s__law_most) l30 c30 k30
 have m__law_most := PySem.W.mg_of X G a30
 have b__law_most := F__law_most.binds (ps := ["_law_left_here"]) fun _ _ _ _ _ _ => L2.us1 (fun _ => rfl)
 have F__law_dealings := fun_mk (st := s__law_dealings) l31 c31 k31
 have m__law_dealings := PySem.W.mg_of X G a31
 have b__law_dealings := F__law_dealings.binds (ps := ["_law_many", "_law_few"]) fun _ _ _ _ _ _ => L2.us2 (fun _ _ => rfl)
 have F__law_heap_of := fun_mk (st := s__law_heap_of) l32 c32 k32
 have m__law_heap_of := PySem.W.mg_of X G a32
 have b__law_heap_of := F__law_heap_of.binds (ps := ["_law_dealt", "_law_hand"]) fun _ _ _ _ _ _ => L2.us2 (fun _ _ => rfl)
 have F__law_sum_dealt := fun_mk (st := s__law_sum_dealt) l33 c33 k33
 have m__law_sum_dealt := PySem.W.mg_of X G a33
 have b__law_sum_dealt := F__law_sum_dealt.binds (ps := ["_law_wants", "_law_dealt"]) fun _ _ _ _ _ _ => L2.us2 (fun _ _ => rfl)
 have F__law_same := fun_mk (st := s__law_same) l34 c34 k34
 have m__law_same := PySem.W.mg_of X G a34
 have b__law_same := F__law_same.binds (ps := ["_law_found", "_law_due"]) fun _ _ _ _ _ _ => L2.us2 (fun _ _ => rfl)
 have F__law_best := fun_mk (st := s__law_best) l35 c35 k35
 have m__law_best := PySem.W.mg_of X G a35
 have b__law_best := F__law_best.binds (ps := ["_law_wants", "_law_many"]) fun _ _ _ _ _ _ => L2.us2 (fun _ _ => rfl)
 have F__law_sums := fun_mk (st := s__law_sums) l36 c36 k36
 have m__law_sums := PySem.W.mg_of X G a36
 have b__law_sums := F__law_sums.binds (ps := ["_law_wants", "_law_size"]) fun _ _ _ _ _ _ => L2.us2 (fun _ _ => rfl)
 have F__law_reach := fun_mk (st := s__law_reach) l37 c37 k37
 have m__law_reach := PySem.W.mg_of X G a37
 have b__law_reach := F__law_reach.binds (ps := ["_law_wants", "_law_many", "_law_dealt"]) fun _ _ _ _ _ _ => L2.us3 (fun _ _ _ => rfl)
 have F__law_first_by_sums := fun_mk (st := s__law_first_by_sums) l38 c38 k38
 have m__law_first_by_sums := PySem.W.mg_of X G a38
 have b__law_first_by_sums := F__law_first_by_sums.binds (ps := ["_law_wants", "_law_many"]) fun _ _ _ _ _ _ => L2.us2 (fun _ _ => rfl)
 have F__law_great_town := fun_mk (st := s__law_great_town) l39 c39 k39
 have m__law_great_town := PySem.W.mg_of X G a39
 have b__law_great_town := F__law_great_town.binds (ps := ["_law_left_here"]) fun _ _ _ _ _ _ => L2.us1 (fun _ => rfl)
 have F__law_great_right := fun_mk (st := s__law_great_right) l40 c40 k40
 have m__law_great_right := PySem.W.mg_of X G a40
 have b__law_great_right := F__law_great_right.binds (ps := ["_law_town_here"]) fun _ _ _ _ _ _ => L2.us1 (fun _ => rfl)
 have F_law := fun_mk (st := s_law) l41 c41 k41
 have m_law := PySem.W.mg_of X G a41
 have b_law := F_law.binds (ps := ["_law_script"]) fun _ _ _ _ _ _ => L2.us1 (fun _ => rfl)
 refine ⟨PySem.W.fnOf "law" "law" (defArgs s_law) (defBody s_law) (defScope s_law) .none kV41 dc41 pm41 an41 cd41 ct41, fun s v => .of_eq rfl, fun base _ _ => ?_⟩
 have c_cell := ok_cell (P := l.prog) (w := w) (base := base) F__law_cell_at m__law_cell_at b__law_cell_at T
 have c_left := ok_left (P := l.prog) (w := w) (base := base) F__law_left m__law_left b__law_left T c_cell
 have c_pick := ok_pick (P := l.prog) (w := w) (base := base) F__law_pick m__law_pick b__law_pick T
 have c_sized := ok_sized (P := l.prog) (w := w) (base := base) F__law_sized m__law_sized b__law_sized T c_pick
 have c_worth := ok_worth (P := l.prog) (w := w) (base := base) F__law_worth m__law_worth b__law_worth T c_pick
 have c_most := ok_most (P := l.prog) (w := w) (base := base) F__law_most m__law_most b__law_most T c_pick
 have c_in := ok_in (P := l.prog) (w := w) (base := base) F__law_worths_in m__law_worths_in b__law_worths_in T
 have c_sum := ok_sum (P := l.prog) (w := w) (base := base) F__law_sum_want m__law_sum_want b__law_sum_want T c_worth c_in
 have c_few := ok_few (P := l.prog) (w := w) (base := base) F__law_best_few m__law_best_few b__law_best_few T c_pick c_worth c_in
 have c_within := ok_within (P := l.prog) (w := w) (base := base) F__law_within m__law_within b__law_within T
 have c_both := ok_both (P := l.prog) (w := w) (base := base) (B := 10000) F__law_both_wants m__law_both_wants b__law_both_wants T c_within
 have c_any := ok_any (P := l.prog) (w := w) (base := base) F__law_any_want m__law_any_want b__law_any_want T c_pick c_worth
 have c_pair := ok_pair (P := l.prog) (w := w) (base := base) F__law_pair_want m__law_pair_want b__law_pair_want T c_pick c_worth
 have c_sides := ok_sides (P := l.prog) (w := w) (base := base) F__law_sides m__law_sides b__law_sides T c_pick
 have c_sided := ok_sided (P := l.prog) (w := w) (base := base) F__law_sided m__law_sided b__law_sided T c_pick c_sum c_few c_pair c_both
 have c_stown := ok_sided_town (P := l.prog) (w := w) (base := base) F__law_sided_town m__law_sided_town b__law_sided_town T c_sized c_sides c_sided
 have c_more := ok_more (P := l.prog) (w := w) (base := base) F__law_more_worth m__law_more_worth b__law_more_worth T c_pick
 have c_town := ok_town (P := l.prog) (w := w) (base := base) F__law_town m__law_town b__law_town T c_pick c_stown c_any c_more
 have c_lho := ok_lho (P := l.prog) (w := w) (base := base) F__law_heap_of m__law_heap_of b__law_heap_of T
 have c_sumd := ok_sum_dealt (P := l.prog) (w := w) (base := base) F__law_sum_dealt m__law_sum_dealt b__law_sum_dealt T c_lho
 have c_less := ok_less (P := l.prog) (w := w) (base := base) F_less m_less b_less T
 have c_isw := ok_isw (P := l.prog) (w := w) (base := base) F_is_within m_is_within b_is_within T c_less
 have c_deals := ok_deals (P := l.prog) (w := w) (base := base) F__law_dealings m__law_dealings b__law_dealings T
 have c_same0 := cal_none (P := l.prog) (w := w) (base := base) F__law_same m__law_same b__law_same
 have c_same1 := ok_same1 (P := l.prog) (w := w) (base := base) F__law_same m__law_same b__law_same T c_same0
 have c_same2 := ok_same2 (P := l.prog) (w := w) (base := base) F__law_same m__law_same b__law_same T c_same1
 have c_parted := ok_parted (P := l.prog) (w := w) (base := base) F_most_parted m_most_parted b_most_parted T c_less c_isw
 have c_joined := ok_joined (P := l.prog) (w := w) (base := base) F_joined m_joined b_joined T c_parted
 have c_gsums := ok_gsums (P := l.prog) (w := w) (base := base) F_greatest_sums m_greatest_sums b_greatest_sums T c_joined
 have c_greatest := ok_greatest (P := l.prog) (w := w) (base := base) F_greatest m_greatest b_greatest T c_gsums
 have c_wout := ok_wout (P := l.prog) (w := w) (base := base) F_without_hand m_without_hand b_without_hand T
 have c_gwout := ok_gwout (P := l.prog) (w := w) (base := base) F_greatest_without m_greatest_without b_greatest_without T c_wout c_greatest
 have c_lost := ok_lost (P := l.prog) (w := w) (base := base) F_lost_without m_lost_without b_lost_without T c_greatest c_gwout
 have c_heap_of := ok_heap_of (P := l.prog) (w := w) (base := base) F_heap_of m_heap_of b_heap_of T
 have c_hos := ok_hos (P := l.prog) (w := w) (base := base) F_heap_of_side m_heap_of_side b_heap_of_side T c_heap_of
 have c_heaps := ok_heaps (P := l.prog) (w := w) (base := base) F_heaps_of m_heaps_of b_heaps_of T c_hos
 have c_pays := ok_pays (P := l.prog) (w := w) (base := base) F_pays m_pays b_pays T c_heaps c_lost
 have c_lsums := ok_lsums (P := l.prog) (w := w) (base := base) F__law_sums m__law_sums b__law_sums T c_within
 have c_reach := ok_reach (P := l.prog) (w := w) (base := base) F__law_reach m__law_reach b__law_reach T c_lho c_lsums
 have c_fbs := ok_fbs (P := l.prog) (w := w) (base := base) F__law_first_by_sums m__law_first_by_sums b__law_first_by_sums T c_lsums c_reach
 have c_gtown := ok_gtown (P := l.prog) (w := w) (base := base) F__law_great_town m__law_great_town b__law_great_town T c_pick c_sides c_sided c_any
 have c_lbest := ok_lbest (P := l.prog) (w := w) (base := base) F__law_best m__law_best b__law_best T c_deals c_sumd
 have c_gright := ok_gright (P := l.prog) (w := w) (base := base) F__law_great_right m__law_great_right b__law_great_right T c_lsums c_fbs c_lho c_pays c_same2
 exact ok_law (P := l.prog) (w := w) (base := base) F_law T c_left c_pick c_most c_town c_lbest c_lho c_pays c_same2 c_gtown c_gright
theorem walk {l : PySem.W.OpenLaw} {q : Program} {loose : List Str} {XP : (Str → Option Value) → Heap → Prop} {YP : World → Heap → Prop} {d : DefRec} {K : Params → PySem.W.Frag} (hn : l.most = some 63) (hdf : d.params.defaults = [])
  (hY : ∀ (w : World) (h : Heap), YP w h → (K w.params).In h)
  (F : ∀ (w : World) (mg : Str → Option Value) (fa : Addr) (h : Heap), (K w.params).In h → h.Ns mainGlobals mg → mg d.name = some (.ref fa) →
   ∃ fd : FuncData, (∀ (s : Shared) (u : Value), BindsTo s fd ⟨[u], []⟩ [("_law_script", u)]) ∧ ∀ base : Heap, (K w.params).In base → base.Ns mainGlobals mg → FnOk l.prog w (K w.params) mg base CX0 11 fa fd ["_law_script"] (sp_law (K w.params))) :
  PySem.W.WalkO q loose XP YP l.row.toRowW d [] (fun f vs => PySem.call f vs) :=
 L2.walk_of (n := 63) (k := 11) (x := "_law_script") (CX := fun _ => CX0) (sp := fun w => sp_law (K w.params)) hn (by decide) hdf ⟨rfl, by decide, by decide, rfl⟩ hY F (fun w H a ns hl hO hS => ⟨a, ns, rfl, hS, hl, fun _ => rfl⟩) fun _ _ _ _ _ z => z
end K73
end
end
end
section
set_option Elab.async false
set_option linter.all false
open PySem PySem.W PyProof.Rows
set_option maxRecDepth 100000 in
set_option maxHeartbeats 0 in
theorem PySem.Challenge.cw_wantprices_k73_what_hands_pay_holds : PySem.Challenge.rw_wantprices_k73_what_hands_pay.Holds := by
 w_on; o_law; k_head; (case hw => w_witness2)
 k_fill
 refine K73.walk (l := PySem.Challenge.rw_wantprices_k73_what_hands_pay) rfl rfl (fun w h Y => by first | exact PySem.W.kIn_of Y | exact PySem.W.km_in_of Y) ?F
 case F =>
  intro w mg fa h KX G hmg
  refine' K73.all_mk KX G hmg ?a0 ?l0 ?c0 ?k0 ?a1 ?l1 ?c1 ?k1 ?a2 ?l2 ?c2 ?k2 ?a3 ?l3 ?c3 ?k3 ?a4 ?l4 ?c4 ?k4 ?a5 ?l5 ?c5 ?k5 ?a6 ?l6 ?c6 ?k6 ?a7 ?l7 ?c7 ?k7 ?a8 ?l8 ?c8 ?k8 ?a9 ?l9 ?c9 ?k9 ?a10 ?l10 ?c10 ?k10 ?a11 ?l11 ?c11 ?k11 ?a12 ?l12 ?c12 ?k12 ?a13 ?l13 ?c13 ?k13 ?a14 ?l14 ?c14 ?k14 ?a15 ?l15 ?c15 ?k15 ?a16 ?l16 ?c16 ?k16 ?a17 ?l17 ?c17 ?k17 ?a18 ?l18 ?c18 ?k18 ?a19 ?l19 ?c19 ?k19 ?a20 ?l20 ?c20 ?k20 ?a21 ?l21 ?c21 ?k21 ?a22 ?l22 ?c22 ?k22 ?a23 ?l23 ?c23 ?k23 ?a24 ?l24 ?c24 ?k24 ?a25 ?l25 ?c25 ?k25 ?a26 ?l26 ?c26 ?k26 ?a27 ?l27 ?c27 ?k27 ?a28 ?l28 ?c28 ?k28 ?a29 ?l29 ?c29 ?k29 ?a30 ?l30 ?c30 ?k30 ?a31 ?l31 ?c31 ?k31 ?a32 ?l32 ?c32 ?k32 ?a33 ?l33 ?c33 ?k33 ?a34 ?l34 ?c34 ?k34 ?a35 ?l35 ?c35 ?k35 ?a36 ?l36 ?c36 ?k36 ?a37 ?l37 ?c37 ?k37 ?a38 ?l38 ?c38 ?k38 ?a39 ?l39 ?c39 ?k39 ?a40 ?l40 ?c40 ?k40 ?a41 ?l41 ?c41 ?k41 ?z_len ?z_sum ?z_isinstance ?z_all ?z_zip ?z_sorted ?z_enumerate ?z_min ?z_max ?z_range ?z_tuple ?z_int ?z_bool
  (case a0 => k_is)
  (case l0 => k_is)
  (case c0 => k_is)
  (case k0 => k_is)
  (case a1 => k_is)
  (case l1 => k_is)
  (case c1 => k_is)
  (case k1 => k_is)
  (case a2 => k_is)
  (case l2 => k_is)
  (case c2 => k_is)
  (case k2 => k_is)
  (case a3 => k_is)
  (case l3 => k_is)
  (case c3 => k_is)
  (case k3 => k_is)
  (case a4 => k_is)
  (case l4 => k_is)
  (case c4 => k_is)
  (case k4 => k_is)
  (case a5 => k_is)
  (case l5 => k_is)
  (case c5 => k_is)
  (case k5 => k_is)
  (case a6 => k_is)
  (case l6 => k_is)
  (case c6 => k_is)
  (case k6 => k_is)
  (case a7 => k_is)
  (case l7 => k_is)
  (case c7 => k_is)
  (case k7 => k_is)
  (case a8 => k_is)
  (case l8 => k_is)
  (case c8 => k_is)
  (case k8 => k_is)
  (case a9 => k_is)
  (case l9 => k_is)
  (case c9 => k_is)
  (case k9 => k_is)
  (case a10 => k_is)
  (case l10 => k_is)
  (case c10 => k_is)
  (case k10 => k_is)
  (case a11 => k_is)
  (case l11 => k_is)
  (case c11 => k_is)
  (case k11 => k_is)
  (case a12 => k_is)
  (case l12 => k_is)
  (case c12 => k_is)
  (case k12 => k_is)
  (case a13 => k_is)
  (case l13 => k_is)
  (case c13 => k_is)
  (case k13 => k_is)
  (case a14 => k_is)
  (case l14 => k_is)
  (case c14 => k_is)
  (case k14 => k_is)
  (case a15 => k_is)
  (case l15 => k_is)
  (case c15 => k_is)
  (case k15 => k_is)
  (case a16 => k_is)
  (case l16 => k_is)
  (case c16 => k_is)
  (case k16 => k_is)
  (case a17 => k_is)
  (case l17 => k_is)
  (case c17 => k_is)
  (case k17 => k_is)
  (case a18 => k_is)
  (case l18 => k_is)
  (case c18 => k_is)
  (case k18 => k_is)
  (case a19 => k_is)
  (case l19 => k_is)
  (case c19 => k_is)
  (case k19 => k_is)
  (case a20 => k_is)
  (case l20 => k_is)
  (case c20 => k_is)
  (case k20 => k_is)
  (case a21 => k_is)
  (case l21 => k_is)
  (case c21 => k_is)
  (case k21 => k_is)
  (case a22 => k_is)
  (case l22 => k_is)
  (case c22 => k_is)
  (case k22 => k_is)
  (case a23 => k_is)
  (case l23 => k_is)
  (case c23 => k_is)
  (case k23 => k_is)
  (case a24 => k_is)
  (case l24 => k_is)
  (case c24 => k_is)
  (case k24 => k_is)
  (case a25 => k_is)
  (case l25 => k_is)
  (case c25 => k_is)
  (case k25 => k_is)
  (case a26 => k_is)
  (case l26 => k_is)
  (case c26 => k_is)
  (case k26 => k_is)
  (case a27 => k_is)
  (case l27 => k_is)
  (case c27 => k_is)
  (case k27 => k_is)
  (case a28 => k_is)
  (case l28 => k_is)
  (case c28 => k_is)
  (case k28 => k_is)
  (case a29 => k_is)
  (case l29 => k_is)
  (case c29 => k_is)
  (case k29 => k_is)
  (case a30 => k_is)
  (case l30 => k_is)
  (case c30 => k_is)
  (case k30 => k_is)
  (case a31 => k_is)
  (case l31 => k_is)
  (case c31 => k_is)
  (case k31 => k_is)
  (case a32 => k_is)
  (case l32 => k_is)
  (case c32 => k_is)
  (case k32 => k_is)
  (case a33 => k_is)
  (case l33 => k_is)
  (case c33 => k_is)
  (case k33 => k_is)
  (case a34 => k_is)
  (case l34 => k_is)
  (case c34 => k_is)
  (case k34 => k_is)
  (case a35 => k_is)
  (case l35 => k_is)
  (case c35 => k_is)
  (case k35 => k_is)
  (case a36 => k_is)
  (case l36 => k_is)
  (case c36 => k_is)
  (case k36 => k_is)
  (case a37 => k_is)
  (case l37 => k_is)
  (case c37 => k_is)
  (case k37 => k_is)
  (case a38 => k_is)
  (case l38 => k_is)
  (case c38 => k_is)
  (case k38 => k_is)
  (case a39 => k_is)
  (case l39 => k_is)
  (case c39 => k_is)
  (case k39 => k_is)
  (case a40 => k_is)
  (case l40 => k_is)
  (case c40 => k_is)
  (case k40 => k_is)
  (case a41 => k_is)
  (case l41 => k_is)
  (case c41 => k_is)
  (case k41 => k_is)
  (case z_len => k_is)
  (case z_sum => k_is)
  (case z_isinstance => k_is)
  (case z_all => k_is)
  (case z_zip => k_is)
  (case z_sorted => k_is)
  (case z_enumerate => k_is)
  (case z_min => k_is)
  (case z_max => k_is)
  (case z_range => k_is)
  (case z_tuple => k_is)
  (case z_int => k_is)
  (case z_bool => k_is)
end
