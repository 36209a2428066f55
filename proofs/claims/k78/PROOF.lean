import PyProof.Rows.All
import Wide.All
import OpenK.AllK
import Wide.FinOn
import Lean
import PyProof.EqAt
import PyProof.EqKinds
import PyProof.TupleCall
import PyProof.MinMaxWalk
import PyProof.StrBlockG
import PyProof.Conv_int_bool
import PyProof.StrHeap
import PyProof.ReprHeadsTuple
import OpenK.KOwn
import KE.KTryMore
import KE.KUnpack
import PyProof.NsDelKeeps
import KE.KIntText
import PyProof.FitsReplace
import PyProof.StrLawsOcc
import PyProof.StrLawsOccR
import PyProof.ReprLen
import PyProof.StrWalks
import PyProof.StrLawsIn
import PyProof.StrLawsTight
import PyProof.Rows.FStr
import PyProof.ReprNest
import PyProof.CollectIter
import PySem.Challenge.RW_wantprices_k78_towns_written
section
set_option Elab.async false
set_option linter.all false
set_option maxRecDepth 100000
namespace L2
open PySem PySem.Spec PyProof.Rows
noncomputable abbrev Key := Sum Int Str
noncomputable def keyIs : Key → Value → Bool
  | .inl k, v => Value.isInt k v
  | .inr x, v => Value.isStrOf x v
noncomputable def keyH (w : World) : Key → Int
  | .inl k => hashInt k
  | .inr x => hashStr w x
theorem keyIs_shape : ∀ {k : Key} {v : Value}, keyIs k v = true → (∃ i t, k = Sum.inl i ∧ v = Value.int i t) ∨ (∃ x t, k = Sum.inr x ∧ v = Value.str x t)
  | .inl i, v, h => by
    obtain ⟨t, e⟩ := Value.isInt_shape (k := i) (v := v) h
    exact .inl ⟨i, t, rfl, e⟩
  | .inr x, v, h => by
    obtain ⟨t, e⟩ := Value.isStrOf_shape (x := x) (v := v) h
    exact .inr ⟨x, t, rfl, e⟩
theorem key_ll (a b : Int) : decide ((Sum.inl a : Key) = Sum.inl b) = (a == b) := by
  by_cases e : a = b
  · subst e; simp
  · have h : ¬ (Sum.inl a : Key) = Sum.inl b := fun q => e (Sum.inl.inj q)
    rw [decide_eq_false h]
    exact (beq_eq_false_iff_ne.mpr e).symm
theorem key_rr (a b : Str) : decide ((Sum.inr a : Key) = Sum.inr b) = decide (a = b) := by
  by_cases e : a = b
  · subst e; simp
  · have h : ¬ (Sum.inr a : Key) = Sum.inr b := fun q => e (Sum.inr.inj q)
    rw [decide_eq_false h, decide_eq_false e]
theorem key_lr (a : Int) (b : Str) : decide ((Sum.inl a : Key) = Sum.inr b) = false := decide_eq_false (fun q => nomatch q)
theorem key_rl (a : Str) (b : Int) : decide ((Sum.inr a : Key) = Sum.inl b) = false := decide_eq_false (fun q => nomatch q)
noncomputable def mixKind (prog : Program) (w : World) : PySem.KeyKind prog w Key where
  is := keyIs
  hash := keyH w
  inj := fun v a b ha hb => by
    rcases keyIs_shape ha with ⟨i, t, rfl, rfl⟩ | ⟨x, t, rfl, rfl⟩
    · rcases keyIs_shape hb with ⟨j, u, rfl, e⟩ | ⟨y, u, rfl, e⟩
      · injection e with e1 _; rw [e1]
      · exact nomatch e
    · rcases keyIs_shape hb with ⟨j, u, rfl, e⟩ | ⟨y, u, rfl, e⟩
      · exact nomatch e
      · injection e with e1 _; rw [e1]
  byValue := fun k v h => by
    rcases keyIs_shape h with ⟨i, t, rfl, rfl⟩ | ⟨x, t, rfl, rfl⟩ <;> rfl
  pyHash := fun hv h => by
    rcases keyIs_shape hv with ⟨i, t, rfl, rfl⟩ | ⟨x, t, rfl, rfl⟩
    · exact wpAny_pyHash_int h
    · exact wpAny_pyHash_str h
  eqBool := fun hu hv h => by
    rcases keyIs_shape hu with ⟨i, t, rfl, rfl⟩ | ⟨x, t, rfl, rfl⟩
    · rcases keyIs_shape hv with ⟨j, u, rfl, rfl⟩ | ⟨y, u, rfl, rfl⟩
      · rw [key_ll] at h; exact wpAny_eqBool_int h
      · rw [key_lr] at h; exact SeqAt.EqAt.int_str i t y u _ _ _ _ h
    · rcases keyIs_shape hv with ⟨j, u, rfl, rfl⟩ | ⟨y, u, rfl, rfl⟩
      · rw [key_rl] at h; exact SeqAt.EqAt.str_int x t j u _ _ _ _ h
      · rw [key_rr] at h; exact wpAny_eqBool_str h
  «strs» := fun k x t v h => by
    rcases keyIs_shape h with ⟨i, u, rfl, e⟩ | ⟨y, u, rfl, e⟩
    · exact nomatch e
    · injection e with e1 _
      subst e1
      cases v <;> rfl
end L2
namespace L2
open PySem PySem.Spec PyProof.Rows
inductive V where
  | non | bl (b : Bool) | int (i : Int) | str (x : Str) | byt (b : Array UInt8) | flt (b : UInt64) | ref (a : Addr) | ty (n : String)
  deriving DecidableEq
noncomputable def RelV : V → Value → Prop
  | .non, u => u = Value.none
  | .bl b, u => u = Value.bool b
  | .int i, u => ∃ t, u = Value.int i t
  | .str x, u => ∃ t, u = Value.str x t
  | .byt b, u => ∃ t, u = Value.bytes b t
  | .flt b, u => ∃ t, u = Value.float b t
  | .ref a, u => u = Value.ref a
  | .ty n, u => u = Value.type n
noncomputable abbrev Vals : List V → List Value → Prop := Paired RelV
theorem Vals.length {xs : List V} {us : List Value} (r : Vals xs us) : xs.length = us.length := Paired.length r
theorem Vals.get : ∀ {xs : List V} {us : List Value} {i : Nat} {x : V}, Vals xs us → xs[i]? = some x → ∃ u, us[i]? = some u ∧ RelV x u
  | _, _, _, _, .nil, e => by simp at e
  | _, _, 0, _, .cons r _, e => by simp at e; subst e; exact ⟨_, rfl, r⟩
  | _, _, i + 1, x, .cons _ t, e => by
    obtain ⟨u, h1, h2⟩ := Vals.get (i := i) (x := x) t (by simpa using e)
    exact ⟨u, by simpa using h1, h2⟩
theorem Vals.set {x : V} {u : Value} (r : RelV x u) : ∀ {xs : List V} {us : List Value} (i : Nat), Vals xs us → Vals (xs.set i x) (us.set i u)
  | _, _, _, .nil => .nil
  | _, _, 0, .cons _ t => .cons r t
  | _, _, i + 1, .cons q t => .cons q (Vals.set r i t)
theorem Vals.append : ∀ {xs ys : List V} {us ws : List Value}, Vals xs us → Vals ys ws → Vals (xs ++ ys) (us ++ ws)
  | _, _, _, _, .nil, s => s
  | _, _, _, _, .cons r t, s => .cons r (Vals.append t s)
theorem Vals.take : ∀ {xs : List V} {us : List Value} (n : Nat), Vals xs us → Vals (xs.take n) (us.take n)
  | _, _, 0, _ => .nil
  | _, _, _ + 1, .nil => .nil
  | _, _, n + 1, .cons r t => .cons r (Vals.take n t)
theorem Vals.drop : ∀ {xs : List V} {us : List Value} (n : Nat), Vals xs us → Vals (xs.drop n) (us.drop n)
  | _, _, 0, r => r
  | _, _, _ + 1, .nil => .nil
  | _, _, n + 1, .cons _ t => Vals.drop n t
noncomputable def RelO : Option V → Option Value → Prop
  | some v, some u => RelV v u
  | none, none => True
  | _, _ => False
noncomputable def KV {κ : Type} : List (κ × V) → List (κ × Value) → Prop := Paired fun (p : κ × V) (q : κ × Value) => p.1 = q.1 ∧ RelV p.2 q.2
noncomputable def kV : Key → V
  | .inl i => .int i
  | .inr x => .str x
inductive HO where
  | lst (xs : List V)
  | tup (xs : List V)
  | dK (kvs : List (Key × V)) | dT (kvs : List (List Key × V))
  | set (S : Int → Bool) (n : Nat)
  | ins (C dx : Addr) (fs : List (Str × V))
  | own (x : Addr)
  | xd (fs : List (Str × V))
  | met (f x : Addr)
  | rng (lo hi : Int)
  | frz (o : Obj) (u : HO)
  | tbl (ps : Array Value)
  | ext (φ : Heap → Prop)
noncomputable abbrev Hp := Addr → Option HO
noncomputable def upd (H : Hp) (a : Addr) (o : HO) : Hp := fun b => if b = a then some o else H b
theorem upd_same {H : Hp} {a : Addr} {o : HO} : upd H a o a = some o := by unfold upd; rw [if_pos rfl]
theorem upd_ne {H : Hp} {a b : Addr} {o : HO} (h : b ≠ a) : upd H a o b = H b := by unfold upd; rw [if_neg h]
theorem upd_upd {H : Hp} {a : Addr} {o u : HO} : upd (upd H a o) a u = upd H a u := by
  funext b; unfold upd; split <;> rfl
theorem ne_of_none {H : Hp} {a b : Addr} {o : HO} (h : H a = some o) (h' : H b = none) : a ≠ b := by
  intro e; subst e; rw [h] at h'; cases h'
section
variable (P : Program) (w : World)
noncomputable def ObjOk (H : Hp) (h : Heap) (a : Addr) : HO → Prop
  | .lst xs => xs.length ≤ sizeLine ∧ ∃ (its : List Value) (n : Nat), Vals xs its ∧ h.get? a = some { cls := .type "list", data := .seq its.toArray n }
  | .tup xs => xs.length ≤ sizeLine ∧ ∃ its : List Value, Vals xs its ∧ IsTup h a its.toArray
  | .dK kvs => kvs.length ≤ sizeLine ∧ (a == sysModules) = false ∧ ∃ vs, KV kvs vs ∧ h.DictOf (mixKind P w) a vs
  | .dT kvs => kvs.length ≤ sizeLine ∧ (a == sysModules) = false ∧ ∃ xs : List (List Key × Addr × Value),
      Paired (fun (p : List Key × V) (q : List Key × Addr × Value) => p.1 = q.1 ∧ H q.2.1 = some (.tup (p.1.map kV)) ∧ RelV p.2 q.2.2) kvs xs ∧
      ∃ o es ep, h.get? a = some o ∧ o.ExactDict ∧ o.data = .dict es ep ∧ es.toList = xs.map (entryOfKey (tupleKind (mixKind P w))) ∧ (xs.map (·.1)).Nodup
  | .set S n => h.SetOf (intKind P w) a S n
  | .ins C dx fs => H dx = some (.own a) ∧ fs.length ≤ 1000 ∧ dx ≠ a ∧ h.get? a = some (PySem.W.instObj C dx) ∧
      ∃ mA, h.Ns1 dx mA ∧ (∀ f, RelO (fs.lookup f) (mA f)) ∧ PySem.Within mA (fs.map (·.1))
  | .own _ => ∃ o, h.get? a = some o
  | .xd fs => ∃ mA, h.Ns1 a mA ∧ ∀ f, RelO (fs.lookup f) (mA f)
  | .rng lo hi => ∃ t u v, h.get? a = some { cls := .type "range", data := .fields #[.int lo t, .int hi u, .int 1 v] }
  | .frz o u => h.get? a = some o ∧ ObjOk H h a u
  | .tbl ps => h.get? a = some { cls := .none, data := .fields ps }
  | .met f x => h.get? a = some (PySem.W.methodObj (.ref f) (.ref x))
  | .ext φ => φ h ∧ (∃ o, h.get? a = some o) ∧ ∀ h1 h2 : Heap, φ h1 → (∀ o, h1.get? a = some o → h2.get? a = some o) → φ h2
noncomputable def HOk (H : Hp) (h : Heap) : Prop := ∀ a o, H a = some o → ObjOk P w H h a o
end
section
variable {P : Program} {w : World} {H H' : Hp} {h h' : Heap} {a : Addr} {o : HO}
theorem ObjOk.lt (x : ObjOk P w H h a o) : a < h.objs.size := by
  cases o with
  | lst xs => obtain ⟨_, _, _, _, e⟩ := x; exact Heap.lt_size e
  | tup xs => obtain ⟨_, _, _, p⟩ := x; exact p.lt
  | dK kvs => obtain ⟨_, _, _, _, o, _, _, e, _⟩ := x; exact Heap.lt_size e
  | dT kvs => obtain ⟨_, _, _, _, o, _, _, e, _⟩ := x; exact Heap.lt_size e
  | set S n => obtain ⟨o, _, _, _, e, _⟩ := x; exact Heap.lt_size e
  | ins C dx fs => obtain ⟨_, _, _, e, _⟩ := x; exact Heap.lt_size e
  | own y => obtain ⟨_, e⟩ := x; exact Heap.lt_size e
  | xd fs => obtain ⟨_, ⟨_, _, _, e, _⟩, _⟩ := x; exact Heap.lt_size e
  | rng lo hi => obtain ⟨_, _, _, e⟩ := x; exact Heap.lt_size e
  | frz ob u => obtain ⟨e, _⟩ := x; exact Heap.lt_size e
  | tbl ps => exact Heap.lt_size (show h.get? a = some _ from x)
  | met f y => exact Heap.lt_size (show h.get? a = some _ from x)
  | ext φ => obtain ⟨_, ⟨_, e⟩, _⟩ := x; exact Heap.lt_size e
theorem Paired.mapP {α β : Type} {F G : α → β → Prop} : ∀ {l₁ : List α} {l₂ : List β}, Paired F l₁ l₂ → (∀ a b, F a b → G a b) → Paired G l₁ l₂
  | _, _, .nil, _ => .nil
  | _, _, .cons r t, f => .cons (f _ _ r) (Paired.mapP t f)
theorem ObjOk.stay (x : ObjOk P w H h a o) (k : ∀ b u, (b = a ∨ H b = some (.own a)) → h.get? b = some u → h'.get? b = some u)
    (ho : ∀ b, H b = some (.own a) → H' b = some (.own a)) (ht : ∀ b xs, H b = some (.tup xs) → H' b = some (.tup xs)) : ObjOk P w H' h' a o := by
  induction o with
  | lst xs => obtain ⟨z, its, n, r, e⟩ := x; exact ⟨z, its, n, r, k _ _ (.inl rfl) e⟩
  | tup xs => obtain ⟨z, its, r, ob, e, c⟩ := x; exact ⟨z, its, r, ob, k _ _ (.inl rfl) e, c⟩
  | dK kvs => obtain ⟨z, y, vs, r, ob, es, ep, e, c⟩ := x; exact ⟨z, y, vs, r, ob, es, ep, k _ _ (.inl rfl) e, c⟩
  | dT kvs =>
    obtain ⟨z, y, xs, r, ob, es, ep, e, c⟩ := x
    exact ⟨z, y, xs, Paired.mapP r fun p q z => ⟨z.1, ht _ _ z.2.1, z.2.2⟩, ob, es, ep, k _ _ (.inl rfl) e, c⟩
  | set S n => obtain ⟨ob, es, ep, t, e, c⟩ := x; exact ⟨ob, es, ep, t, k _ _ (.inl rfl) e, c⟩
  | ins C dx fs =>
    obtain ⟨d, z, ne, e, mA, ⟨od, es, ep, e2, c⟩, r⟩ := x
    exact ⟨ho _ d, z, ne, k _ _ (.inl rfl) e, mA, ⟨od, es, ep, k _ _ (.inr d) e2, c⟩, r⟩
  | own y => obtain ⟨ob, e⟩ := x; exact ⟨ob, k _ _ (.inl rfl) e⟩
  | xd fs => obtain ⟨mA, ⟨od, es, ep, e, c⟩, r⟩ := x; exact ⟨mA, ⟨od, es, ep, k _ _ (.inl rfl) e, c⟩, r⟩
  | rng lo hi => obtain ⟨t, u, v, e⟩ := x; exact ⟨t, u, v, k _ _ (.inl rfl) e⟩
  | frz ob u ih => obtain ⟨e, q⟩ := x; exact ⟨k _ _ (.inl rfl) e, ih q⟩
  | tbl ps =>
    have e : h.get? a = some { cls := .none, data := .fields ps } := x
    show h'.get? a = some { cls := .none, data := .fields ps }
    exact k a _ (.inl rfl) e
  | met f y =>
    have e : h.get? a = some (PySem.W.methodObj (.ref f) (.ref y)) := x
    show h'.get? a = some (PySem.W.methodObj (.ref f) (.ref y))
    exact k a _ (.inl rfl) e
  | ext φ => obtain ⟨p, ⟨o, e⟩, st⟩ := x; exact ⟨st _ _ p fun o q => k _ _ (.inl rfl) q, ⟨o, k _ _ (.inl rfl) e⟩, st⟩
theorem HOk.lt (x : HOk P w H h) (e : H a = some o) : a < h.objs.size := (x a o e).lt
theorem HOk.fresh (x : HOk P w H h) (e : h.objs.size ≤ a) : H a = none := by
  cases q : H a with
  | none => rfl
  | some u => exact absurd (Nat.lt_of_lt_of_le (x.lt q) e) (Nat.lt_irrefl _)
theorem HOk.kept (x : HOk P w H h) (k : ∀ b u, h.get? b = some u → h'.get? b = some u) : HOk P w H h' := fun a o e =>
  (x a o e).stay (fun b u _ q => k b u q) (fun _ q => q) fun _ _ q => q
theorem HOk.laid (x : HOk P w H h) (k : ∀ b u, h.get? b = some u → h'.get? b = some u) (hp : h.objs.size ≤ a) (new : ObjOk P w (upd H a o) h' a o) : HOk P w (upd H a o) h' := fun b u e => by
  have hn := x.fresh hp
  by_cases hb : b = a
  · subst hb; rw [upd_same] at e; cases e; exact new
  · rw [upd_ne hb] at e
    exact (x b u e).stay (fun c v _ q => k c v q) (fun c q => by rw [upd_ne (ne_of_none q hn)]; exact q) fun c xs q => by rw [upd_ne (ne_of_none q hn)]; exact q
end
noncomputable def Rd (H : Hp) (a : Addr) (u : HO) : Prop := H a = some u ∨ ∃ o, H a = some (.frz o u)
theorem Rd.of {H : Hp} {a : Addr} {u : HO} (h : H a = some u) : Rd H a u := .inl h
theorem Rd.ok {P : Program} {w : World} {H : Hp} {h : Heap} {a : Addr} {u : HO} (r : Rd H a u) (x : HOk P w H h) : ObjOk P w H h a u := by
  rcases r with r | ⟨o, r⟩
  · exact x a u r
  · obtain ⟨_, q⟩ := x a _ r
    exact q
noncomputable def Mut : Option HO → Prop
  | some (.lst _) => True
  | some (.dK _) => True
  | some (.dT _) => True
  | some (.set _ _) => True
  | some (.ins _ _ _) => True
  | some (.ext _) => True
  | _ => False
section
variable {P : Program} {w : World} {H : Hp} {h h' : Heap} {x e : Addr} {o' : HO}
theorem HOk.write (ok : HOk P w H h) (mu : Mut (H x)) (he : e = x ∨ H e = some (.own x)) (k : ∀ b u, b ≠ e → h.get? b = some u → h'.get? b = some u) (heo : ∃ u, h'.get? e = some u)
    (new : ObjOk P w (upd H x o') h' x o') : HOk P w (upd H x o') h' := fun b u q => by
  have nown : ∀ c y, H c = some (.own y) → c ≠ x := fun c y r z => by subst z; rw [r] at mu; exact mu
  have ntup : ∀ c xs, H c = some (.tup xs) → c ≠ x := fun c xs r z => by subst z; rw [r] at mu; exact mu
  by_cases hb : b = x
  · subst hb; rw [upd_same] at q; cases q; exact new
  · rw [upd_ne hb] at q
    by_cases hbe : b = e
    · have q' : H b = some (.own x) := by
        rcases he with z | z
        · exact absurd (hbe.trans z) hb
        · rw [hbe]; exact z
      rw [q] at q'; cases q'
      obtain ⟨v, hv⟩ := heo
      exact ⟨v, by rw [hbe]; exact hv⟩
    · refine (ok b u q).stay (fun c v hc r => k c v ?_ r) (fun c r => by rw [upd_ne (nown c b r)]; exact r) fun c xs r => by rw [upd_ne (ntup c xs r)]; exact r
      rcases hc with rfl | hc
      · exact hbe
      · rintro rfl
        rcases he with z | z
        · exact nown c b hc z
        · rw [hc] at z; cases z; exact hb rfl
end
structure Un (fs ex : List Addr) (H H' : Hp) (h h' : Heap) : Prop where
  keep : ∀ b o, h.get? b = some o → H b = none → b ∉ fs → b ∉ ex → h'.get? b = some o
  slot : ∀ b o, h.get? b = some o → H b = none → b ∈ fs → b ∉ ex → ∃ sl, h'.get? b = some { o with slots := sl }
  free : ∀ b o, h.get? b = some o → H b = none → b ∉ ex → H' b = none
  there : ∀ b o, h.get? b = some o → b ∉ ex → ∃ o', h'.get? b = some o'
  tups : ∀ b xs, H b = some (.tup xs) → H' b = some (.tup xs)
  frzs : ∀ b o u, H b = some (.frz o u) → H' b = some (.frz o u)
  tbls : ∀ b ps, H b = some (.tbl ps) → ∃ more, H' b = some (.tbl (ps ++ more))
section
variable {fs fs' ex ex' : List Addr} {H H1 H2 : Hp} {h h1 h2 h' : Heap} {a x e : Addr} {o : HO}
theorem Un.any (u : Un fs ex H H1 h h1) {b : Addr} {ob : Obj} (q : h.get? b = some ob) (n : H b = none) (hx : b ∉ ex) : ∃ sl, h1.get? b = some { ob with slots := sl } := by
  by_cases hb : b ∈ fs
  · exact u.slot b ob q n hb hx
  · exact ⟨ob.slots, u.keep b ob q n hb hx⟩
theorem Un.trans (a : Un fs ex H H1 h h1) (b : Un fs ex H1 H2 h1 h2) : Un fs ex H H2 h h2 where
  keep := fun c ob q n hc hx => b.keep c ob (a.keep c ob q n hc hx) (a.free c ob q n hx) hc hx
  slot := fun c ob q n hc hx => by
    obtain ⟨sl, e1⟩ := a.slot c ob q n hc hx
    obtain ⟨sl', e2⟩ := b.slot c _ e1 (a.free c ob q n hx) hc hx
    exact ⟨sl', e2⟩
  free := fun c ob q n hx => by
    obtain ⟨o', e1⟩ := a.there c ob q hx
    exact b.free c o' e1 (a.free c ob q n hx) hx
  there := fun c ob q hx => by
    obtain ⟨o', e1⟩ := a.there c ob q hx
    exact b.there c o' e1 hx
  tups := fun c xs q => b.tups c xs (a.tups c xs q)
  frzs := fun c ob xs q => b.frzs c ob xs (a.frzs c ob xs q)
  tbls := fun c ps q => by
    obtain ⟨m1, e1⟩ := a.tbls c ps q
    obtain ⟨m2, e2⟩ := b.tbls c _ e1
    exact ⟨m1 ++ m2, by rw [e2, Array.append_assoc]⟩
theorem Un.kept (k : ∀ b u, h.get? b = some u → h'.get? b = some u) : Un fs ex H H h h' :=
  ⟨fun b ob q _ _ _ => k b ob q, fun b ob q _ _ _ => ⟨ob.slots, k b ob q⟩, fun _ _ _ n _ => n, fun b ob q _ => ⟨ob, k b ob q⟩, fun _ _ q => q, fun _ _ _ q => q, fun _ ps q => ⟨#[], by rw [q]; simp⟩⟩
theorem Un.refl : Un fs ex H H h h := Un.kept fun _ _ q => q
theorem Un.laid (k : ∀ b u, h.get? b = some u → h'.get? b = some u) (hp : h.objs.size ≤ a) (hn : H a = none) : Un fs ex H (upd H a o) h h' where
  keep := fun b u q _ _ _ => k b u q
  slot := fun b u q _ _ _ => ⟨u.slots, k b u q⟩
  free := fun b u q n _ => by rw [upd_ne (Nat.ne_of_lt (Nat.lt_of_lt_of_le (Heap.lt_size q) hp))]; exact n
  there := fun b u q _ => ⟨u, k b u q⟩
  tups := fun b xs q => by rw [upd_ne (ne_of_none q hn)]; exact q
  frzs := fun b u xs q => by rw [upd_ne (ne_of_none q hn)]; exact q
  tbls := fun b ps q => ⟨#[], by rw [upd_ne (ne_of_none q hn), q]; simp⟩
theorem Un.write (mu : Mut (H x)) (he : e = x ∨ H e = some (.own x)) (k : ∀ b u, b ≠ e → h.get? b = some u → h'.get? b = some u) (heo : ∃ u, h'.get? e = some u) : Un fs ex H (upd H x o) h h' := by
  have hx : ∀ b, H b = none → b ≠ x := fun b n z => by subst z; rw [n] at mu; exact mu
  have hb : ∀ b, H b = none → b ≠ e := fun b n z => by
    subst z
    rcases he with r | r
    · exact hx b n r
    · rw [n] at r; cases r
  have hm : ∀ b u, H b = some u → ¬ Mut (some u) → b ≠ x := fun b u q nm z => by subst z; rw [q] at mu; exact nm mu
  refine ⟨fun b u q n _ _ => k b u (hb b n) q, fun b u q n _ _ => ⟨u.slots, k b u (hb b n) q⟩, fun b u q n _ => by rw [upd_ne (hx b n)]; exact n, fun b u q _ => ?_,
    fun b xs q => by rw [upd_ne (hm b _ q fun z => z)]; exact q, fun b u xs q => by rw [upd_ne (hm b _ q fun z => z)]; exact q, fun b ps q => ⟨#[], by rw [upd_ne (hm b _ q fun z => z), q]; simp⟩⟩
  by_cases hbe : b = e
  · subst hbe; exact heo
  · exact ⟨u, k b u hbe q⟩
theorem Un.mono (u : Un fs ex H H1 h h1) (hs : ∀ b ∈ fs, b ∈ fs') (hx : ∀ b ∈ ex, b ∈ ex') : Un fs' ex' H H1 h h1 :=
  ⟨fun b ob q n hb he => u.keep b ob q n (fun z => hb (hs b z)) fun z => he (hx b z), fun _ _ q n _ he => u.any q n fun z => he (hx _ z), fun b ob q n he => u.free b ob q n fun z => he (hx b z), fun b ob q he => u.there b ob q fun z => he (hx b z), u.tups, u.frzs, u.tbls⟩
end
noncomputable def trk (h : Heap) (H : Hp) : List Addr := (List.range h.objs.size).filter fun a => (H a).isSome
noncomputable def hidT (h : Heap) (H : Hp) : Heap := PySem.W.hideAll h (trk h H)
theorem hidT_size (h : Heap) (H : Hp) : (hidT h H).objs.size = h.objs.size := PySem.W.hideAll_size _ _
theorem hidT_get {h : Heap} {H : Hp} {b : Addr} {o : Obj} (e : h.get? b = some o) (n : H b = none) : (hidT h H).get? b = some o :=
  PySem.W.hideAll_get _ e fun hm => by
    have q : (H b).isSome = true := (List.mem_filter.mp hm).2
    rw [n] at q; simp at q
theorem of_hidT {h : Heap} {H : Hp} {b : Addr} {o : Obj} (e : (hidT h H).get? b = some o) : h.get? b = some o ∧ H b = none := by
  have e' : h.get? b = some o := PySem.W.of_hideAll (trk h H) e
  refine ⟨e', ?_⟩
  cases q : H b with
  | none => rfl
  | some x =>
    have hm : b ∈ trk h H := List.mem_filter.mpr ⟨List.mem_range.mpr (Heap.lt_size e'), by simp [q]⟩
    have z : (hidT h H).get? b = none := PySem.W.hideAll_none (trk h H) hm
    rw [z] at e; cases e
noncomputable def allNews (g h : Heap) (L : Addr) : List (Addr × Obj) := (List.range h.objs.size).filterMap fun a => if a = L ∨ (g.get? a).isSome = true then none else (h.get? a).map fun o => (a, o)
noncomputable def rest (g h : Heap) (L d : Addr) : List (Addr × Obj) := (allNews g h L).filter fun p => decide (p.1 ≠ d)
end L2
namespace L2
open PySem PySem.Spec PyProof.Rows
structure Mod (K : PySem.W.Frag) (mg : Str → Option Value) (base : Heap) : Prop where
  kin : K.In base
  glob : base.Ns mainGlobals mg
  blt : ∃ mb, base.Ns builtinsNs mb ∧ ∀ x : Str, x ≠ "__name__" → mb x = bootBuiltins x
  nolimit : base.NoLimit
structure Cx where
  prog : Program
  w : World
  K : PySem.W.Frag
  mg : Str → Option Value
  base : Heap
  A : Around
  N : List Str
  s₀ : Shared
  H₀ : Hp
  env : Env
  outer : List Env
  stack : List Env
  ex : List Addr
  fn : Str → Bool
  calm : Bool
  pn : List (Addr × Obj)
  xe : Value → Shared → Prop
noncomputable def frs (l : List Env) : List Addr := l.filterMap (·.frame)
noncomputable abbrev Cx.fs (X : Cx) : List Addr := frs X.outer
noncomputable def Vis (sc : Scope) (x : Str) : Prop := sc.names.lookup x = some .local ∨ sc.names.lookup x = some .cell ∨ sc.names.lookup x = some .free
noncomputable def Loc (sc : Scope) (x : Str) : Prop := sc.names.lookup x = some .local ∨ sc.names.lookup x = some .cell
noncomputable def Look (env : Env) (h : Heap) (m : Str → Option Value) (x : Str) (u : Value) : Prop :=
  (env.kindOf x = some .local ∧ m x = some u) ∨ ((env.kindOf x = some .cell ∨ env.kindOf x = some .free) ∧ ∃ c, env.cells.lookup x = some c ∧ h.IsCell c (some u))
structure Cx.Ok (X : Cx) : Prop where
  mod : Mod X.K X.mg X.base
  kind : X.env.scope.kind = .function
  glob : X.env.globals = mainGlobals
  blt : X.env.builtins = builtinsNs
  above : X.s₀.heap.objs.size ≤ X.env.locals
  inj : ∀ x y c, X.env.cells.lookup x = some c → X.env.cells.lookup y = some c → x = y
  has : ∀ x, (X.env.kindOf x = some .cell ∨ X.env.kindOf x = some .free) → ∃ c, X.env.cells.lookup x = some c
  cab : ∀ x c, X.fn x = true → X.env.cells.lookup x = some c → X.s₀.heap.objs.size ≤ c
  hd : X.calm = true → X.A.handled = none
  frames : X.A.frames = some X.stack
  stk : X.stack = X.outer ∨ (X.stack = X.env :: X.outer ∧ X.env.frame = some X.env.locals)
  exf : ∀ b ∈ X.ex, b ≠ X.env.locals ∧ ∀ x c, X.env.cells.lookup x = some c → c ≠ b
  bs : ∀ b o, X.base.get? b = some o → X.s₀.heap.get? b = some o ∧ X.H₀ b = none
  bsz : X.base.objs.size ≤ X.s₀.heap.objs.size
  noex : ∀ b o, X.base.get? b = some o → b ∉ X.ex
  exfs : ∀ b ∈ X.ex, b ∉ X.fs
  funs : X.s₀.heap.FunFrames X.base X.outer
  frf : ∀ b ∈ X.fs, X.H₀ b = none
structure Inv (X : Cx) (pins : List (Addr × Obj)) (σ : List (Option V)) (H : Hp) (s : Shared) : Prop where
  ok : X.Ok
  os : s.os = X.s₀.os
  bare : AllBare s.gens
  base : Un X.fs X.ex X.H₀ H X.s₀.heap s.heap
  loc : ∃ m, s.heap.Ns X.env.locals m ∧ ∀ (i : Nat) (x : Str) (v : V), X.N[i]? = some x → σ[i]? = some (some v) → Vis X.env.scope x → ∃ u, RelV v u ∧ Look X.env s.heap m x u
  cell : ∀ x c, X.env.cells.lookup x = some c → ∃ v, s.heap.IsCell c v
  free : H X.env.locals = none
  freeC : ∀ x c, X.env.cells.lookup x = some c → H c = none
  pin : ∀ p ∈ X.pn ++ pins, s.heap.get? p.1 = some p.2 ∧ H p.1 = none ∧ p.1 ≠ X.env.locals ∧ p.1 ∉ X.fs ∧ ∀ v, p.2.data ≠ .cell v
  hok : HOk X.prog X.w H s.heap
  len : σ.length = X.N.length
section
variable {X : Cx} {pins : List (Addr × Obj)} {σ : List (Option V)} {H H' : Hp} {s : Shared} {h' : Heap}
theorem Cx.Ok.nofr (ok : X.Ok) {b : Addr} {o : Obj} (e : X.base.get? b = some o) : b ∉ X.fs := fun hb => by
  have := (ok.funs.mem hb).1
  rw [e] at this; cases this
theorem Inv.bs (I : Inv X pins σ H s) : ∀ b o, X.base.get? b = some o → s.heap.get? b = some o ∧ H b = none := fun b o e =>
  ⟨I.base.keep b o (I.ok.bs b o e).1 (I.ok.bs b o e).2 (I.ok.nofr e) (I.ok.noex b o e), I.base.free b o (I.ok.bs b o e).1 (I.ok.bs b o e).2 (I.ok.noex b o e)⟩
theorem Inv.bk (I : Inv X pins σ H s) : ∀ b o, X.base.get? b = some o → s.heap.get? b = some o := fun b o e => (I.bs b o e).1
theorem Inv.mod (I : Inv X pins σ H s) : Mod X.K X.mg X.base := I.ok.mod
theorem Inv.kIn (I : Inv X pins σ H s) : X.K.In s.heap := I.ok.mod.kin.keeps I.bk
theorem Inv.nolimit (I : Inv X pins σ H s) : s.heap.NoLimit := I.ok.mod.nolimit.keeps I.bk
theorem Inv.fr (I : Inv X pins σ H s) : ∃ m, Fr X.base X.env.locals s.heap m :=
  let ⟨m, hn, _⟩ := I.loc
  ⟨m, hn, I.bk, Nat.le_trans I.ok.bsz I.ok.above⟩
theorem Inv.lt (I : Inv X pins σ H s) : X.env.locals < s.heap.objs.size := let ⟨_, hn, _⟩ := I.loc; hn.lt
theorem Inv.sz (I : Inv X pins σ H s) : X.s₀.heap.objs.size ≤ s.heap.objs.size := Nat.le_trans I.ok.above (Nat.le_of_lt I.lt)
theorem Inv.nofs (I : Inv X pins σ H s) {a : Addr} (h : s.heap.objs.size ≤ a) : a ∉ X.fs := fun hb => by
  obtain ⟨_, o, ho, _⟩ := I.ok.funs.mem hb
  exact absurd (Nat.lt_of_lt_of_le (Heap.lt_size ho) (Nat.le_trans I.sz h)) (Nat.lt_irrefl _)
theorem Inv.cne (I : Inv X pins σ H s) : ∀ x c, X.env.cells.lookup x = some c → c ≠ X.env.locals := fun x c e z => by
  obtain ⟨v, o, ho, hd⟩ := I.cell x c e
  obtain ⟨m, ⟨o', es, ep, ho', hd', _⟩, _⟩ := I.loc
  rw [z, ho'] at ho; cases ho; rw [hd'] at hd; cases hd
theorem Inv.funs (I : Inv X pins σ H s) : s.heap.FunFrames X.base X.outer := by
  have all : ∀ (l : List Env), (∀ b ∈ frs l, b ∈ X.fs) → X.s₀.heap.FunFrames X.base l → s.heap.FunFrames X.base l := by
    intro l
    induction l with
    | nil => intro _ _; trivial
    | cons env r ih =>
      intro hs hl
      obtain ⟨hk, ⟨L, o, hf, hn, ho, hd⟩, hr⟩ := hl
      have hL : L ∈ X.fs := hs L (by unfold frs; rw [List.filterMap_cons, hf]; exact List.mem_cons_self)
      obtain ⟨sl, e⟩ := I.base.slot L o ho (I.ok.frf L hL) hL fun z => I.ok.exfs L z hL
      exact ⟨hk, ⟨L, _, hf, hn, e, hd⟩, ih (fun b hb => hs b (by unfold frs; rw [List.filterMap_cons, hf]; exact List.mem_cons_of_mem _ hb)) hr⟩
  exact all X.outer (fun _ hb => hb) I.ok.funs
theorem Inv.stack (I : Inv X pins σ H s) : s.heap.FunFrames X.base X.stack := by
  rcases I.ok.stk with e | ⟨e, hf⟩
  · rw [e]; exact I.funs
  · rw [e]
    obtain ⟨m, hn, _⟩ := I.loc
    refine .cons (by rw [I.ok.kind]; decide) hf hn ?_ I.funs
    exact Heap.get?_none_of_le (Nat.le_trans I.ok.bsz I.ok.above)
theorem Inv.stkSub (I : Inv X pins σ H s) : ∀ b ∈ frs X.stack, b ∈ X.env.locals :: X.fs := fun b hb => by
  rcases I.ok.stk with e | ⟨e, hf⟩
  · rw [e] at hb; exact List.mem_cons_of_mem _ hb
  · rw [e] at hb
    unfold frs at hb
    rw [List.filterMap_cons, hf] at hb
    exact hb
theorem Inv.stkFree (I : Inv X pins σ H s) : ∀ b ∈ frs X.stack, H b = none := fun b hb => by
  rcases List.mem_cons.mp (I.stkSub b hb) with e | hb
  · rw [e]; exact I.free
  · obtain ⟨_, o, ho, _⟩ := I.ok.funs.mem hb
    exact I.base.free b o ho (I.ok.frf b hb) fun z => I.ok.exfs b z hb
theorem Inv.step {g' : Array GenState} {t' : Nat} {d' : Drawn} {ch : List Addr} (I : Inv X pins σ H s)
    (hch : ∀ b ∈ ch, (b ∈ X.ex ∨ X.s₀.heap.objs.size ≤ b) ∧ b ≠ X.env.locals ∧ (∀ x c, X.env.cells.lookup x = some c → c ≠ b) ∧ ∀ p ∈ X.pn ++ pins, p.1 ≠ b)
    (keep : ∀ b o, b ≠ X.env.locals → b ∉ X.fs → b ∉ ch → s.heap.get? b = some o → H b = none → h'.get? b = some o)
    (slot : ∀ b o, b ≠ X.env.locals → b ∈ X.fs → b ∉ ch → s.heap.get? b = some o → H b = none → ∃ sl, h'.get? b = some { o with slots := sl }) (free : ∀ b o, b ∉ ch → s.heap.get? b = some o → H b = none → H' b = none)
    (there : ∀ b o, b ∉ ch → s.heap.get? b = some o → ∃ o', h'.get? b = some o')
    (tups : ∀ b xs, H b = some (.tup xs) → H' b = some (.tup xs)) (frzs : ∀ b o u, H b = some (.frz o u) → H' b = some (.frz o u)) (tbls : ∀ b ps, H b = some (.tbl ps) → ∃ more, H' b = some (.tbl (ps ++ more)))
    (ns : ∀ m, s.heap.Ns X.env.locals m → h'.Ns X.env.locals m) (hok : HOk X.prog X.w H' h') (hg : AllBare g') :
    Inv X pins σ H' { s with heap := h', gens := g', drawn := d', toks := t' } := by
  have neL : ∀ b o, X.s₀.heap.get? b = some o → b ≠ X.env.locals := fun b o e => Nat.ne_of_lt (Nat.lt_of_lt_of_le (Heap.lt_size e) I.ok.above)
  have neC : ∀ b o, X.s₀.heap.get? b = some o → b ∉ X.ex → b ∉ ch := fun b o e hx hb => by
    rcases (hch b hb).1 with z | z
    · exact hx z
    · exact absurd (Nat.lt_of_lt_of_le (Heap.lt_size e) z) (Nat.lt_irrefl _)
  have cellK : ∀ x c, X.env.cells.lookup x = some c → ∀ v, s.heap.IsCell c v → h'.IsCell c v := fun x c e v ⟨o, ho, hd⟩ => by
    have nch : c ∉ ch := fun z => (hch c z).2.2.1 x c e rfl
    by_cases hc : c ∈ X.fs
    · obtain ⟨sl, q⟩ := slot c o (I.cne x c e) hc nch ho (I.freeC x c e)
      exact ⟨_, q, hd⟩
    · exact ⟨o, keep c o (I.cne x c e) hc nch ho (I.freeC x c e), hd⟩
  refine ⟨I.ok, I.os, hg, ⟨fun b o e n hb hx => ?_, fun b o e n hb hx => ?_, fun b o e n hx => ?_, fun b o e hx => ?_, fun b xs e => tups b xs (I.base.tups b xs e), fun b o xs e => frzs b o xs (I.base.frzs b o xs e), fun b ps e => ?_⟩, ?_, fun x c e => ?_, ?_, fun x c e => ?_, fun p hp => ?_, hok, I.len⟩
  · exact keep b o (neL b o e) hb (neC b o e hx) (I.base.keep b o e n hb hx) (I.base.free b o e n hx)
  · obtain ⟨sl, e1⟩ := I.base.slot b o e n hb hx
    obtain ⟨sl', e2⟩ := slot b _ (neL b o e) hb (neC b o e hx) e1 (I.base.free b o e n hx)
    exact ⟨sl', e2⟩
  · obtain ⟨o', e1⟩ := I.base.there b o e hx
    exact free b o' (neC b o e hx) e1 (I.base.free b o e n hx)
  · obtain ⟨o', e1⟩ := I.base.there b o e hx
    exact there b o' (neC b o e hx) e1
  · obtain ⟨m1, e1⟩ := I.base.tbls b ps e
    obtain ⟨m2, e2⟩ := tbls b _ e1
    exact ⟨m1 ++ m2, by rw [e2, Array.append_assoc]⟩
  · obtain ⟨m, hn, hl⟩ := I.loc
    refine ⟨m, ns m hn, fun i x v e1 e2 e3 => ?_⟩
    obtain ⟨u, r, l⟩ := hl i x v e1 e2 e3
    refine ⟨u, r, ?_⟩
    rcases l with l | ⟨k, c, e, z⟩
    · exact .inl l
    · exact .inr ⟨k, c, e, cellK x c e _ z⟩
  · obtain ⟨v, z⟩ := I.cell x c e
    exact ⟨v, cellK x c e v z⟩
  · obtain ⟨m, ⟨o, _, _, ho, _⟩, _⟩ := I.loc
    exact free _ o (fun z => (hch _ z).2.1 rfl) ho I.free
  · obtain ⟨v, o, ho, hd⟩ := I.cell x c e
    exact free c o (fun z => (hch c z).2.2.1 x c e rfl) ho (I.freeC x c e)
  · obtain ⟨e, n, ne, nf, d⟩ := I.pin p hp
    have nch : p.1 ∉ ch := fun z => (hch p.1 z).2.2.2 p hp rfl
    exact ⟨keep p.1 p.2 ne nf nch e n, free p.1 p.2 nch e n, ne, nf, d⟩
theorem Inv.un {t' : Nat} (I : Inv X pins σ H s) (u : Un X.fs [] H H' s.heap h') (hok : HOk X.prog X.w H' h') : Inv X pins σ H' { s with heap := h', toks := t' } := by
  obtain ⟨m, ⟨o, es, ep, ho, r⟩, _⟩ := id I.loc
  obtain ⟨sl, hL⟩ := u.any ho I.free (by simp)
  exact I.step (g' := s.gens) (d' := s.drawn) (ch := []) (fun _ z => nomatch z) (fun b o _ hb _ e n => u.keep b o e n hb (by simp)) (fun b o _ hb _ e n => u.slot b o e n hb (by simp)) (fun b o _ e n => u.free b o e n (by simp)) (fun b o _ e => u.there b o e (by simp)) u.tups u.frzs u.tbls (fun m' hm => by
    obtain ⟨o', es', ep', ho', r'⟩ := hm
    rw [ho] at ho'; cases ho'
    exact ⟨_, es', ep', hL, r'⟩) hok I.bare
theorem Inv.call {g' : Array GenState} {t' : Nat} {d' : Drawn} {ch : List Addr} (I : Inv X pins σ H s) (u : Un (frs X.stack) ch H H' s.heap h') (hok : HOk X.prog X.w H' h') (hg : AllBare g')
    (hch : ∀ b ∈ ch, (b ∈ X.ex ∨ X.s₀.heap.objs.size ≤ b) ∧ b ≠ X.env.locals ∧ (∀ x c, X.env.cells.lookup x = some c → c ≠ b) ∧ ∀ p ∈ X.pn ++ pins, p.1 ≠ b) :
    Inv X pins σ H' { s with heap := h', gens := g', drawn := d', toks := t' } := by
  obtain ⟨m, ⟨o, es, ep, ho, r⟩, _⟩ := id I.loc
  obtain ⟨sl, hL⟩ := u.any ho I.free fun z => (hch _ z).2.1 rfl
  exact I.step (ch := ch) hch (fun b o hL hb hc e n => u.keep b o e n (fun z => (List.mem_cons.mp (I.stkSub b z)).elim hL hb) hc) (fun b o _ _ hc e n => u.any e n hc) (fun b o hc e n => u.free b o e n hc) (fun b o hc e => u.there b o e hc) u.tups u.frzs u.tbls (fun m' hm => by
    obtain ⟨o', es', ep', ho', r'⟩ := hm
    rw [ho] at ho'; cases ho'
    exact ⟨_, es', ep', hL, r'⟩) hok hg
theorem Inv.turned {t' : Nat} {it : Addr} (I : Inv X pins σ H s) (k : ∀ b o, b ≠ it → s.heap.get? b = some o → h'.get? b = some o) (hn : H it = none) (hL : it ≠ X.env.locals)
    (h1 : it ∈ X.ex ∨ X.s₀.heap.objs.size ≤ it) (h2 : ∀ x c, X.env.cells.lookup x = some c → c ≠ it) (h3 : ∀ p ∈ X.pn ++ pins, p.1 ≠ it) : Inv X pins σ H { s with heap := h', toks := t' } := by
  have nit : ∀ b u, H b = some u → b ≠ it := fun b u e z => by rw [z, hn] at e; cases e
  refine I.step (g' := s.gens) (d' := s.drawn) (ch := [it]) (fun b hb => ?_) (fun b o _ _ hc e _ => k b o (fun z => hc (by simp [z])) e) (fun b o _ _ hc e _ => ⟨o.slots, k b o (fun z => hc (by simp [z])) e⟩) (fun _ _ _ _ n => n)
    (fun b o hc e => ⟨o, k b o (fun z => hc (by simp [z])) e⟩) (fun _ _ e => e) (fun _ _ _ e => e) (fun b ps e => ⟨#[], by rw [e]; simp⟩) (fun m hm => ?_) (fun b u e => ?_) I.bare
  · have e : b = it := by simpa using hb
    subst e
    exact ⟨h1, hL, h2, h3⟩
  · obtain ⟨o, es, ep, ho, r⟩ := hm
    exact ⟨o, es, ep, k _ o (Ne.symm hL) ho, r⟩
  · refine (I.hok b u e).stay (fun c v hc q => k c v ?_ q) (fun _ q => q) fun _ _ q => q
    rcases hc with z | z
    · rw [z]; exact nit b u e
    · exact nit c _ z
theorem Inv.tok (I : Inv X pins σ H s) (t : Nat) : Inv X pins σ H { s with toks := t } := I.un (h' := s.heap) (t' := t) Un.refl I.hok
theorem Inv.kept {t' : Nat} (I : Inv X pins σ H s) (k : ∀ b u, s.heap.get? b = some u → h'.get? b = some u) : Inv X pins σ H { s with heap := h', toks := t' } := I.un (Un.kept k) (I.hok.kept k)
theorem Inv.laid {a : Addr} {o : HO} {t' : Nat} (I : Inv X pins σ H s) (k : ∀ b u, s.heap.get? b = some u → h'.get? b = some u) (hp : s.heap.objs.size ≤ a) (new : ObjOk X.prog X.w (upd H a o) h' a o) :
    Inv X pins σ (upd H a o) { s with heap := h', toks := t' } := I.un (Un.laid k hp (I.hok.fresh hp)) (I.hok.laid k hp new)
theorem Inv.write {x e : Addr} {o : HO} {t' : Nat} (I : Inv X pins σ H s) (mu : Mut (H x)) (he : e = x ∨ H e = some (.own x)) (k : ∀ b u, b ≠ e → s.heap.get? b = some u → h'.get? b = some u) (heo : ∃ u, h'.get? e = some u)
    (new : ObjOk X.prog X.w (upd H x o) h' x o) : Inv X pins σ (upd H x o) { s with heap := h', toks := t' } := I.un (Un.write mu he k heo) (I.hok.write mu he k heo new)
theorem Inv.weak {σ' : List (Option V)} (I : Inv X pins σ H s) (hl : σ'.length = σ.length) (w : ∀ (i : Nat) v, σ'[i]? = some (some v) → σ[i]? = some (some v)) : Inv X pins σ' H s :=
  ⟨I.ok, I.os, I.bare, I.base, let ⟨m, hn, hl'⟩ := I.loc; ⟨m, hn, fun i x v e1 e2 e3 => hl' i x v e1 (w i v e2) e3⟩, I.cell, I.free, I.freeC, I.pin, I.hok, hl.trans I.len⟩
theorem Inv.pins_of {pins' : List (Addr × Obj)} (I : Inv X pins σ H s) (h : ∀ p ∈ pins', s.heap.get? p.1 = some p.2 ∧ H p.1 = none ∧ p.1 ≠ X.env.locals ∧ p.1 ∉ X.fs ∧ ∀ v, p.2.data ≠ .cell v) : Inv X pins' σ H s :=
  ⟨I.ok, I.os, I.bare, I.base, I.loc, I.cell, I.free, I.freeC, fun p hp => (List.mem_append.mp hp).elim (fun z => I.pin p (List.mem_append_left _ z)) (h p), I.hok, I.len⟩
theorem nodup_ix {N : List Str} (hN : N.Nodup) {i j : Nat} {x : Str} (a : N[i]? = some x) (b : N[j]? = some x) : i = j := by
  obtain ⟨h1, e1⟩ := List.getElem?_eq_some_iff.mp a
  obtain ⟨h2, e2⟩ := List.getElem?_eq_some_iff.mp b
  exact (List.getElem_inj hN).mp (e1.trans e2.symm)
theorem store_ok2 {M : Model} {A : Around} {E : Value → Shared → Prop} {i : Nat} {x : Str} {v : V} {u : Value} {Q : Unit → Shared → Prop} (I : Inv X pins σ H s) (hN : X.N.Nodup) (hi : X.N[i]? = some x) (hx : Loc X.env.scope x) (r : RelV v u)
    (h : ∀ s', Inv X pins (σ.set i (some v)) H s' → (∃ a, Heap.SameBut a s.heap s'.heap ∧ (a = X.env.locals ∨ X.env.cells.lookup x = some a)) → Q () s') (hf : X.fn x = true ∨ X.env.scope.names.lookup x = some .local := by first | exact .inl rfl | exact .inr rfl | assumption) : wpAny M A (storeName X.env x u) Q E s := by
  obtain ⟨m, hn, hl⟩ := id I.loc
  have hcls : (X.env.scope.kind == .class || (X.env.scope.kind == .module && X.env.locals != X.env.globals)) = false := by rw [I.ok.kind]; rfl
  have hiσ : i < σ.length := by rw [I.len]; exact (List.getElem?_eq_some_iff.mp hi).1
  have cne := I.cne
  have tracked : ∀ {a : Addr} {h' : Heap}, (∃ o, s.heap.get? a = some o ∧ H a = none) → Heap.SameBut a s.heap h' → HOk X.prog X.w H h' := fun {a h'} ha hs b ob e => by
    obtain ⟨_, _, hfree⟩ := ha
    refine (I.hok b ob e).stay (fun c w' hc q => (hs.2 c ?_).trans q) (fun _ q => q) fun _ _ q => q
    rintro rfl
    rcases hc with rfl | hc
    · rw [hfree] at e; cases e
    · rw [hfree] at hc; cases hc
  rcases hx with hk | hk
  · refine wpAny_storeName_local hk hn (fun h' hn' hs => ?_) hcls
    obtain ⟨oL, _, _, hoL, _⟩ := id hn
    refine h _ ⟨I.ok, I.os, I.bare, ⟨fun b o e n hb hx => ?_, fun b o e n hb hx => ?_, I.base.free, fun b o e hx => ?_, I.base.tups, I.base.frzs, I.base.tbls⟩, ⟨_, hn', fun j y v' e1 e2 e3 => ?_⟩, fun y c e => ?_, I.free, I.freeC, fun p hp => ?_, tracked ⟨oL, hoL, I.free⟩ hs, by simpa using I.len⟩ ⟨_, hs, .inl rfl⟩
    · exact (hs.2 b (Nat.ne_of_lt (Nat.lt_of_lt_of_le (Heap.lt_size e) I.ok.above))).trans (I.base.keep b o e n hb hx)
    · obtain ⟨sl, e1⟩ := I.base.slot b o e n hb hx
      exact ⟨sl, (hs.2 b (Nat.ne_of_lt (Nat.lt_of_lt_of_le (Heap.lt_size e) I.ok.above))).trans e1⟩
    · obtain ⟨o', e1⟩ := I.base.there b o e hx
      exact ⟨o', (hs.2 b (Nat.ne_of_lt (Nat.lt_of_lt_of_le (Heap.lt_size e) I.ok.above))).trans e1⟩
    · by_cases hj : j = i
      · subst hj
        rw [hi] at e1; cases e1
        rw [List.getElem?_set_self hiσ] at e2
        cases e2
        exact ⟨u, r, .inl ⟨hk, by simp⟩⟩
      · rw [List.getElem?_set_ne (Ne.symm hj)] at e2
        obtain ⟨u', r', q⟩ := hl j y v' e1 e2 e3
        refine ⟨u', r', ?_⟩
        rcases q with ⟨k, e⟩ | ⟨k, c, e, z⟩
        · refine .inl ⟨k, ?_⟩
          have : y ≠ x := fun e => hj (nodup_ix hN e1 (e ▸ hi))
          simp [this, e]
        · exact .inr ⟨k, c, e, z.sameBut hs (cne y c e)⟩
    · obtain ⟨w', z⟩ := I.cell y c e
      exact ⟨w', z.sameBut hs (cne y c e)⟩
    · obtain ⟨e, n, ne, nf, d⟩ := I.pin p hp
      exact ⟨(hs.2 p.1 ne).trans e, n, ne, nf, d⟩
  · have hfn : X.fn x = true := by
      rcases hf with z | z
      · exact z
      · rw [z] at hk; cases hk
    obtain ⟨c, hc⟩ := I.ok.has x (.inl hk)
    obtain ⟨w', z⟩ := I.cell x c hc
    refine wpAny_storeName_cell I.ok.kind hk hc z (fun h' hc' hs => ?_)
    obtain ⟨oc, hoc, hocd⟩ := id z
    refine h { s with heap := h' } ⟨I.ok, I.os, I.bare, ⟨fun b o e n hb hx => ?_, fun b o e n hb hx => ?_, I.base.free, fun b o e hx => ?_, I.base.tups, I.base.frzs, I.base.tbls⟩, ⟨m, hn.sameBut hs (Ne.symm (cne x c hc)), fun j y v' e1 e2 e3 => ?_⟩, fun y c' e => ?_, I.free, I.freeC, fun p hp => ?_, tracked ⟨oc, hoc, I.freeC x c hc⟩ hs, by simpa using I.len⟩ ⟨c, hs, .inr hc⟩
    · exact (hs.2 b (Nat.ne_of_lt (Nat.lt_of_lt_of_le (Heap.lt_size e) (I.ok.cab x c hfn hc)))).trans (I.base.keep b o e n hb hx)
    · obtain ⟨sl, e1⟩ := I.base.slot b o e n hb hx
      exact ⟨sl, (hs.2 b (Nat.ne_of_lt (Nat.lt_of_lt_of_le (Heap.lt_size e) (I.ok.cab x c hfn hc)))).trans e1⟩
    · obtain ⟨o', e1⟩ := I.base.there b o e hx
      exact ⟨o', (hs.2 b (Nat.ne_of_lt (Nat.lt_of_lt_of_le (Heap.lt_size e) (I.ok.cab x c hfn hc)))).trans e1⟩
    · by_cases hj : j = i
      · subst hj
        rw [hi] at e1; cases e1
        rw [List.getElem?_set_self hiσ] at e2
        cases e2
        exact ⟨u, r, .inr ⟨.inl hk, c, hc, hc'⟩⟩
      · rw [List.getElem?_set_ne (Ne.symm hj)] at e2
        obtain ⟨u', r', q⟩ := hl j y v' e1 e2 e3
        refine ⟨u', r', ?_⟩
        rcases q with q | ⟨k, c', e, z'⟩
        · exact .inl q
        · refine .inr ⟨k, c', e, z'.sameBut hs ?_⟩
          rintro rfl
          exact hj (nodup_ix hN e1 (I.ok.inj _ _ _ e hc ▸ hi))
    · by_cases hcc : c' = c
      · subst hcc; exact ⟨_, hc'⟩
      · obtain ⟨w2, z2⟩ := I.cell y c' e
        exact ⟨w2, z2.sameBut hs hcc⟩
    · obtain ⟨e, n, ne, nf, d⟩ := I.pin p hp
      refine ⟨(hs.2 p.1 ?_).trans e, n, ne, nf, d⟩
      intro q
      rw [q, hoc] at e
      have q' : oc = p.2 := Option.some.inj e
      exact d w' (by rw [← q']; exact hocd)
theorem store_ok {M : Model} {A : Around} {E : Value → Shared → Prop} {i : Nat} {x : Str} {v : V} {u : Value} {Q : Unit → Shared → Prop} (I : Inv X pins σ H s) (hN : X.N.Nodup) (hi : X.N[i]? = some x) (hx : Loc X.env.scope x) (r : RelV v u)
    (h : ∀ s', Inv X pins (σ.set i (some v)) H s' → Q () s') (hf : X.fn x = true ∨ X.env.scope.names.lookup x = some .local := by first | exact .inl rfl | exact .inr rfl | assumption) : wpAny M A (storeName X.env x u) Q E s :=
  store_ok2 I hN hi hx r (fun s' I' _ => h s' I') hf
theorem Inv.call' {s' : Shared} {ch : List Addr} (I : Inv X pins σ H s) (ho : s'.os = s.os) (u : Un (frs X.stack) ch H H' s.heap s'.heap) (hok : HOk X.prog X.w H' s'.heap) (hg : AllBare s'.gens)
    (hch : ∀ b ∈ ch, (b ∈ X.ex ∨ X.s₀.heap.objs.size ≤ b) ∧ b ≠ X.env.locals ∧ (∀ x c, X.env.cells.lookup x = some c → c ≠ b) ∧ ∀ p ∈ X.pn ++ pins, p.1 ≠ b) : Inv X pins σ H' s' := by
  obtain ⟨h', g', d', t', o'⟩ := s'
  have e : o' = s.os := ho
  subst e
  exact I.call (g' := g') (t' := t') (d' := d') u hok hg hch
end
noncomputable abbrev XK := Value → Option Addr → Hp → Prop
noncomputable abbrev St := List (Option V)
noncomputable abbrev VK := V → Hp → Prop
noncomputable abbrev TE := St → Hp → VK → Prop
noncomputable abbrev TT := St → Hp → (Bool → Hp → Prop) → Prop
noncomputable abbrev TA := St → Hp → (List V → Hp → Prop) → Prop
structure Ends where
  nx : St → Hp → Prop
  rt : VK
  bk : St → Hp → Prop := fun _ _ => False
  ct : St → Hp → Prop := fun _ _ => False
noncomputable abbrev TS := Ends → St → Hp → Prop
noncomputable def EP (X : Cx) (pins : List (Addr × Obj)) (σ : St) (Q : VK) (u : Value) (s' : Shared) : Prop := ∃ v H', Inv X pins σ H' s' ∧ RelV v u ∧ Q v H'
noncomputable def TP (X : Cx) (pins : List (Addr × Obj)) (σ : St) (Q : Bool → Hp → Prop) (b : Bool) (s' : Shared) : Prop := ∃ H', Inv X pins σ H' s' ∧ Q b H'
noncomputable def AP (X : Cx) (pins : List (Addr × Obj)) (σ : St) (Q : List V → Hp → Prop) (us : List Value) (s' : Shared) : Prop := ∃ vs H', Inv X pins σ H' s' ∧ Vals vs us ∧ Q vs H'
noncomputable def SP (X : Cx) (pins : List (Addr × Obj)) (D : Ends) (f : Flow) (s' : Shared) : Prop :=
  match f with
  | .next => ∃ σ' H', Inv X pins σ' H' s' ∧ D.nx σ' H'
  | .brk => ∃ σ' H', Inv X pins σ' H' s' ∧ D.bk σ' H'
  | .cont => ∃ σ' H', Inv X pins σ' H' s' ∧ D.ct σ' H'
  | .ret u => ∃ v σ' H', Inv X pins σ' H' s' ∧ RelV v u ∧ D.rt v H'
noncomputable def PE (X : Cx) (e : Expr) (t : TE) : Prop :=
  ∀ (pins : List (Addr × Obj)) (s : Shared) (σ : St) (H : Hp) (Q : VK), Inv X pins σ H s → t σ H Q → wpAny (model X.prog X.w) X.A (eval e X.env) (EP X pins σ Q) X.xe s
noncomputable def PT (X : Cx) (e : Expr) (t : TT) : Prop :=
  ∀ (pins : List (Addr × Obj)) (s : Shared) (σ : St) (H : Hp) (Q : Bool → Hp → Prop), Inv X pins σ H s → t σ H Q → wpAny (model X.prog X.w) X.A (isTrue e X.env (eval e X.env)) (TP X pins σ Q) X.xe s
noncomputable def PW (X : Cx) (e : Expr) (t : TT) : Prop :=
  ∀ (whole : Sem Value) (pins : List (Addr × Obj)) (s : Shared) (σ : St) (H : Hp) (Q : Bool → Hp → Prop), Inv X pins σ H s → t σ H Q → wpAny (model X.prog X.w) X.A (isTrue e X.env whole) (TP X pins σ Q) X.xe s
theorem PW.pt {X : Cx} {e : Expr} {t : TT} (h : PW X e t) : PT X e t := h _
noncomputable def PA (X : Cx) (es : List Expr) (t : TA) : Prop :=
  ∀ (pos : Pos) (pins : List (Addr × Obj)) (s : Shared) (σ : St) (H : Hp) (Q : List V → Hp → Prop), Inv X pins σ H s → t σ H Q → wpAny (model X.prog X.w) X.A (spliced (backTo pos (starEach es X.env))) (AP X pins σ Q) X.xe s
noncomputable def PS (X : Cx) (st : Stmt) (t : TS) : Prop :=
  ∀ (pins : List (Addr × Obj)) (s : Shared) (σ : St) (H : Hp) (D : Ends), Inv X pins σ H s → t D σ H → wpAny (model X.prog X.w) X.A (exec st X.env) (SP X pins D) X.xe s
noncomputable def PSs (X : Cx) (st : List Stmt) (t : TS) : Prop :=
  ∀ (pins : List (Addr × Obj)) (s : Shared) (σ : St) (H : Hp) (D : Ends), Inv X pins σ H s → t D σ H → wpAny (model X.prog X.w) X.A (execs st X.env) (SP X pins D) X.xe s
theorem thn {α : Type} {t : Sem α} {Q Q' : α → Shared → Prop} {M : Model} {A : Around} {E : Value → Shared → Prop} {s : Shared} (h : wpAny M A t Q E s) (hQ : ∀ a s, Q a s → Q' a s) : wpAny M A t Q' E s := wpAny_mono h hQ fun _ _ x => x
end L2
namespace L2
open PySem PySem.Spec PyProof.Rows
section
variable {X : Cx}
noncomputable def tVar (i : Nat) : TE := fun σ H Q => ∃ v, σ[i]? = some (some v) ∧ Q v H
noncomputable def tC (v : V) : TE := fun _ H Q => Q v H
theorem pe_var {i : Nat} {x : Str} {pos : Pos} (hN : X.N[i]? = some x) (hv : Vis X.env.scope x) (hd : (x == ("__debug__" : Str)) = false := by decide) (hcd : (x == ("__classdict__" : Str)) = false := by decide) : PE X (.Name x pos) (tVar i) := by
  intro pins s σ H Q I h
  obtain ⟨v, e, h⟩ := h
  obtain ⟨m, hn, hl⟩ := I.loc
  obtain ⟨u, r, l⟩ := hl i x v hN e hv
  have fin : EP X pins σ Q u s := ⟨v, H, I, r, h⟩
  rcases l with ⟨hk, hm⟩ | ⟨hk, c, hc, hcell⟩
  · exact wpAny_Name (wpAny_loadName_local I.ok.kind hk hn hm fin) hd
  · rcases hk with hk | hk
    · exact wpAny_Name (wpAny_loadName_cell I.ok.kind hk hc hcell fin) hd
    · exact wpAny_Name (wpAny_loadName_free I.ok.kind hk hc hcell fin hcd) hd
theorem pe_int {i j pos} : PE X (.Constant (.int i) j pos) (tC (.int i)) := fun _ _ _ H _ I h => wpAny_Constant_int ⟨.int i, H, I.tok _, ⟨_, rfl⟩, h⟩
theorem pe_bl {b j pos} : PE X (.Constant (.bool b) j pos) (tC (.bl b)) := fun _ _ _ H _ I h => Constant_bool ⟨.bl b, H, I, rfl, h⟩
theorem pe_str {x j pos} : PE X (.Constant (.str x) j pos) (tC (.str x)) := fun _ _ _ H _ I h => Calls.Constant_str ⟨.str x, H, I.tok _, ⟨_, rfl⟩, h⟩
noncomputable def Gl (X : Cx) (x : Str) : Prop := X.env.kindOf x = some .globalImplicit
theorem ld_glob {E : Value → Shared → Prop} {pins : List (Addr × Obj)} {s : Shared} {σ : St} {H : Hp} {x : Str} {u : Value} {pos : Pos} {Q : Value → Shared → Prop} (I : Inv X pins σ H s) (hg : Gl X x) (hm : X.mg x = some u) (h : Q u s)
    (hd : (x == ("__debug__" : Str)) = false := by decide) : wpAny (model X.prog X.w) X.A (eval (.Name x pos) X.env) Q E s :=
  Calls.Name_function_global I.ok.kind hg (Calls.loadGlobal_global (by rw [I.ok.glob]; exact I.mod.glob.keeps I.bk) hm h) hd
theorem ld_blt {E : Value → Shared → Prop} {pins : List (Addr × Obj)} {s : Shared} {σ : St} {H : Hp} {x : Str} {u : Value} {pos : Pos} {Q : Value → Shared → Prop} (I : Inv X pins σ H s) (hg : Gl X x) (hm : X.mg x = none) (hv : bootBuiltins x = some u) (h : Q u s)
    (hn : x ≠ "__name__" := by decide) (hd : (x == ("__debug__" : Str)) = false := by decide) : wpAny (model X.prog X.w) X.A (eval (.Name x pos) X.env) Q E s := by
  obtain ⟨mb, h1, h2⟩ := I.mod.blt
  exact Calls.Name_function_global I.ok.kind hg (Calls.loadGlobal_builtin (by rw [I.ok.glob]; exact I.mod.glob.keeps I.bk) hm (by rw [I.ok.blt]; exact h1.keeps I.bk) ((h2 x hn).trans hv) h) hd
theorem pe_glob {x : Str} {v : V} {u : Value} {pos : Pos} (hg : Gl X x) (hm : X.mg x = some u) (r : RelV v u) (hd : (x == ("__debug__" : Str)) = false := by decide) : PE X (.Name x pos) (tC v) :=
  fun _ _ _ H _ I h => ld_glob I hg hm ⟨v, H, I, r, h⟩ hd
theorem pe_bltn {x : Str} {v : V} {u : Value} {pos : Pos} (hg : Gl X x) (hm : X.mg x = none) (hv : bootBuiltins x = some u) (r : RelV v u) (hn : x ≠ "__name__" := by decide) (hd : (x == ("__debug__" : Str)) = false := by decide) : PE X (.Name x pos) (tC v) :=
  fun _ _ _ H _ I h => ld_blt I hg hm hv ⟨v, H, I, r, h⟩ hn hd
variable {a b : Expr} {ta tb : TE} {pos : Pos}
noncomputable def tB (t : TE) : TT := fun σ H Q => t σ H fun x H1 => ∃ c, x = .bl c ∧ Q c H1
theorem pt_val {e : Expr} {t : TE} (h : PE X e t) (he : ∀ whole, isTrue e X.env whole = (do let v ← whole; standAt e.pos; holding [v] (truthy v)) := by intro _; rfl) : PT X e (tB t) := by
  intro pins s σ H Q I hw
  refine isTrue_plain (thn (h pins s σ H _ I hw) fun v s1 ⟨x, H1, I1, r1, q1⟩ => ?_) (he _)
  obtain ⟨d, rfl, q⟩ := q1
  cases r1
  exact wpAny_truthy_bool ⟨H1, I1, q⟩
variable {tA tB' : TT} {rest : List Expr}
noncomputable def tAnd (t u : TT) : TT := fun σ H Q => t σ H fun c H1 => if c = true then u σ H1 Q else Q false H1
noncomputable def tOr (t u : TT) : TT := fun σ H Q => t σ H fun c H1 => if c = true then Q true H1 else u σ H1 Q
noncomputable def tNot (t : TT) : TT := fun σ H Q => t σ H fun c H1 => Q (!c) H1
theorem pw_and1 (ha : PT X a tA) : PW X (.BoolOp .And [a] pos) tA := by
  intro wh pins s σ H Q I h
  refine isTrue_and (thn (ha pins s σ H Q I h) fun c s1 e => ?_)
  cases c with
  | true => exact isTrue_and_nil e
  | false => exact e
theorem pw_or1 (ha : PT X a tA) : PW X (.BoolOp .Or [a] pos) tA := by
  intro wh pins s σ H Q I h
  refine isTrue_or (thn (ha pins s σ H Q I h) fun c s1 e => ?_)
  cases c with
  | false => exact isTrue_or_nil e
  | true => exact e
theorem pw_and (ha : PT X a tA) (hb : PW X (.BoolOp .And (b :: rest) pos) tB') : PW X (.BoolOp .And (a :: b :: rest) pos) (tAnd tA tB') := by
  intro wh pins s σ H Q I h
  refine isTrue_and (thn (ha pins s σ H _ I h) fun c s1 ⟨H1, I1, q1⟩ => ?_)
  cases c with
  | true => exact hb wh pins s1 σ H1 Q I1 q1
  | false => exact ⟨H1, I1, q1⟩
theorem pw_or (ha : PT X a tA) (hb : PW X (.BoolOp .Or (b :: rest) pos) tB') : PW X (.BoolOp .Or (a :: b :: rest) pos) (tOr tA tB') := by
  intro wh pins s σ H Q I h
  refine isTrue_or (thn (ha pins s σ H _ I h) fun c s1 ⟨H1, I1, q1⟩ => ?_)
  cases c with
  | true => exact ⟨H1, I1, q1⟩
  | false => exact hb wh pins s1 σ H1 Q I1 q1
theorem pt_not (ha : PT X a tA) : PT X (.UnaryOp .Not a pos) (tNot tA) := by
  intro pins s σ H Q I h
  exact isTrue_not (ha pins s σ H (fun c H1 => Q (!c) H1) I h)
noncomputable def tAndV (ta tb : TE) : TE := fun σ H Q => ta σ H fun x H1 => ∃ c, x = .bl c ∧ if c = true then tb σ H1 Q else Q (.bl false) H1
noncomputable def tOrV (ta tb : TE) : TE := fun σ H Q => ta σ H fun x H1 => ∃ c, x = .bl c ∧ if c = true then Q (.bl true) H1 else tb σ H1 Q
noncomputable def tNotV (ta : TE) : TE := fun σ H Q => ta σ H fun x H1 => ∃ c, x = .bl c ∧ Q (.bl (!c)) H1
theorem pe_one {op} {t : TE} (h : PE X a t) : PE X (.BoolOp op [a] pos) t := fun pins s σ H Q I hw => BoolOp_one (h pins s σ H Q I hw)
theorem pe_and (ha : PE X a ta) (hb : PE X (.BoolOp .And (b :: rest) pos) tb) : PE X (.BoolOp .And (a :: b :: rest) pos) (tAndV ta tb) := by
  intro pins s σ H Q I h
  refine BoolOp_and (thn (ha pins s σ H _ I h) fun v s1 ⟨x, H1, I1, r1, q1⟩ => ?_)
  obtain ⟨c, rfl, q1⟩ := q1
  cases r1
  refine wpAny_truthy_bool ?_
  cases c with
  | true => exact hb pins s1 σ H1 Q I1 q1
  | false => exact ⟨.bl false, H1, I1, rfl, q1⟩
theorem pe_or (ha : PE X a ta) (hb : PE X (.BoolOp .Or (b :: rest) pos) tb) : PE X (.BoolOp .Or (a :: b :: rest) pos) (tOrV ta tb) := by
  intro pins s σ H Q I h
  refine BoolOp_or (thn (ha pins s σ H _ I h) fun v s1 ⟨x, H1, I1, r1, q1⟩ => ?_)
  obtain ⟨c, rfl, q1⟩ := q1
  cases r1
  refine wpAny_truthy_bool ?_
  cases c with
  | false => exact hb pins s1 σ H1 Q I1 q1
  | true => exact ⟨.bl true, H1, I1, rfl, q1⟩
theorem pe_not (ha : PE X a ta) : PE X (.UnaryOp .Not a pos) (tNotV ta) := by
  intro pins s σ H Q I h
  refine UnaryOp_ (thn (ha pins s σ H _ I h) fun v s1 ⟨x, H1, I1, r1, q1⟩ => ?_)
  obtain ⟨c, rfl, q1⟩ := q1
  cases r1
  exact not_of (wpAny_truthy_bool ⟨.bl (!c), H1, I1, rfl, q1⟩)
noncomputable def tIf (t : TT) (ta tb : TE) : TE := fun σ H Q => t σ H fun c H1 => if c = true then ta σ H1 Q else tb σ H1 Q
theorem pe_ifExp {c : Expr} (hc : PT X c tA) (ha : PE X a ta) (hb : PE X b tb) : PE X (.IfExp c a b pos) (tIf tA ta tb) := by
  intro pins s σ H Q I h
  refine wpAny_IfExp (thn (hc pins s σ H _ I h) fun d s1 ⟨H1, I1, q1⟩ => ?_)
  cases d with
  | true => exact ha pins s1 σ H1 Q I1 q1
  | false => exact hb pins s1 σ H1 Q I1 q1
end
end L2
namespace L2
open PySem PySem.Spec PyProof.Rows
noncomputable def SqL (K : PySem.W.Frag) (H : Hp) (a : Addr) (xs : List V) : Prop :=
  Rd H a (.lst xs) ∨
    ∃ (o : Obj) (its : Array Value) (n : Nat), K.lookup a = some o ∧ o.cls = .type "list" ∧ o.dict = none ∧ o.data = .seq its n ∧ its.size ≤ sizeLine ∧ Vals xs its.toList
noncomputable def SqT (K : PySem.W.Frag) (H : Hp) (a : Addr) (xs : List V) : Prop :=
  Rd H a (.tup xs) ∨
    ∃ (o : Obj) (its : Array Value) (n : Nat), K.lookup a = some o ∧ o.cls = .type "tuple" ∧ o.data = .seq its n ∧ its.size ≤ sizeLine ∧ Vals xs its.toList
noncomputable def absV : Value → Option V
  | .none => some .non
  | .bool b => some (.bl b)
  | .int i _ => some (.int i)
  | .str x _ => some (.str x)
  | .bytes b _ => some (.byt b)
  | .float b _ => some (.flt b)
  | .ref a => some (.ref a)
  | .type n => some (.ty n)
  | _ => none
theorem RelV.abs {x : V} {u : Value} (r : RelV x u) : absV u = some x := by
  cases x with
  | non => cases r; rfl
  | bl _ => cases r; rfl
  | int _ => obtain ⟨t, rfl⟩ := r; rfl
  | str _ => obtain ⟨t, rfl⟩ := r; rfl
  | byt _ => obtain ⟨t, rfl⟩ := r; rfl
  | flt _ => obtain ⟨t, rfl⟩ := r; rfl
  | ref _ => cases r; rfl
  | ty _ => cases r; rfl
theorem RelV.inj {x y : V} {u : Value} (r : RelV x u) (q : RelV y u) : x = y := Option.some.inj (r.abs.symm.trans q.abs)
theorem Vals.inj : ∀ {xs ys : List V} {us : List Value}, Vals xs us → Vals ys us → xs = ys
  | _, _, _, .nil, .nil => rfl
  | _, _, _, .cons r t, .cons r' t' => by rw [r.inj r', Vals.inj t t']
section
variable {X : Cx} {pins : List (Addr × Obj)} {σ : St} {H : Hp} {s : Shared} {a : Addr} {xs ys : List V}
theorem SqL.of {K : PySem.W.Frag} (h : H a = some (.lst xs)) : SqL K H a xs := .inl (.inl h)
theorem SqT.of {K : PySem.W.Frag} (h : H a = some (.tup xs)) : SqT K H a xs := .inl (.inl h)
theorem Inv.list (I : Inv X pins σ H s) (h : SqL X.K H a xs) : ∃ its : List Value, Vals xs its ∧ PlainL s.heap a its.toArray ∧ xs.length ≤ sizeLine := by
  rcases h with h | ⟨o, its, n, hk, hc, hd, hs, hz, r⟩
  · obtain ⟨z, its, n, r, e⟩ := h.ok I.hok
    exact ⟨its, r, ⟨_, n, e, rfl, rfl, rfl⟩, z⟩
  · refine ⟨its.toList, r, ⟨o, n, I.kIn a o hk, hc, hd, by simpa using hs⟩, ?_⟩
    have e := r.length
    simp only [Array.length_toList] at e
    omega
theorem Inv.tuple (I : Inv X pins σ H s) (h : SqT X.K H a xs) : ∃ its : List Value, Vals xs its ∧ IsTup s.heap a its.toArray ∧ xs.length ≤ sizeLine := by
  rcases h with h | ⟨o, its, n, hk, hc, hs, hz, r⟩
  · obtain ⟨z, its, r, p⟩ := h.ok I.hok
    exact ⟨its, r, p, z⟩
  · refine ⟨its.toList, r, ⟨o, I.kIn a o hk, hc, n, by simpa using hs⟩, ?_⟩
    have e := r.length
    simp only [Array.length_toList] at e
    omega
theorem Inv.list_inj (I : Inv X pins σ H s) (h : SqL X.K H a xs) (h' : SqL X.K H a ys) : xs = ys := by
  obtain ⟨its, r, ⟨o, n, e, _, _, d⟩, _⟩ := I.list h
  obtain ⟨its', r', ⟨o', n', e', _, _, d'⟩, _⟩ := I.list h'
  rw [e] at e'; cases e'
  rw [d] at d'
  injection d' with d1 _
  have : its = its' := by simpa using congrArg Array.toList d1
  subst this
  exact r.inj r'
theorem Inv.tuple_inj (I : Inv X pins σ H s) (h : SqT X.K H a xs) (h' : SqT X.K H a ys) : xs = ys := by
  obtain ⟨its, r, ⟨o, e, _, n, d⟩, _⟩ := I.tuple h
  obtain ⟨its', r', ⟨o', e', _, n', d'⟩, _⟩ := I.tuple h'
  rw [e] at e'; cases e'
  rw [d] at d'
  injection d' with d1 _
  have : its = its' := by simpa using congrArg Array.toList d1
  subst this
  exact r.inj r'
end
noncomputable abbrev Cx.wish (X : Cx) (E : Value → Shared → Prop) : Cx := { X with xe := E }
noncomputable abbrev Cx.nox (X : Cx) : Cx := X.wish fun _ _ => False
theorem Cx.Ok.wish {X : Cx} (ok : X.Ok) (E : Value → Shared → Prop) : (X.wish E).Ok :=
  ⟨ok.mod, ok.kind, ok.glob, ok.blt, ok.above, ok.inj, ok.has, ok.cab, ok.hd, ok.frames, ok.stk, ok.exf, ok.bs, ok.bsz, ok.noex, ok.exfs, ok.funs, ok.frf⟩
theorem Cx.Ok.unwish {X : Cx} {E : Value → Shared → Prop} (ok : (X.wish E).Ok) : X.Ok :=
  ⟨ok.mod, ok.kind, ok.glob, ok.blt, ok.above, ok.inj, ok.has, ok.cab, ok.hd, ok.frames, ok.stk, ok.exf, ok.bs, ok.bsz, ok.noex, ok.exfs, ok.funs, ok.frf⟩
section
variable {X : Cx} {pins : List (Addr × Obj)} {σ : St} {H : Hp} {s : Shared} {E : Value → Shared → Prop}
theorem Inv.wish (I : Inv X pins σ H s) (E : Value → Shared → Prop) : Inv (X.wish E) pins σ H s := ⟨I.ok.wish E, I.os, I.bare, I.base, I.loc, I.cell, I.free, I.freeC, I.pin, I.hok, I.len⟩
theorem Inv.unwish (I : Inv (X.wish E) pins σ H s) : Inv X pins σ H s := ⟨I.ok.unwish, I.os, I.bare, I.base, I.loc, I.cell, I.free, I.freeC, I.pin, I.hok, I.len⟩
theorem SP.unwish {D : Ends} {f : Flow} {s' : Shared} (h : SP (X.wish E) pins D f s') : SP X pins D f s' := by
  cases f with
  | next => obtain ⟨σ', H', I, q⟩ := h; exact ⟨σ', H', I.unwish, q⟩
  | brk => obtain ⟨σ', H', I, q⟩ := h; exact ⟨σ', H', I.unwish, q⟩
  | cont => obtain ⟨σ', H', I, q⟩ := h; exact ⟨σ', H', I.unwish, q⟩
  | ret u => obtain ⟨v, σ', H', I, r, q⟩ := h; exact ⟨v, σ', H', I.unwish, r, q⟩
theorem PE.nox {e : Expr} {t : TE} (h : PE X.nox e t) : PE X e t := fun pins s σ H Q I hw =>
  wpAny_mono (h pins s σ H Q (I.wish _) hw) (fun _ _ ⟨v, H', I', r, q⟩ => ⟨v, H', I'.unwish, r, q⟩) fun _ _ z => False.elim z
theorem PT.nox {e : Expr} {t : TT} (h : PT X.nox e t) : PT X e t := fun pins s σ H Q I hw =>
  wpAny_mono (h pins s σ H Q (I.wish _) hw) (fun _ _ ⟨H', I', q⟩ => ⟨H', I'.unwish, q⟩) fun _ _ z => False.elim z
theorem PSs.nox {st : List Stmt} {t : TS} (h : PSs X.nox st t) : PSs X st t := fun pins s σ H D I hw =>
  wpAny_mono (h pins s σ H D (I.wish _) hw) (fun _ _ q => q.unwish) fun _ _ z => False.elim z
end
section
variable {X : Cx} {st : Stmt} {rest : List Stmt} {t u : TS} {e : Expr} {te : TE} {pos : Pos}
noncomputable def tNext : TS := fun D σ H => D.nx σ H
noncomputable def tSeq (t u : TS) : TS := fun D σ H => t { D with nx := u D } σ H
theorem pss_nil : PSs X [] tNext := fun _ _ σ H _ I h => wpAny_execs_nil ⟨σ, H, I, h⟩
theorem pss_cons (h1 : PS X st t) (h2 : PSs X rest u) : PSs X (st :: rest) (tSeq t u) := by
  intro pins s σ H D I h
  refine wpAny_execs_cons (thn (h1 pins s σ H { D with nx := u D } I h) fun f s1 q => ?_)
  cases f with
  | next =>
    obtain ⟨σ', H', I', q⟩ := q
    exact h2 pins s1 σ' H' D I' q
  | ret v => exact q
  | brk => exact q
  | cont => exact q
theorem pss_one (h1 : PS X st t) : PSs X [st] t := by
  intro pins s σ H D I h
  refine wpAny_execs_cons (thn (h1 pins s σ H D I h) fun f s1 q => ?_)
  cases f with
  | next => exact wpAny_execs_nil q
  | ret v => exact q
  | brk => exact q
  | cont => exact q
theorem Inv.quiet {pins : List (Addr × Obj)} {σ : St} {H : Hp} {s : Shared} (I : Inv X pins σ H s) : interactive X.env = false := by simp [interactive, I.ok.kind]
noncomputable def tDrop (te : TE) : TS := fun D σ H => te σ H fun _ H1 => D.nx σ H1
theorem ps_expr (he : PE X e te) (hs : swapsWith e none pos.line X.env = pure false := by rfl) : PS X (.Expr e pos) (tDrop te) := by
  intro pins s σ H D I h
  exact wpAny_Expr_any (thn (he pins s σ H _ I h) fun v s1 ⟨x, H1, I1, r1, q1⟩ => ⟨σ, H1, I1, q1⟩) I.quiet hs
noncomputable def tRet (te : TE) : TS := fun D σ H => te σ H D.rt
theorem ps_ret (he : PE X e te) : PS X (.Return (some e) pos) (tRet te) := by
  intro pins s σ H D I h
  exact wpAny_Return_some (thn (he pins s σ H _ I h) fun v s1 ⟨x, H1, I1, r1, q1⟩ => ⟨x, σ, H1, I1, r1, q1⟩)
noncomputable def tRetN : TS := fun D _ H => D.rt .non H
noncomputable def tIfS (c : TT) (t u : TS) : TS := fun D σ H => c σ H fun b H1 => if b = true then t D σ H1 else u D σ H1
theorem ps_if {c : Expr} {a b : List Stmt} {tc : TT} (hc : PT X c tc) (ha : PSs X a t) (hb : PSs X b u) : PS X (.If c a b pos) (tIfS tc t u) := by
  intro pins s σ H D I h
  refine wpAny_If (thn (hc pins s σ H _ I h) fun d s1 ⟨H1, I1, q1⟩ => ?_)
  cases d with
  | true => exact ha pins s1 σ H1 D I1 q1
  | false => exact hb pins s1 σ H1 D I1 q1
noncomputable def tNever : TS := fun _ _ _ => False
theorem ps_never : PS X st tNever := fun _ _ _ _ _ _ h => h.elim
end
noncomputable abbrev TG := V → St → Hp → (St → Hp → Prop) → Prop
noncomputable abbrev TGs := List V → St → Hp → (St → Hp → Prop) → Prop
noncomputable def PG (X : Cx) (target : Expr) (t : TG) : Prop :=
  ∀ (pins : List (Addr × Obj)) (s : Shared) (σ : St) (H : Hp) (v : V) (u : Value) (Q : St → Hp → Prop), Inv X pins σ H s → RelV v u → t v σ H Q →
    wpAny (model X.prog X.w) X.A (assign target X.env u) (fun _ s' => ∃ σ' H', Inv X pins σ' H' s' ∧ Q σ' H') X.xe s
noncomputable def PGs (X : Cx) (ts : List Expr) (t : TGs) : Prop :=
  ∀ (pins : List (Addr × Obj)) (s : Shared) (σ : St) (H : Hp) (vs : List V) (us : List Value) (Q : St → Hp → Prop), Inv X pins σ H s → Vals vs us → t vs σ H Q →
    wpAny (model X.prog X.w) X.A (assignInOrder ((assignEach ts X.env).map (·.2)) us) (fun _ s' => ∃ σ' H', Inv X pins σ' H' s' ∧ Q σ' H') X.xe s
noncomputable abbrev TSet := V → V → V → Hp → (Hp → Prop) → Prop
noncomputable def PSet (X : Cx) (t : TSet) : Prop :=
  ∀ (pins : List (Addr × Obj)) (s : Shared) (σ : St) (H : Hp) (o i v : V) (ov iv u : Value) (Q : Hp → Prop), Inv X pins σ H s → RelV o ov → RelV i iv → RelV v u → t o i v H Q →
    wpAny (model X.prog X.w) X.A (setItem ov iv u) (fun _ s' => ∃ H', Inv X pins σ H' s' ∧ Q H') X.xe s
section
variable {X : Cx} {pos : Pos}
noncomputable def gName (i : Nat) : TG := fun v σ H Q => Q (σ.set i (some v)) H
theorem pg_name {i : Nat} {x : Str} (hN : X.N.Nodup) (hi : X.N[i]? = some x) (hx : Loc X.env.scope x) (hf : X.fn x = true ∨ X.env.scope.names.lookup x = some .local := by first | exact .inl rfl | exact .inr rfl | assumption) : PG X (.Name x pos) (gName i) := by
  intro pins s σ H v u Q I r h
  exact wpAny_assign_Name (store_ok I hN hi hx r (fun s' I' => ⟨_, H, I', h⟩) hf)
noncomputable def gNil : TGs := fun vs σ H Q => vs = [] ∧ Q σ H
noncomputable def gCons (t : TG) (u : TGs) : TGs := fun vs σ H Q => ∃ v r, vs = v :: r ∧ t v σ H fun σ' H' => u r σ' H' Q
theorem pgs_nil : PGs X [] gNil := by
  intro pins s σ H vs us Q I r h
  obtain ⟨e, h⟩ := h
  subst e
  cases r
  exact assignInOrder_nil ⟨σ, H, I, h⟩
theorem pgs_cons {e : Expr} {es : List Expr} {t : TG} {u : TGs} (h1 : PG X e t) (h2 : PGs X es u)
    (hs : (assignEach (e :: es) X.env).map (·.2) = assign e X.env :: (assignEach es X.env).map (·.2) := by rfl) : PGs X (e :: es) (gCons t u) := by
  intro pins s σ H vs us Q I r h
  obtain ⟨v, vr, e1, h⟩ := h
  subst e1
  cases r with
  | cons r rr =>
    rw [hs]
    refine assignInOrder_cons (thn (h1 pins s σ H _ _ _ I r h) fun _ s1 ⟨σ1, H1, I1, q1⟩ => ?_)
    exact h2 pins s1 σ1 H1 _ _ Q I1 rr q1
noncomputable def gTup (K : PySem.W.Frag) (n : Nat) (t : TGs) : TG := fun v σ H Q => ∃ a xs, v = .ref a ∧ SqT K H a xs ∧ xs.length = n ∧ t xs σ H Q
theorem pg_tup {es : List Expr} {k : Nat} {t : TGs} {n : Nat} (hc : X.calm = true) (h : PGs X es t)
    (hn : (assignEach es X.env).length = n := by rfl) (hst : (assignEach es X.env).findIdx? (·.1) = none := by rfl) : PG X (.Tuple es k pos) (gTup X.K n t) := by
  intro pins s σ H v u Q I r hw
  obtain ⟨a, xs, e1, hq, hl, hw⟩ := hw
  subst e1
  cases r
  obtain ⟨its, rv, ht, hz⟩ := I.tuple hq
  refine assign_Tuple_tuple (I.ok.hd hc) ht (by simp [hn, ← hl, rv.length]) hst fun h' hx => ?_
  have I1 : Inv X pins σ H { s with heap := h' } := I.kept (t' := s.toks) fun b o e => hx b o (Nat.ne_of_lt (Heap.lt_size e)) e
  exact h pins _ σ H xs _ Q I1 (by simpa using rv) hw
noncomputable def gSub (to ti : TE) (t : TSet) : TG := fun v σ H Q => to σ H fun o H1 => ti σ H1 fun i H2 => t o i v H2 fun H3 => Q σ H3
theorem pg_sub {o i : Expr} {to ti : TE} {t : TSet} (ho : PE X o to) (hi : PE X i ti) (hs : PSet X t)
    (ha : ∀ v, assign (.Subscript o i pos) X.env v = (do
      let ov ← holding [v] (eval o X.env)
      let iv ← holding [v, ov] (eval i X.env)
      standAt pos
      holding [v, ov, iv] (setItem ov iv v)
      release [v, ov, iv] []) := by intro _; rfl) : PG X (.Subscript o i pos) (gSub to ti t) := by
  intro pins s σ H v u Q I r h
  rw [ha]
  refine wpAny_bind (wpAny_holding (thn (ho pins s σ H _ I h) fun ov s1 ⟨x, H1, I1, r1, q1⟩ => ?_))
  refine wpAny_bind (wpAny_holding (thn (hi pins s1 σ H1 _ I1 q1) fun iv s2 ⟨y, H2, I2, r2, q2⟩ => ?_))
  refine wpAny_bind (wpAny_standAt (wpAny_bind (wpAny_holding (thn (hs pins s2 σ H2 x y v ov iv u _ I2 r1 r2 r q2) fun _ s3 ⟨H3, I3, q3⟩ => ?_))))
  exact wpAny_release ⟨σ, H3, I3, q3⟩
noncomputable def tAsg (te : TE) (g : TG) : TS := fun D σ H => te σ H fun x H1 => g x σ H1 D.nx
theorem ps_asg {tg e : Expr} {te : TE} {g : TG} (he : PE X e te) (hg : PG X tg g) (hs : swapsWithSole [tg] e pos.line X.env = pure false := by rfl) (hw : swappedStores [tg] e X.env = pure none := by rfl)
    (h1 : (assignEach [tg] X.env).map (·.2) = [assign tg X.env] := by rfl) : PS X (.Assign [tg] e pos) (tAsg te g) := by
  intro pins s σ H D I h
  refine wpAny_Assign_stores (thn (he pins s σ H _ I h) fun v s1 ⟨x, H1, I1, r1, q1⟩ => ?_) hs hw
  rw [h1]
  exact thn (hg pins s1 σ H1 x v _ I1 r1 q1) fun _ s2 q => q
theorem ps_set {i : Nat} {x : Str} {e : Expr} {te : TE} {pos' : Pos} (hN : X.N.Nodup) (hi : X.N[i]? = some x) (hx : Loc X.env.scope x) (he : PE X e te) (hs : swapsWith e (some (.Name x pos')) pos.line X.env = pure false := by rfl) (hf : X.fn x = true ∨ X.env.scope.names.lookup x = some .local := by first | exact .inl rfl | exact .inr rfl | assumption) :
    PS X (.Assign [.Name x pos'] e pos) (tAsg te (gName i)) := by
  intro pins s σ H D I h
  refine wpAny_Assign_Name (thn (he pins s σ H _ I h) fun v s1 ⟨y, H1, I1, r1, q1⟩ => ?_) hs
  exact store_ok I1 hN hi hx r1 (fun s2 I2 => ⟨_, H1, I2, q1⟩) hf
noncomputable def tPar (i j : Nat) (ta : TA) : TS := fun D σ H => ta σ H fun vs H1 => ∃ v w, vs = [v, w] ∧ D.nx ((σ.set i (some v)).set j (some w)) H1
end
section
variable {X : Cx} {pos : Pos}
end
structure It where
  go : Nat → Hp → Prop
  yld : Nat → Hp → V → Hp → Prop
  stop : Nat → Hp → Prop
noncomputable def FpOk (X : Cx) (pins : List (Addr × Obj)) (H : Hp) (b : Addr) : Prop :=
  H b = none ∧ b ≠ X.env.locals ∧ b ∉ X.fs ∧ (b ∈ X.ex ∨ X.s₀.heap.objs.size ≤ b) ∧ (∀ x c, X.env.cells.lookup x = some c → c ≠ b) ∧ ∀ p ∈ X.pn ++ pins, p.1 ≠ b
theorem Inv.fpOk {X : Cx} {pins : List (Addr × Obj)} {σ : St} {H H' : Hp} {s : Shared} {b : Addr} (I : Inv X pins σ H s) (hb : s.heap.objs.size ≤ b) (hn : H' b = none) : FpOk X pins H' b := by
  refine ⟨hn, Nat.ne_of_gt (Nat.lt_of_lt_of_le I.lt hb), I.nofs hb, .inr (Nat.le_trans I.sz hb), fun x c e z => ?_, fun p hp z => ?_⟩
  · obtain ⟨v, q⟩ := I.cell x c e
    exact absurd (Nat.lt_of_lt_of_le q.lt (by rw [z]; exact hb)) (Nat.lt_irrefl _)
  · exact absurd (Nat.lt_of_lt_of_le (Heap.lt_size (I.pin p hp).1) (by rw [z]; exact hb)) (Nat.lt_irrefl _)
structure Turn (P : Program) (w : World) (K : PySem.W.Frag) (tg : Expr) (J : It) (fp : List Addr) (it : Addr) (tn : Nat → Heap → Prop) : Prop where
  mem : it ∈ fp
  obj : ∀ i h, tn i h → ∀ b ∈ fp, ∃ o, h.get? b = some o ∧ ∀ v, o.data ≠ .cell v
  keep : ∀ i h h', tn i h → (∀ b ∈ fp, ∀ o, h.get? b = some o → h'.get? b = some o) → tn i h'
  item : ∀ (X : Cx), X.prog = P → X.w = w → X.K = K → X.calm = true → ∀ (i : Nat) (pins : List (Addr × Obj)) (s : Shared) (σ : St) (H : Hp) (E : Value → Shared → Prop), Inv X pins σ H s → (∀ b ∈ fp, FpOk X pins H b) → tn i s.heap → J.go i H →
    wpAny (model P w) X.A (pyNext (.ref it)) (fun r s1 => ∃ u, r = some u ∧
      wpAny (model P w) X.A (letOwnedTupleGo tg (.ref it) u) (fun _ s2 => ∃ x H', Inv X pins σ H' s2 ∧ RelV x u ∧ J.yld i H x H' ∧ tn (i + 1) s2.heap ∧ ∀ b ∈ fp, H' b = none) E s1) E s
  done : ∀ (X : Cx), X.prog = P → X.w = w → X.K = K → X.calm = true → ∀ (i : Nat) (pins : List (Addr × Obj)) (s : Shared) (σ : St) (H : Hp) (E : Value → Shared → Prop), Inv X pins σ H s → (∀ b ∈ fp, FpOk X pins H b) → tn i s.heap → J.stop i H →
    wpAny (model P w) X.A (pyNext (.ref it)) (fun r s1 => r = none ∧ Inv X pins σ H s1) E s
  self : ∀ (A : Around) (i : Nat) (s : Shared) (Q : Value → Shared → Prop) (E : Value → Shared → Prop), tn i s.heap → Q (.ref it) s → wpAny (model P w) A (pyIter (.ref it)) Q E s
noncomputable abbrev TI := St → Hp → (It → Hp → Prop) → Prop
noncomputable def PIE (X : Cx) (pins : List (Addr × Obj)) (σ : St) (tg : Expr) (R : It → Hp → Prop) (itv : Value) (s2 : Shared) : Prop :=
  ∃ (it : Addr) (fp : List Addr) (tn : Nat → Heap → Prop) (J : It) (H' : Hp), itv = .ref it ∧ Inv X pins σ H' s2 ∧ Turn X.prog X.w X.K tg J fp it tn ∧ tn 0 s2.heap ∧ (∀ b ∈ fp, FpOk X pins H' b) ∧ R J H'
noncomputable def PI (X : Cx) (tg iter : Expr) (wi : TI) : Prop :=
  ∀ (pins : List (Addr × Obj)) (s : Shared) (σ : St) (H : Hp) (R : It → Hp → Prop), Inv X pins σ H s → wi σ H R →
    wpAny (model X.prog X.w) X.A (eval iter X.env) (fun v s1 => wpAny (model X.prog X.w) X.A (pyIter v) (PIE X pins σ tg R) X.xe s1) X.xe s
theorem go_of {M : Model} {A : Around} {E : Value → Shared → Prop} {s : Shared} {tg : Expr} {it : Addr} {u : Value} {o : Obj} {n : String} {vs : Array Value} {Q : Unit → Shared → Prop} (ho : s.heap.get? it = some o) (hc : o.cls = .type n) (hd : o.data = .fields vs)
    (hn : ["enumerate", "zip", "dict_itemiterator", "dict_reverseitemiterator", "odict_iterator", "itertools.zip_longest", "itertools.pairwise"].contains n = false) (hQ : Q () s) : wpAny M A (letOwnedTupleGo tg (.ref it) u) Q E s := by
  unfold letOwnedTupleGo
  cases tg <;> first
    | exact wpAny_pure hQ
    | (cases u <;> first
        | exact wpAny_pure hQ
        | (refine wpAny_bind (wpAny_load ho ?_)
           rw [hc, hd]
           show wpAny M A (if (["enumerate", "zip", "dict_itemiterator", "dict_reverseitemiterator", "odict_iterator", "itertools.zip_longest", "itertools.pairwise"].contains n && vs[0]? == some (rawInt _)) = true then _ else _) Q E s
           rw [if_neg (by intro h; rw [hn, Bool.false_and] at h; cases h)]
           exact wpAny_pure hQ))
noncomputable def Itl (K : PySem.W.Frag) (a : Addr) : It :=
  ⟨fun i H => ∃ xs x, SqL K H a xs ∧ xs[i]? = some x, fun i H x H' => H' = H ∧ ∀ xs, SqL K H a xs → xs[i]? = some x, fun i H => ∃ xs, SqL K H a xs ∧ xs.length ≤ i⟩
noncomputable def Itt (K : PySem.W.Frag) (a : Addr) : It :=
  ⟨fun i H => ∃ xs x, SqT K H a xs ∧ xs[i]? = some x, fun i H x H' => H' = H ∧ ∀ xs, SqT K H a xs → xs[i]? = some x, fun i H => ∃ xs, SqT K H a xs ∧ xs.length ≤ i⟩
noncomputable def Itr (lo : Int) (n : Nat) : It := ⟨fun i _ => i < n, fun i H x H' => H' = H ∧ x = .int (lo + i), fun i _ => n ≤ i⟩
theorem turn_list {P : Program} {w : World} {K : PySem.W.Frag} {tg : Expr} (a it : Addr) : Turn P w K tg (Itl K a) [it] it (fun i h => h.IsListIter it a i) where
  mem := by simp
  obj := fun i h st b hb => by
    have e : b = it := by simpa using hb
    subst e
    obtain ⟨o, e, c, d⟩ := st
    exact ⟨o, e, fun v z => by rw [d] at z; cases z⟩
  keep := fun i h h' st k => st.at fun o e => k it (by simp) o e
  item := by
    intro X hP hw hK hc i pins s σ H E I hf st hg
    subst hP hw hK
    obtain ⟨xs, x, hq, hx⟩ := hg
    obtain ⟨its, rv, p, hz⟩ := I.list hq
    obtain ⟨u, hu, ru⟩ := rv.get hx
    obtain ⟨f0, f1, f2, f3, f4, f5⟩ := hf it (by simp)
    refine wpAny_pyNext_list_item st p.isList (x := u) (by simpa using hu) fun h' st' sb => ?_
    have I1 : Inv X pins σ H { s with heap := h' } := I.turned (t' := s.toks) (fun b o hb e => (sb.2 b hb).trans e) f0 f1 f3 f4 f5
    obtain ⟨o, e, c, d⟩ := id st'
    exact ⟨u, rfl, go_of (s := { s with heap := h' }) e c d (by decide) ⟨x, H, I1, ru, ⟨rfl, fun ys hy => by rw [I.list_inj hy hq]; exact hx⟩, st', fun b hb => (hf b hb).1⟩⟩
  done := by
    intro X hP hw hK hc i pins s σ H E I hf st hg
    subst hP hw hK
    obtain ⟨xs, hq, hx⟩ := hg
    obtain ⟨its, rv, p, hz⟩ := I.list hq
    obtain ⟨f0, f1, f2, f3, f4, f5⟩ := hf it (by simp)
    have hl := rv.length
    exact wpAny_pyNext_list_end (I.ok.hd hc) st p.isList (by simp; omega) fun h' eb => ⟨rfl, I.turned (t' := s.toks) (fun b o hb e => eb b o hb e) f0 f1 f3 f4 f5⟩
  self := fun _ _ _ _ _ st h => wpAny_pyIter_listiter st h
theorem turn_tuple {P : Program} {w : World} {K : PySem.W.Frag} {tg : Expr} (a it : Addr) : Turn P w K tg (Itt K a) [it] it (fun i h => h.IsTupleIter it a i) where
  mem := by simp
  obj := fun i h st b hb => by
    have e : b = it := by simpa using hb
    subst e
    obtain ⟨o, e, c, d⟩ := st
    exact ⟨o, e, fun v z => by rw [d] at z; cases z⟩
  keep := fun i h h' st k => st.at fun o e => k it (by simp) o e
  item := by
    intro X hP hw hK hc i pins s σ H E I hf st hg
    subst hP hw hK
    obtain ⟨xs, x, hq, hx⟩ := hg
    obtain ⟨its, rv, p, hz⟩ := I.tuple hq
    obtain ⟨u, hu, ru⟩ := rv.get hx
    obtain ⟨f0, f1, f2, f3, f4, f5⟩ := hf it (by simp)
    refine wpAny_pyNext_tuple_item st (show s.heap.IsTuple a its.toArray from p) (x := u) (by simpa using hu) fun h' st' sb => ?_
    have I1 : Inv X pins σ H { s with heap := h' } := I.turned (t' := s.toks) (fun b o hb e => (sb.2 b hb).trans e) f0 f1 f3 f4 f5
    obtain ⟨o, e, c, d⟩ := id st'
    exact ⟨u, rfl, go_of (s := { s with heap := h' }) e c d (by decide) ⟨x, H, I1, ru, ⟨rfl, fun ys hy => by rw [I.tuple_inj hy hq]; exact hx⟩, st', fun b hb => (hf b hb).1⟩⟩
  done := by
    intro X hP hw hK hc i pins s σ H E I hf st hg
    subst hP hw hK
    obtain ⟨xs, hq, hx⟩ := hg
    obtain ⟨its, rv, p, hz⟩ := I.tuple hq
    obtain ⟨f0, f1, f2, f3, f4, f5⟩ := hf it (by simp)
    have hl := rv.length
    exact wpAny_pyNext_tuple_end (I.ok.hd hc) st (show s.heap.IsTuple a its.toArray from p) (by simp; omega) fun h' eb => ⟨rfl, I.turned (t' := s.toks) (fun b o hb e => eb b o hb e) f0 f1 f3 f4 f5⟩
  self := fun _ _ _ _ _ st h => wpAny_pyIter_tupleiter st h
theorem turn_range {P : Program} {w : World} {K : PySem.W.Frag} {tg : Expr} (it : Addr) (lo : Int) (n : Nat) : Turn P w K tg (Itr lo n) [it] it (fun i h => IsRangeIter h it (lo + (i : Nat) * 1) ((n : Int) - (i : Nat)) 1) where
  mem := by simp
  obj := fun i h st b hb => by
    have e : b = it := by simpa using hb
    subst e
    exact ⟨_, st, fun v z => by
      have z' : Data.fields _ = Data.cell v := z
      cases z'⟩
  keep := fun i h h' st k => k it (by simp) _ st
  item := by
    intro X hP hw hK hc i pins s σ H E I hf st hg
    subst hP hw hK
    obtain ⟨f0, f1, f2, f3, f4, f5⟩ := hf it (by simp)
    have W := Walks.range (prog := X.prog) (w := X.w) (I.ok.hd hc) it lo 1 n
    refine W.item i s _ _ hg st fun v h' tk hv st' kk => ?_
    obtain ⟨t, rfl⟩ := hv
    have I1 : Inv X pins σ H { s with heap := h', toks := tk } := I.turned (fun b o hb e => kk b o (by simpa using hb) e) f0 f1 f3 f4 f5
    refine ⟨_, rfl, go_of (s := { s with heap := h', toks := tk }) (n := "range_iterator") st' rfl rfl (by decide) ⟨.int (lo + i), H, I1, ⟨t, ?_⟩, ⟨rfl, rfl⟩, st', fun b hb => (hf b hb).1⟩⟩
    rw [Int.mul_one]
  done := by
    intro X hP hw hK hc i pins s σ H E I hf st hg
    subst hP hw hK
    obtain ⟨f0, f1, f2, f3, f4, f5⟩ := hf it (by simp)
    exact wpAny_pyNext_range_end (I.ok.hd hc) st (by have : n ≤ i := hg; omega) fun h' eb => ⟨rfl, I.turned (t' := s.toks) (fun b o hb e => eb b o hb e) f0 f1 f3 f4 f5⟩
  self := fun _ _ _ _ _ st h => wpAny_pyIter_rangeiter st h
end L2
namespace L2
open PySem PySem.Spec PyProof.Rows
section
variable {X : Cx} {tg : Expr}
theorem range_it {pins : List (Addr × Obj)} {σ : St} {H : Hp} {s : Shared} {R : It → Hp → Prop} {E : Value → Shared → Prop} {lo hi : Int} {t u v : Tok} {tk : Nat} (I : Inv X pins σ H s) (h1 : -(2 ^ 62) ≤ lo) (h2 : lo < 2 ^ 62) (h3 : -(2 ^ 62) ≤ hi) (h4 : hi < 2 ^ 62)
    (q : R (Itr lo (hi - lo).toNat) H) : wpAny (model X.prog X.w) X.A (pyIter (.ref s.heap.objs.size)) (PIE X pins σ tg R) E { s with heap := s.heap.push { cls := .type "range", data := .fields #[.int lo t, .int hi u, .int 1 v] }, toks := tk } := by
  refine wpAny_pyIter_range (IsRange.new ..) (small_one h1 h2 h3 h4) ?_
  have I1 : Inv X pins σ H { s with heap := s.heap.push { cls := .type "range", data := .fields #[.int lo t, .int hi u, .int 1 v] }, toks := tk } := I.kept fun b o e => Heap.get?_push_of_some _ e
  refine ⟨(s.heap.push { cls := .type "range", data := .fields #[.int lo t, .int hi u, .int 1 v] }).objs.size, [(s.heap.push { cls := .type "range", data := .fields #[.int lo t, .int hi u, .int 1 v] }).objs.size], _, _, H, rfl,
    I1.kept (t' := tk) fun b o e => Heap.get?_push_of_some _ e, turn_range _ lo (hi - lo).toNat, ?_, fun b hb => ?_, q⟩
  · have e1 : lo + ((0 : Nat) : Int) * 1 = lo := by simp
    have e2 : (((hi - lo).toNat : Nat) : Int) - ((0 : Nat) : Int) = Builtin.Range.rangeSize lo hi 1 := by rw [rangeSize_one]; split <;> omega
    show IsRangeIter _ _ (lo + ((0 : Nat) : Int) * 1) ((((hi - lo).toNat : Nat) : Int) - ((0 : Nat) : Int)) 1
    rw [e1, e2]
    exact Heap.get?_push_size _ rfl
  · have e : b = (s.heap.push { cls := .type "range", data := .fields #[.int lo t, .int hi u, .int 1 v] }).objs.size := by simpa using hb
    subst e
    exact I1.fpOk (Nat.le_refl _) (I1.hok.fresh (Nat.le_refl _))
noncomputable def iRng1 (ta : TA) : TI := fun σ H R => ta σ H fun vs H1 => ∃ j : Int, vs = [.int j] ∧ -(2 ^ 62) ≤ j ∧ j < 2 ^ 62 ∧ R (Itr 0 j.toNat) H1
noncomputable def iRng2 (ta : TA) : TI := fun σ H R => ta σ H fun vs H1 => ∃ i j : Int, vs = [.int i, .int j] ∧ (-(2 ^ 62) ≤ i ∧ i < 2 ^ 62 ∧ -(2 ^ 62) ≤ j ∧ j < 2 ^ 62) ∧ R (Itr i (j - i).toNat) H1
theorem pi_range1 {a : Expr} {ta : TA} {p pos : Pos} (hg : Gl X "range") (hm : X.mg "range" = none) (ha : PA X [a] ta) (hs : starEach [a] X.env = [(false, eval a X.env)] := by rfl) : PI X tg (.Call (.Name "range" p) [a] [] pos) (iRng1 ta) := by
  intro pins s σ H R I h
  refine Call_ (ld_blt I hg hm boot_range (PyProof.Rows.callWith_type1 (thn (ha pos pins s σ H _ I h) fun us s1 ⟨vs, H1, I1, r1, q1⟩ => ?_) hs rfl))
  obtain ⟨j, e, q1, q2, q⟩ := q1
  subst e
  cases r1 with
  | cons r rr =>
    cases rr
    obtain ⟨t, rfl⟩ := r
    exact call_range_1 (range_it I1 (by omega) (by omega) q1 q2 (by simpa using q))
theorem pi_range2 {a b : Expr} {ta : TA} {p pos : Pos} (hg : Gl X "range") (hm : X.mg "range" = none) (ha : PA X [a, b] ta) (hs : starEach [a, b] X.env = [(false, eval a X.env), (false, eval b X.env)] := by rfl) (hs2 : starEach [b] X.env = [(false, eval b X.env)] := by rfl) :
    PI X tg (.Call (.Name "range" p) [a, b] [] pos) (iRng2 ta) := by
  intro pins s σ H R I h
  refine Call_ (ld_blt I hg hm boot_range (PyProof.Rows.callWith_type1 (thn (ha pos pins s σ H _ I h) fun us s1 ⟨vs, H1, I1, r1, q1⟩ => ?_) (by rw [hs, hs2]) (by rw [hs2]; rfl)))
  obtain ⟨i, j, e, ⟨q1, q2, q3, q4⟩, q⟩ := q1
  subst e
  cases r1 with
  | cons r rr =>
    cases rr with
    | cons r' rr =>
      cases rr
      obtain ⟨t, rfl⟩ := r
      obtain ⟨t', rfl⟩ := r'
      exact call_range_2 (range_it I1 q1 q2 q3 q4 q)
noncomputable def tFor (wi : TI) (g : TG) (tb : TS) : TS := fun D σ H => wi σ H fun J H1 => ∃ W : Nat → Nat → St → Hp → Prop, (∃ m, W 0 m σ H1) ∧ ∀ i m σ H, W i m σ H →
  (J.stop i H ∧ D.nx σ H) ∨ (J.go i H ∧ ∃ N : St → Hp → Prop, (∀ σ' H', N σ' H' → ∃ m', m' < m ∧ W (i + 1) m' σ' H') ∧ ∀ x H', J.yld i H x H' → g x σ H' fun σ2 H2 => tb { D with nx := N, ct := N, bk := D.nx } σ2 H2)
noncomputable def pinsAt (fp : List Addr) (h : Heap) : List (Addr × Obj) := fp.filterMap fun b => (h.get? b).map fun o => (b, o)
theorem mem_pinsAt {fp : List Addr} {h : Heap} {b : Addr} {o : Obj} (hb : b ∈ fp) (e : h.get? b = some o) : (b, o) ∈ pinsAt fp h := List.mem_filterMap.mpr ⟨b, hb, by rw [e]; rfl⟩
theorem of_pinsAt {fp : List Addr} {h : Heap} {p : Addr × Obj} (hp : p ∈ pinsAt fp h) : p.1 ∈ fp ∧ h.get? p.1 = some p.2 := by
  obtain ⟨b, hb, e⟩ := List.mem_filterMap.mp hp
  cases q : h.get? b with
  | none => rw [q] at e; cases e
  | some o =>
    rw [q] at e
    have e' : (b, o) = p := Option.some.inj e
    subst e'
    exact ⟨hb, q⟩
theorem Inv.pinned {pins : List (Addr × Obj)} {σ : St} {H : Hp} {s : Shared} {fp : List Addr} (I : Inv X pins σ H s) (hf : ∀ b ∈ fp, FpOk X pins H b) (ho : ∀ b ∈ fp, ∃ o, s.heap.get? b = some o ∧ ∀ v, o.data ≠ .cell v) : Inv X (pins ++ pinsAt fp s.heap) σ H s :=
  I.pins_of fun p hp => (List.mem_append.mp hp).elim (fun z => I.pin p (List.mem_append_right _ z)) fun z => by
    obtain ⟨hb, e⟩ := of_pinsAt z
    obtain ⟨f0, f1, f2, _⟩ := hf p.1 hb
    obtain ⟨o, e', d⟩ := ho p.1 hb
    rw [e] at e'; cases e'
    exact ⟨e, f0, f1, f2, d⟩
theorem Inv.unpinned {pins pl : List (Addr × Obj)} {σ : St} {H : Hp} {s : Shared} (I : Inv X (pins ++ pl) σ H s) : Inv X pins σ H s := I.pins_of fun p hp => I.pin p (List.mem_append_right _ (List.mem_append_left _ hp))
theorem ps_for {iter : Expr} {body : List Stmt} {wi : TI} {g : TG} {tb : TS} {pos : Pos} (hp : PassesOwn (model X.prog X.w) X.A X.env X.xe) (hc : X.calm = true) (hi : PI X tg iter wi) (hg : PG X tg g) (hb : PSs X body tb)
    (hs : ∀ x, foldedSetIterable iter X.env x = pure x := by intro _; rfl) : PS X (.For tg iter body [] pos) (tFor wi g tb) := by
  intro pins s σ H D I h
  refine wpAny_For (thn (hi pins s σ H _ I h) fun v s1 h1 => thn h1 fun itv s2 h2 => ?_) hs
  obtain ⟨it, fp, tn, J, H2, e, I2, T, st2, f2, W, ⟨m0, w0⟩, turn⟩ := h2
  subst e
  have stat : ∀ {H' : Hp}, (∀ b ∈ fp, H' b = none) → ∀ b ∈ fp, FpOk X pins H' b := fun hn b hb => ⟨hn b hb, (f2 b hb).2⟩
  refine codeAny_forLoop_any (fun n s' => ∃ i σ' H', Inv X pins σ' H' s' ∧ tn i s'.heap ∧ (∀ b ∈ fp, H' b = none) ∧ W i n σ' H') ?_ m0 ⟨0, σ, H2, I2, st2, fun b hb => (f2 b hb).1, w0⟩
  rintro n s3 ⟨i, σ3, H3, I3, st3, fr3, w3⟩
  rcases turn i n σ3 H3 w3 with ⟨stop, qn⟩ | ⟨go, N, hN, step⟩
  · refine wpAny_passesOwn hp (thn (T.done X rfl rfl rfl hc i pins s3 σ3 H3 X.xe I3 (stat fr3) st3 stop) fun r s4 ⟨hr, I4⟩ => ?_)
    subst hr
    exact wpAny_execs_nil ⟨σ3, H3, I4, qn⟩
  · refine wpAny_passesOwn hp (thn (T.item X rfl rfl rfl hc i pins s3 σ3 H3 X.xe I3 (stat fr3) st3 go) fun r s4 ⟨u, hr, h4⟩ => ?_)
    subst hr
    refine wpAny_passesOwn hp (thn h4 fun _ s5 ⟨x, H5, I5, r5, y5, st5, fr5⟩ => ?_)
    have I5' := I5.pinned (stat fr5) (T.obj _ _ st5)
    refine wpAny_passesOwn hp (thn (hg _ s5 σ3 H5 x u _ I5' r5 (step x H5 y5)) fun _ s6 ⟨σ6, H6, I6, q6⟩ => ?_)
    refine wpAny_passesOwn hp (thn (hb _ s6 σ6 H6 _ I6 q6) fun f s7 q7 => ?_)
    have again : ∀ {σ7 : St} {H7 : Hp}, Inv X (pins ++ pinsAt fp s5.heap) σ7 H7 s7 → N σ7 H7 → ∃ m, m < n ∧ ∃ i σ' H', Inv X pins σ' H' s7 ∧ tn i s7.heap ∧ (∀ b ∈ fp, H' b = none) ∧ W i m σ' H' := fun {σ7 H7} I7 n7 => by
      obtain ⟨m', hm, w7⟩ := hN σ7 H7 n7
      refine ⟨m', hm, i + 1, σ7, H7, I7.unpinned, T.keep _ _ _ st5 fun b hb o e => (I7.pin (b, o) (List.mem_append_right _ (List.mem_append_right _ (mem_pinsAt hb e)))).1, fun b hb => ?_, w7⟩
      obtain ⟨o, e, d⟩ := T.obj _ _ st5 b hb
      exact (I7.pin (b, o) (List.mem_append_right _ (List.mem_append_right _ (mem_pinsAt hb e)))).2.1
    cases f with
    | next => obtain ⟨σ7, H7, I7, n7⟩ := q7; exact again I7 n7
    | cont => obtain ⟨σ7, H7, I7, n7⟩ := q7; exact again I7 n7
    | brk => obtain ⟨σ7, H7, I7, q7⟩ := q7; exact ⟨σ7, H7, I7.unpinned, q7⟩
    | ret v => obtain ⟨x7, σ7, H7, I7, r7, q7⟩ := q7; exact ⟨x7, σ7, H7, I7.unpinned, r7, q7⟩
end
theorem for_range {lo : Int} {n : Nat} {g : TG} {tb : TS} {D : Ends} {σ : St} {H : Hp} (Pv : Nat → St → Hp → Prop) (h0 : Pv 0 σ H)
    (hs : ∀ i σ H, i < n → Pv i σ H → g (.int (lo + i)) σ H fun σ2 H2 => tb { D with nx := Pv (i + 1), ct := Pv (i + 1), bk := D.nx } σ2 H2) (hd : ∀ σ H, Pv n σ H → D.nx σ H) :
    ∃ W : Nat → Nat → St → Hp → Prop, (∃ m, W 0 m σ H) ∧ ∀ i m σ H, W i m σ H →
      ((Itr lo n).stop i H ∧ D.nx σ H) ∨ ((Itr lo n).go i H ∧ ∃ N : St → Hp → Prop, (∀ σ' H', N σ' H' → ∃ m', m' < m ∧ W (i + 1) m' σ' H') ∧ ∀ x H', (Itr lo n).yld i H x H' → g x σ H' fun σ2 H2 => tb { D with nx := N, ct := N, bk := D.nx } σ2 H2) := by
  refine ⟨fun i m σ H => m = n - i ∧ i ≤ n ∧ Pv i σ H, ⟨n, by simp, Nat.zero_le _, h0⟩, ?_⟩
  rintro i m σ H ⟨rfl, hi, p⟩
  by_cases hlt : i < n
  · refine .inr ⟨hlt, Pv (i + 1), fun σ' H' p' => ⟨n - (i + 1), by omega, rfl, hlt, p'⟩, fun x H' y => ?_⟩
    obtain ⟨e, y⟩ := y
    subst e y
    exact hs i σ _ hlt p
  · have e : i = n := by omega
    subst e
    exact .inl ⟨Nat.le_refl _, hd σ H p⟩
end L2
namespace L2
open PySem PySem.Spec PyProof.Rows
noncomputable abbrev R2 := V → V → Hp → VK → Prop
noncomputable def OpR (X : Cx) (f : Value → Value → Sem Value) (r : R2) : Prop :=
  ∀ (pins : List (Addr × Obj)) (s : Shared) (σ : St) (H : Hp) (x y : V) (v u : Value) (Q : VK), Inv X pins σ H s → RelV x v → RelV y u → r x y H Q →
    wpAny (model X.prog X.w) X.A (f v u) (EP X pins σ Q) X.xe s
noncomputable def UnR (X : Cx) (f : Value → Sem Value) (r : V → Hp → VK → Prop) : Prop :=
  ∀ (pins : List (Addr × Obj)) (s : Shared) (σ : St) (H : Hp) (x : V) (v : Value) (Q : VK), Inv X pins σ H s → RelV x v → r x H Q →
    wpAny (model X.prog X.w) X.A (f v) (EP X pins σ Q) X.xe s
noncomputable def CallR (X : Cx) (f : Value) (r : List V → Hp → VK → Prop) : Prop :=
  ∀ (pins : List (Addr × Obj)) (s : Shared) (σ : St) (H : Hp) (xs : List V) (us : List Value) (Q : VK), Inv X pins σ H s → Vals xs us → r xs H Q →
    wpAny (model X.prog X.w) X.A (call f us) (EP X pins σ Q) X.xe s
noncomputable def tOp (r : R2) (ta tb : TE) : TE := fun σ H Q => ta σ H fun x H1 => tb σ H1 fun y H2 => r x y H2 Q
noncomputable def tUn (r : V → Hp → VK → Prop) (ta : TE) : TE := fun σ H Q => ta σ H fun x H1 => r x H1 Q
noncomputable def rI (C : Int → Int → Prop) (g : Int → Int → V) : R2 := fun x y H Q => ∃ i j, x = .int i ∧ y = .int j ∧ C i j ∧ Q (g i j) H
noncomputable def rI0 (g : Int → Int → V) : R2 := fun x y H Q => ∃ i j, x = .int i ∧ y = .int j ∧ Q (g i j) H
noncomputable def rU (g : Int → V) : V → Hp → VK → Prop := fun x H Q => ∃ i, x = .int i ∧ Q (g i) H
section
variable {X : Cx} {a b c : Expr} {ta tb tc : TE} {pos : Pos}
theorem binT (ha : PE X a ta) (hb : PE X b tb) {pins : List (Addr × Obj)} {s : Shared} {σ : St} {H : Hp} {R : V → V → Hp → Prop} (I : Inv X pins σ H s)
    (h : ta σ H fun x H1 => tb σ H1 fun y H2 => R x y H2) {Q : Value → Shared → Prop} {f : Value → Value → Sem Value}
    (hf : ∀ v u s2 x y H2, Inv X pins σ H2 s2 → RelV x v → RelV y u → R x y H2 → wpAny (model X.prog X.w) X.A (f v u) Q X.xe s2) :
    wpAny (model X.prog X.w) X.A (eval a X.env) (fun v s₁ => wpAny (model X.prog X.w) X.A (eval b X.env) (fun u s₂ => wpAny (model X.prog X.w) X.A (f v u) Q X.xe s₂) X.xe s₁) X.xe s := by
  refine thn (ha pins s σ H _ I h) fun v s1 ⟨x, H1, I1, r1, q1⟩ => ?_
  refine thn (hb pins s1 σ H1 _ I1 q1) fun u s2 ⟨y, H2, I2, r2, q2⟩ => ?_
  exact hf v u s2 x y H2 I2 r1 r2 q2
theorem pe_op {op : Operator} {r : R2} (ho : OpR X (binaryOp op) r) (ha : PE X a ta) (hb : PE X b tb) : PE X (.BinOp a op b pos) (tOp r ta tb) := by
  intro pins s σ H Q I h
  exact wpAny_BinOp (binT ha hb I h fun v u s2 x y H2 I2 rx ry q => ho pins s2 σ H2 x y v u Q I2 rx ry q)
theorem pe_un {op : UnaryOp} {r : V → Hp → VK → Prop} (ho : UnR X (unaryOp op) r) (ha : PE X a ta) : PE X (.UnaryOp op a pos) (tUn r ta) := by
  intro pins s σ H Q I h
  exact UnaryOp_ (thn (ha pins s σ H _ I h) fun v s1 ⟨x, H1, I1, r1, q1⟩ => ho pins s1 σ H1 x v Q I1 r1 q1)
theorem opI {f : Value → Value → Sem Value} {C : Int → Int → Prop} {g : Int → Int → Int}
    (rule : ∀ (i j : Int) (t u : Tok) (s : Shared) (Q : Value → Shared → Prop) (E : Value → Shared → Prop), C i j → Q (.int (g i j) s.toks) { s with toks := s.toks + 1 } → wpAny (model X.prog X.w) X.A (f (.int i t) (.int j u)) Q E s) :
    OpR X f (rI C fun i j => .int (g i j)) := by
  intro pins s σ H x y v u Q I rx ry h
  obtain ⟨i, j, rfl, rfl, hc, q⟩ := h
  obtain ⟨t, rfl⟩ := rx
  obtain ⟨t', rfl⟩ := ry
  exact rule i j t t' s _ _ hc ⟨.int (g i j), H, I.tok _, ⟨_, rfl⟩, q⟩
theorem opI0 {f : Value → Value → Sem Value} {g : Int → Int → Int}
    (rule : ∀ (i j : Int) (t u : Tok) (s : Shared) (Q : Value → Shared → Prop) (E : Value → Shared → Prop), Q (.int (g i j) s.toks) { s with toks := s.toks + 1 } → wpAny (model X.prog X.w) X.A (f (.int i t) (.int j u)) Q E s) :
    OpR X f (rI0 fun i j => .int (g i j)) := by
  intro pins s σ H x y v u Q I rx ry h
  obtain ⟨i, j, rfl, rfl, q⟩ := h
  obtain ⟨t, rfl⟩ := rx
  obtain ⟨t', rfl⟩ := ry
  exact rule i j t t' s _ _ ⟨.int (g i j), H, I.tok _, ⟨_, rfl⟩, q⟩
theorem opB0 {f : Value → Value → Sem Value} {g : Int → Int → Bool}
    (rule : ∀ (i j : Int) (t u : Tok) (s : Shared) (Q : Value → Shared → Prop) (E : Value → Shared → Prop), Q (.bool (g i j)) s → wpAny (model X.prog X.w) X.A (f (.int i t) (.int j u)) Q E s) :
    OpR X f (rI0 fun i j => .bl (g i j)) := by
  intro pins s σ H x y v u Q I rx ry h
  obtain ⟨i, j, rfl, rfl, q⟩ := h
  obtain ⟨t, rfl⟩ := rx
  obtain ⟨t', rfl⟩ := ry
  exact rule i j t t' s _ _ ⟨.bl (g i j), H, I, rfl, q⟩
noncomputable def CDiv (i j : Int) : Prop := 0 < j ∧ j < 1073741824
noncomputable def CPow (i j : Int) : Prop := 0 ≤ j ∧ j ≤ 1000000 ∧ i.natAbs < 2 ^ 64
noncomputable def CMul (i j : Int) : Prop := (-(2 ^ 64) < i ∧ i < 2 ^ 64) ∨ (-(2 ^ 64) < j ∧ j < 2 ^ 64)
theorem CMul.ok {i j : Int} (h : CMul i j) : IntMulOk i j := by
  rcases h with ⟨h1, h2⟩ | ⟨h1, h2⟩
  · exact .of_left (intBits_le_64 h1 h2)
  · exact .of_right (intBits_le_64 h1 h2)
theorem two_pow_nn (k : Nat) : (0 : Int) ≤ 2 ^ k := by
  rw [two_pow_cast]
  exact Int.natCast_nonneg _
theorem op_add : OpR X (binaryOp .Add) (rI0 fun i j => .int (i + j)) := opI0 fun _ _ _ _ _ _ _ q => add_int q
theorem op_sub : OpR X (binaryOp .Sub) (rI0 fun i j => .int (i - j)) := opI0 fun _ _ _ _ _ _ _ q => sub_int q
theorem op_mul : OpR X (binaryOp .Mult) (rI CMul fun i j => .int (i * j)) := opI fun _ _ _ _ _ _ _ hc q => mul_int q hc.ok
theorem op_fdiv : OpR X (binaryOp .FloorDiv) (rI CDiv fun i j => .int (i / j)) := opI fun i j _ _ _ _ _ hc q => by
  have h1 : (0 : Int) < j := hc.1
  have h2 : j < 1073741824 := hc.2
  exact floordiv_int (by omega) (by rw [Int.fdiv_eq_ediv_of_nonneg i (by omega)]; exact q) (.inl (PyProof.noPylong_small (by omega)))
theorem op_mod : OpR X (binaryOp .Mod) (rI (fun _ j => 0 < j) fun i j => .int (i % j)) := opI fun i j _ _ _ _ _ hc q => by
  have h1 : (0 : Int) < j := hc
  exact mod_int' (by omega) (by rw [Int.fmod_eq_emod_of_nonneg i (by omega)]; exact q)
theorem op_pow : OpR X (binaryOp .Pow) (rI CPow fun i j => .int (i ^ j.toNat)) := opI fun _ _ _ _ _ _ _ hc q => pow_int_small hc.1 hc.2.1 hc.2.2 q
theorem op_shl : OpR X (binaryOp .LShift) (rI CPow fun i j => .int (i * 2 ^ j.toNat)) := opI fun _ _ _ _ _ _ _ hc q => lshift_int_small hc.1 hc.2.1 hc.2.2 q
theorem op_shr : OpR X (binaryOp .RShift) (rI (fun _ j => 0 ≤ j) fun i j => .int (i / 2 ^ j.toNat)) := opI fun i j _ _ _ _ _ hc q =>
  rshift_int hc (by rw [Int.fdiv_eq_ediv_of_nonneg i (two_pow_nn _)]; exact q)
theorem op_and : OpR X (binaryOp .BitAnd) (rI0 fun i j => .int (Builtin.bitAnd i j)) := opI0 fun _ _ _ _ _ _ _ q => and_int q
theorem unI {f : Value → Sem Value} {g : Int → Int}
    (rule : ∀ (i : Int) (t : Tok) (s : Shared) (Q : Value → Shared → Prop) (E : Value → Shared → Prop), Q (.int (g i) s.toks) { s with toks := s.toks + 1 } → wpAny (model X.prog X.w) X.A (f (.int i t)) Q E s) :
    UnR X f (rU fun i => .int (g i)) := by
  intro pins s σ H x v Q I rx h
  obtain ⟨i, rfl, q⟩ := h
  obtain ⟨t, rfl⟩ := rx
  exact rule i t s _ _ ⟨.int (g i), H, I.tok _, ⟨_, rfl⟩, q⟩
theorem un_neg : UnR X (unaryOp .USub) (rU fun i => .int (-i)) := unI fun _ _ _ _ _ q => neg_int q
end
noncomputable def scal : V → V → Bool
  | .non, .non => true | .non, .int _ => true | .int _, .non => true | .non, .bl _ => true | .bl _, .non => true | .non, .str _ => true | .str _, .non => true
  | .int _, .int _ => true | .bl _, .bl _ => true | .str _, .str _ => true | .byt _, .byt _ => true
  | .int _, .str _ => true | .str _, .int _ => true | .bl _, .str _ => true | .str _, .bl _ => true
  | _, _ => false
noncomputable def rEq : R2 := fun x y H Q => scal x y = true ∧ Q (.bl (decide (x = y))) H
noncomputable def rNe : R2 := fun x y H Q => scal x y = true ∧ Q (.bl (!decide (x = y))) H
theorem dec_int {i j : Int} : decide (V.int i = V.int j) = (i == j) := by
  rw [Bool.eq_iff_iff]
  simp
theorem dec_bl {i j : Bool} : decide (V.bl i = V.bl j) = (i == j) := by
  rw [Bool.eq_iff_iff]
  simp
theorem dec_str {i j : Str} : decide (V.str i = V.str j) = (i == j) := by
  rw [Bool.eq_iff_iff]
  simp
theorem dec_byt {i j : Array UInt8} : decide (V.byt i = V.byt j) = (i.toList == j.toList) := by
  rw [Bool.eq_iff_iff]
  cases i
  cases j
  simp
section
variable {X : Cx} {a b c : Expr} {ta tb tc : TE} {pos : Pos}
theorem fin_bl {pins : List (Addr × Obj)} {σ : St} {H : Hp} {s : Shared} {Q : VK} {k k' : Bool} (I : Inv X pins σ H s) (q : Q (.bl k) H) (e : k = k') : EP X pins σ Q (.bool k') s := by
  subst e
  exact ⟨.bl k, H, I, rfl, q⟩
theorem op_eq : OpR X (compareOp .Eq) rEq := by
  intro pins s σ H x y v u Q I rx ry h
  obtain ⟨hs, q⟩ := h
  cases x with
  | non =>
    cases rx
    cases y with
    | non => cases ry; exact PySem.EqNone.eq_none_none (fin_bl I q (by simp))
    | bl j => cases ry; exact PySem.EqNone.eq_none_bool (fin_bl I q (by simp))
    | int j => obtain ⟨t', rfl⟩ := ry; exact PySem.EqNone.eq_none_int (fin_bl I q (by simp))
    | str j => obtain ⟨t', rfl⟩ := ry; exact PySem.EqNone.eq_none_str (fin_bl I q (by simp))
    | _ => exact absurd (show false = true from hs) Bool.false_ne_true
  | bl i =>
    cases rx
    cases y with
    | non => cases ry; exact PySem.EqNone.eq_bool_none (fin_bl I q (by simp))
    | bl j => cases ry; exact eq_bool (fin_bl I q dec_bl)
    | str j => obtain ⟨t', rfl⟩ := ry; exact PySem.EqMixed.eq_bool_str (fin_bl I q (by simp))
    | _ => exact absurd (show false = true from hs) Bool.false_ne_true
  | int i =>
    obtain ⟨t, rfl⟩ := rx
    cases y with
    | non => cases ry; exact PySem.EqNone.eq_int_none (fin_bl I q (by simp))
    | int j => obtain ⟨t', rfl⟩ := ry; exact eq_int (fin_bl I q dec_int)
    | str j => obtain ⟨t', rfl⟩ := ry; exact PySem.EqMixed.eq_int_str (fin_bl I q (by simp))
    | _ => exact absurd (show false = true from hs) Bool.false_ne_true
  | str i =>
    obtain ⟨t, rfl⟩ := rx
    cases y with
    | non => cases ry; exact PySem.EqNone.eq_str_none (fin_bl I q (by simp))
    | bl j => cases ry; exact PySem.EqMixed.eq_str_bool (fin_bl I q (by simp))
    | int j => obtain ⟨t', rfl⟩ := ry; exact PySem.EqMixed.eq_str_int (fin_bl I q (by simp))
    | str j => obtain ⟨t', rfl⟩ := ry; exact eq_str (fin_bl I q dec_str)
    | _ => exact absurd (show false = true from hs) Bool.false_ne_true
  | byt i =>
    obtain ⟨t, rfl⟩ := rx
    cases y with
    | byt j => obtain ⟨t', rfl⟩ := ry; exact PySem.W.eq_bytes (fin_bl I q dec_byt)
    | _ => exact absurd (show false = true from hs) Bool.false_ne_true
  | _ => cases y <;> exact absurd (show false = true from hs) Bool.false_ne_true
theorem op_ne : OpR X (compareOp .NotEq) rNe := by
  intro pins s σ H x y v u Q I rx ry h
  obtain ⟨hs, q⟩ := h
  cases x with
  | non =>
    cases rx
    cases y with
    | non => cases ry; exact PySem.EqNone.ne_none_none (fin_bl I q (by simp))
    | bl j => cases ry; exact PySem.EqNone.ne_none_bool (fin_bl I q (by simp))
    | int j => obtain ⟨t', rfl⟩ := ry; exact PySem.EqNone.ne_none_int (fin_bl I q (by simp))
    | str j => obtain ⟨t', rfl⟩ := ry; exact PySem.EqNone.ne_none_str (fin_bl I q (by simp))
    | _ => exact absurd (show false = true from hs) Bool.false_ne_true
  | bl i =>
    cases rx
    cases y with
    | non => cases ry; exact PySem.EqNone.ne_bool_none (fin_bl I q (by simp))
    | bl j => cases ry; exact ne_bool (fin_bl I q (congrArg not dec_bl))
    | str j => obtain ⟨t', rfl⟩ := ry; exact PySem.EqMixed.ne_bool_str (fin_bl I q (by simp))
    | _ => exact absurd (show false = true from hs) Bool.false_ne_true
  | int i =>
    obtain ⟨t, rfl⟩ := rx
    cases y with
    | non => cases ry; exact PySem.EqNone.ne_int_none (fin_bl I q (by simp))
    | int j => obtain ⟨t', rfl⟩ := ry; exact ne_int (fin_bl I q (congrArg not dec_int))
    | str j => obtain ⟨t', rfl⟩ := ry; exact PySem.EqMixed.ne_int_str (fin_bl I q (by simp))
    | _ => exact absurd (show false = true from hs) Bool.false_ne_true
  | str i =>
    obtain ⟨t, rfl⟩ := rx
    cases y with
    | non => cases ry; exact PySem.EqNone.ne_str_none (fin_bl I q (by simp))
    | bl j => cases ry; exact PySem.EqMixed.ne_str_bool (fin_bl I q (by simp))
    | int j => obtain ⟨t', rfl⟩ := ry; exact PySem.EqMixed.ne_str_int (fin_bl I q (by simp))
    | str j => obtain ⟨t', rfl⟩ := ry; exact ne_str (fin_bl I q (congrArg not dec_str))
    | _ => exact absurd (show false = true from hs) Bool.false_ne_true
  | byt i =>
    obtain ⟨t, rfl⟩ := rx
    cases y with
    | byt j => obtain ⟨t', rfl⟩ := ry; exact PySem.W.ne_bytes (fin_bl I q (congrArg not dec_byt))
    | _ => exact absurd (show false = true from hs) Bool.false_ne_true
  | _ => cases y <;> exact absurd (show false = true from hs) Bool.false_ne_true
theorem op_lt : OpR X (compareOp .Lt) (rI0 fun i j => .bl (decide (i < j))) := opB0 fun _ _ _ _ _ _ _ q => lt_int q
theorem op_le : OpR X (compareOp .LtE) (rI0 fun i j => .bl (decide (i ≤ j))) := opB0 fun _ _ _ _ _ _ _ q => le_int q
theorem op_gt : OpR X (compareOp .Gt) (rI0 fun i j => .bl (decide (j < i))) := opB0 fun _ _ _ _ _ _ _ q => gt_int q
theorem op_ge : OpR X (compareOp .GtE) (rI0 fun i j => .bl (decide (j ≤ i))) := opB0 fun _ _ _ _ _ _ _ q => ge_int q
theorem nomark (b : Expr) {op : CmpOp} (h : op ≠ .In := by decide) (h2 : op ≠ .NotIn := by decide) : behindInMarks op b = false := by
  have e1 : (op == CmpOp.In) = false := by cases op <;> first | rfl | exact absurd rfl h
  have e2 : (op == CmpOp.NotIn) = false := by cases op <;> first | rfl | exact absurd rfl h2
  cases b <;> simp [behindInMarks, e1, e2]
theorem pe_cmpR {op : CmpOp} {r : R2} (ho : OpR X (compareOp op) r) (ha : PE X a ta) (hb : PE X b tb) (hm : behindInMarks op b = false) : PE X (.Compare a [op] [b] pos) (tOp r ta tb) := by
  intro pins s σ H Q I h
  exact wpAny_Compare1 (binT ha hb I h fun v u s2 x y H2 I2 rx ry q => ho pins s2 σ H2 x y v u Q I2 rx ry q) hm
noncomputable def tTest (t : TE) : TT := fun σ H Q => t σ H fun x H' => ∃ k, x = .bl k ∧ Q k H'
theorem pt_cmpR {op : CmpOp} {r : R2} (ho : OpR X (compareOp op) r) (ha : PE X a ta) (hb : PE X b tb) (hm : behindInMarks op b = false) : PT X (.Compare a [op] [b] pos) (tTest (tOp r ta tb)) := by
  intro pins s σ H Q I h
  refine wpAny_isTrue_Compare1 (thn (ha pins s σ H _ I h) fun v s1 ⟨x, H1, I1, r1, q1⟩ => thn (hb pins s1 σ H1 _ I1 q1) fun u s2 ⟨y, H2, I2, r2, q2⟩ =>
    thn (ho pins s2 σ H2 x y v u _ I2 r1 r2 q2) fun c s3 ⟨z, H3, I3, r3, k, e, q3⟩ => ?_) hm
  subst e
  cases r3
  exact wpAny_truthy_bool ⟨H3, I3, q3⟩
noncomputable def tChain (r r' : R2) (ta tb tc : TE) : TE := fun σ H Q => ta σ H fun x H1 => tb σ H1 fun y H2 => r x y H2 fun z H3 => ∃ k, z = .bl k ∧
  (if k = true then tc σ H3 fun w' H4 => r' y w' H4 Q else Q (.bl false) H3)
theorem pe_chain {op op' : CmpOp} {r r' : R2} (ho : OpR X (compareOp op) r) (ho' : OpR X (compareOp op') r') (ha : PE X a ta) (hb : PE X b tb) (hc : PE X c tc)
    (hm : lastMarks [op, op'] [b, c] = false := by with_unfolding_all rfl) : PE X (.Compare a [op, op'] [b, c] pos) (tChain r r' ta tb tc) := by
  intro pins s σ H Q I h
  refine Compare_chain (thn (ha pins s σ H _ I h) fun v s1 ⟨x, H1, I1, r1, q1⟩ => chain_link (thn (hb pins s1 σ H1 _ I1 q1) fun u s2 ⟨y, H2, I2, r2, q2⟩ =>
    thn (ho pins s2 σ H2 x y v u _ I2 r1 r2 q2) fun d s3 ⟨z, H3, I3, r3, k, e, q3⟩ => ?_)) hm
  subst e
  cases r3
  refine wpAny_truthy_bool ?_
  cases k with
  | false => exact ite_ff ⟨.bl false, H3, I3, rfl, q3⟩
  | true => exact ite_tt (chain_last (thn (hc pins s3 σ H3 _ I3 q3) fun w' s4 ⟨z', H4, I4, r4, q4⟩ => ho' pins s4 σ H4 y z' u w' Q I4 r2 r4 q4))
theorem pt_chain {op op' : CmpOp} {r r' : R2} (ho : OpR X (compareOp op) r) (ho' : OpR X (compareOp op') r') (ha : PE X a ta) (hb : PE X b tb) (hc : PE X c tc)
    (hm : lastMarks [op, op'] [b, c] = false := by with_unfolding_all rfl) : PT X (.Compare a [op, op'] [b, c] pos) (tTest (tChain r r' ta tb tc)) := by
  intro pins s σ H Q I h
  refine isTrue_chain (thn (ha pins s σ H _ I h) fun v s1 ⟨x, H1, I1, r1, q1⟩ => test_link (thn (hb pins s1 σ H1 _ I1 q1) fun u s2 ⟨y, H2, I2, r2, q2⟩ =>
    thn (ho pins s2 σ H2 x y v u _ I2 r1 r2 q2) fun d s3 ⟨z, H3, I3, r3, k, e, q3⟩ => ?_)) hm
  subst e
  cases r3
  refine wpAny_truthy_bool ?_
  cases k with
  | false =>
    obtain ⟨k', e', q'⟩ := q3
    cases e'
    exact ite_ff ⟨H3, I3, q'⟩
  | true =>
    refine ite_tt (test_last (thn (hc pins s3 σ H3 _ I3 q3) fun w' s4 ⟨z', H4, I4, r4, q4⟩ => thn (ho' pins s4 σ H4 y z' u w' _ I4 r2 r4 q4) fun d' s5 ⟨z2, H5, I5, r5, k2, e2, q5⟩ => ?_))
    subst e2
    cases r5
    exact wpAny_truthy_bool ⟨H5, I5, q5⟩
theorem line63 : (sizeLine : Nat) < 2 ^ 63 := by rw [sizeLine_eq]; decide
theorem op_add_str : OpR X (binaryOp .Add) (fun x y H Q => ∃ i j, x = .str i ∧ y = .str j ∧ i.length + j.length ≤ sizeLine ∧ Q (.str (i ++ j)) H) := by
  intro pins s σ H x y v u Q I rx ry h
  obtain ⟨i, j, rfl, rfl, hz, q⟩ := h
  obtain ⟨t, rfl⟩ := rx
  obtain ⟨t', rfl⟩ := ry
  exact add_str (fun t' tk => ⟨.str (i ++ j), H, I.tok _, ⟨_, rfl⟩, q⟩) hz
theorem vals1 {x : V} {us : List Value} (r : Vals [x] us) : ∃ u, us = [u] ∧ RelV x u := by
  cases r with
  | cons r1 r2 => cases r2; exact ⟨_, rfl, r1⟩
theorem vals2 {x y : V} {us : List Value} (r : Vals [x, y] us) : ∃ u w', us = [u, w'] ∧ RelV x u ∧ RelV y w' := by
  cases r with
  | cons r1 r2 =>
    cases r2 with
    | cons r3 r4 => cases r4; exact ⟨_, _, rfl, r1, r3⟩
theorem call_abs : CallR X (.builtin "abs") (fun xs H Q => ∃ i, xs = [.int i] ∧ Q (.int (if i < 0 then -i else i)) H) := by
  intro pins s σ H xs us Q I r h
  obtain ⟨i, rfl, q⟩ := h
  obtain ⟨u, rfl, t, rfl⟩ := vals1 r
  exact call_abs_int fun u tk => ⟨.int (if i < 0 then -i else i), H, I.tok _, ⟨_, rfl⟩, q⟩
theorem call_min2 (hc : X.calm = true) : CallR X (.builtin "min") (fun xs H Q => ∃ i j, xs = [.int i, .int j] ∧ Q (.int (if j < i then j else i)) H) := by
  intro pins s σ H xs us Q I r h
  obtain ⟨i, j, rfl, q⟩ := h
  obtain ⟨u, w', rfl, ⟨t, rfl⟩, ⟨t', rfl⟩⟩ := vals2 r
  refine min_two_ints (I.ok.hd hc) fun h' tk k => ⟨_, H, I.kept k, ?_, q⟩
  by_cases hj : j < i
  · rw [if_pos hj, if_pos hj]; exact ⟨_, rfl⟩
  · rw [if_neg hj, if_neg hj]; exact ⟨_, rfl⟩
theorem call_int1 : CallR X (.type "int") (fun xs H Q => (∃ i, xs = [.int i] ∧ Q (.int i) H) ∨ ∃ k, xs = [.bl k] ∧ Q (.int (if k then 1 else 0)) H) := by
  intro pins s σ H xs us Q I r h
  rcases h with ⟨i, rfl, q⟩ | ⟨k, rfl, q⟩
  · obtain ⟨u, rfl, t, rfl⟩ := vals1 r
    exact call_int_int ⟨.int i, H, I, ⟨_, rfl⟩, q⟩
  · obtain ⟨u, rfl, r1⟩ := vals1 r
    cases r1
    exact call_int_bool ⟨.int (if k then 1 else 0), H, I.tok _, ⟨_, rfl⟩, q⟩
end
end L2
namespace L2
open PySem PySem.Spec PyProof.Rows
structure ObjM (h : Heap) (x dx C : Addr) (mA : Str → Option Value) : Prop where
  obj : h.get? x = some (PySem.W.instObj C dx)
  ns : h.Ns1 dx mA
  ne : dx ≠ x
theorem lookIn_ns {h : Heap} {dx : Addr} {mA : Str → Option Value} (n : h.Ns1 dx mA) : ∃ od, h.get? dx = some od ∧ ∀ name, PySem.W.lookIn name od = some (mA name) := by
  obtain ⟨o, es, ep, ho, hd, hk, _, hm⟩ := n
  refine ⟨o, ho, fun name => ?_⟩
  have e := hm name
  unfold nsFind findBy at e
  rw [← Array.find?_toList] at e
  unfold PySem.W.lookIn
  rw [hd]
  dsimp only
  split
  · rename_i y q
    rw [q] at e
    exact congrArg some e
  · rename_i q
    rw [q] at e
    have a : es.toList.any (·.refKey) = false := by
      rw [List.any_eq_false]
      intro y hy
      obtain ⟨z, t, hkey⟩ := hk y (Array.mem_toList_iff.mp hy)
      simp [DictEntry.refKey, hkey]
    have a' : ¬ es.toList.any (·.refKey) = true := by rw [a]; exact Bool.false_ne_true
    rw [if_neg a']
    exact congrArg some e
theorem ObjM.look {h : Heap} {x dx C : Addr} {mA : Str → Option Value} (I : ObjM h x dx C mA) : ∃ od, PySem.W.InstAt h x (PySem.W.instObj C dx) C (some od) ∧ ∀ name, PySem.W.lookIn name od = some (mA name) :=
  let ⟨od, ho, hl⟩ := lookIn_ns I.ns
  ⟨od, ⟨I.obj, rfl, rfl, ho⟩, hl⟩
section
variable {prog : Program} {w : World} {A : Around} {E : Value → Shared → Prop} {s : Shared} {K : PySem.W.Frag} {x dx C f : Addr} {mA : Str → Option Value} {name : Str} {v : Value}
end
section
variable {P : Program} {w : World} {H H' : Hp} {h h' : Heap} {a C dx : Addr} {fs fs' : List (Str × V)}
theorem ins_get (hok : HOk P w H h) (e : H a = some (.ins C dx fs)) : ∃ mA, ObjM h a dx C mA ∧ (∀ f, RelO (fs.lookup f) (mA f)) ∧ PySem.Within mA (fs.map (·.1)) ∧ fs.length ≤ 1000 ∧ H dx = some (.own a) := by
  obtain ⟨d, z, ne, ob, mA, n, r, q⟩ := (show ObjOk P w H h a (.ins C dx fs) from hok a _ e)
  exact ⟨mA, ⟨ob, n, ne⟩, r, q, z, d⟩
end
structure Cls (K : PySem.W.Frag) (C : Addr) : Prop where
  pg : PySem.W.plainGet K C Str.empty = true
  hd : PySem.W.hasDictIn K C = true
  po : PySem.W.plainOver K C = true
  sa : PySem.W.findIn K (.ref C) "__setattr__" = some (some (.builtin "object.__setattr__"))
theorem Cls.get {K : PySem.W.Frag} {C : Addr} (c : Cls K C) (f : Str) : PySem.W.plainGet K C f = true := c.pg
structure Con (K : PySem.W.Frag) (C : Addr) (f : Str) (v : V) (u : Value) : Prop where
  at_ : PySem.W.findIn K (.ref C) f = some (some u)
  rel : RelV v u
  get : PySem.W.specialIn K u "__get__" = some none
  cp : PySem.W.copiedNames.contains f = false
structure Meth (K : PySem.W.Frag) (C : Addr) (m : Str) (f : Addr) : Prop where
  at_ : PySem.W.findIn K (.ref C) m = some (some (.ref f))
  fn : PySem.W.isFn K (.ref f) = true
  kp : PySem.W.keepIn K (.ref f) = true
section
variable {X : Cx} {pins : List (Addr × Obj)} {σ : St} {H : Hp} {s : Shared} {a C dx : Addr} {fs : List (Str × V)} {f : Str} {v : V} {A : Around} {E : Value → Shared → Prop}
end
section
variable {X : Cx} {o e value : Expr} {f : Str} {pos pos' tpos : Pos} {ta tv : TE}
end
section
variable {X : Cx} {pins : List (Addr × Obj)} {σ : St} {H : Hp} {s : Shared} {A : Around} {E : Value → Shared → Prop} {Q : Value → Shared → Prop} {c : Value} {b : Bool}
inductive TyOf (K : PySem.W.Frag) (H : Hp) : V → Value → Prop where
  | non : TyOf K H .non (.type "NoneType")
  | bl (x : Bool) : TyOf K H (.bl x) (.type "bool")
  | int (i : Int) : TyOf K H (.int i) (.type "int")
  | str (x : Str) : TyOf K H (.str x) (.type "str")
  | flt (x : UInt64) : TyOf K H (.flt x) (.type "float")
  | lst {a : Addr} {xs : List V} (e : H a = some (.lst xs)) : TyOf K H (.ref a) (.type "list")
  | frz {a : Addr} {o : Obj} {xs : List V} (e : H a = some (.frz o (.lst xs))) : TyOf K H (.ref a) (.type "list")
  | tup {a : Addr} {xs : List V} (e : H a = some (.tup xs)) : TyOf K H (.ref a) (.type "tuple")
  | dK {a : Addr} {kvs : List (Key × V)} (e : H a = some (.dK kvs)) : TyOf K H (.ref a) (.type "dict")
  | dT {a : Addr} {kvs : List (List Key × V)} (e : H a = some (.dT kvs)) : TyOf K H (.ref a) (.type "dict")
  | ins {a C dx : Addr} {fs : List (Str × V)} (e : H a = some (.ins C dx fs)) (cl : Cls K C) (ha : PySem.W.findIn K (.ref C) "__class__" = some (some (.builtin "object.__class__")))
      (hn : PySem.W.specialIn K (.builtin "object.__class__") "__get__" = some (some (.builtin "getset_descriptor.__get__"))) (htk : PySem.W.takesIn K (.builtin "object.__class__") = some true)
      (hm : PySem.W.mroIn K C (.type "object") = some true) : TyOf K H (.ref a) (.ref C)
theorem isinst_ok {x : V} {u t : Value} (I : Inv X pins σ H s) (rx : RelV x u) (ty : TyOf X.K H x t) (e : PySem.W.kitOne X.K t c = some b) (h : ∀ tk, Q (.bool b) { s with toks := tk }) :
    wpAny (model X.prog X.w) A (call (.builtin "isinstance") [u, c]) Q E s := by
  cases ty with
  | non => cases (show u = Value.none from rx); exact PySem.W.kia_one PySem.W.kitx_none I.kIn True.intro e (fun z => nomatch z) h
  | bl y => cases (show u = Value.bool y from rx); exact PySem.W.kia_one PySem.W.kitx_bool I.kIn True.intro e (fun z => nomatch z) h
  | int i => obtain ⟨t, q⟩ := (show ∃ t, u = Value.int i t from rx); cases q; exact PySem.W.kia_one PySem.W.kitx_int I.kIn True.intro e (fun z => nomatch z) h
  | str y => obtain ⟨t, q⟩ := (show ∃ t, u = Value.str y t from rx); cases q; exact PySem.W.kia_one PySem.W.kitx_str I.kIn True.intro e (fun z => nomatch z) h
  | flt y => obtain ⟨t, q⟩ := (show ∃ t, u = Value.float y t from rx); cases q; exact PySem.W.kia_one PySem.W.kitx_float I.kIn True.intro e (fun z => nomatch z) h
  | @lst a xs ea =>
    cases (show u = Value.ref a from rx)
    obtain ⟨_, _, n, _, h1⟩ := (show ObjOk X.prog X.w H s.heap a (.lst xs) from I.hok a _ ea)
    exact PySem.W.kia_one PySem.W.kitx_list I.kIn ⟨_, h1, rfl⟩ e (fun z => nomatch z) h
  | @frz a ob xs ea =>
    cases (show u = Value.ref a from rx)
    obtain ⟨_, _, _, n, _, h1⟩ := (show ObjOk X.prog X.w H s.heap a (.frz ob (.lst xs)) from I.hok a _ ea)
    exact PySem.W.kia_one PySem.W.kitx_list I.kIn ⟨_, h1, rfl⟩ e (fun z => nomatch z) h
  | @tup a xs ea =>
    cases (show u = Value.ref a from rx)
    obtain ⟨_, _, _, p⟩ := (show ObjOk X.prog X.w H s.heap a (.tup xs) from I.hok a _ ea)
    obtain ⟨o, h1, h2, _⟩ := p
    exact PySem.W.kia_one PySem.W.kitx_tuple I.kIn ⟨o, h1, h2⟩ e (fun z => nomatch z) h
  | @dK a kvs ea =>
    cases (show u = Value.ref a from rx)
    obtain ⟨_, _, vs, _, p⟩ := (show ObjOk X.prog X.w H s.heap a (.dK kvs) from I.hok a _ ea)
    obtain ⟨o, es, ep, h1, h2, _⟩ := p
    exact PySem.W.kia_one PySem.W.kitx_dict I.kIn ⟨o, h1, h2.1⟩ e (fun z => nomatch z) h
  | @dT a kvs ea =>
    cases (show u = Value.ref a from rx)
    obtain ⟨_, _, xs, _, o, es, ep, h1, h2, _⟩ := (show ObjOk X.prog X.w H s.heap a (.dT kvs) from I.hok a _ ea)
    exact PySem.W.kia_one PySem.W.kitx_dict I.kIn ⟨o, h1, h2.1⟩ e (fun z => nomatch z) h
  | @ins a C dx fs ea cl ha hn htk hm =>
    cases (show u = Value.ref a from rx)
    obtain ⟨mA, O, _⟩ := ins_get I.hok ea
    obtain ⟨od, J, _⟩ := O.look
    exact PySem.W.kia_one (PySem.W.kitx_own (cl.get _) cl.hd ha hn htk hm) I.kIn J e (fun z => nomatch z) h
end
end L2
namespace L2
open PySem PySem.Spec PyProof.Rows
structure Room (k : Nat) (A : Around) : Prop where
  hd : A.handled = none
  dp : A.depth + 3 * k + 5 < recursionLimit
  un : A.units + 16 * k + 200 < cLine
  gd : A.guards = some []
theorem Room.mono {j k : Nat} {A : Around} (r : Room k A) (h : j ≤ k) : Room j A := ⟨r.hd, by have := r.dp; omega, by have := r.un; omega, by first | exact r.gd | (simp [Around.under, Code.guards, Code.isGuard, guardIds]; exact r.gd)⟩
theorem Room.deeper {k : Nat} {A : Around} (r : Room (k + 1) A) (env : Env) : Room k (A.deeper env) :=
  ⟨r.hd, by have := r.dp; show A.depth + 1 + 3 * k + 5 < _; omega, by have := r.un; show A.units + 3 + 16 * k + 200 < _; omega, by first | exact r.gd | (simp [Around.under, Code.guards, Code.isGuard, guardIds]; exact r.gd)⟩
theorem Room.in1 {k : Nat} {A : Around} (r : Room (k + 1) A) : Room k A.in1 :=
  ⟨r.hd, by have := r.dp; show A.depth + 3 * k + 5 < _; omega, by have := r.un; show A.units + 1 + 16 * k + 200 < _; omega, by first | exact r.gd | (simp [Around.under, Code.guards, Code.isGuard, guardIds]; exact r.gd)⟩
theorem Room.depth {k : Nat} {A : Around} (r : Room k A) : A.depth < recursionLimit := by have := r.dp; omega
theorem Room.units {k : Nat} {A : Around} (r : Room k A) : A.units + 64 < cLine := by have := r.un; omega
noncomputable def tNil : TA := fun _ H Q => Q [] H
noncomputable def tCons (ta : TE) (tr : TA) : TA := fun σ H Q => ta σ H fun x H1 => tr σ H1 fun xs H2 => Q (x :: xs) H2
section
variable {X : Cx} {e : Expr} {es : List Expr} {te : TE} {t : TA} {pos : Pos}
theorem pa_nil : PA X [] tNil := fun _ _ _ _ H Q I h => Calls.spliced_nil ⟨[], H, I, .nil, h⟩
theorem pa_cons (ha : PE X e te) (hr : PA X es t) (hs : starEach (e :: es) X.env = (false, eval e X.env) :: starEach es X.env := by rfl) : PA X (e :: es) (tCons te t) := by
  intro pos pins s σ H Q I h
  rw [hs]
  show wpAny _ _ (spliced ((false, eval e X.env) :: backTo pos (starEach es X.env))) _ _ s
  refine Calls.spliced_cons (thn (ha pins s σ H _ I h) fun u s1 ⟨x, H1, I1, r1, q1⟩ => ?_)
  exact thn (hr pos pins s1 σ H1 _ I1 q1) fun us s2 ⟨xs, H2, I2, r2, q2⟩ => ⟨x :: xs, H2, I2, .cons r1 r2, q2⟩
noncomputable def tLst (t : TA) : TE := fun σ H Q => t σ H fun xs H1 => xs.length ≤ sizeLine ∧ ∀ p, H1 p = none → Q (.ref p) (upd H1 p (.lst xs))
theorem pe_lst (h : PA X es t) : PE X (.List es pos) (tLst t) := by
  intro pins s σ H Q I hq
  refine wpAny_List_spliced (thn (h pos pins s σ H _ I hq) fun us s1 ⟨xs, H1, I1, r, z, q⟩ => ⟨by rw [← r.length]; exact z, ?_⟩)
  have hf : H1 s1.heap.objs.size = none := I1.hok.fresh (Nat.le_refl _)
  refine ⟨.ref s1.heap.objs.size, upd H1 s1.heap.objs.size (.lst xs), I1.laid (t' := s1.toks) (fun b u e => Heap.get?_push_of_some _ e) (Nat.le_refl _) ?_, rfl, q _ hf⟩
  exact ⟨z, us, 0, r, Heap.get?_push_size _ rfl⟩
end
noncomputable abbrev Sp := List V → Hp → VK → XK → Prop
noncomputable abbrev CXT := List Env → Hp → Shared → XK → Value → Shared → Prop
structure Env0 (P : Program) (w : World) (K : PySem.W.Frag) (mg : Str → Option Value) (base : Heap) (A : Around) (outer : List Env) (s : Shared) (H : Hp) : Prop where
  frames : A.frames = some outer
  mod : Mod K mg base
  bs : ∀ b o, base.get? b = some o → s.heap.get? b = some o ∧ H b = none
  bsz : base.objs.size ≤ s.heap.objs.size
  funs : s.heap.FunFrames base outer
  frf : ∀ b ∈ frs outer, H b = none
  hok : HOk P w H s.heap
  bare : AllBare s.gens
noncomputable def CE (outer : List Env) (P : Program) (w : World) (H : Hp) (s : Shared) (Q : VK) (u : Value) (s' : Shared) : Prop :=
  ∃ v H', s'.os = s.os ∧ AllBare s'.gens ∧ Un (frs outer) [] H H' s.heap s'.heap ∧ HOk P w H' s'.heap ∧ RelV v u ∧ Q v H'
noncomputable def CR (CX : CXT) (outer : List Env) (P : Program) (w : World) (H : Hp) (s : Shared) (Q : VK) (E : XK) (r : Result) (s' : Shared) : Prop :=
  match r with
  | .ok (.ret u) => CE outer P w H s Q u s'
  | .ok _ => False
  | .error e => CX outer H s E e s'
structure FnOk (P : Program) (w : World) (K : PySem.W.Frag) (mg : Str → Option Value) (base : Heap) (CX : CXT) (k : Nat) (f : Addr) (fd : FuncData) (ps : List Str) (sp : Sp) : Prop where
  len : ∀ vs H Q E, sp vs H Q E → vs.length = ps.length
  run : ∀ (A : Around) (outer : List Env) (s : Shared) (H : Hp) (args : Args) (us : List Value) (vs : List V) (Q : VK) (E : XK), Room k A → Env0 P w K mg base A outer s H → BindsTo s fd args (ps.zip us) → Vals vs us → sp vs H Q E →
    codeAny (model P w) A (.call (.ref f) args) (CR CX outer P w H s Q E) s
theorem FnOk.mono {P : Program} {w : World} {K : PySem.W.Frag} {mg : Str → Option Value} {base : Heap} {CX : CXT} {j k : Nat} {f : Addr} {fd : FuncData} {ps : List Str} {sp : Sp} (F : FnOk P w K mg base CX j f fd ps sp) (h : j ≤ k) :
    FnOk P w K mg base CX k f fd ps sp := ⟨F.len, fun A outer s H args us vs Q E hr => F.run A outer s H args us vs Q E (hr.mono h)⟩
theorem FnOk.imp {P : Program} {w : World} {K : PySem.W.Frag} {mg : Str → Option Value} {base : Heap} {CX : CXT} {k : Nat} {f : Addr} {fd : FuncData} {ps : List Str} {sp sp' : Sp} (F : FnOk P w K mg base CX k f fd ps sp)
    (h : ∀ vs H Q E, sp' vs H Q E → sp vs H Q E) : FnOk P w K mg base CX k f fd ps sp' :=
  ⟨fun vs H Q E q => F.len vs H Q E (h _ _ _ _ q), fun A outer s H args us vs Q E hr he hb hv hs => F.run A outer s H args us vs Q E hr he hb hv (h _ _ _ _ hs)⟩
theorem Env0.in1 {P : Program} {w : World} {K : PySem.W.Frag} {mg : Str → Option Value} {base : Heap} {A : Around} {outer : List Env} {s : Shared} {H : Hp} (e : Env0 P w K mg base A outer s H) :
    Env0 P w K mg base A.in1 outer s H := ⟨e.frames, e.mod, e.bs, e.bsz, e.funs, e.frf, e.hok, e.bare⟩
section
variable {X : Cx} {pins : List (Addr × Obj)} {σ : St} {H : Hp} {s s' : Shared}
theorem Inv.env0 (I : Inv X pins σ H s) : Env0 X.prog X.w X.K X.mg X.base X.A X.stack s H :=
  ⟨I.ok.frames, I.ok.mod, I.bs, Nat.le_trans I.ok.bsz I.sz, I.stack, I.stkFree, I.hok, I.bare⟩
theorem Inv.after {Q : VK} {u : Value} (I : Inv X pins σ H s) (h : CE X.stack X.prog X.w H s Q u s') : EP X pins σ Q u s' := by
  obtain ⟨v, H', os, bare, un, hok, r, q⟩ := h
  obtain ⟨hh, g, d, t, os'⟩ := s'
  obtain rfl : os' = s.os := os
  exact ⟨v, H', I.call (h' := hh) (g' := g) (d' := d) (t' := t) (ch := []) un hok bare (fun b z => absurd z (by simp)), r, q⟩
end
noncomputable def tCall (sp : Sp) (dvs : List V) (E : XK) (t : TA) : TE := fun σ H Q => t σ H fun vs H1 => sp (vs ++ dvs) H1 Q E
noncomputable def Binds (K : PySem.W.Frag) (fd : FuncData) (ps : List Str) (ds : List Value) : Prop :=
  ∀ (s : Shared) (us : List Value), K.In s.heap → (us ++ ds).length = ps.length → BindsTo s fd ⟨us, []⟩ (ps.zip (us ++ ds))
theorem Binds.all {K : PySem.W.Frag} {fd : FuncData} {ps : List Str} (h : ∀ us : List Value, us.length = ps.length → bindArgs fd ⟨us, []⟩ = pure (ps.zip us)) : Binds K fd ps [] := fun s us _ hl => by
  rw [List.append_nil] at hl ⊢
  exact .of_eq (h us hl)
noncomputable def Passes (CX : CXT) (X : Cx) (E : XK) : Prop := ∀ (pins : List (Addr × Obj)) (σ : St) (H : Hp) (s : Shared) (e : Value) (s' : Shared), Inv X pins σ H s → CX X.stack H s E e s' → X.xe e s'
section
variable {X : Cx} {CX : CXT} {k : Nat} {f C : Addr} {fd : FuncData} {ps : List Str} {sp : Sp} {dvs : List V} {ds : List Value} {E : XK} {x m : Str} {p pos apos : Pos} {e o : Expr} {es : List Expr} {ta : TE} {t : TA}
theorem run_fn {pins : List (Addr × Obj)} {σ : St} {H : Hp} {s : Shared} {Q : VK} {us : List Value} {vs : List V} (F : FnOk X.prog X.w X.K X.mg X.base CX k f fd ps sp) (hr : Room k X.A) (hb : Binds X.K fd ps ds) (hd : Vals dvs ds) (hx : Passes CX X E)
    (I : Inv X pins σ H s) (r : Vals vs us) (h : sp (vs ++ dvs) H Q E) : wpAny (model X.prog X.w) X.A (call (.ref f) us) (EP X pins σ Q) X.xe s := by
  have r2 : Vals (vs ++ dvs) (us ++ ds) := r.append hd
  have hl : (us ++ ds).length = ps.length := by rw [← r2.length]; exact F.len _ _ _ _ h
  refine wpAny_call (codeAny_mono (F.run X.A X.stack s H ⟨us, []⟩ (us ++ ds) (vs ++ dvs) Q E hr I.env0 (hb s us I.kIn hl) r2 h) fun r s' hq => ?_)
  cases r with
  | error e => exact hx pins σ H s e s' I hq
  | ok fl =>
    cases fl with
    | ret u => exact I.after hq
    | next => exact False.elim hq
    | brk => exact False.elim hq
    | cont => exact False.elim hq
theorem pe_call (F : FnOk X.prog X.w X.K X.mg X.base CX k f fd ps sp) (hr : Room k X.A) (hg : Gl X x) (hm : X.mg x = some (.ref f)) (hk : PySem.W.keepIn X.K (.ref f) = true) (hb : Binds X.K fd ps ds) (hd : Vals dvs ds) (hx : Passes CX X E)
    (ha : PA X (e :: es) t) (hdb : (x == ("__debug__" : Str)) = false := by decide) (he : starEach (e :: es) X.env = (false, eval e X.env) :: starEach es X.env := by rfl) (hpl : (backTo pos (starEach es X.env)).any (·.1) = false := by rfl) :
    PE X (.Call (.Name x p) (e :: es) [] pos) (tCall sp dvs E t) := by
  intro pins s σ H Q I h
  refine wpAny_Call_Name_kw (ld_glob I hg hm ?_ hdb)
  refine PySem.W.callWith_K (h₀ := X.base) I.ok.mod.kin hk (thn (ha pos pins s σ H _ I h) fun us s1 ⟨vs, H1, I1, r, q⟩ => ⟨I1.kIn, ?_⟩) he hpl
  exact run_fn F hr hb hd hx I1 r q
structure Mk (K : PySem.W.Frag) (C f : Addr) : Prop where
  makes : PySem.W.makesIn K C = true
  init : PySem.W.findIn K (.ref C) "__init__" = some (some (.ref f))
  fn : PySem.W.isFn K (.ref f) = true
  kp : PySem.W.keepIn K (.ref C) = true
end
section
variable {X : Cx} {CX : CXT} {k : Nat} {f C : Addr} {fd : FuncData} {ps ks : List Str} {sp : Sp} {E : XK} {x m : Str} {p pos apos kpos : Pos} {e o : Expr} {es : List Expr} {kws : List Keyword} {te ta : TE} {t tk : TA} {nm : Option Str}
structure KBinds (K : PySem.W.Frag) (fd : FuncData) (ps ks : List Str) (g : List Value → List Value → List Value) (gV : List V → List V → List V) : Prop where
  to : ∀ (s : Shared) (us ws : List Value), K.In s.heap → (g us ws).length = ps.length → BindsTo s fd ⟨us, ks.zip ws⟩ (ps.zip (g us ws))
  rel : ∀ {vs : List V} {us : List Value} {zs : List V} {ws : List Value}, Vals vs us → Vals zs ws → Vals (gV vs zs) (g us ws)
variable {g : List Value → List Value → List Value} {gV : List V → List V → List V}
end
structure FnScope (N P : List Str) (sc : Scope) : Prop where
  kind : sc.kind = .function
  co : sc.isCoroutine = false
  gen : sc.isGenerator = false
  nd : N.Nodup
  pre : N.take P.length = P
  par : ∀ x ∈ P, sc.names.lookup x = some .local ∨ sc.names.lookup x = some .cell
  nofree : ∀ y ∈ sc.names, y.2 ≠ .free
theorem bindL_out {kindOf : Str → Option NameKind} {x : Str} : ∀ {binds : List (Str × Value)} {m : Str → Option Value}, (∀ v, (x, v) ∉ binds) → bindL kindOf binds m x = m x
  | [], _, _ => rfl
  | (n, v) :: r, m, h => by
    unfold bindL
    rw [bindL_out fun w hw => h w (List.mem_cons_of_mem _ hw)]
    split
    · have : x ≠ n := by rintro rfl; exact h v List.mem_cons_self
      simp [this]
    · rfl
theorem bindC_out {kindOf : Str → Option NameKind} {x : Str} : ∀ {binds : List (Str × Value)} {m : Str → Option Value}, (∀ v, (x, v) ∉ binds) → bindC kindOf binds m x = m x
  | [], _, _ => rfl
  | (n, v) :: r, m, h => by
    unfold bindC
    rw [bindC_out fun w hw => h w (List.mem_cons_of_mem _ hw)]
    split
    · rfl
    · have : x ≠ n := by rintro rfl; exact h v List.mem_cons_self
      simp [this]
theorem bindL_get {kindOf : Str → Option NameKind} {x : Str} {v : Value} : ∀ {P : List Str} {vs : List Value} {i : Nat} {m : Str → Option Value}, P.Nodup → P[i]? = some x → vs[i]? = some v → kindOf x = some .local →
    bindL kindOf (P.zip vs) m x = some v
  | [], _, _, _, _, h, _, _ => by simp at h
  | _ :: _, [], _, _, _, _, h, _ => by simp at h
  | p :: P, w :: vs, 0, m, nd, h1, h2, hk => by
    simp at h1 h2; subst h1; subst h2
    show bindL kindOf ((p, w) :: P.zip vs) m p = _
    unfold bindL
    rw [bindL_out fun v hv => (List.nodup_cons.mp nd).1 (List.of_mem_zip hv).1, if_pos hk]
    simp
  | p :: P, w :: vs, i + 1, m, nd, h1, h2, hk => by
    show bindL kindOf ((p, w) :: P.zip vs) m x = _
    unfold bindL
    exact bindL_get (i := i) (List.nodup_cons.mp nd).2 (by simpa using h1) (by simpa using h2) hk
theorem bindC_get {kindOf : Str → Option NameKind} {x : Str} {v : Value} : ∀ {P : List Str} {vs : List Value} {i : Nat} {m : Str → Option Value}, P.Nodup → P[i]? = some x → vs[i]? = some v → kindOf x ≠ some .local →
    bindC kindOf (P.zip vs) m x = some v
  | [], _, _, _, _, h, _, _ => by simp at h
  | _ :: _, [], _, _, _, _, h, _ => by simp at h
  | p :: P, w :: vs, 0, m, nd, h1, h2, hk => by
    simp at h1 h2; subst h1; subst h2
    show bindC kindOf ((p, w) :: P.zip vs) m p = _
    unfold bindC
    rw [bindC_out fun v hv => (List.nodup_cons.mp nd).1 (List.of_mem_zip hv).1, if_neg hk]
    simp
  | p :: P, w :: vs, i + 1, m, nd, h1, h2, hk => by
    show bindC kindOf ((p, w) :: P.zip vs) m x = _
    unfold bindC
    exact bindC_get (i := i) (List.nodup_cons.mp nd).2 (by simpa using h1) (by simpa using h2) hk
noncomputable def start (N : List Str) (vs : List V) : St := vs.map some ++ List.replicate (N.length - vs.length) none
noncomputable def cxOf (CX : CXT) (P : Program) (w : World) (K : PySem.W.Frag) (mg : Str → Option Value) (base : Heap) (N : List Str) (qual : Str) (scope : Scope) (f : Addr) (cd : Value) (A : Around) (outer : List Env) (s : Shared) (H : Hp) (E : XK) : Cx where
  prog := P
  w := w
  K := K
  mg := mg
  base := base
  A := A.deeper (envOfC qual scope s.heap.objs.size f cd)
  N := N
  s₀ := s
  H₀ := H
  env := envOfC qual scope s.heap.objs.size f cd
  outer := outer
  stack := envOfC qual scope s.heap.objs.size f cd :: outer
  ex := []
  calm := true
  fn := fun _ => true
  pn := []
  xe := fun e s' => wpAny (model P w) (A.deeper (envOfC qual scope s.heap.objs.size f cd)) (leaving (envOfC qual scope s.heap.objs.size f cd) e) (fun _ s'' => CX outer H s E e s'') (fun e' s'' => CX outer H s E e' s'') s'
theorem cell_has {sc : Scope} {n : Nat} {x : Str} (h : sc.names.lookup x = some .cell) : ∃ c, (cellsFrom n sc.names []).lookup x = some c := by
  have q := PySem.W.cellsFrom_some sc.names n [] (.inl h)
  exact Option.isSome_iff_exists.mp q
theorem inv_start {CX : CXT} {P : Program} {w : World} {K : PySem.W.Frag} {mg : Str → Option Value} {base : Heap} {N ps : List Str} {qual : Str} {scope : Scope} {f : Addr} {cd : Value} {A : Around} {outer : List Env} {s s1 : Shared} {H : Hp} {E : XK} {us : List Value} {vs : List V}
    (S : FnScope N ps scope) (hd : A.handled = none) (e0 : Env0 P w K mg base A outer s H) (hl : vs.length = ps.length) (r : Vals vs us)
    (x : InCallC s s.heap.objs.size (bindL (envOfC qual scope s.heap.objs.size f cd).kindOf (ps.zip us) fun _ => none) (cellsFrom (s.heap.objs.size + 1) scope.names []) (bindC (envOfC qual scope s.heap.objs.size f cd).kindOf (ps.zip us) fun _ => none) s1) :
    Inv (cxOf CX P w K mg base N qual scope f cd A outer s H E) [] (start N vs) H s1 := by
  have hpl : ps.length ≤ N.length := by have := congrArg List.length S.pre; rw [List.length_take] at this; omega
  obtain ⟨h1, tk, rfl, hk⟩ := x.done
  have noA : ∀ b : Addr, b ∉ (cxOf CX P w K mg base N qual scope f cd A outer s H E).ex := fun b z => absurd (show b ∈ ([] : List Addr) from z) (by simp)
  refine ⟨⟨e0.mod, S.kind, rfl, rfl, Nat.le_refl _, fun y z c h1 h2 => ?_, fun y hy => ?_, fun y c _ h => ?_, fun _ => hd, Around.frames_deeper e0.frames, .inr ⟨rfl, rfl⟩, fun b z => absurd z (noA b), e0.bs, e0.bsz, fun b _ _ => noA b, fun b z => absurd z (noA b), e0.funs, e0.frf⟩,
    rfl, e0.bare, Un.kept hk, ⟨_, x.toInCall.ns, fun i y v h1 h2 h3 => ?_⟩, fun y c h => ⟨_, x.cell y c h⟩, e0.hok.fresh (Nat.le_refl _), fun y c h => ?_, fun p hp => absurd (show p ∈ ([] : List (Addr × Obj)) from hp) (by simp), e0.hok.kept hk, ?_⟩
  · exact name_of_addr x.apart (PySem.mem_of_lookup h1) (PySem.mem_of_lookup h2)
  · have hy : scope.names.lookup y = some .cell ∨ scope.names.lookup y = some .free := hy
    rcases hy with hy | hy
    · exact cell_has hy
    · exact absurd rfl (S.nofree _ (PySem.mem_of_lookup hy))
  · exact Nat.le_of_lt (x.above y c (PySem.mem_of_lookup h))
  · have hi : i < vs.length := by
      unfold start at h2
      by_cases hi : i < vs.length
      · exact hi
      · rw [List.getElem?_append_right (by simpa using hi)] at h2
        rw [List.getElem?_replicate] at h2
        split at h2 <;> cases h2
    have ha : vs[i]? = some v := by
      unfold start at h2
      rw [List.getElem?_append_left (by simpa using hi), List.getElem?_map] at h2
      cases e : vs[i]? with
      | none => rw [e] at h2; cases h2
      | some a => rw [e] at h2; cases h2; rfl
    obtain ⟨u, hu, rv⟩ := r.get ha
    have hp : ps[i]? = some y := by
      rw [← S.pre, List.getElem?_take_of_lt (by omega)]; exact h1
    have ndP : ps.Nodup := by rw [← S.pre]; exact S.nd.sublist (List.take_sublist _ _)
    refine ⟨u, rv, ?_⟩
    rcases S.par y (List.mem_of_getElem? hp) with k | k
    · exact .inl ⟨k, bindL_get ndP hp hu k⟩
    · obtain ⟨c, e⟩ := cell_has (n := s.heap.objs.size + 1) k
      refine .inr ⟨.inl k, c, e, ?_⟩
      have q := x.cell y c e
      rw [bindC_get ndP hp hu (by show scope.names.lookup y ≠ _; rw [k]; decide)] at q
      exact q
  · exact e0.hok.fresh (Nat.le_of_lt (x.above y c (PySem.mem_of_lookup h)))
  · unfold start
    show _ = N.length
    rw [List.length_append, List.length_map, List.length_replicate]
    omega
theorem fn_of {CX : CXT} {P : Program} {w : World} {K : PySem.W.Frag} {mg : Str → Option Value} {base : Heap} {k : Nat} {f : Addr} {name qual : Str} {params : Arguments} {body : List Stmt} {scope : Scope} {dV kV doc pm cdv ct oc : Value} {an od : Option Addr}
    {osl : Array (Option Value)} {N ps : List Str} {sp : Sp} (lk : K.lookup f = some ⟨oc, od, .func (PySem.W.fnOf name qual params body scope dV kV doc pm an cdv ct), osl⟩) (hcd : PySem.W.codeIn K cdv qual = true) (S : FnScope N ps scope)
    (len : ∀ vs H Q E, sp vs H Q E → vs.length = ps.length)
    (hbody : ∀ (A : Around) (outer : List Env) (s : Shared) (H : Hp) (vs : List V) (Q : VK) (E : XK), Room k (A.deeper (envOfC qual scope s.heap.objs.size f cdv)) → sp vs H Q E →
      ∃ t, PSs (cxOf CX P w K mg base N qual scope f cdv A outer s H E) body t ∧ t { nx := fun _ H' => Q .non H', rt := Q } (start N vs) H) :
    FnOk P w K mg base CX (k + 1) f (PySem.W.fnOf name qual params body scope dV kV doc pm an cdv ct) ps sp := by
  refine ⟨len, fun A outer s H args us vs Q E hr e0 hb r hsp => ?_⟩
  have hl := len _ _ _ _ hsp
  have KX : K.In s.heap := e0.mod.kin.keeps fun b o e => (e0.bs b o e).1
  have lim : s.heap.NoLimit := e0.mod.nolimit.keeps fun b o e => (e0.bs b o e).1
  have hkind : ∀ y ∈ ps.zip us, scope.names.lookup y.1 = some .local ∨ (scope.names.lookup y.1 = some .cell ∧ ((cellsFrom (s.heap.objs.size + 1) scope.names []).lookup y.1).isSome = true) := fun ⟨n, v⟩ hy => by
    rcases S.par n (List.of_mem_zip hy).1 with q | q
    · exact .inl q
    · exact .inr ⟨q, PySem.W.cellsFrom_some _ _ _ (.inl q)⟩
  refine codeAny_call_function hr.depth (KX _ _ lk) rfl S.co S.gen rfl (PySem.W.codeRec_of KX hcd) (hb _ _ _ _ ?_)
  refine wpAny_newFunctionEnv_cells S.kind hkind fun env he s1 x => ?_
  subst he
  refine ⟨lim.keeps x.toInCall.keep, codeAny_func ?_⟩
  obtain ⟨t, ht, hq⟩ := hbody A outer s H vs Q E (hr.deeper _) hsp
  have I : Inv (cxOf CX P w K mg base N qual scope f cdv A outer s H E) [] (start N vs) H s1 := inv_start S hr.hd e0 hl r x
  refine wpAny_mono (ht [] s1 (start N vs) H _ I hq) (fun fl s' hs => ?_) fun e s' hs => hs
  have fin : ∀ {σ' : St} {H' : Hp} {v : V} {u : Value}, Inv (cxOf CX P w K mg base N qual scope f cdv A outer s H E) [] σ' H' s' → RelV v u → Q v H' → CE outer P w H s Q u s' :=
    fun {σ' H' v u} J rv q => ⟨v, H', J.os, J.bare, J.base, J.hok, rv, q⟩
  cases fl with
  | ret u =>
    obtain ⟨v, σ', H', J, rv, q⟩ := hs
    exact fin J rv q
  | next =>
    obtain ⟨σ', H', J, q⟩ := hs
    exact fin (v := V.non) (u := Value.none) J rfl q
  | brk =>
    obtain ⟨_, _, _, q⟩ := hs
    exact False.elim q
  | cont =>
    obtain ⟨_, _, _, q⟩ := hs
    exact False.elim q
end L2
namespace L2
open PySem PySem.Spec PyProof.Rows
section
variable {X : Cx} {x : Str} {p pos : Pos} {e : Expr} {es : List Expr} {t : TA} {id T : String} {r : List V → Hp → VK → Prop}
noncomputable def tCB (r : List V → Hp → VK → Prop) (t : TA) : TE := fun σ H Q => t σ H fun vs H1 => r vs H1 Q
theorem pe_callB (hc : CallR X (.builtin id) r) (hg : Gl X x) (hm : X.mg x = none) (hv : bootBuiltins x = some (.builtin id)) (ha : PA X (e :: es) t) (hn : x ≠ "__name__" := by decide) (hdb : (x == ("__debug__" : Str)) = false := by decide)
    (he : starEach (e :: es) X.env = (false, eval e X.env) :: starEach es X.env := by rfl) (hpl : (backTo pos (starEach es X.env)).any (·.1) = false := by rfl) : PE X (.Call (.Name x p) (e :: es) [] pos) (tCB r t) := by
  intro pins s σ H Q I h
  refine wpAny_Call_Name_kw (ld_blt I hg hm hv ?_ hn hdb)
  exact PyProof.Rows.callWith_builtin1 (thn (ha pos pins s σ H _ I h) fun us s1 ⟨vs, H1, I1, r1, q1⟩ => hc pins s1 σ H1 vs us Q I1 r1 q1) he hpl
theorem pe_callTy (hc : CallR X (.type T) r) (hg : Gl X x) (hm : X.mg x = none) (hv : bootBuiltins x = some (.type T)) (ha : PA X (e :: es) t) (hn : x ≠ "__name__" := by decide) (hdb : (x == ("__debug__" : Str)) = false := by decide)
    (he : starEach (e :: es) X.env = (false, eval e X.env) :: starEach es X.env := by rfl) (hpl : (backTo pos (starEach es X.env)).any (·.1) = false := by rfl) : PE X (.Call (.Name x p) (e :: es) [] pos) (tCB r t) := by
  intro pins s σ H Q I h
  refine wpAny_Call_Name_kw (ld_blt I hg hm hv ?_ hn hdb)
  exact PyProof.Rows.callWith_type1 (thn (ha pos pins s σ H _ I h) fun us s1 ⟨vs, H1, I1, r1, q1⟩ => hc pins s1 σ H1 vs us Q I1 r1 q1) he hpl
end
end L2
namespace HT
open PySem PyProof.Rows
section
open PySem.SeqAt
open PySem.AutoSeq1 (wpAny_loadPart')
open PySem.MeetsSeq PySem.MeetsSeq2 PySem.MeetsSeq3
end
section
variable {prog : Program} {w : World} {A : Around} {E : Value → Shared → Prop} {s : Shared}
noncomputable def sIx (n d : Nat) : Option Int → Nat
  | none => d
  | some v => if v < 0 then (v + (n : Int)).toNat else min v.toNat n
theorem sIx_none (n d : Nat) : sIx n d none = d := rfl
theorem sIx_nat (n d k : Nat) : sIx n d (some (k : Int)) = min k n := by
  show (if (k : Int) < 0 then ((k : Int) + (n : Int)).toNat else min (k : Int).toNat n) = min k n
  rw [if_neg (by omega), Int.toNat_natCast]
end
end HT
namespace L2
open PySem PySem.Spec PyProof.Rows
noncomputable abbrev TO := St → Hp → (Option Int → Hp → Prop) → Prop
noncomputable def PO (X : Cx) (e : Option Expr) (t : TO) : Prop :=
  ∀ (pins : List (Addr × Obj)) (s : Shared) (σ : St) (H : Hp) (Q : Option Int → Hp → Prop), Inv X pins σ H s → t σ H Q →
    wpAny (model X.prog X.w) X.A (evalPart e X.env) (fun u s' => ∃ o H', Inv X pins σ H' s' ∧ IsPart u o ∧ Q o H') X.xe s
noncomputable def tNoPart : TO := fun _ H Q => Q none H
noncomputable def tPart (t : TE) : TO := fun σ H Q => t σ H fun x H1 => ∃ i, x = .int i ∧ Q (some i) H1
section
variable {X : Cx} {e : Expr} {te : TE} {lo hi : Option Expr} {tl th : TO} {pos p2 : Pos}
theorem po_none : PO X none tNoPart := by
  intro pins s σ H Q I h
  rw [evalPart_none]
  exact wpAny_pure ⟨none, H, I, .none, h⟩
theorem po_some (h : PE X e te) : PO X (some e) (tPart te) := by
  intro pins s σ H Q I hw
  rw [evalPart_some]
  refine thn (h pins s σ H _ I hw) fun u s1 ⟨x, H1, I1, r1, q1⟩ => ?_
  obtain ⟨i, rfl, q⟩ := q1
  obtain ⟨t, rfl⟩ := r1
  exact ⟨some i, H1, I1, .int i t, q⟩
noncomputable def SlR (X : Cx) (r : V → Option Int → Option Int → Hp → VK → Prop) : Prop :=
  ∀ (pins : List (Addr × Obj)) (s : Shared) (σ : St) (H : Hp) (x : V) (v vl vu : Value) (lo hi : Option Int) (sl : Addr) (Q : VK), Inv X pins σ H s → RelV x v → s.heap.IsSliceOf sl vl vu .none → IsPart vl lo → IsPart vu hi → r x lo hi H Q →
    ∃ T id, typeLookup (.type T) "__getitem__" = pure (some (.builtin id)) ∧ s.TypeIs v T ∧ wpAny (model X.prog X.w) X.A (getItem v (.ref sl)) (EP X pins σ Q) X.xe s
noncomputable def tSl (r : V → Option Int → Option Int → Hp → VK → Prop) (te : TE) (tl th : TO) : TE := fun σ H Q => te σ H fun x H1 => tl σ H1 fun l H2 => th σ H2 fun u H3 => r x l u H3 Q
theorem pe_slice {r : V → Option Int → Option Int → Hp → VK → Prop} (hr : SlR X r) (he : PE X e te) (hl : PO X lo tl) (hu : PO X hi th) : PE X (.Subscript e (.Slice lo hi none p2) pos) (tSl r te tl th) := by
  intro pins s σ H Q I h
  refine Subscript_ (thn (he pins s σ H _ I h) fun v s1 ⟨x, H1, I1, r1, q1⟩ => ?_)
  refine wpAny_Slice (thn (hl pins s1 σ H1 _ I1 q1) fun vl s2 ⟨l, H2, I2, pl, q2⟩ => thn (hu pins s2 σ H2 _ I2 q2) fun vu s3 ⟨u, H3, I3, pu, q3⟩ => ?_)
  rw [evalPart_none]
  refine wpAny_pure ?_
  have I4 : Inv X pins σ H3 { s3 with heap := s3.heap.push { cls := .type "slice", data := .fields #[vl, vu, .none] } } := I3.kept (t' := s3.toks) fun b ob q => Heap.get?_push_of_some _ q
  obtain ⟨T, id, hT, ht, hg⟩ := hr pins { s3 with heap := s3.heap.push { cls := .type "slice", data := .fields #[vl, vu, .none] } } σ H3 x v vl vu l u s3.heap.objs.size Q I4 r1 (Heap.IsSliceOf.new ..) pl pu q3
  show wpAny (model X.prog X.w) X.A (subscriptTail e (.Slice lo hi none p2) v (.ref s3.heap.objs.size)) (EP X pins σ Q) X.xe { s3 with heap := s3.heap.push { cls := .type "slice", data := .fields #[vl, vu, .none] } }
  exact tail_any (ops := [.ref s3.heap.objs.size, v]) ht hT hg (by with_unfolding_all rfl)
noncomputable def cutV (xs : List V) (lo hi : Option Int) : List V := (xs.drop (HT.sIx xs.length 0 lo)).take (HT.sIx xs.length xs.length hi - HT.sIx xs.length 0 lo)
theorem cutV_length (xs : List V) (lo hi : Option Int) : (cutV xs lo hi).length ≤ xs.length := by
  unfold cutV
  rw [List.length_take, List.length_drop]
  omega
end
end L2
namespace L2
open PySem PySem.Spec PyProof.Rows
noncomputable def ixN (n : Nat) (i : Int) : Option Nat := if 0 ≤ i then (if i < n then some i.toNat else none) else if -(n : Int) ≤ i then some (i + n).toNat else none
noncomputable def atI {α : Type} (xs : List α) (i : Int) : Option α := (ixN xs.length i).bind fun j => xs[j]?
theorem ixN_seq {n : Nat} {i : Int} {j : Nat} (h : ixN n i = some j) : seqIndex? i n = some j ∧ j < n ∧ -(n : Int) ≤ i ∧ i < n := by
  unfold ixN at h
  by_cases h0 : 0 ≤ i
  · rw [if_pos h0] at h
    by_cases h1 : i < n
    · rw [if_pos h1] at h
      have e : i.toNat = j := Option.some.inj h
      exact ⟨by rw [seqIndex_of h0 h1, e], by omega, by omega, h1⟩
    · rw [if_neg h1] at h; cases h
  · rw [if_neg h0] at h
    by_cases h1 : -(n : Int) ≤ i
    · rw [if_pos h1] at h
      have e : (i + n).toNat = j := Option.some.inj h
      exact ⟨by rw [seqIndex_neg (by omega) h1, e], by omega, h1, by omega⟩
    · rw [if_neg h1] at h; cases h
theorem atI_get {α : Type} {xs : List α} {i : Int} {v : α} (h : atI xs i = some v) : ∃ j, seqIndex? i xs.length = some j ∧ xs[j]? = some v ∧ j < xs.length ∧ -(xs.length : Int) ≤ i ∧ i < xs.length := by
  unfold atI at h
  cases e : ixN xs.length i with
  | none => rw [e] at h; cases h
  | some j =>
    rw [e] at h
    obtain ⟨h1, h2, h3, h4⟩ := ixN_seq e
    exact ⟨j, h1, h, h2, h3, h4⟩
theorem atI_nat {α : Type} {xs : List α} {j : Nat} {v : α} (h : xs[j]? = some v) : atI xs (j : Int) = some v := by
  have hj : j < xs.length := (List.getElem?_eq_some_iff.mp h).1
  have e : ixN xs.length (j : Int) = some j := by
    unfold ixN
    rw [if_pos (by omega), if_pos (by omega)]; simp
  unfold atI; rw [e]; exact h
theorem atI_last {α : Type} (xs : List α) (v : α) : atI (xs ++ [v]) (-1) = some v := by
  have hl : (xs ++ [v]).length = xs.length + 1 := by simp
  have e : ixN (xs ++ [v]).length (-1) = some xs.length := by
    unfold ixN
    rw [hl, if_neg (by decide), if_pos (by omega)]
    congr 1
    omega
  unfold atI
  rw [e]
  show (xs ++ [v])[xs.length]? = some v
  simp
noncomputable def PlainIx (b : Expr) : Prop := ∀ o i, subscripted b false o i = operate [o, i] (getItem o i)
noncomputable def IxR (X : Cx) (r : R2) : Prop :=
  ∀ (value slice : Expr) (pins : List (Addr × Obj)) (s : Shared) (σ : St) (H : Hp) (x y : V) (v u : Value) (Q : VK), Inv X pins σ H s → RelV x v → RelV y u → r x y H Q →
    subscripted slice false v u = operate [v, u] (getItem v u) → wpAny (model X.prog X.w) X.A (subscriptTail value slice v u) (EP X pins σ Q) X.xe s
noncomputable def MtR (X : Cx) (id : String) (r : V → List V → Hp → VK → Prop) : Prop :=
  ∀ (pins : List (Addr × Obj)) (s : Shared) (σ : St) (H : Hp) (x : V) (xs : List V) (v : Value) (us : List Value) (Q : VK), Inv X pins σ H s → RelV x v → Vals xs us → r x xs H Q →
    wpAny (model X.prog X.w) X.A (call (.builtin id) (v :: us)) (EP X pins σ Q) X.xe s
section
variable {X : Cx} {a b : Expr} {ta tb : TE} {pos : Pos}
theorem pe_ix {r : R2} (hr : IxR X r) (ha : PE X a ta) (hb : PE X b tb) (hs : PlainIx b) : PE X (.Subscript a b pos) (tOp r ta tb) := by
  intro pins s σ H Q I h
  exact Subscript_ (binT ha hb I h fun v u s2 x y H2 I2 rx ry q => hr a b pins s2 σ H2 x y v u Q I2 rx ry q (hs _ _))
noncomputable def rIxL (K : PySem.W.Frag) : R2 := fun x y H Q => ∃ p xs i v, x = .ref p ∧ y = .int i ∧ SqL K H p xs ∧ atI xs i = some v ∧ Q v H
noncomputable def rIxT (K : PySem.W.Frag) : R2 := fun x y H Q => ∃ p xs i v, x = .ref p ∧ y = .int i ∧ SqT K H p xs ∧ atI xs i = some v ∧ Q v H
noncomputable def rIxS : R2 := fun x y H Q => ∃ z i c, x = .str z ∧ y = .int i ∧ z.length ≤ sizeLine ∧ atI z.cps.toList i = some c ∧ Q (.str ⟨#[c]⟩) H
theorem ix_list : IxR X (rIxL X.K) := by
  intro value slice pins s σ H x y v u Q I rx ry h hs
  obtain ⟨p, xs, i, z, rfl, rfl, hq, he, q⟩ := h
  cases rx
  obtain ⟨t, rfl⟩ := ry
  obtain ⟨its, r, pl, hz⟩ := I.list hq
  obtain ⟨j, h1, h2, h3, h4, h5⟩ := atI_get he
  obtain ⟨w, ew, rw'⟩ := r.get h2
  have hl := r.length
  have hn := line63
  have fin : EP X pins σ Q w s := ⟨z, H, I, rw', q⟩
  by_cases h0 : 0 ≤ i
  · have hj : i.toNat = j := by
      rw [seqIndex_of h0 h5] at h1
      exact Option.some.inj h1
    exact item_listR pl.isList h0 (by omega) (by rw [hj]; simpa using ew) fin hs
  · have hj : (i + (its.toArray.size : Int)).toNat = j := by
      rw [seqIndex_neg (by omega) h4] at h1
      rw [List.size_toArray, ← hl]
      exact Option.some.inj h1
    exact subscriptTail_builtinR (x := w) pl.isList.typeIs slot_list_getitem.lookup
      (wpAny_getItem_list_neg (Q := fun r s' => r = w ∧ EP X pins σ Q r s') pl.isList (by omega) (by rw [List.size_toArray] <;> omega) (by omega) (by rw [hj]; simpa using ew) ⟨rfl, fin⟩) hs
theorem ix_tup : IxR X (rIxT X.K) := by
  intro value slice pins s σ H x y v u Q I rx ry h hs
  obtain ⟨p, xs, i, z, rfl, rfl, hq, he, q⟩ := h
  cases rx
  obtain ⟨t, rfl⟩ := ry
  obtain ⟨its, r, pl, hz⟩ := I.tuple hq
  obtain ⟨j, h1, h2, h3, h4, h5⟩ := atI_get he
  obtain ⟨w, ew, rw'⟩ := r.get h2
  have hl := r.length
  have hn := line63
  have fin : EP X pins σ Q w s := ⟨z, H, I, rw', q⟩
  exact subscriptTail_builtinR (x := w) pl.typeIs slot_tuple_getitem.lookup
    (getItem_tuple (j := j) (Q := fun r s' => r = w ∧ EP X pins σ Q r s') pl (by omega) (by omega) (by rw [List.size_toArray, ← hl]; exact h1) (by simpa using ew) ⟨rfl, fin⟩) hs
theorem ix_str : IxR X rIxS := by
  intro value slice pins s σ H x y v u Q I rx ry h hs
  obtain ⟨z, i, c, rfl, rfl, hz, he, q⟩ := h
  obtain ⟨t, rfl⟩ := rx
  obtain ⟨t', rfl⟩ := ry
  obtain ⟨j, h1, h2, h3, h4, h5⟩ := atI_get he
  have hl : z.cps.toList.length = z.length := by simp [Str.length]
  rw [hl] at h1 h4 h5
  have hn := line63
  exact tail_any (typeIs_str s z t) slot_str_getitem.lookup (getItem_str (c := c) (by
    have e1 : decide (i < -(2 ^ 63 : Int)) = false := decide_eq_false (by omega)
    have e2 : decide (i ≥ 2 ^ 63) = false := decide_eq_false (by omega)
    rw [e1, e2, Bool.or_false]) (by rw [h1]; simpa using h2) ⟨.str ⟨#[c]⟩, H, I.tok _, ⟨_, rfl⟩, q⟩) hs
theorem mapSeq_set (its : List Value) (n j : Nat) (u : Value) : Obj.mapSeq (·.setIfInBounds j u) { cls := .type "list", data := .seq its.toArray n } = { cls := .type "list", data := .seq (its.set j u).toArray n } := by
  simp [Obj.mapSeq]
theorem Inv.lst {pins : List (Addr × Obj)} {σ : St} {H : Hp} {s : Shared} {p : Addr} {xs : List V} (I : Inv X pins σ H s) (h : H p = some (.lst xs)) :
    ∃ (its : List Value) (n : Nat), Vals xs its ∧ s.heap.get? p = some { cls := .type "list", data := .seq its.toArray n } ∧ xs.length ≤ sizeLine := by
  obtain ⟨z, its, n, r, e⟩ := I.hok p _ h
  exact ⟨its, n, r, e, z⟩
theorem Inv.lstUpd {pins : List (Addr × Obj)} {σ : St} {H : Hp} {s : Shared} {p : Addr} {xs ys : List V} {its its' : List Value} {n n' : Nat} {f : Obj → Obj} (I : Inv X pins σ H s) (h : H p = some (.lst xs))
    (ho : s.heap.get? p = some { cls := .type "list", data := .seq its.toArray n }) (hf : f { cls := .type "list", data := .seq its.toArray n } = { cls := .type "list", data := .seq its'.toArray n' }) (r : Vals ys its') (hz : ys.length ≤ sizeLine) (t : Nat) :
    Inv X pins σ (upd H p (.lst ys)) { s with heap := s.heap.update p f, toks := t } := by
  have e : (s.heap.update p f).get? p = some { cls := .type "list", data := .seq its'.toArray n' } := by
    rw [Heap.get?_update_self f ho (by rw [hf] <;> rfl), hf]
  refine I.write (x := p) (e := p) (by rw [h]; trivial) (.inl rfl) (fun b u hb q => (Heap.get?_update_other _ _ (Ne.symm hb)).trans q) ⟨_, e⟩ ?_
  exact ⟨hz, its', n', r, e⟩
noncomputable def rSetL : V → V → V → Hp → (Hp → Prop) → Prop := fun o i v H Q => ∃ p xs k j, o = .ref p ∧ i = .int k ∧ H p = some (.lst xs) ∧ ixN xs.length k = some j ∧ Q (upd H p (.lst (xs.set j v)))
theorem set_list : PSet X rSetL := by
  intro pins s σ H o i v ov iv u Q I ro ri rv h
  obtain ⟨p, xs, k, j, rfl, rfl, hp, hj, q⟩ := h
  cases ro
  obtain ⟨t, rfl⟩ := ri
  obtain ⟨its, n, r, ho, hz⟩ := I.lst hp
  obtain ⟨h1, h2, h3, h4⟩ := ixN_seq hj
  have hl := r.length
  have hn := line63
  have I' : Inv X pins σ (upd H p (.lst (xs.set j v))) { s with heap := s.heap.update p (Obj.mapSeq (·.setIfInBounds j u)) } :=
    I.lstUpd hp ho (mapSeq_set its n j u) (r.set rv j) (by rw [List.length_set]; exact hz) s.toks
  by_cases h0 : 0 ≤ k
  · have hk : k.toNat = j := by
      rw [seqIndex_of h0 h4] at h1
      exact Option.some.inj h1
    exact PySem.W.ki_setAt ho h0 (by omega) (by rw [List.size_toArray, ← hl]; exact h4) (by rw [hk]; exact ⟨_, I', q⟩)
  · have hk : (k + (its.toArray.size : Int)).toNat = j := by
      rw [seqIndex_neg (by omega) h3] at h1
      rw [List.size_toArray, ← hl]
      exact Option.some.inj h1
    exact PySem.W.ki_setBack ho (by omega) (by rw [List.size_toArray, ← hl]; exact h3) (by omega) (by rw [hk]; exact ⟨_, I', q⟩)
theorem slice_bounds (lo hi : Option Int) (n : Nat) : (sliceBounds lo hi none n).1 = ((HT.sIx n 0 lo : Nat) : Int) ∧ (sliceBounds lo hi none n).2.1 = ((HT.sIx n n hi : Nat) : Int) ∧ (sliceBounds lo hi none n).2.2 = 1 := by
  refine ⟨?_, ?_, rfl⟩
  · cases lo with
    | none => simp [sliceBounds, HT.sIx]
    | some i =>
      simp only [sliceBounds, HT.sIx, Option.getD_none, show (1 : Int) > 0 by decide, if_true]
      by_cases h : i < 0
      · simp only [h, if_true] <;> omega
      · simp only [h, if_false] <;> omega
  · cases hi with
    | none => simp [sliceBounds, HT.sIx]
    | some i =>
      simp only [sliceBounds, HT.sIx, Option.getD_none, show (1 : Int) > 0 by decide, if_true]
      by_cases h : i < 0
      · simp only [h, if_true] <;> omega
      · simp only [h, if_false] <;> omega
theorem slicePick_cut (its : List Value) (lo hi : Option Int) : slicePick its.toArray lo hi none = ((its.drop (HT.sIx its.length 0 lo)).take (HT.sIx its.length its.length hi - HT.sIx its.length 0 lo)).toArray := by
  obtain ⟨h1, h2, h3⟩ := slice_bounds lo hi its.toArray.size
  unfold slicePick
  rw [h1, h2, h3]
  simp only [sliceRange_one, pick_run, List.size_toArray] <;> rfl
noncomputable def rSlL (K : PySem.W.Frag) : V → Option Int → Option Int → Hp → VK → Prop := fun x lo hi H Q => ∃ a xs, x = .ref a ∧ SqL K H a xs ∧ ∀ p, H p = none → Q (.ref p) (upd H p (.lst (cutV xs lo hi)))
theorem sl_list : SlR X (rSlL X.K) := by
  intro pins s σ H x v vl vu lo hi sl Q I rx hs pl pu h
  obtain ⟨a, xs, rfl, hx, q⟩ := h
  cases rx
  obtain ⟨its, r, ht, hz⟩ := I.list hx
  have hlen := r.length
  refine ⟨"list", _, slot_list_getitem.lookup, ht.isList.typeIs, ?_⟩
  refine wpAny_getItem_list_slice ht.isList hs pl pu .none (by simp) ?_ (by rw [List.size_toArray] <;> omega)
  rw [slicePick_cut, ← hlen]
  refine ⟨.ref s.heap.objs.size, _, I.laid (t' := s.toks) (o := .lst (cutV xs lo hi)) (fun b ob q => Heap.get?_push_of_some _ q) (Nat.le_refl _) ?_, rfl, q _ (I.hok.fresh (Nat.le_refl _))⟩
  exact ⟨Nat.le_trans (cutV_length xs lo hi) hz, _, 0, (r.drop (HT.sIx xs.length 0 lo)).take (HT.sIx xs.length xs.length hi - HT.sIx xs.length 0 lo), Heap.get?_push_size _ rfl⟩
noncomputable def flatV : V → Bool
  | .non => true
  | .bl _ => true
  | .int _ => true
  | .str _ => true
  | _ => false
noncomputable def eqV : V → V → Bool
  | .non, .non => true
  | .bl a, .bl b => a == b
  | .bl a, .int b => (if a then 1 else 0) == b
  | .int a, .bl b => a == (if b then 1 else 0)
  | .int a, .int b => a == b
  | .str a, .str b => a == b
  | _, _ => false
noncomputable def inV (x : V) (xs : List V) : Bool := xs.any fun y => eqV y x
theorem call_len_seq : CallR X (.builtin "len") (fun xs H Q => ∃ p ys, xs = [.ref p] ∧ (SqL X.K H p ys ∨ SqT X.K H p ys) ∧ Q (.int ys.length) H) := by
  intro pins s σ H xs us Q I r h
  obtain ⟨p, ys, rfl, hq, q⟩ := h
  obtain ⟨u, rfl, rx⟩ := vals1 r
  cases rx
  have hn := line63
  rcases hq with hq | hq
  · obtain ⟨its, r', pl, hz⟩ := I.list hq
    have hlen := r'.length
    exact Calls.call_len_list pl.isList (by simp only [List.size_toArray] <;> omega) ⟨.int ys.length, H, I.tok _, ⟨s.toks + 1, by rw [List.size_toArray, hlen]⟩, q⟩
  · obtain ⟨its, r', pl, hz⟩ := I.tuple hq
    have hlen := r'.length
    exact len_tuple pl (by simp only [List.size_toArray] <;> omega) ⟨.int ys.length, H, I.tok _, ⟨s.toks + 1, by rw [List.size_toArray, hlen]⟩, q⟩
theorem call_len_str : CallR X (.builtin "len") (fun xs H Q => ∃ z, xs = [.str z] ∧ z.length ≤ sizeLine ∧ Q (.int z.length) H) := by
  intro pins s σ H xs us Q I r h
  obtain ⟨z, rfl, hz, q⟩ := h
  obtain ⟨u, rfl, t, rfl⟩ := vals1 r
  have hn := line63
  exact len_str (by omega) ⟨.int z.length, H, I.tok _, ⟨_, rfl⟩, q⟩
theorem call_tuple_of : CallR X (.type "tuple") (fun xs H Q => ∃ p ys, xs = [.ref p] ∧ ((SqL X.K H p ys ∧ ∀ l, H l = none → Q (.ref l) (upd H l (.tup ys))) ∨ (SqT X.K H p ys ∧ Q (.ref p) H))) := by
  intro pins s σ H xs us Q I r h
  obtain ⟨p, ys, rfl, h⟩ := h
  obtain ⟨u, rfl, rx⟩ := vals1 r
  cases rx
  rcases h with ⟨hq, q⟩ | ⟨hq, q⟩
  · obtain ⟨its, r', pl, hz⟩ := I.list hq
    have hlen := r'.length
    refine call_tuple_list pl.isList (fun h' kp => ?_) (by simp only [List.size_toArray] <;> omega)
    have I1 : Inv X pins σ H { s with heap := h' } := I.kept (t' := s.toks) kp
    have I2 : Inv X pins σ (upd H h'.objs.size (.tup ys)) { s with heap := h'.push { cls := .type "tuple", data := .seq its.toArray } } :=
      I1.laid (t' := s.toks) (fun b o e => Heap.get?_push_of_some _ e) (Nat.le_refl _) (show ObjOk X.prog X.w _ _ _ (.tup ys) from ⟨hz, its, r', IsTup.new _ _⟩)
    exact ⟨.ref h'.objs.size, _, I2, rfl, q _ (I1.hok.fresh (Nat.le_refl _))⟩
  · obtain ⟨its, r', pl, hz⟩ := I.tuple hq
    exact call_tuple_same pl ⟨.ref p, H, I, rfl, q⟩
noncomputable def tyV (K : PySem.W.Frag) (T : String) (x : V) (H : Hp) : Prop := match x with
  | .str _ => T = "str"
  | .int _ => T = "int"
  | .ref p => (T = "list" ∧ ∃ xs, SqL K H p xs) ∨ (T = "tuple" ∧ ∃ o, K.lookup p = some o ∧ o.cls = .type "tuple" ∧ o.dict = none) ∨
      (T = "dict" ∧ ((∃ kvs, H p = some (.dK kvs)) ∨ ∃ kvs, H p = some (.dT kvs))) ∨ (T = "set" ∧ ∃ S n, H p = some (.set S n))
  | _ => False
theorem tyV_is {pins : List (Addr × Obj)} {σ : St} {H : Hp} {s : Shared} {T : String} {x : V} {v : Value} (I : Inv X pins σ H s) (r : RelV x v) (ty : tyV X.K T x H) :
    s.TypeIs v T ∧ ∀ a, v = .ref a → ∃ ob, s.heap.get? a = some ob ∧ ob.dict = none := by
  cases x with
  | str z =>
    obtain ⟨t, rfl⟩ := r
    cases (show T = "str" from ty)
    exact ⟨typeIs_str s z t, fun _ e => nomatch e⟩
  | int i =>
    obtain ⟨t, rfl⟩ := r
    cases (show T = "int" from ty)
    exact ⟨typeIs_int s i t, fun _ e => nomatch e⟩
  | ref p =>
    cases r
    rcases ty with ⟨rfl, xs, hq⟩ | ⟨rfl, o, hk, hc, hd⟩ | ⟨rfl, hk⟩ | ⟨rfl, S, n, hk⟩
    · obtain ⟨its, _, pl, _⟩ := I.list hq
      refine ⟨pl.isList.typeIs, fun a e => ?_⟩
      cases e
      obtain ⟨o, n, e, c, hd, _⟩ := pl
      exact ⟨o, e, hd⟩
    · refine ⟨⟨o, I.kIn p o hk, hc⟩, fun a e => ?_⟩
      cases e
      exact ⟨o, I.kIn _ o hk, hd⟩
    · have z : ∃ o, s.heap.get? p = some o ∧ o.ExactDict := by
        rcases hk with ⟨kvs, hk⟩ | ⟨kvs, hk⟩
        · obtain ⟨_, _, _, _, o, _, _, e, ex, _⟩ := I.hok p _ hk
          exact ⟨o, e, ex⟩
        · obtain ⟨_, _, _, _, o, _, _, e, ex, _⟩ := I.hok p _ hk
          exact ⟨o, e, ex⟩
      obtain ⟨o, e, ex⟩ := z
      refine ⟨⟨o, e, ex.1⟩, fun a e2 => ?_⟩
      cases e2
      exact ⟨o, e, ex.2.1⟩
    · obtain ⟨o, _, _, _, e, ex, _⟩ := I.hok p _ hk
      refine ⟨⟨o, e, ex.1⟩, fun a e2 => ?_⟩
      cases e2
      exact ⟨o, e, ex.2.1⟩
  | _ => exact False.elim ty
noncomputable def tBM0 (K : PySem.W.Frag) (T : String) (r : V → List V → Hp → VK → Prop) (to : TE) : TE := fun σ H Q => to σ H fun x H1 => tyV K T x H1 ∧ r x [] H1 Q
variable {o e : Expr} {es : List Expr} {to : TE} {t : TA} {name : Str} {apos cpos : Pos} {T id : String} {r : V → List V → Hp → VK → Prop}
theorem pe_bm0 (pa : PlainAttrs T) (slot : Slot T name id) (hty : typeOf (.builtin id) = pure (.type "method_descriptor")) (hm : MtR X id r) (ho : PE X o to)
    (hbase : attributeBase o name X.env (eval o X.env) = eval o X.env := by rfl) (hline : (apos.endLine == cpos.line) = true := by rfl) : PE X (.Call (.Attribute o name apos) [] [] cpos) (tBM0 X.K T r to) := by
  intro pins s σ H Q I h
  refine wpAny_Call_method0_late hbase hline (thn (ho pins s σ H _ I h) fun v s1 ⟨x, H1, I1, r1, ty, q1⟩ => ?_)
  obtain ⟨h1, h2⟩ := tyV_is I1 r1 ty
  exact ⟨T, id, pa, slot, hty, h1, h2, Calls.callWith_builtin rfl (PySem.evalArgs_none (hm pins s1 σ H1 x [] v [] Q I1 r1 .nil q1))⟩
end
end L2
namespace L2
open PySem PySem.Spec PyProof.Rows
noncomputable def MtM (X : Cx) (id : String) (r : V → List V → Hp → VK → Prop) : Prop :=
  ∀ (pins : List (Addr × Obj)) (s : Shared) (σ : St) (H : Hp) (x : V) (xs : List V) (v : Value) (us : List Value) (Q : VK), Inv X pins σ H s → RelV x v → Vals xs us → r x xs H Q →
    wpAny (model X.prog X.w) X.A (call (.builtin id) (v :: us)) (EP X pins σ Q) X.xe s
theorem Vals.one : ∀ {x : V} {us : List Value}, Vals [x] us → ∃ u, us = [u] ∧ RelV x u
  | _, _, .cons r .nil => ⟨_, rfl, r⟩
theorem Vals.two : ∀ {x y : V} {us : List Value}, Vals [x, y] us → ∃ u v, us = [u, v] ∧ RelV x u ∧ RelV y v
  | _, _, _, .cons r (.cons q .nil) => ⟨_, _, rfl, r, q⟩
theorem Vals.zero : ∀ {us : List Value}, Vals [] us → us = []
  | _, .nil => rfl
section
variable {X : Cx} {pins : List (Addr × Obj)} {σ : St} {H : Hp} {s : Shared} {l b : Addr} {xs ys zs : List V}
theorem Inv.lset {its its' : List Value} {n : Nat} {f : Array Value → Array Value} {t' : Nat} (I : Inv X pins σ H s) (hH : H l = some (.lst xs))
    (e : s.heap.get? l = some { cls := .type "list", data := .seq its.toArray n }) (hf : f its.toArray = its'.toArray) (hv : Vals ys its') (hz : ys.length ≤ sizeLine) :
    Inv X pins σ (upd H l (.lst ys)) { s with heap := s.heap.update l (Obj.mapSeq f), toks := t' } := by
  have q := PySem.IsL.update e f
  rw [hf] at q
  refine I.write (x := l) (e := l) (by rw [hH]; exact trivial) (.inl rfl) (fun b' u hb hu => (Heap.get?_update_other s.heap (Obj.mapSeq f) (Ne.symm hb)).trans hu) ⟨_, q⟩ ?_
  exact ⟨hz, its', _, hv, q⟩
theorem Inv.lnew {its : List Value} {t' : Nat} (I : Inv X pins σ H s) (hv : Vals ys its) (hz : ys.length ≤ sizeLine) :
    Inv X pins σ (upd H s.heap.objs.size (.lst ys)) { s with heap := s.heap.push { cls := .type "list", data := .seq its.toArray }, toks := t' } :=
  I.laid (fun _ _ q => Heap.get?_push_of_some _ q) (Nat.le_refl _) ⟨hz, its, 0, hv, Heap.get?_push_size _ rfl⟩
theorem Inv.fresh (I : Inv X pins σ H s) : H s.heap.objs.size = none := I.hok.fresh (Nat.le_refl _)
theorem Inv.lstM (I : Inv X pins σ H s) (hH : H l = some (.lst xs)) : xs.length ≤ sizeLine ∧ ∃ (its : List Value) (n : Nat), Vals xs its ∧ xs.length = its.length ∧ s.heap.get? l = some { cls := .type "list", data := .seq its.toArray n } := by
  obtain ⟨z, its, n, r, e⟩ := I.hok l _ hH
  exact ⟨z, its, n, r, r.length, e⟩
end
section
variable {X : Cx}
noncomputable def rAppend : V → List V → Hp → VK → Prop := fun x vs H Q => ∃ l xs y, x = .ref l ∧ vs = [y] ∧ H l = some (.lst xs) ∧ xs.length < sizeLine ∧ Q .non (upd H l (.lst (xs ++ [y])))
theorem mt_append : MtM X "list.append" rAppend := by
  intro pins s σ H x vs v us Q I rx rv h
  obtain ⟨l, xs, y, rfl, rfl, hH, hz, q⟩ := h
  cases rx
  obtain ⟨u, rfl, ru⟩ := rv.one
  obtain ⟨z, its, n, r, hl, e⟩ := I.lstM hH
  refine call_meets F.slot_list_append ⟨_, e, rfl⟩ F.entry_list_append (F.args_list_append_2 _ _) (PySem.list_append l its.toArray n u (by rw [List.size_toArray]; omega)) ⟨e, ?_⟩
  refine ⟨.non, _, I.lset (its' := its ++ [u]) hH e (by simp) (r.append (.cons ru .nil)) ?_, rfl, q⟩
  rw [List.length_append, List.length_singleton]
  omega
noncomputable def rCat : R2 := fun x y H Q => ∃ l b xs zs, x = .ref l ∧ y = .ref b ∧ H l = some (.lst xs) ∧ H b = some (.lst zs) ∧ xs.length + zs.length ≤ sizeLine ∧ ∀ p, H p = none → Q (.ref p) (upd H p (.lst (xs ++ zs)))
theorem op_cat : OpR X (binaryOp .Add) rCat := by
  intro pins s σ H x y v u Q I rx ry h
  obtain ⟨l, b, xs, zs, rfl, rfl, hH, hB, hz, q⟩ := h
  cases rx
  cases ry
  obtain ⟨z, its, n, r, hl, e⟩ := I.lstM hH
  obtain ⟨z2, its2, n2, r2, hl2, e2⟩ := I.lstM hB
  refine PySem.P.add_list e e2 ?_ (by rw [List.size_toArray, List.size_toArray]; omega)
  have ea : its.toArray ++ its2.toArray = (its ++ its2).toArray := by simp
  rw [ea]
  exact ⟨.ref _, _, I.lnew (t' := s.toks) (r.append r2) (by rw [List.length_append]; omega), rfl, q _ I.fresh⟩
end
section
variable {prog : Program} {w : World} {A : Around} {E : Value → Shared → Prop} {s : Shared}
end
section
variable {X : Cx}
end
end L2
namespace Att
open PySem PySem.W PySem.Calls PyProof.Rows
theorem ints_of_wellAll {P : Params} {h : Heap} : ∀ (ns : List Int) (vs : List Value), WellAll P h vs (ns.map WData.int) → IntsAre vs ns := by
  intro ns
  induction ns with
  | nil =>
    intro vs w
    rw [List.map_nil] at w
    cases w
    exact .nil
  | cons n ns ih =>
    intro vs w
    rw [List.map_cons] at w
    cases w with
    | cons a b =>
      cases a
      exact .cons _ _ (ih _ b)
theorem script_of {l : OpenLaw} {n : Nat} (hn : l.most = some n) {P : Params} {h : Heap} {args : List WData} {vals : List Value}
    (hpre : l.row.toRowW.claim.pre args = true) (hwl : WellAll P h vals args) :
    ∃ a vs ns, vals = [Value.ref a] ∧ args = [WData.list (ns.map WData.int)] ∧ h.get? a = some { cls := .type "list", data := .seq vs.toArray } ∧ IntsAre vs ns ∧ ns.length ≤ n := by
  have hsh : WShape.hasAll [] args [.list .int] = true := (pre_splitW hpre).1
  have hc : l.pre.holds [] { args := args } = true := (pre_splitW hpre).2
  obtain ⟨d, r, rfl, h1, h2⟩ := hasAllW_cons hsh
  obtain rfl := hasAllW_nil h2
  obtain ⟨xs, rfl, h3⟩ := hasW_list h1
  obtain ⟨ns, rfl⟩ := items_int h3
  have hlen : ns.length ≤ n := by
    unfold OpenLaw.pre at hc
    have h4 : (WTm.not (.lt (.lit (.int (n : Int))) (.len (.arg 0)))).holds [] { args := [.list (ns.map .int)] } = true := by
      have h4 := (holds_andW hc).1
      rw [hn] at h4
      exact h4
    have h5 := condW_of h4 (w_not (w_lt w_lit (w_len_list (w_arg rfl))))
    rw [List.length_map] at h5
    refine Nat.le_of_not_lt fun q => ?_
    have q' : (n : Int) < ((ns.length : Nat) : Int) := by omega
    first
      | (rw [decide_eq_true q'] at h5; exact absurd h5 (by decide))
      | (simp at h5; omega)
  cases hwl with
  | cons w1 w2 =>
    cases w2
    cases w1 with
    | list ho hall => exact ⟨_, _, ns, rfl, rfl, ho, ints_of_wellAll ns _ hall, hlen⟩
theorem post_true (l : OpenLaw) (args : List WData) : l.row.toRowW.claim.post args (.bool true) args = true :=
  postW_of (r := l.row.toRowW) (X := (true == true))
    (show WShape.has [] (.bool true) .bool = true by first | rfl | decide | simp [WShape.has, WShape.arms, WShape.armsAll])
    (show (WTm.eq .res (.lit (.bool true))).value [] { args := args, res := some (.bool true), after := args } = some (.bool (true == true)) from w_eq_bool (w_res rfl) w_lit) rfl
theorem attach_call {l : OpenLaw} {n : Nat} {q : Program} {loose : List Str} {XP : (Str → Option Value) → Heap → Prop} {YP : World → Heap → Prop} {d : DefRec}
    (hn : l.most = some n) (hdf : d.params.defaults = [])
    (call : ∀ (w : World) (s₀ s₁ : Shared) (mg mb : Str → Option Value) (fa : Addr) (o : Obj) (pm cd doc : Value) (a : Addr) (vs : List Value) (ns : List Int),
      Ground q loose [] XP w s₀ mg mb s₁.heap → YP w s₁.heap →
      s₁.heap.get? fa = some o → o.data = .func (docDef d.name d.params d.body d.scope pm cd doc) → s₁.heap.CodeRec cd d.name → mg d.name = some (.ref fa) →
      s₁.heap.get? a = some { cls := .type "list", data := .seq vs.toArray } → IntsAre vs ns → ns.length ≤ n → s₁.gens = #[] →
      codeAny (model l.prog w) callerA (.call (.ref fa) ⟨[.ref a], []⟩) (fun r s' => r = .ok (.ret (.bool true)) ∧ OldK s₁.heap s'.heap ∧ s'.os = s₁.os ∧ AllBare s'.gens) s₁) :
    WalkO q loose XP YP l.row.toRowW d [] (fun f vs => PySem.call f vs) := by
  intro w s₀ s₁ mg mb G Y fa o pm cd doc dV kV ho hd hcd hD hmg hg args vals as hpre hlay hrd hwl hlo
  obtain rfl : dV = .none := Dflts.none hD hdf
  obtain rfl : kV = .none := Dflts.noKw hD
  obtain ⟨a, vs, ns, rfl, rfl, hobj, hints, hlen⟩ := script_of hn hpre hwl
  refine enter_call (codeAny_mono (call w s₀ s₁ mg mb fa o pm cd doc a vs ns G Y ho (fd_plain hd) hcd hmg hobj hints hlen hg) fun r s' hq => ?_)
  obtain ⟨rfl, h2, h3, h4⟩ := hq
  exact ⟨.inl ⟨.bool true, .bool true, [], rfl, fun _ => rfl, .bool true, post_true l _, fun _ => ⟨List.Pairwise.nil, fun _ hm => (nomatch hm)⟩⟩, h2, h3, h4⟩
section
variable {prog : Program} {w : World} {A : Around} {E : Value → Shared → Prop} {s : Shared} {K : Frag}
end
end Att
namespace L2
open PySem PySem.Spec PyProof.Rows
theorem vals_ints : ∀ {vs : List Value} {ns : List Int}, IntsAre vs ns → Vals (ns.map V.int) vs
  | _, _, .nil => .nil
  | _, _, .cons n t h => .cons ⟨t, rfl⟩ (vals_ints h)
noncomputable def Only (H : Hp) : Prop := ∀ b, H b = none ∨ ∃ o xs, H b = some (.frz o (.lst xs))
theorem law_call {P : Program} {w : World} {K : PySem.W.Frag} {mg mb : Str → Option Value} {CX : CXT} {k : Nat} {fa a : Addr} {fd : FuncData} {x : Str} {sp : Sp} {s₁ : Shared} {vs : List Value} {ns : List Int}
    (KX : K.In s₁.heap) (hns : s₁.heap.Ns mainGlobals mg) (hb : s₁.heap.Ns builtinsNs mb) (hbb : ∀ x : Str, x ≠ "__name__" → mb x = bootBuiltins x) (hlim : s₁.heap.NoLimit) (hg : s₁.gens = #[])
    (ha : s₁.heap.get? a = some { cls := .type "list", data := .seq vs.toArray }) (hi : IntsAre vs ns) (hl : ns.length ≤ sizeLine) (hr : Room k callerA)
    (F : ∀ base : Heap, K.In base → base.Ns mainGlobals mg → FnOk P w K mg base CX k fa fd [x] sp) (hbind : ∀ (s : Shared) (u : Value), BindsTo s fd ⟨[u], []⟩ [(x, u)])
    (hsp : ∀ H : Hp, Only H → SqL K H a (ns.map V.int) → sp [.ref a] H (fun v _ => v = .bl true) fun _ _ _ => False)
    (hCX : ∀ H e s', CX [] H s₁ (fun _ _ _ => False) e s' → False) :
    codeAny (model P w) callerA (.call (.ref fa) ⟨[.ref a], []⟩) (fun r s' => r = .ok (.ret (.bool true)) ∧ OldK s₁.heap s'.heap ∧ s'.os = s₁.os ∧ AllBare s'.gens) s₁ := by
  have rv := vals_ints hi
  have lenV := hi.length
  have core : ∀ H : Hp, Only H → SqL K H a (ns.map V.int) → HOk P w H s₁.heap → (∀ b, H b ≠ none → b = a) → (H a ≠ none → K.lookup a = none) →
      codeAny (model P w) callerA (.call (.ref fa) ⟨[.ref a], []⟩) (fun r s' => r = .ok (.ret (.bool true)) ∧ OldK s₁.heap s'.heap ∧ s'.os = s₁.os ∧ AllBare s'.gens) s₁ := by
    intro H hO hS hok hA hK
    have base_of : ∀ {b : Addr} {o : Obj}, s₁.heap.get? b = some o → H b = none → (hidT s₁.heap H).get? b = some o := fun e n => hidT_get e n
    have noA : ∀ {b : Addr} {o : Obj} {es : Array DictEntry} {ep : Nat}, s₁.heap.get? b = some o → o.data = .dict es ep → H b = none := fun {b o es ep} e d => by
      cases q : H b with
      | none => rfl
      | some u =>
        have e' : b = a := hA b (by rw [q]; simp)
        subst e'
        rw [ha] at e; cases e
        have d' : Data.seq vs.toArray _ = Data.dict es ep := d
        cases d'
    have nsK : ∀ {b : Addr} {m : Str → Option Value}, s₁.heap.Ns b m → (hidT s₁.heap H).Ns b m := fun {b m} ⟨o, es, ep, e, d, r⟩ => ⟨o, es, ep, base_of e (noA e d), d, r⟩
    have hKb : K.In (hidT s₁.heap H) := fun b o e => base_of (KX b o e) (by
      cases q : H b with
      | none => rfl
      | some u =>
        have e' : b = a := hA b (by rw [q]; simp)
        subst e'
        rw [hK (by rw [q]; simp)] at e; cases e)
    have hM : Mod K mg (hidT s₁.heap H) := ⟨hKb, nsK hns, ⟨mb, nsK hb, hbb⟩, let ⟨mc, h1, h2⟩ := hlim; ⟨mc, nsK h1, h2⟩⟩
    have e0 : Env0 P w K mg (hidT s₁.heap H) callerA [] s₁ H := ⟨rfl, hM, fun b o e => of_hidT e, Nat.le_of_eq (hidT_size _ _), trivial, fun b hb => absurd (show b ∈ ([] : List Addr) from hb) (by simp), hok, .of_eq hg⟩
    refine codeAny_mono ((F _ hKb (nsK hns)).run callerA [] s₁ H ⟨[.ref a], []⟩ [.ref a] [.ref a] _ _ hr e0 (hbind s₁ (.ref a)) (.cons rfl .nil) (hsp H hO hS)) fun r s' h => ?_
    cases r with
    | error e => exact (hCX H e s' h).elim
    | ok fl =>
      cases fl with
      | next => exact False.elim h
      | brk => exact False.elim h
      | cont => exact False.elim h
      | ret u =>
        obtain ⟨v, H', os, bare, un, hok', r', q⟩ := h
        have q' : v = .bl true := q
        subst q'
        obtain rfl : u = Value.bool true := r'
        refine ⟨rfl, OldK.of_keep fun b o e => ?_, os, bare⟩
        cases q : H b with
        | none => exact un.keep b o e q (by intro z; exact absurd (show b ∈ ([] : List Addr) from z) (by simp)) (by simp)
        | some u =>
          rcases hO b with z | ⟨ob, xs, z⟩
          · rw [q] at z; cases z
          · have z2 := un.frzs b ob _ z
            obtain ⟨e1, _⟩ := hok b _ z
            obtain ⟨e2, _⟩ := hok' b _ z2
            rw [e] at e1; cases e1
            exact e2
  cases hk : K.lookup a with
  | some o =>
    have e := KX a o hk
    rw [ha] at e
    cases e
    refine core (fun _ => none) (fun _ => .inl rfl) (.inr ⟨_, vs.toArray, _, hk, rfl, rfl, rfl, by rw [List.size_toArray, lenV]; exact hl, by simpa using rv⟩) (fun b u z => by have z' : (none : Option HO) = some u := z; cases z') (fun b z => absurd rfl z) fun z => absurd rfl z
  | none =>
    refine core (fun b => if b = a then some (.frz { cls := .type "list", data := .seq vs.toArray } (.lst (ns.map V.int))) else none) (fun b => ?_) (.inl (.inr ⟨{ cls := .type "list", data := .seq vs.toArray }, if_pos rfl⟩)) (fun b u z => ?_) (fun b z => ?_) fun _ => hk
    · by_cases hb : b = a
      · exact .inr ⟨_, _, if_pos hb⟩
      · exact .inl (if_neg hb)
    · by_cases hb : b = a
      · have z' := (if_pos hb).symm.trans z
        cases z'
        subst hb
        exact ⟨ha, by rw [List.length_map]; exact hl, vs, _, rv, ha⟩
      · have z' := (if_neg hb).symm.trans z
        cases z'
    · by_cases hb : b = a
      · exact hb
      · exact absurd (if_neg hb) z
end L2
namespace L2
open PySem PySem.Spec PyProof.Rows
theorem walk_of {l : PySem.W.OpenLaw} {n k : Nat} {q : Program} {loose : List Str} {XP : (Str → Option Value) → Heap → Prop} {YP : World → Heap → Prop} {d : DefRec} {K : Params → PySem.W.Frag} {CX : World → CXT} {sp : World → Sp} {x : Str}
    (hn : l.most = some n) (hn2 : n ≤ sizeLine) (hdf : d.params.defaults = []) (hr : Room k callerA)
    (hY : ∀ (w : World) (h : Heap), YP w h → (K w.params).In h)
    (F : ∀ (w : World) (mg : Str → Option Value) (fa : Addr) (h : Heap), (K w.params).In h → h.Ns mainGlobals mg → mg d.name = some (.ref fa) →
      ∃ fd : FuncData, (∀ (s : Shared) (u : Value), BindsTo s fd ⟨[u], []⟩ [(x, u)]) ∧
        ∀ base : Heap, (K w.params).In base → base.Ns mainGlobals mg → FnOk l.prog w (K w.params) mg base (CX w) k fa fd [x] (sp w))
    (hsp : ∀ (w : World) (H : Hp) (a : Addr) (ns : List Int), ns.length ≤ n → Only H → SqL (K w.params) H a (ns.map V.int) → sp w [.ref a] H (fun v _ => v = .bl true) fun _ _ _ => False)
    (hCX : ∀ (w : World) (H : Hp) (s : Shared) (e : Value) (s' : Shared), CX w [] H s (fun _ _ _ => False) e s' → False) :
    PySem.W.WalkO q loose XP YP l.row.toRowW d [] (fun f vs => PySem.call f vs) := by
  refine Att.attach_call hn hdf fun w s₀ s₁ mg mb fa o pm cd doc a vs ns G Y ho hd hcd hmg hobj hints hlen hg => ?_
  have KX := hY w _ Y
  obtain ⟨fd, hb, hF⟩ := F w mg fa _ KX G.T.g hmg
  exact law_call KX G.T.g G.T.b G.T.builtins G.T.nolimit hg hobj hints (Nat.le_trans hlen hn2) hr hF hb (fun H hO hS => hsp w H a ns hlen hO hS) fun H e s' => hCX w H s₁ e s'
end L2
namespace L2
open PySem PySem.Spec PyProof.Rows
noncomputable def defArgs (s : Stmt) : Arguments := match s with
  | .FunctionDef _ a _ _ _ _ _ _ _ _ => a
  | _ => { posonlyargs := [], args := [], vararg := none, kwonlyargs := [], kw_defaults := [], kwarg := none, defaults := [] }
noncomputable def defBody (s : Stmt) : List Stmt := match s with
  | .FunctionDef _ _ b _ _ _ _ _ _ _ => b
  | _ => []
noncomputable def defScope (s : Stmt) : Scope := match s with
  | .FunctionDef _ _ _ _ _ _ sc _ _ _ => sc
  | _ => { kind := .function, names := [], isGenerator := false, isCoroutine := false }
noncomputable abbrev CX0 : CXT := fun _ _ _ _ _ _ => False
noncomputable abbrev E0 : XK := fun _ _ _ => False
theorem pass0 {X : Cx} : Passes CX0 X E0 := fun _ _ _ _ _ _ _ h => h.elim
structure Fun (K : PySem.W.Frag) (x qual : Str) (st : Stmt) (f : Addr) (fd : FuncData) : Prop where
  ex : ∃ (oc : Value) (od : Option Addr) (kV doc pm : Value) (an : Option Addr) (cdv ct : Value) (osl : Array (Option Value)),
    fd = PySem.W.fnOf x qual (defArgs st) (defBody st) (defScope st) .none kV doc pm an cdv ct ∧ K.lookup f = some ⟨oc, od, .func fd, osl⟩ ∧ PySem.W.codeIn K cdv qual = true
  kp : PySem.W.keepIn K (.ref f) = true
section
variable {P : Program} {w : World} {K : PySem.W.Frag} {mg : Str → Option Value} {base : Heap}
theorem Fun.ok {x qual : Str} {st : Stmt} {f : Addr} {fd : FuncData} {N ps : List Str} {k : Nat} {sp : Sp} (F : Fun K x qual st f fd) (S : FnScope N ps (defScope st)) (len : ∀ vs H Q E, sp vs H Q E → vs.length = ps.length)
    (hbody : ∀ (cdv : Value) (A : Around) (outer : List Env) (s : Shared) (H : Hp) (vs : List V) (Q : VK) (E : XK), Room k (A.deeper (envOfC qual (defScope st) s.heap.objs.size f cdv)) → sp vs H Q E →
      ∃ t, PSs (cxOf CX0 P w K mg base N qual (defScope st) f cdv A outer s H E).nox (defBody st) t ∧ t { nx := fun _ H' => Q .non H', rt := Q } (start N vs) H) : FnOk P w K mg base CX0 (k + 1) f fd ps sp := by
  obtain ⟨oc, od, kV, doc, pm, an, cdv, ct, osl, rfl, lk, hcd⟩ := F.ex
  refine fn_of lk hcd S len fun A outer s H vs Q E hr hsp => ?_
  obtain ⟨t, h, q⟩ := hbody cdv A outer s H vs Q E hr hsp
  exact ⟨t, h.nox, q⟩
theorem Fun.binds {x qual : Str} {st : Stmt} {f : Addr} {fd : FuncData} {ps : List Str} (F : Fun K x qual st f fd)
    (h : ∀ (kV doc pm : Value) (an : Option Addr) (cdv ct : Value) (us : List Value), us.length = ps.length → bindArgs (PySem.W.fnOf x qual (defArgs st) (defBody st) (defScope st) .none kV doc pm an cdv ct) ⟨us, []⟩ = pure (ps.zip us)) : Binds K fd ps [] := by
  obtain ⟨oc, od, kV, doc, pm, an, cdv, ct, osl, rfl, lk, hcd⟩ := F.ex
  exact .all (h kV doc pm an cdv ct)
theorem fun_mk {x qual : Str} {st : Stmt} {f : Addr} {oc : Value} {od an : Option Addr} {osl : Array (Option Value)} {kV doc pm cdv ct : Value} (l : K.lookup f = some ⟨oc, od, .func (PySem.W.fnOf x qual (defArgs st) (defBody st) (defScope st) .none kV doc pm an cdv ct), osl⟩)
    (c : PySem.W.codeIn K cdv qual = true) (k : PySem.W.keepIn K (.ref f) = true) : Fun K x qual st f (PySem.W.fnOf x qual (defArgs st) (defBody st) (defScope st) .none kV doc pm an cdv ct) := ⟨⟨oc, od, kV, doc, pm, an, cdv, ct, osl, rfl, l, c⟩, k⟩
end
theorem small1000 {n : Nat} (h : n ≤ 1000) : n < sizeLine := Nat.lt_of_le_of_lt h (by decide)
section
variable {X : Cx}
theorem pv (i : Nat) {x : Str} {pos : Pos} (hN : X.N[i]? = some x := by rfl) (hv : Vis X.env.scope x := by first | exact Or.inl rfl | exact Or.inr (Or.inl rfl) | exact Or.inr (Or.inr rfl)) (hd : (x == ("__debug__" : Str)) = false := by decide)
    (hcd : (x == ("__classdict__" : Str)) = false := by decide) : PE X (.Name x pos) (tVar i) := pe_var hN hv hd hcd
end
noncomputable def Same (H H' : Hp) : Prop := ∀ b o, H b = some o → H' b = some o
theorem Same.refl (H : Hp) : Same H H := fun _ _ h => h
theorem Same.trans {H H1 H2 : Hp} (a : Same H H1) (b : Same H1 H2) : Same H H2 := fun c o h => b c o (a c o h)
theorem Same.free {H H' : Hp} (e : Same H H') {l : Addr} (h : H' l = Option.none) : H l = Option.none := by
  cases q : H l with
  | none => rfl
  | some o =>
    rw [e l o q] at h
    cases h
theorem Same.seq {K : PySem.W.Frag} {H H' : Hp} {a : Addr} {xs : List V} (e : Same H H') (h : SqL K H a xs) : SqL K H' a xs := by
  rcases h with (h | ⟨o, h⟩) | h
  · exact .inl (.inl (e _ _ h))
  · exact .inl (.inr ⟨o, e _ _ h⟩)
  · exact .inr h
end L2
end
section
set_option Elab.async false
set_option linter.all false
set_option maxRecDepth 100000
namespace L2
open PySem PySem.Spec PyProof.Rows
noncomputable def clos : List (Str × NameKind) → List (Str × Addr) → List (Str × Addr) → Option (List (Str × Addr))
  | [], _, acc => some acc
  | (n, k) :: r, cs, acc => if k == .free then (match cs.lookup n with | some c => clos r cs ((n, c) :: acc) | none => none) else clos r cs acc
theorem clos_run {env : Env} : ∀ (names : List (Str × NameKind)) (acc cl : List (Str × Addr)), clos names env.cells acc = some cl →
    (forIn names acc fun (x : Str × NameKind) (cs : List (Str × Addr)) => (if (x.2 == NameKind.free) = true then (do let c ← cellOf env x.1; pure (ForInStep.yield ((x.1, c) :: cs))) else pure (ForInStep.yield cs) : Sem (ForInStep (List (Str × Addr))))) = (pure cl : Sem _)
  | [], acc, cl, h => by
    have e : acc = cl := Option.some.inj h
    subst e; rfl
  | (n, k) :: r, acc, cl, h => by
    unfold clos at h
    rw [List.forIn_cons]
    cases hk : k == NameKind.free with
    | false =>
      rw [hk] at h
      have ih := clos_run (env := env) r acc cl (by simpa using h)
      simp only [hk, Bool.false_eq_true, if_false, pure_bind]
      exact ih
    | true =>
      rw [hk] at h
      simp only [if_true] at h
      cases hc : env.cells.lookup n with
      | none => rw [hc] at h; cases h
      | some c =>
        rw [hc] at h
        have ih := clos_run (env := env) r ((n, c) :: acc) cl h
        have e : cellOf env n = pure c := by unfold cellOf; rw [hc]
        simp only [hk, if_true, e, pure_bind]
        exact ih
theorem closureFor_clos {scope : Scope} {env : Env} {cl : List (Str × Addr)} (h : clos scope.names env.cells [] = some cl) : closureFor scope env = pure cl := by
  have q := clos_run scope.names [] cl h
  unfold closureFor
  show (do let r ← _; pure r) = _
  refine Eq.trans ?_ (congrArg (fun z => z >>= fun r => pure r) q) |>.trans ?_
  · rfl
  · rfl
theorem clos_sub {cs : List (Str × Addr)} : ∀ (names : List (Str × NameKind)) (acc cl : List (Str × Addr)), clos names cs acc = some cl → (∀ n c, (n, c) ∈ acc → cs.lookup n = some c) → ∀ n c, (n, c) ∈ cl → cs.lookup n = some c
  | [], acc, cl, h, ha, n, c, hm => by
    have e : acc = cl := Option.some.inj h
    subst e; exact ha n c hm
  | (n0, k) :: r, acc, cl, h, ha, n, c, hm => by
    unfold clos at h
    split at h
    · split at h
      · rename_i c0 hc
        refine clos_sub r _ cl h (fun n' c' h' => ?_) n c hm
        rcases List.mem_cons.mp h' with e | h'
        · cases e; exact hc
        · exact ha n' c' h'
      · cases h
    · exact clos_sub r acc cl h ha n c hm
theorem clos_mono {cs : List (Str × Addr)} : ∀ (names : List (Str × NameKind)) (acc cl : List (Str × Addr)), clos names cs acc = some cl → ∀ p ∈ acc, p ∈ cl
  | [], acc, cl, h, p, hp => by
    have e : acc = cl := Option.some.inj h
    subst e; exact hp
  | (n0, k) :: r, acc, cl, h, p, hp => by
    unfold clos at h
    split at h
    · split at h
      · exact clos_mono r _ cl h p (List.mem_cons_of_mem _ hp)
      · cases h
    · exact clos_mono r acc cl h p hp
theorem clos_has {cs : List (Str × Addr)} : ∀ (names : List (Str × NameKind)) (acc cl : List (Str × Addr)), clos names cs acc = some cl → ∀ n, (n, NameKind.free) ∈ names → ∃ c, (n, c) ∈ cl
  | (n0, k) :: r, acc, cl, h, n, hn => by
    unfold clos at h
    rcases List.mem_cons.mp hn with e | hn
    · cases e
      simp only [beq_self_eq_true, if_true] at h
      split at h
      · rename_i c0 hc
        exact ⟨c0, clos_mono r _ cl h _ List.mem_cons_self⟩
      · cases h
    · split at h
      · split at h
        · exact clos_has r _ cl h n hn
        · cases h
      · exact clos_has r acc cl h n hn
theorem lookup_of_mem {β : Type} : ∀ {l : List (Str × β)} {n : Str} {c : β}, (n, c) ∈ l → ∃ c', l.lookup n = some c'
  | (m, d) :: r, n, c, h => by
    rw [List.lookup_cons]
    cases e : n == m with
    | true => exact ⟨d, rfl⟩
    | false =>
      rcases List.mem_cons.mp h with q | q
      · cases q; simp at e
      · exact lookup_of_mem q
theorem clos_lookup {cs cl : List (Str × Addr)} {names : List (Str × NameKind)} (h : clos names cs [] = some cl) {x : Str} {c : Addr} (q : cl.lookup x = some c) : cs.lookup x = some c :=
  clos_sub names [] cl h (fun _ _ z => absurd z (by simp)) x c (PySem.mem_of_lookup q)
theorem relabel_free {env : Env} : ∀ {names : List (Str × NameKind)} {x : Str}, (∀ y ∈ names, y.2 ≠ NameKind.cell) →
    ((names.map fun (n, k) => if (k == NameKind.free && env.scope.kind == .function && env.kindOf n == some .cell) then (n, NameKind.cell) else (n, k)).lookup x = some .cell ∨
     (names.map fun (n, k) => if (k == NameKind.free && env.scope.kind == .function && env.kindOf n == some .cell) then (n, NameKind.cell) else (n, k)).lookup x = some .free) → (x, NameKind.free) ∈ names
  | [], x, _, h => by simp at h
  | (n, k) :: r, x, hc, h => by
    have ih := @relabel_free env r x (fun y hy => hc y (List.mem_cons_of_mem _ hy))
    rw [List.map_cons] at h
    cases hx : x == n with
    | true =>
      have e : x = n := by simpa using hx
      subst e
      by_cases hk : k = NameKind.free
      · subst hk; exact List.mem_cons_self
      · have hb : (k == NameKind.free) = false := by simpa using hk
        simp only [hb, Bool.false_and, Bool.false_eq_true, if_false, List.lookup_cons, beq_self_eq_true] at h
        rcases h with h | h
        · exact absurd (Option.some.inj h) (hc (x, k) List.mem_cons_self)
        · exact absurd (Option.some.inj h) hk
    | false =>
      refine List.mem_cons_of_mem _ (ih ?_)
      by_cases hcnd : (k == NameKind.free && env.scope.kind == .function && env.kindOf n == some .cell) = true
      · simp only [hcnd, if_true, List.lookup_cons, hx] at h; exact h
      · simp only [hcnd, if_false, List.lookup_cons, hx, Bool.false_eq_true] at h; exact h
theorem relabel_free' {sc : Scope} {env : Env} {x : Str} (hc : ∀ y ∈ sc.names, y.2 ≠ NameKind.cell) (h : (relabel sc env).names.lookup x = some .cell ∨ (relabel sc env).names.lookup x = some .free) : (x, NameKind.free) ∈ sc.names := relabel_free hc h
noncomputable def cxc (X : Cx) (N : List Str) (sc : Scope) (cl : List (Str × Addr)) (s : Shared) (H : Hp) (ex : List Addr) : Cx where
  prog := X.prog
  w := X.w
  K := X.K
  mg := X.mg
  base := X.base
  A := X.A
  N := N
  s₀ := s
  H₀ := H
  env := compEnvC sc cl s.heap.objs.size X.env
  outer := X.stack
  stack := X.stack
  ex := ex
  fn := fun _ => false
  calm := X.calm
  pn := []
  xe := fun _ _ => False
noncomputable def frS (fr : List (Option Nat)) (σ : St) : St := fr.map fun o => o.bind fun j => (σ[j]?).bind id
noncomputable def PIfs (X : Cx) (ifs : List Expr) (t : TT) : Prop :=
  ∀ (pins : List (Addr × Obj)) (s : Shared) (σ : St) (H : Hp) (Q : Bool → Hp → Prop), Inv X pins σ H s → t σ H Q →
    wpAny (model X.prog X.w) X.A (forIn ifs true fun c r => if r = true then do let ok ← isTrue c X.env (eval c X.env); pure (ForInStep.yield ok) else pure (ForInStep.yield r)) (TP X pins σ Q) X.xe s
noncomputable def tTrue : TT := fun _ H Q => Q true H
theorem pif_nil {X : Cx} : PIfs X [] tTrue := fun _ _ _ _ _ I h => wpAny_tests_nil ⟨_, I, h⟩
theorem pif_one {X : Cx} {c : Expr} {t : TT} (h : PT X c t) : PIfs X [c] t := fun pins s σ H Q I q => wpAny_tests_one (h pins s σ H Q I q)
noncomputable abbrev TB := St → Hp → (St → Hp → Prop) → Prop
noncomputable def PB (X : Cx) (body : Sem Unit) (t : TB) : Prop :=
  ∀ (pins : List (Addr × Obj)) (s : Shared) (σ : St) (H : Hp) (N : St → Hp → Prop), Inv X pins σ H s → t σ H N →
    wpAny (model X.prog X.w) X.A body (fun _ s' => ∃ σ' H', Inv X pins σ' H' s' ∧ N σ' H') X.xe s
noncomputable def tEmit (p : Addr) (te : TE) : TB := fun σ H N => te σ H fun y H1 => ∃ ys, H1 p = some (.lst ys) ∧ ys.length < sizeLine ∧ N σ (upd H1 p (.lst (ys ++ [y])))
theorem pb_emit {X : Cx} {elt : Expr} {te : TE} {p : Addr} (h : PE X elt te) : PB X (do let _ ← call (.builtin "list.append") [.ref p, ← eval elt X.env]) (tEmit p te) := by
  intro pins s σ H N I q
  refine wpAny_bind (thn (h pins s σ H _ I q) fun u s1 ⟨y, H1, I1, r, ys, hp, hz, n⟩ => ?_)
  refine wpAny_bind (thn (mt_append (X := X) pins s1 σ H1 (.ref p) [y] (.ref p) [u] (fun _ H2 => N σ H2) I1 rfl (.cons r .nil) ⟨p, ys, y, rfl, rfl, hp, hz, n⟩) fun _ s2 ⟨_, H2, I2, _, n2⟩ => wpAny_pure ⟨σ, H2, I2, n2⟩)
noncomputable def tCL (J : It) (g : TG) (tc : TT) (tb : TB) : (St → Hp → Prop) → St → Hp → Prop := fun D σ H => ∃ W : Nat → Nat → St → Hp → Prop, (∃ m, W 0 m σ H) ∧ ∀ i m σ H, W i m σ H →
  (J.stop i H ∧ D σ H) ∨ (J.go i H ∧ ∃ N : St → Hp → Prop, (∀ σ' H', N σ' H' → ∃ m', m' < m ∧ W (i + 1) m' σ' H') ∧ ∀ x H', J.yld i H x H' → g x σ H' fun σ2 H2 => tc σ2 H2 fun b H3 => if b = true then tb σ2 H3 N else N σ2 H3)
theorem comp_loop {X : Cx} {e tg : Expr} {d : Nat} {ip : Pos} {ifs : List Expr} {body : Sem Unit} {acc : Value} {it : Addr} {fp : List Addr} {tn : Nat → Heap → Prop} {J : It} {g : TG} {tc : TT} {tb : TB} {D : St → Hp → Prop} {pins : List (Addr × Obj)} {σ : St} {H : Hp} {s : Shared}
    (hc : X.calm = true) (hx : X.xe = fun _ _ => False)
    (heq : compTurn e d (.ref it) acc X.env = (do
      standAt ip
      match ← pyNext (.ref it) with
      | none => pure (.done .next)
      | some v =>
        letOwnedTupleGo tg (.ref it) v
        assign tg X.env v
        let mut ok := true
        for c in ifs do
          if ok then ok ← isTrue c X.env (eval c X.env)
        if ok then body
        again (.compLoop e d (.ref it) acc X.env)))
    (hfrm : (Code.compLoop e d (.ref it) acc X.env).isFrame = false) (hund : X.A.under (Code.compLoop e d (.ref it) acc X.env) = X.A) (hq : (Code.compLoop e d (.ref it) acc X.env).quiet = true)
    (T : Turn X.prog X.w X.K tg J fp it tn) (hg : PG X tg g) (hi : PIfs X ifs tc) (hb : PB X body tb)
    (I : Inv X pins σ H s) (st : tn 0 s.heap) (f : ∀ b ∈ fp, FpOk X pins H b) (h : tCL J g tc tb D σ H) :
    codeAny (model X.prog X.w) X.A (.compLoop e d (.ref it) acc X.env) (fun r s' => r = .ok .next ∧ ∃ σ' H', Inv X pins σ' H' s' ∧ D σ' H') s := by
  obtain ⟨W, ⟨m0, w0⟩, turn⟩ := h
  have stat : ∀ {H' : Hp}, (∀ b ∈ fp, H' b = none) → ∀ b ∈ fp, FpOk X pins H' b := fun hn b hb => ⟨hn b hb, (f b hb).2⟩
  refine codeAny_loop hq (fun n s' => ∃ i σ' H', Inv X pins σ' H' s' ∧ tn i s'.heap ∧ (∀ b ∈ fp, H' b = none) ∧ W i n σ' H') ?_ m0 ⟨0, σ, H, I, st, fun b hb => (f b hb).1, w0⟩
  rintro n s3 ⟨i, σ3, H3, I3, st3, fr3, w3⟩
  rw [hund]
  show wpAny _ X.A (if (Code.compLoop e d (.ref it) acc X.env).isFrame then _ else (compTurn e d (.ref it) acc X.env).onRaise (fun x => do noteFrame x X.env; theTreesLotGoes x)) _ _ s3
  rw [hfrm]
  show wpAny _ X.A ((compTurn e d (.ref it) acc X.env).onRaise (fun x => do noteFrame x X.env; theTreesLotGoes x)) _ _ s3
  refine wpAny_noted ?_
  rw [heq]
  have no : ∀ {α : Type} {t : Sem α} {Q : α → Shared → Prop} {E : Value → Shared → Prop} {s : Shared}, wpAny (model X.prog X.w) X.A t Q X.xe s → wpAny (model X.prog X.w) X.A t Q E s := fun h => wpAny_mono h (fun _ _ q => q) fun _ _ z => by rw [hx] at z; exact z.elim
  refine wpAny_bind (wpAny_standAt (wpAny_bind ?_))
  rcases turn i n σ3 H3 w3 with ⟨stop, qn⟩ | ⟨go, N, hN, step⟩
  · refine thn (T.done X rfl rfl rfl hc i pins s3 σ3 H3 _ I3 (stat fr3) st3 stop) fun r s4 ⟨hr, I4⟩ => ?_
    subst hr
    exact wpAny_pure ⟨rfl, σ3, H3, I4, qn⟩
  · refine thn (T.item X rfl rfl rfl hc i pins s3 σ3 H3 _ I3 (stat fr3) st3 go) fun r s4 ⟨u, hr, h4⟩ => ?_
    subst hr
    refine wpAny_bind (thn h4 fun _ s5 ⟨x, H5, I5, r5, y5, st5, fr5⟩ => ?_)
    have I5' := I5.pinned (stat fr5) (T.obj _ _ st5)
    have again : ∀ {s7 : Shared} {σ7 : St} {H7 : Hp}, Inv X (pins ++ pinsAt fp s5.heap) σ7 H7 s7 → N σ7 H7 → ∃ m, m < n ∧ ∃ i σ' H', Inv X pins σ' H' s7 ∧ tn i s7.heap ∧ (∀ b ∈ fp, H' b = none) ∧ W i m σ' H' := fun {s7 σ7 H7} I7 n7 => by
      obtain ⟨m', hm, w7⟩ := hN σ7 H7 n7
      refine ⟨m', hm, i + 1, σ7, H7, I7.unpinned, T.keep _ _ _ st5 fun b hb o e => (I7.pin (b, o) (List.mem_append_right _ (List.mem_append_right _ (mem_pinsAt hb e)))).1, fun b hb => ?_, w7⟩
      obtain ⟨o, e, d⟩ := T.obj _ _ st5 b hb
      exact (I7.pin (b, o) (List.mem_append_right _ (List.mem_append_right _ (mem_pinsAt hb e)))).2.1
    refine wpAny_bind (no (thn (hg _ s5 σ3 H5 x u _ I5' r5 (step x H5 y5)) fun _ s6 ⟨σ6, H6, I6, q6⟩ => ?_))
    refine wpAny_bind (no (thn (hi _ s6 σ6 H6 _ I6 q6) fun ok s7 ⟨H7, I7, q7⟩ => ?_))
    cases ok with
    | false => exact wpAny_pure ⟨rfl, again I7 q7⟩
    | true =>
      refine wpAny_bind (no (thn (hb _ s7 σ6 H7 _ I7 q7) fun _ s8 ⟨σ8, H8, I8, n8⟩ => ?_))
      exact wpAny_pure ⟨rfl, again I8 n8⟩
end L2
end
section
set_option Elab.async false
set_option linter.all false
set_option maxRecDepth 100000
namespace L2
open PySem PySem.Spec PyProof.Rows
theorem lookup_relabel_free {env : Env} : ∀ {names : List (Str × NameKind)} {x : Str}, names.lookup x = some .free →
    ((names.map fun (n, k) => if (k == NameKind.free && env.scope.kind == .function && env.kindOf n == some .cell) then (n, NameKind.cell) else (n, k)).lookup x = some .cell ∨
     (names.map fun (n, k) => if (k == NameKind.free && env.scope.kind == .function && env.kindOf n == some .cell) then (n, NameKind.cell) else (n, k)).lookup x = some .free)
  | [], _, h => by simp at h
  | (n, k) :: r, x, h => by
    have ih := @lookup_relabel_free env r x
    rw [List.map_cons]
    cases hx : x == n with
    | true =>
      simp only [List.lookup_cons, hx] at h
      cases h
      by_cases hc : (NameKind.free == NameKind.free && env.scope.kind == .function && env.kindOf n == some .cell) = true
      · left; simp only [hc, if_true, List.lookup_cons, hx]
      · right; simp only [hc, if_false, List.lookup_cons, hx, Bool.false_eq_true]
    | false =>
      simp only [List.lookup_cons, hx] at h
      by_cases hc : (k == NameKind.free && env.scope.kind == .function && env.kindOf n == some .cell) = true
      · simp only [hc, if_true, List.lookup_cons, hx]; exact ih h
      · simp only [hc, if_false, List.lookup_cons, hx, Bool.false_eq_true]; exact ih h
structure CScope (X : Cx) (N : List Str) (fr : List (Option Nat)) (sc : Scope) : Prop where
  kind : sc.kind = .function
  nocell : ∀ y ∈ sc.names, y.2 ≠ NameKind.cell
  loc : ∀ y ∈ sc.names, y.2 = .local → sc.names.lookup y.1 = some .local
  len : fr.length = N.length
  fr : ∀ (i j : Nat), fr[i]? = some (some j) → ∃ x, N[i]? = some x ∧ X.N[j]? = some x ∧ sc.names.lookup x = some .free ∧ (X.env.kindOf x = some .cell ∨ X.env.kindOf x = some .free)
noncomputable def okFr (XN : List Str) (XS names : List (Str × NameKind)) : List Str → List (Option Nat) → Bool
  | [], [] => true
  | x :: N, o :: fr => (match o with
    | none => true
    | some j => XN[j]? == some x && names.lookup x == some .free && (XS.lookup x == some .cell || XS.lookup x == some .free)) && okFr XN XS names N fr
  | _, _ => false
theorem okFr_len {XN : List Str} {XS names : List (Str × NameKind)} : ∀ {N : List Str} {fr : List (Option Nat)}, okFr XN XS names N fr = true → fr.length = N.length
  | [], [], _ => rfl
  | x :: N, o :: fr, h => by
    unfold okFr at h
    rw [Bool.and_eq_true] at h
    rw [List.length_cons, List.length_cons, okFr_len h.2]
  | [], _ :: _, h => by cases h
  | _ :: _, [], h => by cases h
theorem okFr_get {XN : List Str} {XS names : List (Str × NameKind)} : ∀ {N : List Str} {fr : List (Option Nat)} {i j : Nat}, okFr XN XS names N fr = true → fr[i]? = some (some j) → ∃ x, N[i]? = some x ∧ XN[j]? = some x ∧ names.lookup x = some .free ∧ (XS.lookup x = some .cell ∨ XS.lookup x = some .free)
  | [], [], _, _, _, e => by simp at e
  | x :: N, o :: fr, 0, j, h, e => by
    unfold okFr at h
    rw [Bool.and_eq_true] at h
    simp at e
    subst e
    have h1 := h.1
    simp only [Bool.and_eq_true, Bool.or_eq_true, beq_iff_eq] at h1
    exact ⟨x, rfl, h1.1.1, h1.1.2, h1.2⟩
  | x :: N, o :: fr, i + 1, j, h, e => by
    unfold okFr at h
    rw [Bool.and_eq_true] at h
    obtain ⟨y, q⟩ := okFr_get (i := i) (j := j) h.2 (by simpa using e)
    exact ⟨y, by simpa using q.1, q.2⟩
  | [], _ :: _, _, _, h, _ => by cases h
  | _ :: _, [], _, _, h, _ => by cases h
noncomputable def okLoc (names : List (Str × NameKind)) : Bool := names.all fun y => !(y.2 == .cell) && (!(y.2 == .local) || names.lookup y.1 == some .local)
theorem CScope.of {X : Cx} {N : List Str} {fr : List (Option Nat)} {sc : Scope} (h1 : sc.kind = .function) (h2 : okLoc sc.names = true) (h3 : okFr X.N X.env.scope.names sc.names N fr = true) : CScope X N fr sc := by
  have h2' := List.all_eq_true.mp h2
  refine ⟨h1, fun y hy e => ?_, fun y hy e => ?_, okFr_len h3, fun i j e => okFr_get h3 e⟩
  · have q := h2' y hy
    rw [e] at q
    simp at q
  · have q := h2' y hy
    rw [e] at q
    simpa using q
theorem frS_get {fr : List (Option Nat)} {σ : St} {i : Nat} {v : V} (h : (frS fr σ)[i]? = some (some v)) : ∃ j, fr[i]? = some (some j) ∧ σ[j]? = some (some v) := by
  unfold frS at h
  rw [List.getElem?_map] at h
  cases e : fr[i]? with
  | none => rw [e] at h; cases h
  | some o =>
    rw [e] at h
    cases o with
    | none => cases h
    | some j =>
      refine ⟨j, rfl, ?_⟩
      have h' : (σ[j]?).bind id = some v := Option.some.inj h
      cases q : σ[j]? with
      | none => rw [q] at h'; cases h'
      | some o => rw [q] at h'; exact congrArg some h'
section
variable {X : Cx} {pins : List (Addr × Obj)} {σ : St} {H H' : Hp} {s : Shared}
theorem Inv.block {N : List Str} {fr : List (Option Nat)} {sc : Scope} {cl : List (Str × Addr)} {ex : List Addr} {h1 : Heap} {tk : Nat} (I : Inv X pins σ H s) (S : CScope X N fr sc) (hcl : clos sc.names X.env.cells [] = some cl)
    (hex : ∀ b ∈ ex, FpOk X pins H b ∧ b < s.heap.objs.size) (hns : h1.Ns s.heap.objs.size (fun _ => none)) (hk : ∀ b u, s.heap.get? b = some u → h1.get? b = some u) :
    Inv (cxc X N sc cl s H ex) [] (frS fr σ) H { s with heap := h1, toks := tk } := by
  have hfree : H s.heap.objs.size = none := I.hok.fresh (Nat.le_refl _)
  have cne : ∀ x c, cl.lookup x = some c → c ≠ s.heap.objs.size := fun x c e z => by
    obtain ⟨v, q⟩ := I.cell x c (clos_lookup hcl e)
    exact absurd q.lt (by rw [z]; exact Nat.lt_irrefl _)
  refine ⟨⟨I.ok.mod, S.kind, I.ok.glob, I.ok.blt, Nat.le_refl _, fun x y c h1 h2 => I.ok.inj x y c (clos_lookup hcl h1) (clos_lookup hcl h2), fun x hx => ?_, fun x c z => absurd (show false = true from z) (by decide), I.ok.hd, I.ok.frames, Or.inl rfl, fun b hb => ?_, I.bs, Nat.le_trans I.ok.bsz I.sz, fun b o e hb => ?_, fun b hb hf => ?_, I.stack, I.stkFree⟩,
    rfl, I.bare, Un.kept hk, ⟨_, hns, fun i x v h1 h2 h3 => ?_⟩, fun x c e => ?_, hfree, fun x c e => I.freeC x c (clos_lookup hcl e), fun p hp => absurd (show p ∈ ([] : List (Addr × Obj)) from hp) (by simp), I.hok.kept hk, ?_⟩
  · have hx' : (relabel sc X.env).names.lookup x = some .cell ∨ (relabel sc X.env).names.lookup x = some .free := hx
    obtain ⟨c, hc⟩ := clos_has sc.names [] cl hcl x (relabel_free' S.nocell hx')
    exact lookup_of_mem hc
  · obtain ⟨⟨f0, f1, f2, f3, f4, f5⟩, lt⟩ := hex b hb
    exact ⟨Nat.ne_of_lt lt, fun x c e => f4 x c (clos_lookup hcl e)⟩
  · obtain ⟨⟨f0, f1, f2, f3, f4, f5⟩, lt⟩ := hex b hb
    rcases f3 with f3 | f3
    · exact I.ok.noex b o e f3
    · exact absurd (Nat.lt_of_lt_of_le (Heap.lt_size e) I.ok.bsz) (Nat.not_lt.mpr f3)
  · obtain ⟨⟨f0, f1, f2, f3, f4, f5⟩, lt⟩ := hex b hb
    rcases List.mem_cons.mp (I.stkSub b hf) with e | e
    · exact f1 e
    · exact f2 e
  · obtain ⟨j, hj, hv⟩ := frS_get h2
    obtain ⟨x', e1, e2, e3, e4⟩ := S.fr i j hj
    have hN : N[i]? = some x := h1
    rw [hN] at e1
    cases e1
    obtain ⟨c, hc⟩ := clos_has sc.names [] cl hcl x (PySem.mem_of_lookup e3)
    obtain ⟨c', hc'⟩ := lookup_of_mem hc
    have hcX := clos_lookup hcl hc'
    obtain ⟨m, hn, hl⟩ := I.loc
    have kc : (relabel sc X.env).names.lookup x = some .cell ∨ (relabel sc X.env).names.lookup x = some .free := lookup_relabel_free e3
    have vis : Vis X.env.scope x ∧ (X.env.kindOf x ≠ some .local) := by
      rcases e4 with q | q
      · exact ⟨.inr (.inl q), by rw [q]; decide⟩
      · exact ⟨.inr (.inr q), by rw [q]; decide⟩
    obtain ⟨u, r, l⟩ := hl j x v e2 hv vis.1
    refine ⟨u, r, .inr ⟨kc, c', hc', ?_⟩⟩
    rcases l with ⟨q, _⟩ | ⟨_, d, hd, hcell⟩
    · exact absurd q vis.2
    · rw [hcX] at hd
      cases hd
      exact hcell.keeps hk
  · obtain ⟨v, q⟩ := I.cell x c (clos_lookup hcl e)
    exact ⟨v, q.keeps hk⟩
  · show (frS fr σ).length = N.length
    unfold frS
    rw [List.length_map]; exact S.len
end
end L2
end
section
set_option Elab.async false
set_option linter.all false
set_option maxRecDepth 100000
namespace L2
open PySem PySem.Spec PyProof.Rows
section
variable {X : Cx} {pins : List (Addr × Obj)} {σ : St} {H H' : Hp} {s : Shared}
theorem Inv.unblock {N : List Str} {sc : Scope} {cl : List (Str × Addr)} {ex : List Addr} {pins' : List (Addr × Obj)} {σ' : St} {s' : Shared} {h' : Heap} (I : Inv X pins σ H s) (J : Inv (cxc X N sc cl s H ex) pins' σ' H' s')
    (hex : ∀ b ∈ ex, FpOk X pins H b) (sb : Heap.SameBut s.heap.objs.size s'.heap h') : Inv X pins σ H' { s' with heap := h' } := by
  have free : H' s.heap.objs.size = none := J.free
  have eq : ∀ b, b ≠ s.heap.objs.size → h'.get? b = s'.heap.get? b := sb.2
  have ne : ∀ b o, s.heap.get? b = some o → b ≠ s.heap.objs.size := fun b o e => Nat.ne_of_lt (Heap.lt_size e)
  have B : Un (frs X.stack) ex H H' s.heap s'.heap := J.base
  refine I.call' (s' := { s' with heap := h' }) (ch := ex) J.os ⟨fun b o q n hb hx => (eq b (ne b o q)).trans (B.keep b o q n hb hx), fun b o q n hb hx => ?_, B.free, fun b o q hx => ?_, B.tups, B.frzs, B.tbls⟩ (fun a o e => ?_) J.bare (fun b hb => ?_)
  · obtain ⟨sl, e⟩ := B.slot b o q n hb hx
    exact ⟨sl, (eq b (ne b o q)).trans e⟩
  · obtain ⟨o', e⟩ := B.there b o q hx
    exact ⟨o', (eq b (ne b o q)).trans e⟩
  · refine (J.hok a o e).stay (fun b u hb q => ?_) (fun _ q => q) fun _ _ q => q
    refine (eq b ?_).trans q
    rcases hb with rfl | hb
    · exact ne_of_none e free
    · exact ne_of_none hb free
  · obtain ⟨f0, f1, f2, f3, f4, f5⟩ := hex b hb
    exact ⟨f3, f1, f4, f5⟩
end
section
variable {X : Cx}
noncomputable def tLC (fr : List (Option Nat)) (wi : TI) (g : TG) (tc : TT) (te : TE) : TE := fun σ H Q => wi σ H fun J H1 => ∀ p, H1 p = none → tCL J g tc (tEmit p te) (fun _ H2 => Q (.ref p) H2) (frS fr σ) (upd H1 p (.lst []))
theorem lc_entry {N : List Str} {fr : List (Option Nat)} {e tg iter : Expr} {ifs : List Expr} {gs : List Comprehension} {sc : Scope} {ip : Pos} {cl : List (Str × Addr)} {wi : TI} {D : It → Addr → St → Hp → Prop} {pins : List (Addr × Obj)} {σ : St} {H : Hp} {s : Shared} {Q : VK}
    (he : clausesOf e = ⟨tg, iter, ifs, 0⟩ :: gs) (hi : PI X tg iter wi) (S : CScope X N fr sc) (hcl : clos sc.names X.env.cells [] = some cl) (I : Inv X pins σ H s)
    (h : wi σ H fun J H1 => ∀ p, H1 p = none → D J p (frS fr σ) (upd H1 p (.lst [])))
    (loop : ∀ (it p : Addr) (fp : List Addr) (tn : Nat → Heap → Prop) (J : It) (s1 s2 : Shared) (H1 : Hp) (σ1 : St), Turn X.prog X.w X.K tg J fp it tn → Inv (cxc X N sc cl s1 H1 fp) [] σ1 H1 s2 → tn 0 s2.heap → (∀ b ∈ fp, FpOk (cxc X N sc cl s1 H1 fp) [] H1 b) → D J p σ1 H1 →
      codeAny (model X.prog X.w) X.A (.compStart e 0 (.ref it) (.ref p) (compEnvC sc cl s1.heap.objs.size X.env)) (fun r s' => r = .ok .next ∧ ∃ σ' H', Inv (cxc X N sc cl s1 H1 fp) [] σ' H' s' ∧ Q (.ref p) H') s2)
    (hs : ∀ x, foldedSetIterable iter X.env x = pure x) :
    wpAny (model X.prog X.w) X.A (comprehension e sc X.env ip (newList []) false (eval iter X.env)) (EP X pins σ Q) X.xe s := by
  refine wpAny_comprehension_free (use := none) he hs (closureFor_clos hcl) S.kind S.loc ?_
  refine thn (hi pins s σ H _ I h) fun v s1 h1 => thn h1 fun itv s2 ⟨it, fp, tn, J, H2, e2, I2, T, st2, f2, q⟩ => ?_
  subst e2
  refine wpAny_newObj_type ?_
  have hp : H2 s2.heap.objs.size = none := I2.hok.fresh (Nat.le_refl _)
  have I3 : Inv X pins σ (upd H2 s2.heap.objs.size (.lst [])) { s2 with heap := s2.heap.push { cls := .type "list", data := .seq ([] : List Value).toArray }, toks := s2.toks } := I2.lnew (its := []) (ys := []) .nil (Nat.zero_le _)
  have lt2 : ∀ b ∈ fp, b < s2.heap.objs.size := fun b hb => let ⟨o, e, _⟩ := T.obj 0 _ st2 b hb; Heap.lt_size e
  have f3 : ∀ b ∈ fp, FpOk X pins (upd H2 s2.heap.objs.size (.lst [])) b := fun b hb => ⟨by rw [upd_ne (Nat.ne_of_lt (lt2 b hb))]; exact (f2 b hb).1, (f2 b hb).2⟩
  have st3 : tn 0 (s2.heap.push { cls := .type "list", data := .seq ([] : List Value).toArray }) := T.keep _ _ _ st2 fun b _ o e => Heap.get?_push_of_some _ e
  refine wpAny_newFunctionEnv S.nocell (by intro y hy; simp at hy) (fun h₁ hns₁ hsb₁ => ?_) S.kind
  generalize hs3 : ({ s2 with heap := s2.heap.push { cls := .type "list", data := .seq ([] : List Value).toArray } } : Shared) = s3 at hns₁ hsb₁ ⊢
  have I3' : Inv X pins σ (upd H2 s2.heap.objs.size (.lst [])) s3 := by rw [← hs3]; exact I3
  have st3' : tn 0 s3.heap := by rw [← hs3]; exact st3
  have lt3 : ∀ b ∈ fp, b < s3.heap.objs.size := fun b hb => let ⟨o, e, _⟩ := T.obj 0 _ st3' b hb; Heap.lt_size e
  have hk : ∀ b u, s3.heap.get? b = some u → h₁.get? b = some u := fun b u e => hsb₁.extBut b u (Nat.ne_of_lt (Heap.lt_size e)) (Heap.get?_push_of_some _ e)
  have hns : h₁.Ns s3.heap.objs.size (fun _ => none) := by simpa using hns₁
  have B := I3'.block (N := N) (fr := fr) (sc := sc) (cl := cl) (ex := fp) (h1 := h₁) (tk := s3.toks + ([] : List (Str × Value)).length) S hcl (fun b hb => ⟨f3 b hb, lt3 b hb⟩) hns hk
  have stB : tn 0 h₁ := T.keep _ _ _ st3' fun b _ o e => hk b o e
  refine codeAny_mono (loop it s2.heap.objs.size fp tn J s3 _ (upd H2 s2.heap.objs.size (.lst [])) (frS fr σ) T B stB (fun b hb => ?_) (q _ hp)) fun r s' hr => ?_
  · obtain ⟨f0, f1, f2', f3', f4, f5⟩ := f3 b hb
    refine ⟨f0, Nat.ne_of_lt (lt3 b hb), fun z => ?_, .inl hb, fun x c e => f4 x c (clos_lookup hcl e), fun p hp' => absurd (show p ∈ ([] : List (Addr × Obj)) from hp') (by simp)⟩
    rcases List.mem_cons.mp (I3'.stkSub b z) with e | e
    · exact f1 e
    · exact f2' e
  · obtain ⟨rfl, σ', H', J', q'⟩ := hr
    obtain ⟨m, hn, _⟩ := J'.loc
    exact ⟨m, hn, fun h' sb => ⟨.ref s2.heap.objs.size, H', I3'.unblock J' f3 sb, rfl, q'⟩⟩
theorem pe_lc {N : List Str} {fr : List (Option Nat)} {tg iter elt : Expr} {ifs : List Expr} {sc : Scope} {pos : Pos} {cl : List (Str × Addr)} {wi : TI} {g : TG} {tc : TT} {te : TE} (hc : X.calm = true) (hi : PI X tg iter wi) (S : CScope X N fr sc) (hcl : clos sc.names X.env.cells [] = some cl)
    (hb : ∀ s H ex, PG (cxc X N sc cl s H ex) tg g ∧ PIfs (cxc X N sc cl s H ex) ifs tc ∧ PE (cxc X N sc cl s H ex) elt te) (hs : ∀ x, foldedSetIterable iter X.env x = pure x := by intro _; rfl) :
    PE X (.ListComp elt [⟨tg, iter, ifs, 0⟩] sc pos) (tLC fr wi g tc te) := by
  intro pins s σ H Q I h
  rw [eval_ListComp]
  refine lc_entry (D := fun J p σ H => tCL J g tc (tEmit p te) (fun _ H2 => Q (.ref p) H2) σ H) rfl hi S hcl I h (fun it p fp tn J s1 s2 H1 σ1 T B st f d => ?_) hs
  obtain ⟨hg, hifs, helt⟩ := hb s1 H1 fp
  have L := comp_loop (X := cxc X N sc cl s1 H1 fp) (e := .ListComp elt [⟨tg, iter, ifs, 0⟩] sc pos) (d := 0) (acc := .ref p) (D := fun _ H2 => Q (.ref p) H2) (s := s2) hc rfl (compTurn_list elt tg iter ifs sc pos (.ref it) (.ref p) _) rfl rfl rfl T hg hifs (pb_emit helt) B st f d
  exact codeAny_compStart_list L (T.self X.A 0 s2 _ _ st L)
end
end L2
end
section
set_option Elab.async false
set_option linter.all false
set_option maxRecDepth 100000
namespace L2
open PySem PySem.Spec PyProof.Rows
noncomputable def sq (H : Hp) (a : Addr) : Option (List V) := match H a with
  | some (.lst xs) => some xs
  | some (.tup xs) => some xs
  | some (.frz _ (.lst xs)) => some xs
  | some (.frz _ (.tup xs)) => some xs
  | _ => none
theorem sq_lst {H : Hp} {a : Addr} {xs : List V} (h : H a = some (.lst xs)) : sq H a = some xs := by unfold sq; rw [h]
theorem sq_tup {H : Hp} {a : Addr} {xs : List V} (h : H a = some (.tup xs)) : sq H a = some xs := by unfold sq; rw [h]
theorem sq_updL {H : Hp} {a : Addr} {xs : List V} : sq (upd H a (.lst xs)) a = some xs := sq_lst upd_same
theorem sq_updT {H : Hp} {a : Addr} {xs : List V} : sq (upd H a (.tup xs)) a = some xs := sq_tup upd_same
theorem sq_rd {H : Hp} {a : Addr} {xs : List V} (h : sq H a = some xs) : Rd H a (.lst xs) ∨ Rd H a (.tup xs) := by
  unfold sq at h
  cases e : H a with
  | none => rw [e] at h; cases h
  | some o =>
    rw [e] at h
    cases o with
    | lst ys => cases h; exact .inl (.inl e)
    | tup ys => cases h; exact .inr (.inl e)
    | frz ob u =>
      cases u with
      | lst ys => cases h; exact .inl (.inr ⟨ob, e⟩)
      | tup ys => cases h; exact .inr (.inr ⟨ob, e⟩)
      | _ => cases h
    | _ => cases h
theorem sq_seq {K : PySem.W.Frag} {H : Hp} {a : Addr} {xs : List V} (h : sq H a = some xs) : SqL K H a xs ∨ SqT K H a xs := by
  rcases sq_rd h with h | h
  · exact .inl (.inl h)
  · exact .inr (.inl h)
section
variable {X : Cx}
noncomputable def rIx0 : R2 := fun x y H Q => ∃ p xs i v, x = .ref p ∧ y = .int i ∧ sq H p = some xs ∧ atI xs i = some v ∧ Q v H
theorem ix0 : IxR X rIx0 := by
  intro value slice pins s σ H x y v u Q I rx ry h hs
  obtain ⟨p, xs, i, z, e1, e2, hq, ha, q⟩ := h
  rcases sq_seq (K := X.K) hq with k | k
  · exact ix_list value slice pins s σ H x y v u Q I rx ry ⟨p, xs, i, z, e1, e2, k, ha, q⟩ hs
  · exact ix_tup value slice pins s σ H x y v u Q I rx ry ⟨p, xs, i, z, e1, e2, k, ha, q⟩ hs
theorem len0 : CallR X (.builtin "len") (fun xs H Q => ∃ p ys, xs = [.ref p] ∧ sq H p = some ys ∧ Q (.int ys.length) H) := by
  intro pins s σ H xs us Q I r h
  obtain ⟨p, ys, e, hq, q⟩ := h
  exact call_len_seq pins s σ H xs us Q I r ⟨p, ys, e, sq_seq hq, q⟩
theorem tupL0 : CallR X (.type "tuple") (fun xs H Q => ∃ p ys, xs = [.ref p] ∧ H p = some (.lst ys) ∧ ∀ l, H l = none → Q (.ref l) (upd H l (.tup ys))) := by
  intro pins s σ H xs us Q I r h
  obtain ⟨p, ys, e, hq, q⟩ := h
  exact call_tuple_of pins s σ H xs us Q I r ⟨p, ys, e, .inl ⟨SqL.of hq, q⟩⟩
noncomputable def rIn0 (neg : Bool) : R2 := fun x y H Q => ∃ p xs, y = .ref p ∧ sq H p = some xs ∧ flatV x = true ∧ xs.all flatV = true ∧ Q (.bl (if neg then !inV x xs else inV x xs)) H
noncomputable def gTup0 (n : Nat) (t : TGs) : TG := fun v σ H Q => ∃ a xs, v = .ref a ∧ H a = some (.tup xs) ∧ xs.length = n ∧ t xs σ H Q
theorem pg_tup0 {es : List Expr} {k : Nat} {t : TGs} {n : Nat} {pos : Pos} (hc : X.calm = true) (h : PGs X es t)
    (hn : (assignEach es X.env).length = n := by rfl) (hst : (assignEach es X.env).findIdx? (·.1) = none := by rfl) : PG X (.Tuple es k pos) (gTup0 n t) := by
  intro pins s σ H v u Q I r hw
  obtain ⟨a, xs, e1, hq, hl, hw⟩ := hw
  exact pg_tup hc h hn hst pins s σ H v u Q I r ⟨a, xs, e1, SqT.of hq, hl, hw⟩
theorem PG.mono {tg : Expr} {g g' : TG} (h : PG X tg g) (m : ∀ v σ H Q, g' v σ H Q → g v σ H Q) : PG X tg g' := fun pins s σ H v u Q I r q => h pins s σ H v u Q I r (m _ _ _ _ q)
noncomputable def ItS (f : Hp → Prop) (xs : List V) : It := ⟨fun i H => f H ∧ i < xs.length, fun i H x H' => H' = H ∧ xs[i]? = some x, fun i H => f H ∧ xs.length ≤ i⟩
theorem Turn.weak {P : Program} {w : World} {K : PySem.W.Frag} {tg : Expr} {J J' : It} {fp : List Addr} {it : Addr} {tn : Nat → Heap → Prop} (T : Turn P w K tg J fp it tn) (hg : ∀ i H, J'.go i H → J.go i H) (hs : ∀ i H, J'.stop i H → J.stop i H)
    (hy : ∀ i H x H', J'.go i H → J.yld i H x H' → J'.yld i H x H') : Turn P w K tg J' fp it tn where
  mem := T.mem
  obj := T.obj
  keep := T.keep
  item := fun X h1 h2 h3 hc i pins s σ H E I f st go => thn (T.item X h1 h2 h3 hc i pins s σ H E I f st (hg i H go)) fun r s1 ⟨u, e, q⟩ => ⟨u, e, thn q fun _ s2 ⟨x, H', I2, r2, y, t, n⟩ => ⟨x, H', I2, r2, hy i H x H' go y, t, n⟩⟩
  done := fun X h1 h2 h3 hc i pins s σ H E I f st go => T.done X h1 h2 h3 hc i pins s σ H E I f st (hs i H go)
  self := T.self
theorem PI.weak {tg iter : Expr} {wi wi' : TI} (h : PI X tg iter wi) (m : ∀ σ H R, wi' σ H R → wi σ H fun J H1 => ∃ J', R J' H1 ∧ (∀ i H, J'.go i H → J.go i H) ∧ (∀ i H, J'.stop i H → J.stop i H) ∧ (∀ i H x H', J'.go i H → J.yld i H x H' → J'.yld i H x H')) : PI X tg iter wi' := by
  intro pins s σ H R I q
  refine thn (h pins s σ H _ I (m σ H R q)) fun v s1 h1 => thn h1 fun itv s2 ⟨it, fp, tn, J, H', e, I2, T, st, f, J', r, a, b, c⟩ => ?_
  exact ⟨it, fp, tn, J', H', e, I2, T.weak a b c, st, f, r⟩
noncomputable def iT0 (tl : TE) : TI := fun σ H R => tl σ H fun x H1 => ∃ a xs, x = .ref a ∧ H1 a = some (.tup xs) ∧ R (ItS (fun H => H a = some (.tup xs)) xs) H1
noncomputable def iL0 (tl : TE) : TI := fun σ H R => tl σ H fun x H1 => ∃ a xs, x = .ref a ∧ H1 a = some (.lst xs) ∧ R (ItS (fun H => H a = some (.lst xs)) xs) H1
noncomputable def Mono (t : TE) : Prop := ∀ σ H Q Q', (∀ v H', Q v H' → Q' v H') → t σ H Q → t σ H Q'
theorem getlen {xs : List V} {i : Nat} (h : i < xs.length) : ∃ x, xs[i]? = some x := ⟨xs[i], by simp [h]⟩
theorem pi_t0 {tg l : Expr} {tl : TE} (hl : PE X l tl) : PI X tg l (iT0 tl) := by
  intro pins s σ H R I h
  refine thn (hl pins s σ H _ I h) fun v s1 ⟨x, H1, I1, r1, q1⟩ => ?_
  obtain ⟨a, xs, e, hq, q⟩ := q1
  subst e
  cases r1
  obtain ⟨its, rv, p, hz⟩ := I1.tuple (SqT.of hq)
  refine wpAny_pyIter_tuple (show s1.heap.IsTuple a its.toArray from p) ?_
  refine ⟨s1.heap.objs.size, [s1.heap.objs.size], _, _, H1, rfl, I1.kept (t' := s1.toks) fun b o e => Heap.get?_push_of_some _ e, (turn_tuple a _).weak (J' := ItS (fun H => H a = some (.tup xs)) xs) (fun i H ⟨k, hi⟩ => ?_) (fun i H ⟨k, hi⟩ => ⟨xs, SqT.of k, hi⟩) (fun i H x H' ⟨k, hi⟩ ⟨y1, y2⟩ => ⟨y1, y2 xs (SqT.of k)⟩), ⟨_, Heap.get?_push_size _ rfl, rfl, rfl⟩, fun b hb => ?_, q⟩
  · obtain ⟨x, hx⟩ := getlen hi
    exact ⟨xs, x, SqT.of k, hx⟩
  · have e : b = s1.heap.objs.size := by simpa using hb
    subst e
    exact I1.fpOk (Nat.le_refl _) (I1.hok.fresh (Nat.le_refl _))
theorem pi_l0 {tg l : Expr} {tl : TE} (hl : PE X l tl) : PI X tg l (iL0 tl) := by
  intro pins s σ H R I h
  refine thn (hl pins s σ H _ I h) fun v s1 ⟨x, H1, I1, r1, q1⟩ => ?_
  obtain ⟨a, xs, e, hq, q⟩ := q1
  subst e
  cases r1
  obtain ⟨its, rv, p, hz⟩ := I1.list (SqL.of hq)
  refine wpAny_pyIter_list p.isList ?_
  refine ⟨s1.heap.objs.size, [s1.heap.objs.size], _, _, H1, rfl, I1.kept (t' := s1.toks) fun b o e => Heap.get?_push_of_some _ e, (turn_list a _).weak (J' := ItS (fun H => H a = some (.lst xs)) xs) (fun i H ⟨k, hi⟩ => ?_) (fun i H ⟨k, hi⟩ => ⟨xs, SqL.of k, hi⟩) (fun i H x H' ⟨k, hi⟩ ⟨y1, y2⟩ => ⟨y1, y2 xs (SqL.of k)⟩), ⟨_, Heap.get?_push_size _ rfl, rfl, rfl⟩, fun b hb => ?_, q⟩
  · obtain ⟨x, hx⟩ := getlen hi
    exact ⟨xs, x, SqL.of k, hx⟩
  · have e : b = s1.heap.objs.size := by simpa using hb
    subst e
    exact I1.fpOk (Nat.le_refl _) (I1.hok.fresh (Nat.le_refl _))
noncomputable def Cal (P : Program) (w : World) (K : PySem.W.Frag) (mg : Str → Option Value) (base : Heap) (x : Str) (ps : List Str) (k : Nat) (sp : Sp) : Prop :=
  ∃ f fd, FnOk P w K mg base CX0 k f fd ps sp ∧ mg x = some (.ref f) ∧ PySem.W.keepIn K (.ref f) = true ∧ Binds K fd ps []
theorem Cal.imp {P : Program} {w : World} {K : PySem.W.Frag} {mg : Str → Option Value} {base : Heap} {x : Str} {ps : List Str} {k : Nat} {sp sp' : Sp} (c : Cal P w K mg base x ps k sp) (h : ∀ vs H Q E, sp' vs H Q E → sp vs H Q E) : Cal P w K mg base x ps k sp' :=
  let ⟨f, fd, F, r⟩ := c; ⟨f, fd, F.imp h, r⟩
theorem Cal.mono {P : Program} {w : World} {K : PySem.W.Frag} {mg : Str → Option Value} {base : Heap} {x : Str} {ps : List Str} {j k : Nat} {sp : Sp} (c : Cal P w K mg base x ps j sp) (h : j ≤ k) : Cal P w K mg base x ps k sp :=
  let ⟨f, fd, F, r⟩ := c; ⟨f, fd, F.mono h, r⟩
noncomputable def tCal (sp : Sp) (t : TA) : TE := fun σ H Q => t σ H fun vs H1 => sp vs H1 Q E0
theorem pe_cal {k j : Nat} {x : Str} {ps : List Str} {sp : Sp} {t : TA} {e : Expr} {es : List Expr} {p pos : Pos} (c : Cal X.prog X.w X.K X.mg X.base x ps k sp) (hr : Room j X.A) (ha : PA X (e :: es) t) (hg : Gl X x := by rfl) (hk : k ≤ j := by decide)
    (hdb : (x == ("__debug__" : Str)) = false := by decide) (he : starEach (e :: es) X.env = (false, eval e X.env) :: starEach es X.env := by rfl) (hpl : (backTo pos (starEach es X.env)).any (·.1) = false := by rfl) :
    PE X (.Call (.Name x p) (e :: es) [] pos) (tCal sp t) := by
  obtain ⟨f, fd, F, hm, kp, hb⟩ := c
  intro pins s σ H Q I h
  refine pe_call (E := E0) (dvs := []) F (hr.mono hk) hg hm kp hb .nil pass0 ha hdb he hpl pins s σ H Q I ?_
  show t σ H fun vs H1 => sp (vs ++ []) H1 Q E0
  have h' : t σ H fun vs H1 => sp vs H1 Q E0 := h
  simpa using h'
theorem cal_of {P : Program} {w : World} {K : PySem.W.Frag} {mg : Str → Option Value} {base : Heap} {x : Str} {st : Stmt} {f : Addr} {fd : FuncData} {N ps : List Str} {k : Nat} {sp : Sp} (F : Fun K x x st f fd) (hm : mg x = some (.ref f)) (hb : Binds K fd ps [])
    (S : FnScope N ps (defScope st)) (len : ∀ vs H Q E, sp vs H Q E → vs.length = ps.length)
    (hbody : ∀ (cdv : Value) (A : Around) (outer : List Env) (s : Shared) (H : Hp) (vs : List V) (Q : VK) (E : XK), Room k (A.deeper (envOfC x (defScope st) s.heap.objs.size f cdv)) → sp vs H Q E →
      ∃ t, PSs (cxOf CX0 P w K mg base N x (defScope st) f cdv A outer s H E).nox (defBody st) t ∧ t { nx := fun _ H' => Q .non H', rt := Q } (start N vs) H) : Cal P w K mg base x ps (k + 1) sp :=
  ⟨f, fd, F.ok S len hbody, hm, F.kp, hb⟩
noncomputable def rBits : V → List V → Hp → VK → Prop := fun x vs H Q => ∃ i, x = .int i ∧ vs = [] ∧ Q (.int (Builtin.Int.intBits i : Nat)) H
theorem mt_bits : MtR X "int.bit_length" rBits := by
  intro pins s σ H x vs v us Q I rx rv h
  obtain ⟨i, rfl, rfl, q⟩ := h
  obtain ⟨t, rfl⟩ := rx
  cases rv
  exact call_int_bit_length ⟨.int (Builtin.Int.intBits i : Nat), H, I.tok _, ⟨_, rfl⟩, q⟩
noncomputable def tBits (to : TE) : TE := fun σ H Q => to σ H fun x H1 => ∃ i, x = .int i ∧ Q (.int (Builtin.Int.intBits i : Nat)) H1
theorem pe_bits {o : Expr} {to : TE} {apos cpos : Pos} (ho : PE X o to) (hbase : attributeBase o "bit_length" X.env (eval o X.env) = eval o X.env := by rfl) (hline : (apos.endLine == cpos.line) = true := by rfl) (hm : Mono to) : PE X (.Call (.Attribute o "bit_length" apos) [] [] cpos) (tBits to) := by
  intro pins s σ H Q I h
  refine pe_bm0 PySem.F.plainAttrs_int slot_int_bit_length type_int_bit_length mt_bits ho hbase hline pins s σ H Q I (hm σ H _ _ (fun v H' ⟨i, e, q⟩ => ?_) h)
  subst e
  exact ⟨rfl, i, rfl, rfl, q⟩
theorem mono_var {i : Nat} : Mono (tVar i) := fun _ _ _ _ m ⟨v, e, q⟩ => ⟨v, e, m _ _ q⟩
section
variable {pins : List (Addr × Obj)} {σ : St} {H : Hp} {s : Shared}
theorem Inv.walk {p : Addr} {xs : List V} {E : Value → Shared → Prop} {R : Value → Shared → Prop} (I : Inv X pins σ H s) (hc : X.calm = true) (hq : sq H p = some xs)
    (h : ∀ (it : Addr) (its : List Value) (s2 : Shared) (St : Nat → Heap → Prop) (fp : List Addr), Vals xs its → Walks X.prog X.w X.A.in1 it fp [it] its.length (fun i v => its[i]? = some v) St → St 0 s2.heap → (∀ b ∈ fp, b < s2.heap.objs.size) → s2.heap.objs.size = it + 1 →
      (∀ h' tk, (∀ b o, b ∉ [it] → s2.heap.get? b = some o → h'.get? b = some o) → Inv X pins σ H { s2 with heap := h', toks := tk }) → R (.ref it) s2) :
    wpAny (model X.prog X.w) X.A.in1 (pyIter (.ref p)) R E s := by
  have hd : X.A.in1.handled = none := I.ok.hd hc
  have key : ∀ (ob : Obj), Inv X pins σ H { s with heap := s.heap.push ob } ∧ ∀ h' tk, (∀ b o, b ∉ [s.heap.objs.size] → (s.heap.push ob).get? b = some o → h'.get? b = some o) → Inv X pins σ H { s with heap := h', toks := tk } := fun ob => by
    refine ⟨I.kept (t' := s.toks) fun b o e => Heap.get?_push_of_some _ e, fun h' tk k => I.kept fun b o e => k b o (fun z => ?_) (Heap.get?_push_of_some _ e)⟩
    have e' : b = s.heap.objs.size := by simpa using z
    exact Nat.lt_irrefl _ (e' ▸ Heap.lt_size e)
  rcases sq_seq (K := X.K) hq with k | k
  · obtain ⟨its, rv, pl, hz⟩ := I.list k
    have ne : p ≠ s.heap.objs.size := Nat.ne_of_lt (let ⟨_, e, _⟩ := pl.isList; Heap.lt_size e)
    refine wpAny_pyIter_list pl.isList ?_
    refine h s.heap.objs.size its _ (fun i h => h.IsListIter s.heap.objs.size p i ∧ h.IsList p its.toArray) [s.heap.objs.size, p] rv (by simpa using Walks.list hd s.heap.objs.size p ne its.toArray) ⟨⟨_, Heap.get?_push_size _ rfl, rfl, rfl⟩, pl.isList.at fun o e => Heap.get?_push_of_some _ e⟩ (fun b hb => ?_) (Heap.size_push ..) (key _).2
    rw [Heap.size_push]
    rcases List.mem_cons.mp hb with rfl | hb
    · exact Nat.lt_succ_self _
    · have e : b = p := by simpa using hb
      subst e
      exact Nat.lt_succ_of_lt (let ⟨_, e, _⟩ := pl.isList; Heap.lt_size e)
  · obtain ⟨its, rv, pl, hz⟩ := I.tuple k
    have lt : p < s.heap.objs.size := pl.lt
    have ne : p ≠ s.heap.objs.size := Nat.ne_of_lt lt
    refine wpAny_pyIter_tuple (show s.heap.IsTuple p its.toArray from pl) ?_
    refine h s.heap.objs.size its _ (fun i h => h.IsTupleIter s.heap.objs.size p i ∧ h.IsTuple p its.toArray) [s.heap.objs.size, p] rv (by simpa using Walks.tuple hd s.heap.objs.size p ne its.toArray) ⟨⟨_, Heap.get?_push_size _ rfl, rfl, rfl⟩, (show s.heap.IsTuple p its.toArray from pl).at fun o e => Heap.get?_push_of_some _ e⟩ (fun b hb => ?_) (Heap.size_push ..) (key _).2
    rw [Heap.size_push]
    rcases List.mem_cons.mp hb with rfl | hb
    · exact Nat.lt_succ_self _
    · have e : b = p := by simpa using hb
      subst e
      exact Nat.lt_succ_of_lt lt
end
theorem vals_int_get {ns : List Int} {its : List Value} (r : Vals (ns.map V.int) its) {i : Nat} {v : Value} (h : its[i]? = some v) : ∃ t, v = .int (ns.getD i 0) t := by
  have hl := r.length
  rw [List.length_map] at hl
  have hi : i < ns.length := by rw [hl]; exact (List.getElem?_eq_some_iff.mp h).1
  obtain ⟨u, hu, t, rfl⟩ := r.get (i := i) (x := V.int ns[i]) (by simp [hi])
  rw [h] at hu
  cases hu
  exact ⟨t, by simp [List.getD_eq_getElem?_getD, hi]⟩
theorem vals_bl_get {bs : List Bool} {its : List Value} (r : Vals (bs.map V.bl) its) {i : Nat} {v : Value} (h : its[i]? = some v) : v = .bool (bs.getD i true) := by
  have hl := r.length
  rw [List.length_map] at hl
  have hi : i < bs.length := by rw [hl]; exact (List.getElem?_eq_some_iff.mp h).1
  obtain ⟨u, hu, e⟩ := r.get (i := i) (x := V.bl bs[i]) (by simp [hi])
  rw [h] at hu
  cases hu
  rw [show v = Value.bool bs[i] from e]
  simp [List.getD_eq_getElem?_getD, hi]
theorem truth_bl {bs : List Bool} {its : List Value} (r : Vals (bs.map V.bl) its) (A : Around) : TruthOf X.prog X.w A (fun i v => its[i]? = some v) (fun i => bs.getD i true) := fun i v s Q E h q => by
  rw [vals_bl_get r h]
  exact wpAny_truthy_bool q
theorem range_all (bs : List Bool) : (List.range bs.length).all (fun i => bs.getD i true) = bs.all id := by
  rw [Bool.eq_iff_iff, List.all_eq_true, List.all_eq_true]
  constructor
  · intro h b hb
    obtain ⟨i, hi, rfl⟩ := List.mem_iff_getElem.mp hb
    have := h i (List.mem_range.mpr hi)
    simpa [List.getD_eq_getElem?_getD, hi] using this
  · intro h i hi
    have hi' := List.mem_range.mp hi
    have := h bs[i] (List.getElem_mem hi')
    simpa [List.getD_eq_getElem?_getD, hi'] using this
theorem all0 (hc : X.calm = true) : CallR X (.builtin "all") (fun xs H Q => ∃ (p : Addr) (bs : List Bool), xs = [.ref p] ∧ sq H p = some (bs.map V.bl) ∧ Q (.bl (bs.all id)) H) := by
  intro pins s σ H xs us Q I r h
  obtain ⟨p, bs, rfl, hq, q⟩ := h
  obtain ⟨u, rfl, ru⟩ := r.one
  cases ru
  refine call_all_walk (I.walk hc hq fun it its s2 St fp rv W st hfp hsz J => ?_)
  have hl := rv.length
  rw [List.length_map] at hl
  refine ⟨it, fp, [it], its.length, _, St, fun i => bs.getD i true, rfl, W, st, truth_bl rv _, fun h' tk k => ⟨.bl (bs.all id), H, J h' tk k, ?_, q⟩⟩
  rw [← hl, range_all]
  exact rfl
noncomputable def tyN (H : Hp) : V → Option String
  | .non => some "NoneType"
  | .bl _ => some "bool"
  | .int _ => some "int"
  | .str _ => some "str"
  | .ref a => match H a with
    | some (.lst _) => some "list"
    | some (.tup _) => some "tuple"
    | some (.dK _) => some "dict"
    | _ => none
  | _ => none
noncomputable def subN (t T : String) : Bool := t == T || (t == "bool" && T == "int")
theorem tyN_of {K : PySem.W.Frag} {H : Hp} {x : V} {t : String} (h : tyN H x = some t) : TyOf K H x (.type t) ∧ (t = "NoneType" ∨ t = "bool" ∨ t = "int" ∨ t = "str" ∨ t = "list" ∨ t = "tuple" ∨ t = "dict") := by
  cases x with
  | non => cases h; exact ⟨.non, by simp⟩
  | bl b => cases h; exact ⟨.bl b, by simp⟩
  | int i => cases h; exact ⟨.int i, by simp⟩
  | str i => cases h; exact ⟨.str i, by simp⟩
  | ref a =>
    cases e : H a with
    | none => simp [tyN, e] at h
    | some o =>
      cases o with
      | lst xs => simp [tyN, e] at h; subst h; exact ⟨.lst e, by simp⟩
      | tup xs => simp [tyN, e] at h; subst h; exact ⟨.tup e, by simp⟩
      | dK xs => simp [tyN, e] at h; subst h; exact ⟨.dK e, by simp⟩
      | _ => simp [tyN, e] at h
  | _ => cases h
theorem kit_of {K : PySem.W.Frag} {t T : String} (h : t = "NoneType" ∨ t = "bool" ∨ t = "int" ∨ t = "str" ∨ t = "list" ∨ t = "tuple" ∨ t = "dict") (hT : T = "int" ∨ T = "bool" ∨ T = "tuple" ∨ T = "str" ∨ T = "list") : PySem.W.kitOne K (.type t) (.type T) = some (subN t T) := by
  rcases h with rfl | rfl | rfl | rfl | rfl | rfl | rfl <;> rcases hT with rfl | rfl | rfl | rfl | rfl <;> rfl
theorem isi0 : CallR X (.builtin "isinstance") (fun xs H Q => ∃ x T t, xs = [x, .ty T] ∧ tyN H x = some t ∧ (T = "int" ∨ T = "bool" ∨ T = "tuple" ∨ T = "str" ∨ T = "list") ∧ Q (.bl (subN t T)) H) := by
  intro pins s σ H xs us Q I r h
  obtain ⟨x, T, t, rfl, ht, hT, q⟩ := h
  obtain ⟨u, v, rfl, ru, rv⟩ := r.two
  cases (show v = Value.type T from rv)
  obtain ⟨ty, ht'⟩ := tyN_of (K := X.K) ht
  exact isinst_ok I ru ty (kit_of ht' hT) fun tk => ⟨.bl (subN t T), H, I.tok tk, rfl, q⟩
end
end L2
end
section
set_option Elab.async false
set_option linter.all false
set_option maxRecDepth 100000
namespace L2
open PySem PySem.Spec PyProof.Rows
theorem bt_len : bootBuiltins "len" = some (.builtin "len") := by decide +kernel
theorem bt_all : bootBuiltins "all" = some (.builtin "all") := by decide +kernel
theorem bt_isinstance : bootBuiltins "isinstance" = some (.builtin "isinstance") := by decide +kernel
theorem bt_abs : bootBuiltins "abs" = some (.builtin "abs") := by decide +kernel
theorem bt_min : bootBuiltins "min" = some (.builtin "min") := by decide +kernel
theorem bt_max : bootBuiltins "max" = some (.builtin "max") := by decide +kernel
theorem bt_tuple : bootBuiltins "tuple" = some (.type "tuple") := by decide +kernel
theorem bt_int : bootBuiltins "int" = some (.type "int") := by decide +kernel
theorem bt_bool : bootBuiltins "bool" = some (.type "bool") := by decide +kernel
theorem bt_str : bootBuiltins "str" = some (.type "str") := by decide +kernel
theorem for_seq {f : Hp → Prop} {xs : List V} {g : TG} {tb : TS} {D : Ends} {σ : St} {H : Hp} (Pv : Nat → St → Hp → Prop) (h0 : Pv 0 σ H) (hl : ∀ i σ H, i ≤ xs.length → Pv i σ H → f H)
    (hs : ∀ i x σ H, xs[i]? = some x → Pv i σ H → g x σ H fun σ2 H2 => tb { D with nx := Pv (i + 1), ct := Pv (i + 1), bk := D.nx } σ2 H2) (hd : ∀ σ H, Pv xs.length σ H → D.nx σ H) :
    ∃ W : Nat → Nat → St → Hp → Prop, (∃ m, W 0 m σ H) ∧ ∀ i m σ H, W i m σ H →
      ((ItS f xs).stop i H ∧ D.nx σ H) ∨ ((ItS f xs).go i H ∧ ∃ N : St → Hp → Prop, (∀ σ' H', N σ' H' → ∃ m', m' < m ∧ W (i + 1) m' σ' H') ∧ ∀ x H', (ItS f xs).yld i H x H' → g x σ H' fun σ2 H2 => tb { D with nx := N, ct := N, bk := D.nx } σ2 H2) := by
  refine ⟨fun i m σ H => m = xs.length - i ∧ i ≤ xs.length ∧ Pv i σ H, ⟨xs.length, by simp, Nat.zero_le _, h0⟩, ?_⟩
  rintro i m σ H ⟨rfl, hi, p⟩
  have q := hl i σ H hi p
  by_cases hlt : i < xs.length
  · refine .inr ⟨⟨q, hlt⟩, Pv (i + 1), fun σ' H' p' => ⟨xs.length - (i + 1), by omega, rfl, hlt, p'⟩, fun x H' y => ?_⟩
    obtain ⟨e, y⟩ := y
    subst e
    exact hs i x σ _ y p
  · have e : i = xs.length := by omega
    subst e
    exact .inl ⟨⟨q, Nat.le_refl _⟩, hd σ H p⟩
theorem cl_seq {f : Hp → Prop} {xs : List V} {g : TG} {tc : TT} {tb : TB} {D : St → Hp → Prop} {σ : St} {H : Hp} (Pv : Nat → St → Hp → Prop) (h0 : Pv 0 σ H) (hl : ∀ i σ H, i ≤ xs.length → Pv i σ H → f H)
    (hs : ∀ i x σ H, xs[i]? = some x → Pv i σ H → g x σ H fun σ2 H2 => tc σ2 H2 fun b H3 => if b = true then tb σ2 H3 (Pv (i + 1)) else Pv (i + 1) σ2 H3) (hd : ∀ σ H, Pv xs.length σ H → D σ H) : tCL (ItS f xs) g tc tb D σ H := by
  refine ⟨fun i m σ H => m = xs.length - i ∧ i ≤ xs.length ∧ Pv i σ H, ⟨xs.length, by simp, Nat.zero_le _, h0⟩, ?_⟩
  rintro i m σ H ⟨rfl, hi, p⟩
  have q := hl i σ H hi p
  by_cases hlt : i < xs.length
  · refine .inr ⟨⟨q, hlt⟩, Pv (i + 1), fun σ' H' p' => ⟨xs.length - (i + 1), by omega, rfl, hlt, p'⟩, fun x H' y => ?_⟩
    obtain ⟨e, y⟩ := y
    subst e
    exact hs i x σ _ y p
  · have e : i = xs.length := by omega
    subst e
    exact .inl ⟨⟨q, Nat.le_refl _⟩, hd σ H p⟩
theorem cl_range {lo : Int} {n : Nat} {g : TG} {tc : TT} {tb : TB} {D : St → Hp → Prop} {σ : St} {H : Hp} (Pv : Nat → St → Hp → Prop) (h0 : Pv 0 σ H)
    (hs : ∀ i σ H, i < n → Pv i σ H → g (.int (lo + i)) σ H fun σ2 H2 => tc σ2 H2 fun b H3 => if b = true then tb σ2 H3 (Pv (i + 1)) else Pv (i + 1) σ2 H3) (hd : ∀ σ H, Pv n σ H → D σ H) : tCL (Itr lo n) g tc tb D σ H := by
  refine ⟨fun i m σ H => m = n - i ∧ i ≤ n ∧ Pv i σ H, ⟨n, by simp, Nat.zero_le _, h0⟩, ?_⟩
  rintro i m σ H ⟨rfl, hi, p⟩
  by_cases hlt : i < n
  · refine .inr ⟨hlt, Pv (i + 1), fun σ' H' p' => ⟨n - (i + 1), by omega, rfl, hlt, p'⟩, fun x H' y => ?_⟩
    obtain ⟨e, y⟩ := y
    subst e y
    exact hs i σ _ hlt p
  · have e : i = n := by omega
    subst e
    exact .inl ⟨Nat.le_refl _, hd σ H p⟩
noncomputable def Box (H : Hp) (p : Addr) : Prop := ∃ g m c : Int, H p = some (.lst [.int g, .int m, .int c])
noncomputable def But (p : Addr) (H H' : Hp) : Prop := ∀ b, b ≠ p → H' b = H b
theorem But.refl {p : Addr} {H : Hp} : But p H H := fun _ _ => rfl
theorem But.trans {p : Addr} {H H1 H2 : Hp} (a : But p H H1) (b : But p H1 H2) : But p H H2 := fun c h => (b c h).trans (a c h)
theorem But.upd {p : Addr} {H : Hp} {o : HO} : But p H (upd H p o) := fun _ h => upd_ne h
theorem But.sq {p a : Addr} {H H' : Hp} (h : But p H H') (n : a ≠ p) : sq H' a = sq H a := by unfold L2.sq; rw [h a n]
noncomputable def spTake : Sp := fun vs H Q _ => ∃ (p : Addr) (many : Int), vs = [.ref p, .int many] ∧ Box H p ∧ 0 < many ∧ many < 1073741824 ∧ ∀ (r : Int) (H' : Hp), 0 ≤ r → r < many → Box H' p → But p H H' → Q (.int r) H'
noncomputable def Scr (K : PySem.W.Frag) (a : Addr) (ns : List Int) (H : Hp) : Prop := SqL K H a (ns.map V.int)
noncomputable def spBox (K : PySem.W.Frag) : Sp := fun vs H Q _ => ∃ (a : Addr) (k : Nat) (ns : List Int), vs = [.ref a, .int (k : Int)] ∧ Scr K a ns H ∧ k ≤ 100 ∧ ∀ (p : Addr) (H' : Hp), H p = none → Box H' p → But p H H' → Q (.ref p) H'
theorem same_upd {H : Hp} {p : Addr} {o : HO} (n : H p = none) : Same H (upd H p o) := fun b u e => by rw [upd_ne (ne_of_none e n)]; exact e
section
variable {X : Cx}
noncomputable def tTupA (t : TA) : TE := fun σ H Q => t σ H fun xs H1 => xs.length ≤ sizeLine ∧ ∀ (p : Addr) (H2 : Hp), H1 p = none → Same H1 H2 → H2 p = some (.tup xs) → Q (.ref p) H2
theorem pe_tupA {es : List Expr} {t : TA} {x1} {pos : Pos} (h : PA X es t) : PE X (.Tuple es x1 pos) (tTupA t) := by
  intro pins s σ H Q I hq
  refine Tuple_ (thn (h pos pins s σ H _ I hq) fun us s1 ⟨xs, H1, I1, r, z, q⟩ => ?_)
  have hf : H1 s1.heap.objs.size = none := I1.hok.fresh (Nat.le_refl _)
  refine wpAny_newObj_type ?_ (by show us.toArray.size ≤ sizeLine; rw [List.size_toArray, ← r.length]; exact z)
  refine ⟨.ref s1.heap.objs.size, upd H1 s1.heap.objs.size (.tup xs), I1.laid (t' := s1.toks) (fun b u e => Heap.get?_push_of_some _ e) (Nat.le_refl _) ?_, rfl, q _ _ hf (same_upd hf) upd_same⟩
  exact ⟨z, us, r, IsTup.new s1.heap _⟩
theorem tupA0 : CallR X (.type "tuple") (fun xs H Q => ∃ p ys, xs = [.ref p] ∧ H p = some (.lst ys) ∧ ∀ (l : Addr) (H2 : Hp), H l = none → Same H H2 → H2 l = some (.tup ys) → Q (.ref l) H2) := by
  intro pins s σ H xs us Q I r h
  obtain ⟨p, ys, e, hq, q⟩ := h
  exact tupL0 pins s σ H xs us Q I r ⟨p, ys, e, hq, fun l n => q l _ n (same_upd n) upd_same⟩
theorem a_tTupA {t : TA} {σ : St} {H : Hp} {Q : VK} : tTupA t σ H Q = t σ H fun xs H1 => xs.length ≤ sizeLine ∧ ∀ (p : Addr) (H2 : Hp), H1 p = none → Same H1 H2 → H2 p = some (.tup xs) → Q (.ref p) H2 := rfl
end
section
variable {D : Ends} {σ : St} {H : Hp} {Q : VK} {QB : Bool → Hp → Prop} {QA : List V → Hp → Prop} {QG : St → Hp → Prop} {R : It → Hp → Prop}
theorem a_tSeq {t u : TS} : tSeq t u D σ H = t { D with nx := u D } σ H := rfl
theorem a_tRet {te : TE} : tRet te D σ H = te σ H D.rt := rfl
theorem a_tRetN : tRetN D σ H = D.rt .non H := rfl
theorem a_tNext : tNext D σ H = D.nx σ H := rfl
theorem a_tDrop {te : TE} : tDrop te D σ H = te σ H fun _ H1 => D.nx σ H1 := rfl
theorem a_tAsg {te : TE} {g : TG} : tAsg te g D σ H = te σ H fun x H1 => g x σ H1 D.nx := rfl
theorem a_tIfS {c : TT} {t u : TS} : tIfS c t u D σ H = c σ H fun b H1 => if b = true then t D σ H1 else u D σ H1 := rfl
theorem a_tPar {i j : Nat} {ta : TA} : tPar i j ta D σ H = ta σ H fun vs H1 => ∃ v w, vs = [v, w] ∧ D.nx ((σ.set i (some v)).set j (some w)) H1 := rfl
theorem a_gName {i : Nat} {v : V} : gName i v σ H QG = QG (σ.set i (some v)) H := rfl
theorem a_gNil {vs : List V} : gNil vs σ H QG = (vs = [] ∧ QG σ H) := rfl
theorem a_gCons {t : TG} {u : TGs} {vs : List V} : gCons t u vs σ H QG = ∃ v r, vs = v :: r ∧ t v σ H fun σ' H' => u r σ' H' QG := rfl
theorem a_gTup0 {n : Nat} {t : TGs} {v : V} : gTup0 n t v σ H QG = ∃ a xs, v = .ref a ∧ H a = some (.tup xs) ∧ xs.length = n ∧ t xs σ H QG := rfl
theorem a_gSub {to ti : TE} {t : TSet} {v : V} : gSub to ti t v σ H QG = to σ H fun o H1 => ti σ H1 fun i H2 => t o i v H2 fun H3 => QG σ H3 := rfl
theorem a_rSetL {o i v : V} {q : Hp → Prop} : rSetL o i v H q = ∃ p xs k j, o = .ref p ∧ i = .int k ∧ H p = some (.lst xs) ∧ ixN xs.length k = some j ∧ q (upd H p (.lst (xs.set j v))) := rfl
theorem a_tAnd {t u : TT} : tAnd t u σ H QB = t σ H fun c H1 => if c = true then u σ H1 QB else QB false H1 := rfl
theorem a_tOr {t u : TT} : tOr t u σ H QB = t σ H fun c H1 => if c = true then QB true H1 else u σ H1 QB := rfl
theorem a_tNot {t : TT} : tNot t σ H QB = t σ H fun c H1 => QB (!c) H1 := rfl
theorem a_tTest {t : TE} : tTest t σ H QB = t σ H fun x H' => ∃ k, x = .bl k ∧ QB k H' := rfl
theorem a_tB {t : TE} : tB t σ H QB = t σ H fun x H1 => ∃ c, x = .bl c ∧ QB c H1 := rfl
theorem a_tTrue : tTrue σ H QB = QB true H := rfl
theorem a_tIf {t : TT} {ta tb : TE} : tIf t ta tb σ H Q = t σ H fun c H1 => if c = true then ta σ H1 Q else tb σ H1 Q := rfl
theorem a_tAndV {ta tb : TE} : tAndV ta tb σ H Q = ta σ H fun x H1 => ∃ c, x = .bl c ∧ if c = true then tb σ H1 Q else Q (.bl false) H1 := rfl
theorem a_tOrV {ta tb : TE} : tOrV ta tb σ H Q = ta σ H fun x H1 => ∃ c, x = .bl c ∧ if c = true then Q (.bl true) H1 else tb σ H1 Q := rfl
theorem a_tNotV {ta : TE} : tNotV ta σ H Q = ta σ H fun x H1 => ∃ c, x = .bl c ∧ Q (.bl (!c)) H1 := rfl
theorem a_tOp {r : R2} {ta tb : TE} : tOp r ta tb σ H Q = ta σ H fun x H1 => tb σ H1 fun y H2 => r x y H2 Q := rfl
theorem a_tUn {r : V → Hp → VK → Prop} {ta : TE} : tUn r ta σ H Q = ta σ H fun x H1 => r x H1 Q := rfl
theorem a_rU {g : Int → V} {x : V} : rU g x H Q = ∃ i, x = .int i ∧ Q (g i) H := rfl
theorem a_tVar {i : Nat} : tVar i σ H Q = ∃ v, σ[i]? = some (some v) ∧ Q v H := rfl
theorem a_tC {v : V} : tC v σ H Q = Q v H := rfl
theorem a_rI0 {g : Int → Int → V} {x y : V} : rI0 g x y H Q = ∃ i j, x = .int i ∧ y = .int j ∧ Q (g i j) H := rfl
theorem a_rI {C : Int → Int → Prop} {g : Int → Int → V} {x y : V} : rI C g x y H Q = ∃ i j, x = .int i ∧ y = .int j ∧ C i j ∧ Q (g i j) H := rfl
theorem a_rEq {x y : V} : rEq x y H Q = (scal x y = true ∧ Q (.bl (decide (x = y))) H) := rfl
theorem a_rNe {x y : V} : rNe x y H Q = (scal x y = true ∧ Q (.bl (!decide (x = y))) H) := rfl
theorem a_rIx0 {x y : V} : rIx0 x y H Q = ∃ p xs i v, x = .ref p ∧ y = .int i ∧ sq H p = some xs ∧ atI xs i = some v ∧ Q v H := rfl
theorem a_rIn0 {neg : Bool} {x y : V} : rIn0 neg x y H Q = ∃ p xs, y = .ref p ∧ sq H p = some xs ∧ flatV x = true ∧ xs.all flatV = true ∧ Q (.bl (if neg then !inV x xs else inV x xs)) H := rfl
theorem a_tCB {r : List V → Hp → VK → Prop} {t : TA} : tCB r t σ H Q = t σ H fun vs H1 => r vs H1 Q := rfl
theorem a_tCal {sp : Sp} {t : TA} : tCal sp t σ H Q = t σ H fun vs H1 => sp vs H1 Q E0 := rfl
theorem a_tCons {ta : TE} {tr : TA} : tCons ta tr σ H QA = ta σ H fun x H1 => tr σ H1 fun xs H2 => QA (x :: xs) H2 := rfl
theorem a_tNil : tNil σ H QA = QA [] H := rfl
theorem a_tLst {t : TA} : tLst t σ H Q = t σ H fun xs H1 => xs.length ≤ sizeLine ∧ ∀ p, H1 p = none → Q (.ref p) (upd H1 p (.lst xs)) := rfl
theorem a_tBits {to : TE} : tBits to σ H Q = to σ H fun x H1 => ∃ i, x = .int i ∧ Q (.int (Builtin.Int.intBits i : Nat)) H1 := rfl
theorem a_tLC {fr : List (Option Nat)} {wi : TI} {g : TG} {tc : TT} {te : TE} : tLC fr wi g tc te σ H Q = wi σ H fun J H1 => ∀ p, H1 p = none → tCL J g tc (tEmit p te) (fun _ H2 => Q (.ref p) H2) (frS fr σ) (upd H1 p (.lst [])) := rfl
theorem a_iRng1 {ta : TA} : iRng1 ta σ H R = ta σ H fun vs H1 => ∃ j : Int, vs = [.int j] ∧ -(2 ^ 62) ≤ j ∧ j < 2 ^ 62 ∧ R (Itr 0 j.toNat) H1 := rfl
theorem a_iRng2 {ta : TA} : iRng2 ta σ H R = ta σ H fun vs H1 => ∃ i j : Int, vs = [.int i, .int j] ∧ (-(2 ^ 62) ≤ i ∧ i < 2 ^ 62 ∧ -(2 ^ 62) ≤ j ∧ j < 2 ^ 62) ∧ R (Itr i (j - i).toNat) H1 := rfl
theorem a_iT0 {tl : TE} : iT0 tl σ H R = tl σ H fun x H1 => ∃ a xs, x = .ref a ∧ H1 a = some (.tup xs) ∧ R (ItS (fun H => H a = some (.tup xs)) xs) H1 := rfl
theorem a_iL0 {tl : TE} : iL0 tl σ H R = tl σ H fun x H1 => ∃ a xs, x = .ref a ∧ H1 a = some (.lst xs) ∧ R (ItS (fun H => H a = some (.lst xs)) xs) H1 := rfl
theorem a_tEmit {p : Addr} {te : TE} : tEmit p te σ H QG = te σ H fun y H1 => ∃ ys, H1 p = some (.lst ys) ∧ ys.length < sizeLine ∧ QG σ (upd H1 p (.lst (ys ++ [y]))) := rfl
end
noncomputable def FL (J : It) (g : TG) (tb : TS) (D : Ends) (σ : St) (H1 : Hp) : Prop := ∃ W : Nat → Nat → St → Hp → Prop, (∃ m, W 0 m σ H1) ∧ ∀ i m σ H, W i m σ H →
  (J.stop i H ∧ D.nx σ H) ∨ (J.go i H ∧ ∃ N : St → Hp → Prop, (∀ σ' H', N σ' H' → ∃ m', m' < m ∧ W (i + 1) m' σ' H') ∧ ∀ x H', J.yld i H x H' → g x σ H' fun σ2 H2 => tb { D with nx := N, ct := N, bk := D.nx } σ2 H2)
theorem a_tFor {wi : TI} {g : TG} {tb : TS} {D : Ends} {σ : St} {H : Hp} : tFor wi g tb D σ H = wi σ H fun J H1 => FL J g tb D σ H1 := rfl
theorem fl_seq {f : Hp → Prop} {xs : List V} {g : TG} {tb : TS} {D : Ends} {σ : St} {H : Hp} (Pv : Nat → St → Hp → Prop) (h0 : Pv 0 σ H) (hl : ∀ i σ H, i ≤ xs.length → Pv i σ H → f H)
    (hs : ∀ i x σ H, xs[i]? = some x → Pv i σ H → g x σ H fun σ2 H2 => tb { D with nx := Pv (i + 1), ct := Pv (i + 1), bk := D.nx } σ2 H2) (hd : ∀ σ H, Pv xs.length σ H → D.nx σ H) : FL (ItS f xs) g tb D σ H := for_seq Pv h0 hl hs hd
theorem fl_range {lo : Int} {n : Nat} {g : TG} {tb : TS} {D : Ends} {σ : St} {H : Hp} (Pv : Nat → St → Hp → Prop) (h0 : Pv 0 σ H)
    (hs : ∀ i σ H, i < n → Pv i σ H → g (.int (lo + i)) σ H fun σ2 H2 => tb { D with nx := Pv (i + 1), ct := Pv (i + 1), bk := D.nx } σ2 H2) (hd : ∀ σ H, Pv n σ H → D.nx σ H) : FL (Itr lo n) g tb D σ H := for_range Pv h0 hs hd
noncomputable def SameX (c : Addr) (H H' : Hp) : Prop := ∀ b o, b ≠ c → H b = some o → H' b = some o
theorem SameX.refl {c : Addr} {H : Hp} : SameX c H H := fun _ _ _ h => h
theorem SameX.trans {c : Addr} {H H1 H2 : Hp} (a : SameX c H H1) (b : SameX c H1 H2) : SameX c H H2 := fun d o n h => b d o n (a d o n h)
theorem SameX.upd {c : Addr} {H : Hp} {o : HO} : SameX c H (upd H c o) := fun b u n h => by rw [upd_ne n]; exact h
theorem Same.x {c : Addr} {H H' : Hp} (h : Same H H') : SameX c H H' := fun b o _ e => h b o e
theorem SameX.same {c : Addr} {H H' : Hp} (h : SameX c H H') (n : H c = none) : Same H H' := fun b o e => h b o (ne_of_none e n) e
theorem But.x {p : Addr} {H H' : Hp} (h : But p H H') : SameX p H H' := fun b o n e => by rw [h b n]; exact e
theorem Same.sq {H H' : Hp} (h : Same H H') {a : Addr} {xs : List V} (e : L2.sq H a = some xs) : L2.sq H' a = some xs := by
  unfold L2.sq at e ⊢
  cases q : H a with
  | none => rw [q] at e; cases e
  | some o => rw [q] at e; rw [h a o q]; exact e
theorem SameX.sq {c : Addr} {H H' : Hp} (h : SameX c H H') {a : Addr} {xs : List V} (n : a ≠ c) (e : L2.sq H a = some xs) : L2.sq H' a = some xs := by
  unfold L2.sq at e ⊢
  cases q : H a with
  | none => rw [q] at e; cases e
  | some o => rw [q] at e; rw [h a o n q]; exact e
theorem Scr.keep {K : PySem.W.Frag} {a p : Addr} {ns : List Int} {H H' : Hp} (h : Scr K a ns H) (n : H p = none) (s : SameX p H H') : Scr K a ns H' := Same.seq (s.same n) h
theorem a_rIxL {K : PySem.W.Frag} {x y : V} {H : Hp} {Q : VK} : rIxL K x y H Q = ∃ p xs i v, x = .ref p ∧ y = .int i ∧ SqL K H p xs ∧ atI xs i = some v ∧ Q v H := rfl
theorem ixN30 : ixN 3 0 = some 0 := rfl
theorem ixN31 : ixN 3 1 = some 1 := rfl
theorem ixN32 : ixN 3 2 = some 2 := rfl
theorem atI0 {α : Type} (a : α) (l : List α) : atI (a :: l) 0 = some a := atI_nat (j := 0) (xs := a :: l) rfl
theorem atI1 {α : Type} (a b : α) (l : List α) : atI (a :: b :: l) 1 = some b := atI_nat (j := 1) (xs := a :: b :: l) rfl
theorem atI2 {α : Type} (a b c : α) (l : List α) : atI (a :: b :: c :: l) 2 = some c := atI_nat (j := 2) (xs := a :: b :: c :: l) rfl
end L2
end
section
set_option Elab.async false
set_option linter.all false
set_option maxRecDepth 100000
namespace L2
open PySem PySem.Spec PyProof.Rows
noncomputable def SeqOf (h : Heap) (c : String) (l : Addr) (xs : Array Value) : Prop := (c = "list_iterator" ∧ h.IsList l xs) ∨ (c = "tuple_iterator" ∧ h.IsTuple l xs)
noncomputable def Src (h : Heap) (c : String) (it l : Addr) (xs : Array Value) (k : Nat) : Prop := (c = "list_iterator" ∧ h.IsListIter it l k ∧ h.IsList l xs) ∨ (c = "tuple_iterator" ∧ h.IsTupleIter it l k ∧ h.IsTuple l xs)
theorem SeqOf.at {h h' : Heap} {c : String} {l : Addr} {xs : Array Value} (x : SeqOf h c l xs) (k : ∀ o, h.get? l = some o → h'.get? l = some o) : SeqOf h' c l xs := by
  rcases x with ⟨e, x⟩ | ⟨e, x⟩
  · exact .inl ⟨e, x.at k⟩
  · exact .inr ⟨e, x.at k⟩
theorem SeqOf.lt {h : Heap} {c : String} {l : Addr} {xs : Array Value} (x : SeqOf h c l xs) : l < h.objs.size := by
  rcases x with ⟨_, o, e, _⟩ | ⟨_, o, e, _⟩ <;> exact Heap.lt_size e
theorem Src.at {h h' : Heap} {c : String} {it l : Addr} {xs : Array Value} {k : Nat} (x : Src h c it l xs k) (k1 : ∀ o, h.get? it = some o → h'.get? it = some o) (k2 : ∀ o, h.get? l = some o → h'.get? l = some o) : Src h' c it l xs k := by
  rcases x with ⟨e, ⟨o, a, r⟩, y⟩ | ⟨e, ⟨o, a, r⟩, y⟩
  · exact .inl ⟨e, ⟨o, k1 o a, r⟩, y.at k2⟩
  · exact .inr ⟨e, ⟨o, k1 o a, r⟩, y.at k2⟩
theorem Src.ext {h h' : Heap} {c : String} {it l b : Addr} {xs : Array Value} {k : Nat} (x : Src h c it l xs k) (hs : Heap.SameBut b h h') (n1 : it ≠ b) (n2 : l ≠ b) : Src h' c it l xs k :=
  x.at (fun o e => hs.extBut _ _ n1 e) fun o e => hs.extBut _ _ n2 e
section
variable {prog : Program} {w : World} {A : Around} {E : Value → Shared → Prop} {s : Shared}
theorem iter_any {c : String} {l : Addr} {xs : Array Value} {Q : Value → Shared → Prop} (x : SeqOf s.heap c l xs) (h : Q (.ref s.heap.objs.size) { s with heap := s.heap.push { cls := .type c, data := .fields #[.ref l, .int 0 0] } }) : wpAny (model prog w) A (pyIter (.ref l)) Q E s := by
  rcases x with ⟨rfl, x⟩ | ⟨rfl, x⟩
  · exact wpAny_pyIter_list x h
  · exact wpAny_pyIter_tuple x h
theorem nextOf_tup {it l : Addr} {i : Nat} {items : Array Value} {x : Value} {Q : Value → Shared → Prop} (hit : s.heap.IsTupleIter it l i) (ht : s.heap.IsTuple l items) (hx : items[i]? = some x)
    (hQ : ∀ h', h'.IsTupleIter it l (i + 1) → Heap.SameBut it s.heap h' → Q x { s with heap := h' }) : wpAny (model prog w) A (Builtin.SmallTypes.nextOf (.ref it)) Q E s := by
  obtain ⟨o, ho, hc, hd⟩ := id hit
  obtain ⟨ot, hot, _, nt, hdt⟩ := ht
  unfold Builtin.SmallTypes.nextOf
  refine wpAny_bind (wpAny_callSpecial?_slot (name := Str.ofString "__next__") hit.typeIs F.slot_tuple_iterator_next (wpAny_call_entry F.slot_tuple_iterator_next hit.typeIs F.entry_tuple_iterator_next ?_ (F.args_tuple_iterator_next_1 _)))
  refine wpAny_bind (m := field (.ref it) 0) (wpAny_field ho hd (x := .ref l) rfl ?_)
  rw [if_neg (show ¬ ((Value.ref l == Value.none) = true) from Bool.false_ne_true)]
  refine wpAny_bind (m := field (.ref it) 1) (wpAny_field ho hd (x := .int i 0) rfl ?_)
  refine wpAny_bind (m := seqItems? (.ref l)) (wpAny_seqItems hot hdt ?_)
  simp only [Int.toNat_natCast, hx]
  refine wpAny_bind (wpAny_setField ho hd (by simp) (wpAny_pure ⟨x, rfl, wpAny_pure (hQ _ ?_ (Heap.SameBut.update ..))⟩))
  refine ⟨_, Heap.get?_update_self _ ho (Obj.isFreed_of_fields (Obj.data_mapFields hd _)), (Obj.cls_mapFields ..).trans hc, ?_⟩
  rw [Obj.data_mapFields hd]; simp [rawInt]
theorem nx_item {c : String} {it l : Addr} {xs : Array Value} {k : Nat} {x : Value} {Q : Value → Shared → Prop} (S : Src s.heap c it l xs k) (ne : l ≠ it) (hx : xs[k]? = some x)
    (hQ : ∀ h', Src h' c it l xs (k + 1) → Heap.SameBut it s.heap h' → Q x { s with heap := h' }) : wpAny (model prog w) A (Builtin.SmallTypes.nextOf (.ref it)) Q E s := by
  rcases S with ⟨e, a, b⟩ | ⟨e, a, b⟩
  · exact wpAny_nextOf_list_item a b hx fun h' a' sb => hQ h' (.inl ⟨e, a', b.extBut sb.extBut ne⟩) sb
  · exact nextOf_tup a b hx fun h' a' sb => hQ h' (.inr ⟨e, a', b.at fun o q => sb.extBut _ _ ne q⟩) sb
theorem nextOf_tup_end {it l : Addr} {i : Nat} {items : Array Value} {Q : Value → Shared → Prop} (hh : A.handled = none) (hit : s.heap.IsTupleIter it l i) (ht : s.heap.IsTuple l items) (hx : items[i]? = none)
    (hE : ∀ h' e, Heap.ExtBut it s.heap h' → (∃ o, h'.get? e = some o ∧ o.cls = .type "StopIteration") → E (.ref e) { s with heap := h' }) : wpAny (model prog w) A (Builtin.SmallTypes.nextOf (.ref it)) Q E s := by
  obtain ⟨o, ho, hc, hd⟩ := id hit
  obtain ⟨ot, hot, _, nt, hdt⟩ := ht
  unfold Builtin.SmallTypes.nextOf
  refine wpAny_bind (wpAny_callSpecial?_slot (name := Str.ofString "__next__") hit.typeIs F.slot_tuple_iterator_next (wpAny_call_entry F.slot_tuple_iterator_next hit.typeIs F.entry_tuple_iterator_next ?_ (F.args_tuple_iterator_next_1 _)))
  refine wpAny_bind (m := field (.ref it) 0) (wpAny_field ho hd (x := .ref l) rfl ?_)
  rw [if_neg (show ¬ ((Value.ref l == Value.none) = true) from Bool.false_ne_true)]
  refine wpAny_bind (m := field (.ref it) 1) (wpAny_field ho hd (x := .int i 0) rfl ?_)
  refine wpAny_bind (m := seqItems? (.ref l)) (wpAny_seqItems hot hdt ?_)
  simp only [Int.toNat_natCast, hx]
  refine wpAny_bind (wpAny_rule (wpAny_bind (wpAny_setField ho hd (by simp) ?_)))
  refine wpAny_bind (m := newExc (.type "StopIteration") []) ?_
  simp only [newExc, newTuple]
  refine wpAny_bind (wpAny_newObj_type ?_ (by size_fits))
  refine wpAny_bind (m := firstArgMember _ _) (wpAny_of_eq (a := Value.none) (by first | rfl | (simp only [firstArgMember]; rfl)) ?_)
  refine wpAny_newObj_type ?_ (by size_fits)
  simp only [raiseNew]
  refine wpAny_bind (wpAny_handled ?_)
  first | rw [show A.in1.handled = none from hh] | rw [hh]
  refine wpAny_bind (wpAny_pure (wpAny_throw ?_))
  exact hE _ _ (((Heap.SameBut.update ..).extBut.push _).push _) ⟨_, Heap.get?_push_size _ rfl, rfl⟩
theorem nx_end {c : String} {it l : Addr} {xs : Array Value} {k : Nat} {Q : Value → Shared → Prop} (hh : A.handled = none) (S : Src s.heap c it l xs k) (hx : xs[k]? = none)
    (hE : ∀ h' e, Heap.ExtBut it s.heap h' → (∃ o, h'.get? e = some o ∧ o.cls = .type "StopIteration") → E (.ref e) { s with heap := h' }) : wpAny (model prog w) A (Builtin.SmallTypes.nextOf (.ref it)) Q E s := by
  rcases S with ⟨e, a, b⟩ | ⟨e, a, b⟩
  · exact wpAny_nextOf_list_end hh a b hx hE
  · exact nextOf_tup_end hh a b hx hE
structure Zs (h : Heap) (z TI TO i1 i2 : Addr) (c1 c2 : String) (l1 l2 : Addr) (xs ys : Array Value) (k : Nat) : Prop where
  zip : IsZip h z TI TO .none
  ti : IsPair h TI (.ref i1) (.ref i2)
  to : ∃ a b, IsPair h TO a b
  s1 : Src h c1 i1 l1 xs k
  s2 : Src h c2 i2 l2 ys k
theorem zs_item {z TI TO i1 i2 l1 l2 : Addr} {c1 c2 : String} {k : Nat} {xs ys : Array Value} {x y : Value} {Q : Option Value → Shared → Prop} (D : ZipApart z TI TO i1 i2 l1 l2) (Z : Zs s.heap z TI TO i1 i2 c1 c2 l1 l2 xs ys k) (hx : xs[k]? = some x) (hy : ys[k]? = some y)
    (hQ : ∀ h', IsZip h' z TI TO (rawInt s.heap.objs.size) → IsPair h' TI (.ref i1) (.ref i2) → IsPair h' TO x y → Src h' c1 i1 l1 xs (k + 1) → Src h' c2 i2 l2 ys (k + 1) → IsPair h' s.heap.objs.size x y → h'.objs.size = s.heap.objs.size + 1 →
      (∀ c o, c ∉ [z, TO, i1, i2] → s.heap.get? c = some o → h'.get? c = some o) → Q (some (.ref s.heap.objs.size)) { s with heap := h' }) : wpAny (model prog w) A (pyNext (.ref z)) Q E s := by
  obtain ⟨hz, hTI, ⟨a, b, hTO⟩, h1, h2⟩ := Z
  have hT : s.TypeIs (.ref z) "zip" := ⟨_, hz, rfl⟩
  unfold pyNext
  refine wpAny_bind (wpAny_attempt (wpAny_callSpecial?_slot (name := Str.ofString "__next__") hT F.slot_zip_next (wpAny_call_entry F.slot_zip_next hT F.entry_zip_next ?_ (F.args_zip_next_1 _))))
  refine wpAny_bind (m := field (.ref z) 2) (wpAny_field hz rfl (x := .bool false) rfl ?_)
  refine wpAny_bind (m := field (.ref z) 3) (wpAny_field hz rfl (x := .ref TI) rfl ?_)
  refine wpAny_bind (wpAny_seqItems hTI rfl ?_)
  refine wpAny_bind (m := Builtin.SmallTypes.ownedTupleIsFree (.ref z)) ?_
  unfold Builtin.SmallTypes.ownedTupleIsFree
  refine wpAny_bind (wpAny_field hz rfl (x := .none) rfl (wpAny_pure ?_))
  simp only [if_true]
  refine wpAny_bind (wpAny_rule ?_)
  refine wpAny_bind (wpAny_field hz rfl (x := .ref TO) rfl ?_)
  refine wpAny_bind (wpAny_setField_rec hz (by simp) fun ha hza hsa => ?_)
  replace hza : IsZip ha z TI TO .ellipsis := hza
  refine wpAny_bind ?_
  simp only [List.zipIdx_cons, List.zipIdx_nil, List.forIn_cons, List.forIn_nil]
  refine wpAny_bind (wpAny_bind (wpAny_onRaise ?_))
  refine wpAny_bind (m := Builtin.SmallTypes.nextOf (.ref i1)) (nx_item (s := { s with heap := ha }) (h1.ext hsa D.i1z D.l1z) D.l1i1 hx fun hb h1b hsb => wpAny_pure ?_)
  have hTOb : IsPair hb TO a b := hsb.extBut _ _ D.TOi1 (hsa.extBut _ _ D.TOz hTO)
  refine wpAny_bind (wpAny_seqItems hTOb rfl ?_)
  refine wpAny_bind (wpAny_updateSeq_pair hTOb fun hc hTOc hsc => ?_)
  replace hTOc : IsPair hc TO x b := hTOc
  refine wpAny_bind (wpAny_letGo (wpAny_pure ?_))
  refine wpAny_bind (wpAny_bind (wpAny_onRaise ?_))
  refine wpAny_bind (m := Builtin.SmallTypes.nextOf (.ref i2)) (nx_item (s := { s with heap := hc }) (((h2.ext hsa D.i2z D.l2z).ext hsb D.i12.symm D.l2i1).ext hsc D.TOi2.symm D.l2TO) D.l2i2 hy fun hd h2d hsd => wpAny_pure ?_)
  have hTOd : IsPair hd TO x b := hsd.extBut _ _ D.TOi2 hTOc
  refine wpAny_bind (wpAny_seqItems hTOd rfl ?_)
  refine wpAny_bind (wpAny_updateSeq_pair hTOd fun he hTOe hse => ?_)
  replace hTOe : IsPair he TO x y := hTOe
  refine wpAny_bind (wpAny_letGo (wpAny_pure (wpAny_pure ?_)))
  refine wpAny_bind (wpAny_seqItems hTOe rfl ?_)
  refine wpAny_bind (wpAny_newTuple ?_)
  have sz : he.objs.size = s.heap.objs.size := by rw [hse.1, hsd.1, hsc.1, hsb.1, hsa.1]
  have ze : IsZip he z TI TO .ellipsis := hse.extBut _ _ D.TOz.symm (hsd.extBut _ _ D.i2z.symm (hsc.extBut _ _ D.TOz.symm (hsb.extBut _ _ D.i1z.symm hza)))
  have ke : ∀ c o, c ≠ z → c ≠ TO → c ≠ i1 → c ≠ i2 → s.heap.get? c = some o → he.get? c = some o := fun c o n1 n2 n3 n4 e => hse.extBut _ _ n2 (hsd.extBut _ _ n4 (hsc.extBut _ _ n2 (hsb.extBut _ _ n3 (hsa.extBut _ _ n1 e))))
  have h1e : Src he c1 i1 l1 xs (k + 1) := ((h1b.ext hsc D.TOi1.symm D.l1TO).ext hsd D.i12 D.l1i2).ext hse D.TOi1.symm D.l1TO
  have h2e : Src he c2 i2 l2 ys (k + 1) := h2d.ext hse D.TOi2.symm D.l2TO
  have zlt : z < he.objs.size := Heap.lt_size ze
  refine wpAny_bind (m := Builtin.SmallTypes.ownedTupleHandOut (.ref z) (.ref he.objs.size)) ?_
  unfold Builtin.SmallTypes.ownedTupleHandOut
  refine wpAny_bind (wpAny_setField_rec (show IsZip (he.push { cls := .type "tuple", data := .seq #[x, y] }) z TI TO .ellipsis from Heap.get?_push_of_some _ ze) (by simp) fun hf hzf hsf => ?_)
  replace hzf : IsZip hf z TI TO (rawInt he.objs.size) := hzf
  refine wpAny_setField_rec hzf (by simp) fun hg hzg hsg => ?_
  replace hzg : IsZip hg z TI TO (rawInt he.objs.size) := hzg
  have up : ∀ c o, c ≠ z → he.get? c = some o → hg.get? c = some o := fun c o n e => hsg.extBut _ _ n (hsf.extBut _ _ n (Heap.get?_push_of_some _ e))
  have new : IsPair hg he.objs.size x y := hsg.extBut _ _ (Nat.ne_of_gt zlt) (hsf.extBut _ _ (Nat.ne_of_gt zlt) (Heap.get?_push_size _ rfl))
  have szg : hg.objs.size = he.objs.size + 1 := by rw [hsg.1, hsf.1, Heap.size_push]
  refine wpAny_pure ⟨_, rfl, wpAny_pure ?_⟩
  rw [sz] at hzg new szg ⊢
  refine hQ hg hzg (up _ _ D.TIz (ke _ _ D.TIz D.TITO D.TIi1 D.TIi2 hTI)) (up _ _ D.TOz hTOe) (h1e.at (fun o e => up _ o D.i1z e) fun o e => up _ o D.l1z e) (h2e.at (fun o e => up _ o D.i2z e) fun o e => up _ o D.l2z e) new szg fun c o hc' e => ?_
  have n1 : c ≠ z := fun q => hc' (by simp [q])
  exact up c o n1 (ke c o n1 (fun q => hc' (by simp [q])) (fun q => hc' (by simp [q])) (fun q => hc' (by simp [q])) e)
end
end L2
end
section
set_option Elab.async false
set_option linter.all false
set_option maxRecDepth 100000
namespace L2
open PySem PySem.Spec PyProof.Rows
section
variable {prog : Program} {w : World} {A : Around} {E : Value → Shared → Prop} {s : Shared}
theorem zs_end {z TI TO i1 i2 l1 l2 : Addr} {c1 c2 : String} {k : Nat} {xs ys : Array Value} {Q : Option Value → Shared → Prop} (hh : A.handled = none) (D : ZipApart z TI TO i1 i2 l1 l2) (Z : Zs s.heap z TI TO i1 i2 c1 c2 l1 l2 xs ys k) (hend : xs[k]? = none ∨ ys[k]? = none)
    (hQ : ∀ h', (∀ c o, c ∉ [z, TO, i1, i2] → s.heap.get? c = some o → h'.get? c = some o) → Q none { s with heap := h' }) : wpAny (model prog w) A (pyNext (.ref z)) Q E s := by
  obtain ⟨hz, hTI, ⟨a, b, hTO⟩, h1, h2⟩ := Z
  have hT : s.TypeIs (.ref z) "zip" := ⟨_, hz, rfl⟩
  unfold pyNext
  have fin : ∀ h' e, (∀ c o, c ≠ z → c ≠ TO → c ≠ i1 → c ≠ i2 → s.heap.get? c = some o → h'.get? c = some o) → (∃ o, h'.get? e = some o ∧ o.cls = .type "StopIteration") →
      wpAny (model prog w) A (isInstance (.ref e) (.type "StopIteration") >>= fun y => if y = true then pure none else throw (.ref e)) Q E { s with heap := h' } := fun h' e k ⟨o, ho, hc⟩ => by
    refine wpAny_bind (wpAny_isInstance (T := "StopIteration") (b := true) ⟨o, ho, hc⟩ isSubtype_stop ?_)
    exact wpAny_pure (hQ _ fun c o hc' x => k c o (fun q => hc' (by simp [q])) (fun q => hc' (by simp [q])) (fun q => hc' (by simp [q])) (fun q => hc' (by simp [q])) x)
  refine wpAny_bind (wpAny_attempt (wpAny_callSpecial?_slot (name := Str.ofString "__next__") hT F.slot_zip_next (wpAny_call_entry F.slot_zip_next hT F.entry_zip_next ?_ (F.args_zip_next_1 _))))
  refine wpAny_bind (m := field (.ref z) 2) (wpAny_field hz rfl (x := .bool false) rfl ?_)
  refine wpAny_bind (m := field (.ref z) 3) (wpAny_field hz rfl (x := .ref TI) rfl ?_)
  refine wpAny_bind (wpAny_seqItems hTI rfl ?_)
  refine wpAny_bind (m := Builtin.SmallTypes.ownedTupleIsFree (.ref z)) ?_
  unfold Builtin.SmallTypes.ownedTupleIsFree
  refine wpAny_bind (wpAny_field hz rfl (x := .none) rfl (wpAny_pure ?_))
  simp only [if_true]
  refine wpAny_bind (wpAny_rule ?_)
  refine wpAny_bind (wpAny_field hz rfl (x := .ref TO) rfl ?_)
  refine wpAny_bind (wpAny_setField_rec hz (by simp) fun ha hza hsa => ?_)
  replace hza : IsZip ha z TI TO .ellipsis := hza
  refine wpAny_bind ?_
  simp only [List.zipIdx_cons, List.zipIdx_nil, List.forIn_cons, List.forIn_nil]
  refine wpAny_bind (wpAny_bind (wpAny_onRaise ?_))
  cases hx : xs[k]? with
  | none =>
    refine wpAny_bind (m := Builtin.SmallTypes.nextOf (.ref i1)) (nx_end (s := { s with heap := ha }) hh (h1.ext hsa D.i1z D.l1z) hx fun hb e hsb he => ?_)
    obtain ⟨oe, hoe, hce⟩ := he
    have hzb : IsZip hb z TI TO .ellipsis := hsb _ _ D.i1z.symm hza
    have hez : e ≠ z := fun q => by subst q; rw [hzb] at hoe; cases hoe; simp at hce
    refine wpAny_setField_rec hzb (by simp) fun hc _ hsc => fin hc e (fun c o n1 _ n3 _ q => hsc.extBut _ _ n1 (hsb _ _ n3 (hsa.extBut _ _ n1 q))) ⟨oe, hsc.extBut _ _ hez hoe, hce⟩
  | some x =>
    have hy : ys[k]? = none := by rcases hend with h | h; rw [hx] at h; cases h; exact h
    refine wpAny_bind (m := Builtin.SmallTypes.nextOf (.ref i1)) (nx_item (s := { s with heap := ha }) (h1.ext hsa D.i1z D.l1z) D.l1i1 hx fun hb h1b hsb => wpAny_pure ?_)
    have hTOb : IsPair hb TO a b := hsb.extBut _ _ D.TOi1 (hsa.extBut _ _ D.TOz hTO)
    refine wpAny_bind (wpAny_seqItems hTOb rfl ?_)
    refine wpAny_bind (wpAny_updateSeq_pair hTOb fun hc hTOc hsc => ?_)
    refine wpAny_bind (wpAny_letGo (wpAny_pure ?_))
    refine wpAny_bind (wpAny_bind (wpAny_onRaise ?_))
    refine wpAny_bind (m := Builtin.SmallTypes.nextOf (.ref i2)) (nx_end (s := { s with heap := hc }) hh (((h2.ext hsa D.i2z D.l2z).ext hsb D.i12.symm D.l2i1).ext hsc D.TOi2.symm D.l2TO) hy fun hd e hsd he => ?_)
    obtain ⟨oe, hoe, hce⟩ := he
    have hzd : IsZip hd z TI TO .ellipsis := hsd _ _ D.i2z.symm (hsc.extBut _ _ D.TOz.symm (hsb.extBut _ _ D.i1z.symm hza))
    have hez : e ≠ z := fun q => by subst q; rw [hzd] at hoe; cases hoe; simp at hce
    refine wpAny_setField_rec hzd (by simp) fun he _ hse => fin he e (fun c o n1 n2 n3 n4 q => hse.extBut _ _ n1 (hsd _ _ n4 (hsc.extBut _ _ n2 (hsb.extBut _ _ n3 (hsa.extBut _ _ n1 q))))) ⟨oe, hse.extBut _ _ hez hoe, hce⟩
noncomputable abbrev zH1 (h : Heap) (c1 : String) (l1 : Addr) : Heap := h.push { cls := .type c1, data := .fields #[.ref l1, .int 0 0] }
noncomputable abbrev zH2 (h : Heap) (c1 c2 : String) (l1 l2 : Addr) : Heap := (zH1 h c1 l1).push { cls := .type c2, data := .fields #[.ref l2, .int 0 0] }
noncomputable abbrev zH3 (h : Heap) (c1 c2 : String) (l1 l2 : Addr) : Heap := (zH2 h c1 c2 l1 l2).push { cls := .type "tuple", data := .seq #[.ref h.objs.size, .ref (zH1 h c1 l1).objs.size] }
noncomputable abbrev zH4 (h : Heap) (c1 c2 : String) (l1 l2 : Addr) : Heap := (zH3 h c1 c2 l1 l2).push { cls := .type "tuple", data := .seq #[.none, .none] }
noncomputable abbrev zH5 (h : Heap) (c1 c2 : String) (l1 l2 : Addr) : Heap := (zH4 h c1 c2 l1 l2).push { cls := .type "zip", data := .fields #[.none, .bool false, .bool false, .ref (zH2 h c1 c2 l1 l2).objs.size, .ref (zH3 h c1 c2 l1 l2).objs.size] }
theorem meets_zip (c1 c2 : String) (l1 l2 : Addr) (xs ys : Array Value) :
    Meets (Builtin.«zip.__new__» ⟨[.type "zip", .ref l1, .ref l2], []⟩) (fun _ R s => SeqOf s.heap c1 l1 xs ∧ SeqOf s.heap c2 l2 ys ∧ R (.ok (.ret (.ref (zH4 s.heap c1 c2 l1 l2).objs.size))) { s with heap := zH5 s.heap c1 c2 l1 l2 }) :=
  .of_wp fun prog w A R s h => by
    obtain ⟨hp, g, d, tk, os⟩ := s
    obtain ⟨hl1, hl2, h⟩ := h
    have hsub := PySem.sub_zip
    have hL1 : SeqOf (Shared.heap ⟨hp, g, d, tk, os⟩) c1 l1 xs := hl1
    have hL2 : SeqOf (Shared.heap ⟨hp.push { cls := .type c1, data := .fields #[.ref l1, .int 0 0] }, g, d, tk, os⟩) c2 l2 ys := hl2.at fun o e => Heap.get?_push_of_some _ e
    wp_walk using iter_any hL1, iter_any hL2
    exact ⟨_, rfl, h⟩
theorem call_zip {c1 c2 : String} {l1 l2 : Addr} {xs ys : Array Value} {Q : Value → Shared → Prop} (hl1 : SeqOf s.heap c1 l1 xs) (hl2 : SeqOf s.heap c2 l2 ys)
    (h : ∀ h', Zs h' (s.heap.objs.size + 4) (s.heap.objs.size + 2) (s.heap.objs.size + 3) s.heap.objs.size (s.heap.objs.size + 1) c1 c2 l1 l2 xs ys 0 → h'.objs.size = s.heap.objs.size + 5 →
      (∀ c o, s.heap.get? c = some o → h'.get? c = some o) → Q (.ref (s.heap.objs.size + 4)) { s with heap := h' }) : wpAny (model prog w) A (call (.type "zip") [.ref l1, .ref l2]) Q E s := by
  refine callType_new F.called_zip (by decide) (F.typeCall_zip_2 _ _) (F.newCall_zip_2 _ _) (fun obj => F.args_object_init_3 obj _ _) F.entry_zip_new (meets_zip c1 c2 l1 l2 xs ys) ⟨hl1, hl2, ?_⟩
  have z1 : (zH1 s.heap c1 l1).objs.size = s.heap.objs.size + 1 := Heap.size_push ..
  have z2 : (zH2 s.heap c1 c2 l1 l2).objs.size = s.heap.objs.size + 2 := by rw [Heap.size_push, z1]
  have z3 : (zH3 s.heap c1 c2 l1 l2).objs.size = s.heap.objs.size + 3 := by rw [Heap.size_push, z2]
  have z4 : (zH4 s.heap c1 c2 l1 l2).objs.size = s.heap.objs.size + 4 := by rw [Heap.size_push, z3]
  have z5 : (zH5 s.heap c1 c2 l1 l2).objs.size = s.heap.objs.size + 5 := by rw [Heap.size_push, z4]
  have g5 : (zH5 s.heap c1 c2 l1 l2).get? (zH4 s.heap c1 c2 l1 l2).objs.size = some _ := Heap.get?_push_size _ rfl
  have g4 : (zH5 s.heap c1 c2 l1 l2).get? (zH3 s.heap c1 c2 l1 l2).objs.size = some _ := Heap.get?_push_of_some _ (Heap.get?_push_size _ rfl)
  have g3 : (zH5 s.heap c1 c2 l1 l2).get? (zH2 s.heap c1 c2 l1 l2).objs.size = some _ := Heap.get?_push_of_some _ (Heap.get?_push_of_some _ (Heap.get?_push_size _ rfl))
  have g2 : (zH5 s.heap c1 c2 l1 l2).get? (zH1 s.heap c1 l1).objs.size = some _ := Heap.get?_push_of_some _ (Heap.get?_push_of_some _ (Heap.get?_push_of_some _ (Heap.get?_push_size _ rfl)))
  have g1 : (zH5 s.heap c1 c2 l1 l2).get? s.heap.objs.size = some _ := Heap.get?_push_of_some _ (Heap.get?_push_of_some _ (Heap.get?_push_of_some _ (Heap.get?_push_of_some _ (Heap.get?_push_size _ rfl))))
  show _ ∧ _
  rw [z2, z3, z4] at g5
  rw [z1, z2] at g3
  rw [z3] at g4
  rw [z1] at g2
  rw [z4]
  have old : ∀ c o, s.heap.get? c = some o → (zH5 s.heap c1 c2 l1 l2).get? c = some o := fun c o x => Heap.get?_push_of_some _ (Heap.get?_push_of_some _ (Heap.get?_push_of_some _ (Heap.get?_push_of_some _ (Heap.get?_push_of_some _ x))))
  refine ⟨⟨_, g5, rfl⟩, h _ ⟨g5, g3, ⟨_, _, g4⟩, ?_, ?_⟩ z5 old⟩
  · rcases hl1 with ⟨rfl, x⟩ | ⟨rfl, x⟩
    · exact .inl ⟨rfl, ⟨_, g1, rfl, rfl⟩, x.at fun o e => old _ o e⟩
    · exact .inr ⟨rfl, ⟨_, g1, rfl, rfl⟩, x.at fun o e => old _ o e⟩
  · rcases hl2 with ⟨rfl, x⟩ | ⟨rfl, x⟩
    · exact .inl ⟨rfl, ⟨_, g2, rfl, rfl⟩, x.at fun o e => old _ o e⟩
    · exact .inr ⟨rfl, ⟨_, g2, rfl, rfl⟩, x.at fun o e => old _ o e⟩
end
end L2
end
section
set_option Elab.async false
set_option linter.all false
set_option maxRecDepth 100000
namespace L2
open PySem PySem.Spec PyProof.Rows
theorem Inv.turnedT {X : Cx} {pins : List (Addr × Obj)} {σ : St} {H : Hp} {s : Shared} {fp : List Addr} {h' : Heap} {T : Addr} {xs : List V} {us : List Value} {t' : Nat} (I : Inv X pins σ H s) (f : ∀ b ∈ fp, FpOk X pins H b)
    (k : ∀ c o, c ∉ fp → s.heap.get? c = some o → h'.get? c = some o) (hT : s.heap.objs.size ≤ T) (hz : xs.length ≤ sizeLine) (r : Vals xs us) (hp : IsTup h' T us.toArray) (hTf : T ∉ fp) :
    Inv X pins σ (upd H T (.tup xs)) { s with heap := h', toks := t' } := by
  have hn : H T = none := I.hok.fresh hT
  have nfp : ∀ a o, H a = some o → a ∉ fp := fun a o e hb => by have := (f a hb).1; rw [e] at this; cases this
  have hTn : ∀ b o, s.heap.get? b = some o → b ≠ T := fun b o e => Nat.ne_of_lt (Nat.lt_of_lt_of_le (Heap.lt_size e) hT)
  refine I.call' (s' := { s with heap := h', toks := t' }) (ch := fp) rfl ⟨fun b o q n _ hx => k b o hx q, fun b o q n _ hx => ⟨o.slots, k b o hx q⟩, fun b o q n _ => by rw [upd_ne (hTn b o q)]; exact n, fun b o q hx => ⟨o, k b o hx q⟩,
    fun b ys q => by rw [upd_ne (ne_of_none q hn)]; exact q, fun b o ys q => by rw [upd_ne (ne_of_none q hn)]; exact q, fun b ps q => ⟨#[], by rw [upd_ne (ne_of_none q hn), q]; simp⟩⟩ (fun a o e => ?_) I.bare (fun b hb => ?_)
  · by_cases ha : a = T
    · subst ha
      rw [upd_same] at e
      cases e
      exact ⟨hz, us, r, hp⟩
    · rw [upd_ne ha] at e
      refine (I.hok a o e).stay (fun b u hb q => k b u ?_ q) (fun b q => by rw [upd_ne (ne_of_none q hn)]; exact q) fun b ys q => by rw [upd_ne (ne_of_none q hn)]; exact q
      rcases hb with rfl | hb
      · exact nfp b o e
      · exact nfp b _ hb
  · obtain ⟨f0, f1, f2, f3, f4, f5⟩ := f b hb
    exact ⟨f3, f1, f4, f5⟩
theorem Inv.turnedN {X : Cx} {pins : List (Addr × Obj)} {σ : St} {H : Hp} {s : Shared} {fp : List Addr} {h' : Heap} {t' : Nat} (I : Inv X pins σ H s) (f : ∀ b ∈ fp, FpOk X pins H b)
    (k : ∀ c o, c ∉ fp → s.heap.get? c = some o → h'.get? c = some o) : Inv X pins σ H { s with heap := h', toks := t' } := by
  have nfp : ∀ a o, H a = some o → a ∉ fp := fun a o e hb => by have := (f a hb).1; rw [e] at this; cases this
  refine I.call' (s' := { s with heap := h', toks := t' }) (ch := fp) rfl ⟨fun b o q n _ hx => k b o hx q, fun b o q n _ hx => ⟨o.slots, k b o hx q⟩, fun b o q n _ => n, fun b o q hx => ⟨o, k b o hx q⟩, fun b ys q => q, fun b o ys q => q, fun b ps q => ⟨#[], by rw [q]; simp⟩⟩ (fun a o e => ?_) I.bare (fun b hb => ?_)
  · refine (I.hok a o e).stay (fun b u hb q => k b u ?_ q) (fun b q => q) fun b ys q => q
    rcases hb with rfl | hb
    · exact nfp b o e
    · exact nfp b _ hb
  · obtain ⟨f0, f1, f2, f3, f4, f5⟩ := f b hb
    exact ⟨f3, f1, f4, f5⟩
noncomputable def SqC (H : Hp) (c : String) (a : Addr) (xs : List V) : Prop := (c = "list_iterator" ∧ H a = some (.lst xs)) ∨ (c = "tuple_iterator" ∧ H a = some (.tup xs))
theorem Inv.seqOf {X : Cx} {pins : List (Addr × Obj)} {σ : St} {H : Hp} {s : Shared} {c : String} {a : Addr} {xs : List V} (I : Inv X pins σ H s) (h : SqC H c a xs) : ∃ its : List Value, Vals xs its ∧ SeqOf s.heap c a its.toArray := by
  rcases h with ⟨rfl, h⟩ | ⟨rfl, h⟩
  · obtain ⟨its, r, p, _⟩ := I.list (SqL.of h)
    exact ⟨its, r, .inl ⟨rfl, p.isList⟩⟩
  · obtain ⟨its, r, p, _⟩ := I.tuple (SqT.of h)
    exact ⟨its, r, .inr ⟨rfl, p⟩⟩
noncomputable def Itz (c1 c2 : String) (a b : Addr) (xs ys : List V) : It :=
  ⟨fun i H => SqC H c1 a xs ∧ SqC H c2 b ys ∧ i < xs.length ∧ i < ys.length, fun i H x H' => ∃ T u v, x = .ref T ∧ H T = none ∧ H' = upd H T (.tup [u, v]) ∧ xs[i]? = some u ∧ ys[i]? = some v, fun i H => SqC H c1 a xs ∧ SqC H c2 b ys ∧ (xs.length ≤ i ∨ ys.length ≤ i)⟩
structure Zt (h : Heap) (z TI TO i1 i2 : Addr) (c1 c2 : String) (l1 l2 : Addr) (k : Nat) : Prop where
  zip : IsZip h z TI TO .none
  ti : IsPair h TI (.ref i1) (.ref i2)
  to : ∃ a b, IsPair h TO a b
  s1 : (c1 = "list_iterator" ∧ h.IsListIter i1 l1 k) ∨ (c1 = "tuple_iterator" ∧ h.IsTupleIter i1 l1 k)
  s2 : (c2 = "list_iterator" ∧ h.IsListIter i2 l2 k) ∨ (c2 = "tuple_iterator" ∧ h.IsTupleIter i2 l2 k)
theorem src_of {h : Heap} {c : String} {it l : Addr} {xs : Array Value} {k : Nat} (a : (c = "list_iterator" ∧ h.IsListIter it l k) ∨ (c = "tuple_iterator" ∧ h.IsTupleIter it l k)) (b : SeqOf h c l xs) : Src h c it l xs k := by
  rcases a with ⟨rfl, a⟩ | ⟨rfl, a⟩ <;> rcases b with ⟨e, b⟩ | ⟨e, b⟩
  · exact .inl ⟨rfl, a, b⟩
  · exact absurd e (by decide)
  · exact absurd e (by decide)
  · exact .inr ⟨rfl, a, b⟩
theorem of_src {h : Heap} {c : String} {it l : Addr} {xs : Array Value} {k : Nat} (a : Src h c it l xs k) : (c = "list_iterator" ∧ h.IsListIter it l k) ∨ (c = "tuple_iterator" ∧ h.IsTupleIter it l k) := by
  rcases a with ⟨e, a, _⟩ | ⟨e, a, _⟩
  · exact .inl ⟨e, a⟩
  · exact .inr ⟨e, a⟩
theorem it_at {h h' : Heap} {c : String} {it l : Addr} {k : Nat} (a : (c = "list_iterator" ∧ h.IsListIter it l k) ∨ (c = "tuple_iterator" ∧ h.IsTupleIter it l k)) (q : ∀ o, h.get? it = some o → h'.get? it = some o) : (c = "list_iterator" ∧ h'.IsListIter it l k) ∨ (c = "tuple_iterator" ∧ h'.IsTupleIter it l k) := by
  rcases a with ⟨e, o, a, r⟩ | ⟨e, o, a, r⟩
  · exact .inl ⟨e, o, q o a, r⟩
  · exact .inr ⟨e, o, q o a, r⟩
theorem it_obj {h : Heap} {c : String} {it l : Addr} {k : Nat} (a : (c = "list_iterator" ∧ h.IsListIter it l k) ∨ (c = "tuple_iterator" ∧ h.IsTupleIter it l k)) : ∃ o, h.get? it = some o ∧ ∀ v, o.data ≠ .cell v := by
  rcases a with ⟨_, o, e, _, d⟩ | ⟨_, o, e, _, d⟩ <;> exact ⟨o, e, fun v z => by rw [d] at z; cases z⟩
theorem turn_zip {P : Program} {w : World} {K : PySem.W.Frag} {es : List Expr} {tk : _} {tp : Pos} (z TI TO i1 i2 l1 l2 : Addr) (c1 c2 : String) (xs ys : List V) (D : ZipApart z TI TO i1 i2 l1 l2) :
    Turn P w K (.Tuple es tk tp) (Itz c1 c2 l1 l2 xs ys) [z, TI, TO, i1, i2] z (fun i h => Zt h z TI TO i1 i2 c1 c2 l1 l2 i) where
  mem := by simp
  obj := fun i h st b hb => by
    obtain ⟨hz, hti, ⟨a, c, hto⟩, h1, h2⟩ := st
    simp only [List.mem_cons, List.not_mem_nil, or_false] at hb
    rcases hb with rfl | rfl | rfl | rfl | rfl
    · exact ⟨_, hz, fun v q => by cases (show Data.fields _ = Data.cell v from q)⟩
    · exact ⟨_, hti, fun v q => by cases (show Data.seq _ _ = Data.cell v from q)⟩
    · exact ⟨_, hto, fun v q => by cases (show Data.seq _ _ = Data.cell v from q)⟩
    · exact it_obj h1
    · exact it_obj h2
  keep := fun i h h' st k => by
    obtain ⟨hz, hti, ⟨a, c, hto⟩, h1, h2⟩ := st
    exact ⟨k z (by simp) _ hz, k TI (by simp) _ hti, ⟨a, c, k TO (by simp) _ hto⟩, it_at h1 fun o e => k i1 (by simp) o e, it_at h2 fun o e => k i2 (by simp) o e⟩
  item := by
    intro X hP hw hK hc i pins s σ H E I hf st hg
    subst hP hw hK
    obtain ⟨q1, q2, hi1, hi2⟩ := hg
    obtain ⟨its1, r1, e1⟩ := I.seqOf q1
    obtain ⟨its2, r2, e2⟩ := I.seqOf q2
    obtain ⟨x, hx⟩ := getlen hi1
    obtain ⟨y, hy⟩ := getlen hi2
    obtain ⟨u, hu, ru⟩ := r1.get hx
    obtain ⟨v, hv, rv⟩ := r2.get hy
    obtain ⟨hz, hti, hto, h1, h2⟩ := id st
    refine zs_item D ⟨hz, hti, hto, src_of h1 e1, src_of h2 e2⟩ (by simpa using hu) (by simpa using hv) fun h' z' ti' to' s1' s2' new szn k => ?_
    have kk : ∀ c o, c ∉ [z, TI, TO, i1, i2] → s.heap.get? c = some o → h'.get? c = some o := fun c o hc e => k c o (fun q => hc (by simp only [List.mem_cons, List.not_mem_nil, or_false] at q ⊢; rcases q with q | q | q | q <;> simp [q])) e
    have lt : ∀ b ∈ [z, TI, TO, i1, i2], b < s.heap.objs.size := fun b hb => by
      have st' : Zt s.heap z TI TO i1 i2 c1 c2 l1 l2 i := st
      simp only [List.mem_cons, List.not_mem_nil, or_false] at hb
      rcases hb with rfl | rfl | rfl | rfl | rfl
      · exact Heap.lt_size hz
      · exact Heap.lt_size hti
      · obtain ⟨_, _, q⟩ := hto; exact Heap.lt_size q
      · obtain ⟨o, q, _⟩ := it_obj h1; exact Heap.lt_size q
      · obtain ⟨o, q, _⟩ := it_obj h2; exact Heap.lt_size q
    refine ⟨_, rfl, wpAny_letOwnedTupleGo_zip z' fun h'' z'' sb => ?_⟩
    have nT : s.heap.objs.size ∉ [z, TI, TO, i1, i2] := fun hb => Nat.lt_irrefl _ (lt _ hb)
    have nTz : s.heap.objs.size ≠ z := fun q => nT (by simp [q])
    have J := I.turnedT (fp := [z, TI, TO, i1, i2]) (h' := h'') (T := s.heap.objs.size) (xs := [x, y]) (us := [u, v]) (t' := s.toks) hf (fun c o hc e => sb.extBut _ _ (fun q => hc (by simp [q])) (kk c o hc e)) (Nat.le_refl _) (by show 2 ≤ sizeLine; decide) (.cons ru (.cons rv .nil))
      ⟨_, sb.extBut _ _ nTz new, rfl, _, rfl⟩ nT
    refine ⟨.ref s.heap.objs.size, _, J, rfl, ⟨_, x, y, rfl, I.hok.fresh (Nat.le_refl _), rfl, hx, hy⟩, ⟨z'', sb.extBut _ _ D.TIz ti', ⟨_, _, sb.extBut _ _ D.TOz to'⟩, it_at (of_src s1') fun o e => sb.extBut _ _ D.i1z e, it_at (of_src s2') fun o e => sb.extBut _ _ D.i2z e⟩, fun b hb => ?_⟩
    rw [upd_ne (Nat.ne_of_lt (lt b hb))]
    exact (hf b hb).1
  done := by
    intro X hP hw hK hc i pins s σ H E I hf st hg
    subst hP hw hK
    obtain ⟨q1, q2, hend⟩ := hg
    obtain ⟨its1, r1, e1⟩ := I.seqOf q1
    obtain ⟨its2, r2, e2⟩ := I.seqOf q2
    obtain ⟨hz, hti, hto, h1, h2⟩ := id st
    have l1' := r1.length
    have l2' := r2.length
    refine zs_end (I.ok.hd hc) D ⟨hz, hti, hto, src_of h1 e1, src_of h2 e2⟩ (hend.imp (fun q => by simp; omega) fun q => by simp; omega) fun h' k => ?_
    exact ⟨rfl, I.turnedN (fp := [z, TI, TO, i1, i2]) hf fun c o hc e => k c o (fun q => hc (by simp only [List.mem_cons, List.not_mem_nil, or_false] at q ⊢; rcases q with q | q | q | q <;> simp [q])) e⟩
  self := fun A i s Q E st h => wpAny_pyIter_zip st.zip h
end L2
end
section
set_option Elab.async false
set_option linter.all false
set_option maxRecDepth 100000
namespace L2
open PySem PySem.Spec PyProof.Rows
theorem bt_zip : bootBuiltins "zip" = some (.type "zip") := by decide +kernel
section
variable {X : Cx}
noncomputable def iZip (ta : TA) : TI := fun σ H R => ta σ H fun vs H1 => ∃ a b c1 c2 xs ys, vs = [.ref a, .ref b] ∧ SqC H1 c1 a xs ∧ SqC H1 c2 b ys ∧ R (Itz c1 c2 a b xs ys) H1
theorem pi_zip {es : List Expr} {kk : _} {tp : Pos} {a b : Expr} {ta : TA} {p pos : Pos} (hg : Gl X "zip") (hm : X.mg "zip" = none) (ha : PA X [a, b] ta) (hs : starEach [a, b] X.env = [(false, eval a X.env), (false, eval b X.env)] := by rfl) (hs2 : starEach [b] X.env = [(false, eval b X.env)] := by rfl) :
    PI X (.Tuple es kk tp) (.Call (.Name "zip" p) [a, b] [] pos) (iZip ta) := by
  intro pins s σ H R I h
  refine Call_ (ld_blt I hg hm bt_zip (PyProof.Rows.callWith_type1 (thn (ha pos pins s σ H _ I h) fun us s1 ⟨vs, H1, I1, r1, q1⟩ => ?_) (by rw [hs, hs2]) (by rw [hs2]; rfl)))
  obtain ⟨l1, l2, c1, c2, xs, ys, e, k1, k2, q⟩ := q1
  subst e
  obtain ⟨u1, u2, rfl, e1, e2⟩ := r1.two
  cases e1
  cases e2
  obtain ⟨its1, v1, o1⟩ := I1.seqOf k1
  obtain ⟨its2, v2, o2⟩ := I1.seqOf k2
  have lt1 : (l1 : Nat) < (s1.heap.objs.size : Nat) := o1.lt
  have lt2 : (l2 : Nat) < (s1.heap.objs.size : Nat) := o2.lt
  refine call_zip o1 o2 fun h' Z sz old => wpAny_pyIter_zip Z.zip ?_
  have D : ZipApart (s1.heap.objs.size + 4) (s1.heap.objs.size + 2) (s1.heap.objs.size + 3) s1.heap.objs.size (s1.heap.objs.size + 1) l1 l2 := PySem.W.ktu_apart _ _ _ o1.lt o2.lt
  have J : Inv X pins σ H1 { s1 with heap := h' } := I1.kept (t' := s1.toks) old
  refine ⟨s1.heap.objs.size + 4, _, _, _, H1, rfl, J, turn_zip _ _ _ _ _ l1 l2 c1 c2 xs ys D, ⟨Z.zip, Z.ti, Z.to, of_src Z.s1, of_src Z.s2⟩, fun b hb => ?_, q⟩
  have hb' : s1.heap.objs.size ≤ b := by
    simp only [List.mem_cons, List.not_mem_nil, or_false] at hb
    rcases hb with rfl | rfl | rfl | rfl | rfl <;> omega
  exact I1.fpOk hb' (I1.hok.fresh hb')
theorem a_iZip {ta : TA} {σ : St} {H : Hp} {R : It → Hp → Prop} : iZip ta σ H R = ta σ H fun vs H1 => ∃ a b c1 c2 xs ys, vs = [.ref a, .ref b] ∧ SqC H1 c1 a xs ∧ SqC H1 c2 b ys ∧ R (Itz c1 c2 a b xs ys) H1 := rfl
end
theorem cl_zip {c1 c2 : String} {a b : Addr} {xs ys : List V} {g : TG} {tc : TT} {tb : TB} {D : St → Hp → Prop} {σ : St} {H : Hp} (Pv : Nat → St → Hp → Prop) (h0 : Pv 0 σ H) (hl : ∀ i σ H, Pv i σ H → SqC H c1 a xs ∧ SqC H c2 b ys)
    (hs : ∀ (i : Nat) u v (T : Addr) σ H H', xs[i]? = some u → ys[i]? = some v → Pv i σ H → H T = none → Same H H' → H' T = some (.tup [u, v]) → g (.ref T) σ H' fun σ2 H2 => tc σ2 H2 fun b H3 => if b = true then tb σ2 H3 (Pv (i + 1)) else Pv (i + 1) σ2 H3)
    (hd : ∀ σ H, Pv (min xs.length ys.length) σ H → D σ H) : tCL (Itz c1 c2 a b xs ys) g tc tb D σ H := by
  refine ⟨fun i m σ H => m = min xs.length ys.length - i ∧ i ≤ min xs.length ys.length ∧ Pv i σ H, ⟨min xs.length ys.length, by simp, Nat.zero_le _, h0⟩, ?_⟩
  rintro i m σ H ⟨rfl, hi, p⟩
  obtain ⟨q1, q2⟩ := hl i σ H p
  by_cases hlt : i < min xs.length ys.length
  · refine .inr ⟨⟨q1, q2, by omega, by omega⟩, Pv (i + 1), fun σ' H' p' => ⟨min xs.length ys.length - (i + 1), by omega, rfl, hlt, p'⟩, fun x H' y => ?_⟩
    obtain ⟨T, u, v, rfl, n, rfl, e1, e2⟩ := y
    exact hs i u v T σ H _ e1 e2 p n (same_upd n) upd_same
  · have e : i = min xs.length ys.length := by omega
    subst e
    exact .inl ⟨⟨q1, q2, by omega⟩, hd σ H p⟩
section
variable {X : Cx}
noncomputable def tSortR (ta : TA) (tk : TA) : TE := fun σ H Q => ta σ H fun vs H1 => tk σ H1 fun zs H2 => ∃ (p : Addr) (ns : List Int) (b : Bool), vs = [.ref p] ∧ zs = [.bl b] ∧ H2 p = some (.lst (ns.map V.int)) ∧ ns.length < 64 ∧
  ∀ (l : Addr) (ms : List Int), H2 l = none → ms.Perm ns → Ordered b ms → Q (.ref l) (upd H2 l (.lst (ms.map V.int)))
theorem a_tSortR {ta tk : TA} {σ : St} {H : Hp} {Q : VK} : tSortR ta tk σ H Q = ta σ H fun vs H1 => tk σ H1 fun zs H2 => ∃ (p : Addr) (ns : List Int) (b : Bool), vs = [.ref p] ∧ zs = [.bl b] ∧ H2 p = some (.lst (ns.map V.int)) ∧ ns.length < 64 ∧
  ∀ (l : Addr) (ms : List Int), H2 l = none → ms.Perm ns → Ordered b ms → Q (.ref l) (upd H2 l (.lst (ms.map V.int))) := rfl
noncomputable def rSlL0 : V → Option Int → Option Int → Hp → VK → Prop := fun x lo hi H Q => ∃ a xs, x = .ref a ∧ H a = some (.lst xs) ∧ ∀ p, H p = none → Q (.ref p) (upd H p (.lst (cutV xs lo hi)))
theorem slL0 : SlR X rSlL0 := fun pins s σ H x v vl vu lo hi sl Q I rx hs pl pu h => by
  obtain ⟨a, xs, e, k, q⟩ := h
  exact sl_list pins s σ H x v vl vu lo hi sl Q I rx hs pl pu ⟨a, xs, e, SqL.of k, q⟩
theorem a_tSl {r : V → Option Int → Option Int → Hp → VK → Prop} {te : TE} {tl th : TO} {σ : St} {H : Hp} {Q : VK} : tSl r te tl th σ H Q = te σ H fun x H1 => tl σ H1 fun l H2 => th σ H2 fun u H3 => r x l u H3 Q := rfl
theorem a_rSlL0 {x : V} {lo hi : Option Int} {H : Hp} {Q : VK} : rSlL0 x lo hi H Q = ∃ a xs, x = .ref a ∧ H a = some (.lst xs) ∧ ∀ p, H p = none → Q (.ref p) (upd H p (.lst (cutV xs lo hi))) := rfl
theorem a_tNoPart {σ : St} {H : Hp} {q : Option Int → Hp → Prop} : tNoPart σ H q = q none H := rfl
theorem a_tPart {t : TE} {σ : St} {H : Hp} {q : Option Int → Hp → Prop} : tPart t σ H q = t σ H fun x H1 => ∃ i, x = .int i ∧ q (some i) H1 := rfl
noncomputable def tApp (to : TE) (t : TA) : TE := fun σ H Q => to σ H fun x H1 => ∃ l xs0, x = .ref l ∧ H1 l = some (.lst xs0) ∧ t σ H1 fun vs H2 => ∃ xs y, vs = [y] ∧ H2 l = some (.lst xs) ∧ xs.length < sizeLine ∧ Q .non (upd H2 l (.lst (xs ++ [y])))
theorem pe_append {o e : Expr} {to : TE} {t : TA} {apos cpos : Pos} (ho : PE X o to) (ha : PA X [e] t) (hbase : attributeBase o "append" X.env (eval o X.env) = eval o X.env := by rfl)
    (hfew : ((backTo cpos (starEach [e] X.env)).all (fun x => !x.1) && (backToKw cpos (keywordEach [] X.env)).all (fun x => x.1.isSome) && decide ([e].length + ([] : List Keyword).length + (if ([] : List Keyword).isEmpty then 0 else 1) < 30)) = true := by rfl)
    (hline : (apos.endLine == cpos.line) = true := by rfl) (hs : starEach [e] X.env = (false, eval e X.env) :: starEach [] X.env := by rfl) : PE X (.Call (.Attribute o "append" apos) [e] [] cpos) (tApp to t) := by
  intro pins s σ H Q I h
  refine wpAny_Call_method_late hbase hfew hline rfl (thn (ho pins s σ H _ I h) fun v s1 ⟨x, H1, I1, r1, q1⟩ => ?_)
  obtain ⟨l, xs0, rfl, hl, q1⟩ := q1
  have ty : tyV X.K "list" (.ref l) H1 := .inl ⟨rfl, _, SqL.of hl⟩
  obtain ⟨h1, h2⟩ := tyV_is I1 r1 ty
  refine ⟨"list", "list.append", PySem.F.plainAttrs_list, PySem.F.slot_list_append, PySem.F.type_list_append, h1, h2, ?_⟩
  have hA := ha cpos pins s1 σ H1 _ I1 q1
  rw [hs] at hA ⊢
  refine Calls.callWith_builtin (by rfl) (Calls.evalArgs_plain ?_)
  exact thn hA fun us s2 ⟨vs, H2, I2, r2, xs, y, e, k, z, q⟩ => mt_append pins s2 σ H2 (.ref l) vs v us Q I2 r1 r2 ⟨l, xs, y, rfl, e, k, z, q⟩
theorem a_tApp {to : TE} {t : TA} {σ : St} {H : Hp} {Q : VK} : tApp to t σ H Q = to σ H fun x H1 => ∃ l xs0, x = .ref l ∧ H1 l = some (.lst xs0) ∧ t σ H1 fun vs H2 => ∃ xs y, vs = [y] ∧ H2 l = some (.lst xs) ∧ xs.length < sizeLine ∧ Q .non (upd H2 l (.lst (xs ++ [y]))) := rfl
end
end L2
end
section
set_option Elab.async false
set_option linter.all false
set_option maxRecDepth 100000
namespace L2
open PySem PySem.Spec PyProof.Rows
section
variable {X : Cx}
noncomputable def insV (xs : List V) (i : Nat) (y : V) : List V := xs.take i ++ y :: xs.drop i
noncomputable def tIns (to : TE) (t : TA) : TE := fun σ H Q => to σ H fun x H1 => ∃ l xs0, x = .ref l ∧ H1 l = some (.lst xs0) ∧ t σ H1 fun vs H2 => ∃ xs y, ∃ i : Nat, vs = [.int (i : Int), y] ∧ H2 l = some (.lst xs) ∧ i ≤ xs.length ∧ xs.length < sizeLine ∧ Q .non (upd H2 l (.lst (insV xs i y)))
theorem a_tIns {to : TE} {t : TA} {σ : St} {H : Hp} {Q : VK} : tIns to t σ H Q = to σ H fun x H1 => ∃ l xs0, x = .ref l ∧ H1 l = some (.lst xs0) ∧ t σ H1 fun vs H2 => ∃ xs y, ∃ i : Nat, vs = [.int (i : Int), y] ∧ H2 l = some (.lst xs) ∧ i ≤ xs.length ∧ xs.length < sizeLine ∧ Q .non (upd H2 l (.lst (insV xs i y))) := rfl
theorem max_gen (hc : X.calm = true) {pins : List (Addr × Obj)} {σ : St} {H : Hp} {s : Shared} {p : Addr} {ns : List Int} {Q : VK} (I : Inv X pins σ H s) (hq : sq H p = some (ns.map V.int)) (hne : ns ≠ [])
    (q : ∀ m, m ∈ ns → (∀ x ∈ ns, x ≤ m) → Q (.int m) H) : wpAny (model X.prog X.w) X.A (call (.builtin "max") [.ref p]) (EP X pins σ Q) X.xe s := by
  have hp : 0 < ns.length := List.length_pos_iff.mpr hne
  refine call_max_walk (I.walk hc hq fun it its s2 St fp rv W st hfp hsz J => ?_)
  have hl := rv.length
  rw [List.length_map] at hl
  refine ⟨it, fp, [it], its.length, _, St, _, rfl, W, st, hfp, by omega, CmpOf.ints_gt (fun i => ns.getD i 0) fun i v hv => vals_int_get rv hv, fun v h' tk hv k => ?_⟩
  obtain ⟨a1, a2⟩ := argBest_gt (fun i => ns.getD i 0) (its.length - 1)
  obtain ⟨t, rfl⟩ := vals_int_get rv hv
  generalize argBest (fun i j => decide (ns.getD i 0 > ns.getD j 0)) (its.length - 1) = j at a1 a2 hv ⊢
  have hj : j < ns.length := by omega
  have e : ns.getD j 0 = ns[j] := by simp [List.getD_eq_getElem?_getD, hj]
  refine ⟨.int ns[j], H, J h' tk k, ⟨t, by rw [e]⟩, q _ (List.getElem_mem hj) fun x hx => ?_⟩
  obtain ⟨i, hi, rfl⟩ := List.mem_iff_getElem.mp hx
  have := a2 i (by omega)
  simp only [List.getD_eq_getElem?_getD, List.getElem?_eq_getElem hi, List.getElem?_eq_getElem hj, Option.getD_some] at this
  exact this
theorem max0 (hc : X.calm = true) : CallR X (.builtin "max") (fun xs H Q => ∃ (p : Addr) (ns : List Int), xs = [.ref p] ∧ sq H p = some (ns.map V.int) ∧ ns ≠ [] ∧ ∀ m, m ∈ ns → (∀ x ∈ ns, x ≤ m) → Q (.int m) H) := by
  intro pins s σ H xs us Q I r h
  obtain ⟨p, ns, rfl, hq, hne, q⟩ := h
  obtain ⟨u, rfl, ru⟩ := r.one
  cases ru
  exact max_gen hc I hq hne q
noncomputable def rCatA : R2 := fun x y H Q => ∃ a b xs ys, x = .ref a ∧ y = .ref b ∧ H a = some (.tup xs) ∧ H b = some (.tup ys) ∧ xs.length + ys.length ≤ sizeLine ∧ ∀ (p : Addr) (H' : Hp), Same H H' → H' p = some (.tup (xs ++ ys)) → Q (.ref p) H'
theorem a_rCatA {x y : V} {H : Hp} {Q : VK} : rCatA x y H Q = ∃ a b xs ys, x = .ref a ∧ y = .ref b ∧ H a = some (.tup xs) ∧ H b = some (.tup ys) ∧ xs.length + ys.length ≤ sizeLine ∧ ∀ (p : Addr) (H' : Hp), Same H H' → H' p = some (.tup (xs ++ ys)) → Q (.ref p) H' := rfl
noncomputable def rCatL : R2 := fun x y H Q => ∃ l b xs zs, x = .ref l ∧ y = .ref b ∧ H l = some (.lst xs) ∧ H b = some (.lst zs) ∧ xs.length + zs.length ≤ sizeLine ∧ ∀ (p : Addr) (H' : Hp), H p = none → Same H H' → H' p = some (.lst (xs ++ zs)) → Q (.ref p) H'
theorem catL0 : OpR X (binaryOp .Add) rCatL := fun pins s σ H x y v u Q I rx ry h => by
  obtain ⟨l, b, xs, zs, e1, e2, h1, h2, hz, q⟩ := h
  exact op_cat pins s σ H x y v u Q I rx ry ⟨l, b, xs, zs, e1, e2, h1, h2, hz, fun p np => q p _ np (same_upd np) upd_same⟩
theorem a_rCatL {x y : V} {H : Hp} {Q : VK} : rCatL x y H Q = ∃ l b xs zs, x = .ref l ∧ y = .ref b ∧ H l = some (.lst xs) ∧ H b = some (.lst zs) ∧ xs.length + zs.length ≤ sizeLine ∧ ∀ (p : Addr) (H' : Hp), H p = none → Same H H' → H' p = some (.lst (xs ++ zs)) → Q (.ref p) H' := rfl
end
end L2
end
section
set_option Elab.async false
set_option linter.all false
set_option maxRecDepth 100000
namespace L2
open PySem PySem.Spec PyProof.Rows
noncomputable def innerBody (e iter : Expr) (d : Nat) (acc : Value) (env : Env) : Sem Unit := do
  let x ← eval iter env
  standAt iter.pos
  let x ← foldedSetIterable iter env x
  let _ ← runOwn (.compStart e d (← holding [x] (pyIter x)) acc env) env
theorem turn_outer (elt tg iter tg2 iter2 : Expr) (ifs ifs2 : List Expr) (rest : List Comprehension) (sc : Scope) (pos : Pos) (it acc : Value) (env : Env) :
    compTurn (.ListComp elt (⟨tg, iter, ifs, 0⟩ :: ⟨tg2, iter2, ifs2, 0⟩ :: rest) sc pos) 0 it acc env = (do
      standAt iter.pos
      match ← pyNext it with
      | none => pure (.done .next)
      | some v =>
        letOwnedTupleGo tg it v
        assign tg env v
        let mut ok := true
        for c in ifs do
          if ok then ok ← isTrue c env (eval c env)
        if ok then innerBody (.ListComp elt (⟨tg, iter, ifs, 0⟩ :: ⟨tg2, iter2, ifs2, 0⟩ :: rest) sc pos) iter2 1 acc env
        again (.compLoop (.ListComp elt (⟨tg, iter, ifs, 0⟩ :: ⟨tg2, iter2, ifs2, 0⟩ :: rest) sc pos) 0 it acc env)) := by
  unfold innerBody
  simp only [bind_assoc, pure_bind]
  rfl
theorem turn_last2 (elt tg iter tg2 iter2 : Expr) (ifs ifs2 : List Expr) (sc : Scope) (pos : Pos) (it acc : Value) (env : Env) :
    compTurn (.ListComp elt [⟨tg, iter, ifs, 0⟩, ⟨tg2, iter2, ifs2, 0⟩] sc pos) 1 it acc env = (do
      standAt iter2.pos
      match ← pyNext it with
      | none => pure (.done .next)
      | some v =>
        letOwnedTupleGo tg2 it v
        assign tg2 env v
        let mut ok := true
        for c in ifs2 do
          if ok then ok ← isTrue c env (eval c env)
        if ok then (do let _ ← call (.builtin "list.append") [acc, ← eval elt env])
        again (.compLoop (.ListComp elt [⟨tg, iter, ifs, 0⟩, ⟨tg2, iter2, ifs2, 0⟩] sc pos) 1 it acc env)) := by rfl
section
variable {prog : Program} {w : World} {A : Around} {R : Result → Shared → Prop} {s : Shared}
theorem start_inner {elt : Expr} {gs : List Comprehension} {sc : Scope} {pos : Pos} {d : Nat} {g : Comprehension} {it acc : Value} {env : Env} (hg : gs[d]? = some g) (ha : g.is_async = 0)
    (h0 : codeAny (model prog w) A (.compLoop (.ListComp elt gs sc pos) d it acc env) R s)
    (h : wpAny (model prog w) A (pyIter it) (fun it' s' => codeAny (model prog w) A (.compLoop (.ListComp elt gs sc pos) d it' acc env) R s') (notedBy (model prog w) A env fun x s' => R (.error x) s') s) :
    codeAny (model prog w) A (.compStart (.ListComp elt gs sc pos) d it acc env) R s := by
  refine codeAny_of_tree (show wpAny _ _ ((compStart (.ListComp elt gs sc pos) d it acc env).onRaise (fun x => do noteFrame x env; standAt theWindowsPlace)) _ _ s from wpAny_notedAt ?_)
  unfold compStart
  have e : (clausesOf (.ListComp elt gs sc pos))[d]? = some g := hg
  rw [e]
  have ea : (some g).elim false (fun x : Comprehension => x.is_async != 0) = false := by show (g.is_async != 0) = false; rw [ha]; rfl
  rw [ea]
  refine wpAny_bind (wpAny_askSetting (wpAny_ite ?_))
  split
  · first
      | exact wpAny_pure ⟨rfl, h0⟩
      | exact wpAny_bind (wpAny_pure (wpAny_pure ⟨rfl, h0⟩))
  · exact wpAny_bind (wpAny_rule (wpAny_bind (wpAny_standAt (wpAny_bind (wpAny_mono h (fun it' s' h' => wpAny_pure ⟨rfl, h'⟩) fun _ _ x => x)))))
end
noncomputable def tInner (wi : TI) (g : TG) (tc : TT) (tb : TB) : TB := fun σ H N => wi σ H fun J H1 => tCL J g tc tb N σ H1
theorem pb_inner {X : Cx} {elt tg iter : Expr} {ifs : List Expr} {gs : List Comprehension} {sc : Scope} {pos : Pos} {d : Nat} {acc : Value} {wi : TI} {g : TG} {tc : TT} {tb : TB} {body : Sem Unit} (hc : X.calm = true) (hx : X.xe = fun _ _ => False) (hgs : gs[d]? = some ⟨tg, iter, ifs, 0⟩)
    (hi : PI X tg iter wi) (hg : PG X tg g) (hifs : PIfs X ifs tc) (hb : PB X body tb)
    (heq : ∀ it : Addr, compTurn (.ListComp elt gs sc pos) d (.ref it) acc X.env = (do
      standAt iter.pos
      match ← pyNext (.ref it) with
      | none => pure (.done .next)
      | some v =>
        letOwnedTupleGo tg (.ref it) v
        assign tg X.env v
        let mut ok := true
        for c in ifs do
          if ok then ok ← isTrue c X.env (eval c X.env)
        if ok then body
        again (.compLoop (.ListComp elt gs sc pos) d (.ref it) acc X.env)))
    (hs : ∀ x, foldedSetIterable iter X.env x = pure x) : PB X (innerBody (.ListComp elt gs sc pos) iter d acc X.env) (tInner wi g tc tb) := by
  intro pins s σ H N I q
  unfold innerBody
  refine wpAny_bind (thn (hi pins s σ H _ I q) fun v s1 h1 => ?_)
  refine wpAny_bind (wpAny_standAt (wpAny_bind (wpAny_of_eq (hs v) (wpAny_bind (wpAny_holding (thn h1 fun itv s2 h2 => ?_))))))
  obtain ⟨it, fp, tn, J, H2, e2, I2, T, st2, f2, q2⟩ := h2
  subst e2
  have L := comp_loop (X := X) (e := .ListComp elt gs sc pos) (d := d) (acc := acc) (D := N) (s := s2) hc hx (heq it) rfl rfl rfl T hg hifs hb I2 st2 f2 q2
  refine wpAny_bind (wpAny_runOwn (start_inner hgs rfl ?_ ?_))
  · refine codeAny_mono L fun r s' hr => ?_
    obtain ⟨rfl, σ', H', J', n'⟩ := hr
    exact wpAny_pure ⟨σ', H', J', n'⟩
  · refine T.self X.A 0 s2 _ _ st2 ?_
    refine codeAny_mono L fun r s' hr => ?_
    obtain ⟨rfl, σ', H', J', n'⟩ := hr
    exact wpAny_pure ⟨σ', H', J', n'⟩
section
variable {X : Cx}
noncomputable def tLC2 (fr : List (Option Nat)) (wi : TI) (g : TG) (tc : TT) (wi2 : TI) (g2 : TG) (tc2 : TT) (te : TE) : TE := fun σ H Q => wi σ H fun J H1 => ∀ p, H1 p = none → tCL J g tc (tInner wi2 g2 tc2 (tEmit p te)) (fun _ H2 => Q (.ref p) H2) (frS fr σ) (upd H1 p (.lst []))
theorem pe_lc2 {N : List Str} {fr : List (Option Nat)} {tg iter tg2 iter2 elt : Expr} {ifs ifs2 : List Expr} {sc : Scope} {pos : Pos} {cl : List (Str × Addr)} {wi wi2 : TI} {g g2 : TG} {tc tc2 : TT} {te : TE} (hc : X.calm = true) (hi : PI X tg iter wi) (S : CScope X N fr sc) (hcl : clos sc.names X.env.cells [] = some cl)
    (hb : ∀ s H ex, PG (cxc X N sc cl s H ex) tg g ∧ PIfs (cxc X N sc cl s H ex) ifs tc ∧ PI (cxc X N sc cl s H ex) tg2 iter2 wi2 ∧ PG (cxc X N sc cl s H ex) tg2 g2 ∧ PIfs (cxc X N sc cl s H ex) ifs2 tc2 ∧ PE (cxc X N sc cl s H ex) elt te) (hs : ∀ x, foldedSetIterable iter X.env x = pure x := by intro _; rfl) (hs2 : ∀ env x, foldedSetIterable iter2 env x = pure x := by intro _ _; rfl) :
    PE X (.ListComp elt [⟨tg, iter, ifs, 0⟩, ⟨tg2, iter2, ifs2, 0⟩] sc pos) (tLC2 fr wi g tc wi2 g2 tc2 te) := by
  intro pins s σ H Q I h
  rw [eval_ListComp]
  refine lc_entry (D := fun J p σ H => tCL J g tc (tInner wi2 g2 tc2 (tEmit p te)) (fun _ H2 => Q (.ref p) H2) σ H) rfl hi S hcl I h (fun it p fp tn J s1 s2 H1 σ1 T B st f d => ?_) hs
  obtain ⟨hg, hifs, hi2, hg2, hifs2, helt⟩ := hb s1 H1 fp
  have inn := pb_inner (X := cxc X N sc cl s1 H1 fp) (elt := elt) (gs := [⟨tg, iter, ifs, 0⟩, ⟨tg2, iter2, ifs2, 0⟩]) (sc := sc) (pos := pos) (d := 1) (acc := .ref p) hc rfl rfl hi2 hg2 hifs2 (pb_emit (p := p) helt) (fun it => turn_last2 elt tg iter tg2 iter2 ifs ifs2 sc pos (.ref it) (.ref p) _) (hs2 _)
  have L := comp_loop (X := cxc X N sc cl s1 H1 fp) (e := .ListComp elt [⟨tg, iter, ifs, 0⟩, ⟨tg2, iter2, ifs2, 0⟩] sc pos) (d := 0) (acc := .ref p) (D := fun _ H2 => Q (.ref p) H2) (s := s2) hc rfl (turn_outer elt tg iter tg2 iter2 ifs ifs2 [] sc pos (.ref it) (.ref p) _) rfl rfl rfl T hg hifs inn B st f d
  exact codeAny_compStart_list L (T.self X.A 0 s2 _ _ st L)
noncomputable def tLC3 (fr : List (Option Nat)) (wi : TI) (g : TG) (tc : TT) (wi2 : TI) (g2 : TG) (tc2 : TT) (wi3 : TI) (g3 : TG) (tc3 : TT) (te : TE) : TE := fun σ H Q => wi σ H fun J H1 => ∀ p, H1 p = none → tCL J g tc (tInner wi2 g2 tc2 (tInner wi3 g3 tc3 (tEmit p te))) (fun _ H2 => Q (.ref p) H2) (frS fr σ) (upd H1 p (.lst []))
theorem a_tLC2 {fr : List (Option Nat)} {wi wi2 : TI} {g g2 : TG} {tc tc2 : TT} {te : TE} {σ : St} {H : Hp} {Q : VK} : tLC2 fr wi g tc wi2 g2 tc2 te σ H Q = wi σ H fun J H1 => ∀ p, H1 p = none → tCL J g tc (tInner wi2 g2 tc2 (tEmit p te)) (fun _ H2 => Q (.ref p) H2) (frS fr σ) (upd H1 p (.lst [])) := rfl
theorem a_tLC3 {fr : List (Option Nat)} {wi wi2 wi3 : TI} {g g2 g3 : TG} {tc tc2 tc3 : TT} {te : TE} {σ : St} {H : Hp} {Q : VK} : tLC3 fr wi g tc wi2 g2 tc2 wi3 g3 tc3 te σ H Q = wi σ H fun J H1 => ∀ p, H1 p = none → tCL J g tc (tInner wi2 g2 tc2 (tInner wi3 g3 tc3 (tEmit p te))) (fun _ H2 => Q (.ref p) H2) (frS fr σ) (upd H1 p (.lst [])) := rfl
theorem a_tInner {wi : TI} {g : TG} {tc : TT} {tb : TB} {σ : St} {H : Hp} {N : St → Hp → Prop} : tInner wi g tc tb σ H N = wi σ H fun J H1 => tCL J g tc tb N σ H1 := rfl
end
end L2
end
section
set_option Elab.async false
set_option linter.all false
set_option maxRecDepth 100000
namespace L2
open PySem PySem.Spec PyProof.Rows
theorem Box.ne {H : Hp} {p c : Addr} (bx : Box H p) (n : H c = none) : p ≠ c := by
  rintro rfl
  obtain ⟨_, _, _, e⟩ := bx
  rw [n] at e
  cases e
theorem Box.upd {H : Hp} {p c : Addr} {o : HO} (bx : Box H p) (n : p ≠ c) : Box (L2.upd H c o) p := by
  obtain ⟨g, m, z, e⟩ := bx
  exact ⟨g, m, z, by rw [upd_ne n]; exact e⟩
theorem Box.same {H H' : Hp} {p : Addr} (bx : Box H p) (s : Same H H') : Box H' p := by
  obtain ⟨g, m, z, e⟩ := bx
  exact ⟨g, m, z, s _ _ e⟩
end L2
end
section
set_option Elab.async false
set_option linter.all false
set_option maxRecDepth 100000
namespace L2
open PySem PySem.Spec PyProof.Rows
section
variable {X : Cx}
noncomputable def plainE : Expr → Bool
  | .Starred _ _ => false
  | _ => true
theorem star_cons {e : Expr} {es : List Expr} {env : Env} (h : plainE e = true) : starEach (e :: es) env = (false, eval e env) :: starEach es env := by
  cases e <;> first | rfl | cases h
theorem pa_cns {e : Expr} {es : List Expr} {te : TE} {t : TA} (ha : PE X e te) (hr : PA X es t) (hp : plainE e = true := by rfl) : PA X (e :: es) (tCons te t) := pa_cons ha hr (star_cons hp)
noncomputable def tDict : TE := fun _ H Q => ∀ (p : Addr) (H' : Hp), H p = none → Same H H' → H' p = some (.dK []) → Q (.ref p) H'
theorem a_tChain {r r' : R2} {ta tb tc : TE} {σ : St} {H : Hp} {Q : VK} : tChain r r' ta tb tc σ H Q = ta σ H fun x H1 => tb σ H1 fun y H2 => r x y H2 fun z H3 => ∃ k, z = .bl k ∧ (if k = true then tc σ H3 fun w' H4 => r' y w' H4 Q else Q (.bl false) H3) := rfl
theorem a_tDict {σ : St} {H : Hp} {Q : VK} : tDict σ H Q = ∀ (p : Addr) (H' : Hp), H p = none → Same H H' → H' p = some (.dK []) → Q (.ref p) H' := rfl
noncomputable def tLstA (t : TA) : TE := fun σ H Q => t σ H fun xs H1 => xs.length ≤ sizeLine ∧ ∀ (p : Addr) (H2 : Hp), H1 p = none → Same H1 H2 → H2 p = some (.lst xs) → Q (.ref p) H2
theorem pe_lstA {es : List Expr} {t : TA} {pos : Pos} (h : PA X es t) : PE X (.List es pos) (tLstA t) := by
  intro pins s σ H Q I hq
  refine wpAny_List_spliced (thn (h pos pins s σ H _ I hq) fun us s1 ⟨xs, H1, I1, r, z, q⟩ => ⟨r.length ▸ z, ?_⟩)
  have nf := I1.hok.fresh (Nat.le_refl s1.heap.objs.size)
  exact ⟨.ref s1.heap.objs.size, upd H1 s1.heap.objs.size (.lst xs), I1.laid (t' := s1.toks) (fun b u e => Heap.get?_push_of_some _ e) (Nat.le_refl _) ⟨z, us, 0, r, Heap.get?_push_size _ rfl⟩, rfl, q _ _ nf (same_upd nf) upd_same⟩
theorem a_tLstA {t : TA} {σ : St} {H : Hp} {Q : VK} : tLstA t σ H Q = t σ H fun xs H1 => xs.length ≤ sizeLine ∧ ∀ (p : Addr) (H2 : Hp), H1 p = none → Same H1 H2 → H2 p = some (.lst xs) → Q (.ref p) H2 := rfl
end
end L2
end
section
set_option Elab.async false
set_option linter.all false
set_option maxRecDepth 100000
namespace L2
open PySem PySem.Spec PyProof.Rows
noncomputable def Later (f : St → Hp → Prop) : St → Hp → Prop := f
theorem a_later {f : St → Hp → Prop} {σ : St} {H : Hp} : Later f σ H = f σ H := rfl
noncomputable def tSeqL (t u : TS) : TS := tSeq t u
theorem pss_consL {X : Cx} {st : Stmt} {sts : List Stmt} {t u : TS} (h : PS X st t) (hs : PSs X sts u) : PSs X (st :: sts) (tSeqL t u) := pss_cons h hs
theorem a_tSeqL {t u : TS} {D : Ends} {σ : St} {H : Hp} : tSeqL t u D σ H = t { D with nx := Later (u D) } σ H := rfl
end L2
end
section
set_option Elab.async false
set_option linter.all false
set_option maxRecDepth 100000
namespace L2
open PySem PySem.Spec PyProof.Rows
section
variable {X : Cx}
end
end L2
end
section
set_option Elab.async false
set_option linter.all false
set_option maxRecDepth 100000
namespace L2
open PySem PySem.Spec PyProof.Rows
section
variable {prog : Program} {w : World} {A : Around} {E : Value → Shared → Prop} {s : Shared}
end
section
variable {X : Cx}
noncomputable def gLst0 (n : Nat) (t : TGs) : TG := fun v σ H Q => ∃ a xs, v = .ref a ∧ H a = some (.lst xs) ∧ xs.length = n ∧ t xs σ H Q
theorem a_gLst0 {n : Nat} {t : TGs} {v : V} {σ : St} {H : Hp} {Q : St → Hp → Prop} : gLst0 n t v σ H Q = ∃ a xs, v = .ref a ∧ H a = some (.lst xs) ∧ xs.length = n ∧ t xs σ H Q := rfl
end
end L2
end
section
set_option Elab.async false
set_option linter.all false
namespace L2
open PySem
section
variable {D : Ends} {σ : St} {H : Hp} {Q : VK} {QB : Bool → Hp → Prop} {QA : List V → Hp → Prop}
end
end L2
namespace L2
theorem us0 {P : List PySem.Value → Prop} (h : P []) : ∀ us : List PySem.Value, us.length = 0 → P us := fun us e => by
  cases us with
  | nil => exact h
  | cons _ _ => cases e
theorem us1 {P : List PySem.Value → Prop} (h : ∀ a, P [a]) : ∀ us : List PySem.Value, us.length = 1 → P us := fun us e => by
  cases us with
  | nil => cases e
  | cons a t => exact us0 (P := fun t => P (a :: t)) (h a) t (Nat.succ.inj e)
theorem us2 {P : List PySem.Value → Prop} (h : ∀ a b, P [a, b]) : ∀ us : List PySem.Value, us.length = 2 → P us := fun us e => by
  cases us with
  | nil => cases e
  | cons a t => exact us1 (P := fun t => P (a :: t)) (h a) t (Nat.succ.inj e)
theorem us3 {P : List PySem.Value → Prop} (h : ∀ a b c, P [a, b, c]) : ∀ us : List PySem.Value, us.length = 3 → P us := fun us e => by
  cases us with
  | nil => cases e
  | cons a t => exact us2 (P := fun t => P (a :: t)) (h a) t (Nat.succ.inj e)
end L2
end
section
set_option Elab.async false
set_option linter.all false
set_option maxRecDepth 100000
namespace L2
open PySem PySem.Spec PyProof.Rows
section
variable {X : Cx}
noncomputable def tSM (f : Str → V) (to : TE) : TE := fun σ H Q => to σ H fun x H1 => ∃ y, x = .str y ∧ Q (f y) H1
theorem a_tSM {f : Str → V} {to : TE} {σ : St} {H : Hp} {Q : VK} : tSM f to σ H Q = to σ H fun x H1 => ∃ y, x = .str y ∧ Q (f y) H1 := rfl
theorem pe_isascii {o : Expr} {to : TE} {apos cpos : Pos} (ho : PE X o to) (hbase : attributeBase o "isascii" X.env (eval o X.env) = eval o X.env := by rfl) (hline : (apos.endLine == cpos.line) = true := by rfl) : PE X (.Call (.Attribute o "isascii" apos) [] [] cpos) (tSM (fun x => .bl (Txt.isascii x)) to) := by
  intro pins s σ H Q I h
  refine Call_method0 hbase hline (thn (ho pins s σ H _ I h) fun v s1 ⟨x, H1, I1, r1, y, e, q⟩ => ?_)
  subst e
  obtain ⟨t, rfl⟩ := r1
  exact SB.isascii ⟨.bl _, H1, I1, rfl, q⟩
theorem pe_isdecimal {o : Expr} {to : TE} {apos cpos : Pos} (ho : PE X o to) (hbase : attributeBase o "isdecimal" X.env (eval o X.env) = eval o X.env := by rfl) (hline : (apos.endLine == cpos.line) = true := by rfl) : PE X (.Call (.Attribute o "isdecimal" apos) [] [] cpos) (tSM (fun x => .bl (Txt.isdecimal x)) to) := by
  intro pins s σ H Q I h
  refine Call_method0 hbase hline (thn (ho pins s σ H _ I h) fun v s1 ⟨x, H1, I1, r1, y, e, q⟩ => ?_)
  subst e
  obtain ⟨t, rfl⟩ := r1
  exact SB.isdecimal ⟨.bl _, H1, I1, rfl, q⟩
theorem vals_strs : ∀ l : List (Str × Tok), Vals ((l.map (·.1)).map V.str) (strValues l)
  | [] => .nil
  | p :: l => .cons ⟨p.2, rfl⟩ (vals_strs l)
theorem strs_vals : ∀ (ws : List Str) (us : List Value), Vals (ws.map V.str) us → ∃ l : List (Str × Tok), l.map (·.1) = ws ∧ us = strValues l
  | [], _, .nil => ⟨[], rfl, rfl⟩
  | w :: ws, _, .cons ⟨t, e⟩ r => by
    obtain ⟨l, e1, e2⟩ := strs_vals ws _ r
    exact ⟨(w, t) :: l, by rw [List.map_cons, e1], by rw [e, e2]; rfl⟩
theorem mt_split {pins : List (Addr × Obj)} {s : Shared} {σ : St} {H : Hp} {x y : Str} {t u : Tok} {Q : VK} (I : Inv X pins σ H s) (hy : (y.length == 0) = false) (hx : x.length < 100000) (hn : (Txt.split x y).length < 100000) (q : ∀ l H2, H l = none → Same H H2 → H2 l = some (.lst ((Txt.split x y).map V.str)) → Q (.ref l) H2) :
    wpAny (model X.prog X.w) X.A (call (.builtin "str.split") [.str x t, .str y u]) (EP X pins σ Q) X.xe s := by
  have fr : H s.heap.objs.size = none := I.hok.fresh (Nat.le_refl _)
  have fin : ∀ (l : List (Str × Tok)) (tk : Nat), l.map (·.1) = Txt.split x y → EP X pins σ Q (.ref s.heap.objs.size) { s with toks := tk, heap := s.heap.push { cls := .type "list", data := .seq (strValues l).toArray } } := fun l tk e => by
    refine ⟨.ref s.heap.objs.size, _, I.laid (o := .lst ((Txt.split x y).map V.str)) (t' := tk) (fun b o h => Heap.get?_push_of_some _ h) (Nat.le_refl _) ?_, rfl, q _ _ fr (same_upd fr) upd_same⟩
    refine ⟨by rw [List.length_map, sizeLine_eq]; omega, strValues l, 0, by rw [← e]; exact vals_strs l, ?_⟩
    exact Heap.get?_push_size _ rfl
  have hx' : x.length ≤ sizeLine := by rw [sizeLine_eq]; omega
  cases h1 : (decide (x.length < y.length) || decide (Builtin.Str.strKind x < Builtin.Str.strKind y)) with
  | true => exact call_meets F.slot_str_split (typeIs_str _ _ _) F.entry_str_split (F.args_str_split_2 _ _) (meets_str_split_cannot_occur x y t u h1) (fin [(x, t)] s.toks (if_pos h1).symm)
  | false =>
    cases hf : (Builtin.Str.occurrences x y 0 x.length (x.length + 1)).isEmpty with
    | true => exact call_meets F.slot_str_split (typeIs_str _ _ _) F.entry_str_split (F.args_str_split_2 _ _) (meets_str_split_not_found x y t u h1 hy hf) (fin [(x, t)] s.toks ((if_neg (ne_true_of_eq_false h1)).trans (if_pos hf)).symm)
    | false =>
      have eT : Txt.split x y = Builtin.Str.partsBetween x (Builtin.Str.occurrences x y 0 x.length (x.length + 1)) y.length := (if_neg (ne_true_of_eq_false h1)).trans (if_neg (ne_true_of_eq_false hf))
      refine call_meets F.slot_str_split (typeIs_str _ _ _) F.entry_str_split (F.args_str_split_2 _ _) (meets_str_split_sep x y t u h1 hy hf hx' (by rw [← eT, sizeLine_eq]; omega)) ?_
      show wants (EP X pins σ Q) X.xe _ { s with toks := _, heap := s.heap.push { cls := .type "list", data := .seq (strsFrom s.toks (Builtin.Str.partsBetween x (Builtin.Str.occurrences x y 0 x.length (x.length + 1)) y.length)).toArray } }
      rw [strsFrom_eq]
      exact fin (numbered s.toks _) _ ((numbered_texts _ _).trans eT.symm)
noncomputable def tSplit (to : TE) (t : TA) : TE := fun σ H Q => to σ H fun x H1 => ∃ y, x = .str y ∧ t σ H1 fun vs H2 => ∃ z, vs = [.str z] ∧ (z.length == 0) = false ∧ y.length < 100000 ∧ (Txt.split y z).length < 100000 ∧ ∀ l H3, H2 l = none → Same H2 H3 → H3 l = some (.lst ((Txt.split y z).map V.str)) → Q (.ref l) H3
theorem a_tSplit {to : TE} {t : TA} {σ : St} {H : Hp} {Q : VK} : tSplit to t σ H Q = to σ H fun x H1 => ∃ y, x = .str y ∧ t σ H1 fun vs H2 => ∃ z, vs = [.str z] ∧ (z.length == 0) = false ∧ y.length < 100000 ∧ (Txt.split y z).length < 100000 ∧ ∀ l H3, H2 l = none → Same H2 H3 → H3 l = some (.lst ((Txt.split y z).map V.str)) → Q (.ref l) H3 := rfl
theorem pe_split {o e : Expr} {to : TE} {t : TA} {apos cpos : Pos} (ho : PE X o to) (ha : PA X [e] t) (hbase : attributeBase o "split" X.env (eval o X.env) = eval o X.env := by rfl)
    (hfew : ((backTo cpos (starEach [e] X.env)).all (fun x => !x.1) && (backToKw cpos (keywordEach [] X.env)).all (fun x => x.1.isSome) && decide ([e].length + ([] : List Keyword).length + (if ([] : List Keyword).isEmpty then 0 else 1) < 30)) = true := by rfl)
    (hline : (apos.endLine == cpos.line) = true := by rfl) (hs : starEach [e] X.env = (false, eval e X.env) :: starEach [] X.env := by rfl) : PE X (.Call (.Attribute o "split" apos) [e] [] cpos) (tSplit to t) := by
  intro pins s σ H Q I h
  refine wpAny_Call_method_late hbase hfew hline rfl (thn (ho pins s σ H _ I h) fun v s1 ⟨x, H1, I1, r1, q1⟩ => ?_)
  obtain ⟨y, rfl, q1⟩ := q1
  obtain ⟨ty, rfl⟩ := r1
  refine ⟨"str", "str.split", PySem.F.plainAttrs_str, PySem.F.slot_str_split, PySem.F.type_str_split, typeIs_str _ _ _, (fun _ e => nomatch e), ?_⟩
  have hA := ha cpos pins s1 σ H1 _ I1 q1
  rw [hs] at hA ⊢
  refine Calls.callWith_builtin (by rfl) (Calls.evalArgs_plain ?_)
  refine thn hA fun us s2 ⟨vs, H2, I2, r2, z, e, hz, hl, hn, q⟩ => ?_
  subst e
  obtain ⟨u, rfl, ru⟩ := r2.one
  obtain ⟨tk, rfl⟩ := ru
  exact mt_split I2 hz hl hn q
theorem mt_join {pins : List (Addr × Obj)} {s : Shared} {σ : St} {H : Hp} {x : Str} {t : Tok} {a : Addr} {ws : List Str} {Q : VK} (I : Inv X pins σ H s) (ha : H a = some (.lst (ws.map V.str))) (ok : JoinOk x ws = true) (q : Q (.str (Txt.join x ws)) H) :
    wpAny (model X.prog X.w) X.A (call (.builtin "str.join") [.str x t, .ref a]) (EP X pins σ Q) X.xe s := by
  obtain ⟨z, its, n, r, hl, e⟩ := I.lstM ha
  obtain ⟨l, e1, e2⟩ := strs_vals ws _ r
  subst e1 e2
  have hok := ok
  unfold JoinOk at hok
  rw [Bool.not_eq_true'] at hok
  refine call_meets F.slot_str_join (typeIs_str _ _ _) F.entry_str_join (F.args_str_join_2 _ _) (meets_str_join_list x t a l hok) ⟨⟨_, e, rfl, _, rfl⟩, post_join l ⟨joinFit_length hok, fun t' k => ⟨.str _, H, I.tok _, ⟨_, rfl⟩, q⟩⟩⟩
noncomputable def tJoin (to : TE) (t : TA) : TE := fun σ H Q => to σ H fun x H1 => ∃ y, x = .str y ∧ t σ H1 fun vs H2 => ∃ (a : Addr) (ws : List Str), vs = [.ref a] ∧ H2 a = some (.lst (ws.map V.str)) ∧ JoinOk y ws = true ∧ Q (.str (Txt.join y ws)) H2
theorem a_tJoin {to : TE} {t : TA} {σ : St} {H : Hp} {Q : VK} : tJoin to t σ H Q = to σ H fun x H1 => ∃ y, x = .str y ∧ t σ H1 fun vs H2 => ∃ (a : Addr) (ws : List Str), vs = [.ref a] ∧ H2 a = some (.lst (ws.map V.str)) ∧ JoinOk y ws = true ∧ Q (.str (Txt.join y ws)) H2 := rfl
theorem pe_join {o e : Expr} {to : TE} {t : TA} {apos cpos : Pos} (ho : PE X o to) (ha : PA X [e] t) (hbase : attributeBase o "join" X.env (eval o X.env) = eval o X.env := by rfl)
    (hfew : ((backTo cpos (starEach [e] X.env)).all (fun x => !x.1) && (backToKw cpos (keywordEach [] X.env)).all (fun x => x.1.isSome) && decide ([e].length + ([] : List Keyword).length + (if ([] : List Keyword).isEmpty then 0 else 1) < 30)) = true := by rfl)
    (hline : (apos.endLine == cpos.line) = true := by rfl) (hs : starEach [e] X.env = (false, eval e X.env) :: starEach [] X.env := by rfl) : PE X (.Call (.Attribute o "join" apos) [e] [] cpos) (tJoin to t) := by
  intro pins s σ H Q I h
  refine wpAny_Call_method_late hbase hfew hline rfl (thn (ho pins s σ H _ I h) fun v s1 ⟨x, H1, I1, r1, q1⟩ => ?_)
  obtain ⟨y, rfl, q1⟩ := q1
  obtain ⟨ty, rfl⟩ := r1
  refine ⟨"str", "str.join", PySem.F.plainAttrs_str, PySem.F.slot_str_join, PySem.F.type_str_join, typeIs_str _ _ _, (fun _ e => nomatch e), ?_⟩
  have hA := ha cpos pins s1 σ H1 _ I1 q1
  rw [hs] at hA ⊢
  refine Calls.callWith_builtin (by rfl) (Calls.evalArgs_plain ?_)
  refine thn hA fun us s2 ⟨vs, H2, I2, r2, a, ws, e, ha2, ok, q⟩ => ?_
  subst e
  obtain ⟨u, rfl, ru⟩ := r2.one
  cases ru
  exact mt_join I2 ha2 ok q
theorem strI0 : CallR X (.type "str") (fun xs H Q => ∃ n : Int, xs = [.int n] ∧ n.natAbs < 10 ^ 15 ∧ Q (.str (Str.ofString (toString n))) H) := by
  intro pins s σ H xs us Q I r h
  obtain ⟨n, rfl, hn, q⟩ := h
  obtain ⟨u, rfl, t, rfl⟩ := vals1 r
  exact str_of_int_fit (N := 10 ^ 15) (by split <;> omega) (by decide) fun _ => ⟨.str _, H, I.tok _, ⟨_, rfl⟩, q⟩
end
end L2
namespace L2
open PySem PySem.Spec PyProof.Rows
section
variable {X : Cx}
end
end L2
namespace L2
open PySem PySem.Spec PyProof.Rows
section
variable {X : Cx}
end
end L2
end
section
set_option Elab.async false
set_option linter.all false
set_option maxRecDepth 100000
namespace L2
open PySem PySem.Spec PyProof.Rows
noncomputable def XObj (h : Heap) (e : Addr) (cls : Value) (o : Option (Addr × Value)) : Prop :=
  ∃ (oe : Obj) (vs : Array Value), h.get? e = some oe ∧ (oe.cls = cls ∧ oe.dict = none) ∧ oe.data = .fields vs ∧
    match o with
    | none => vs[1]? = some .none
    | some (T, fl) => vs[1]? = some (.ref T) ∧ T ≠ e ∧ ∃ (oT : Obj) (ts : Array Value), h.get? T = some oT ∧ oT.data = .fields ts ∧ ts[3]? = some fl
structure Chg (e : Addr) (T : Option Addr) (fr : List Addr) (h h' : Heap) : Prop where
  same : ∀ b o, b ≠ e → some b ≠ T → b ∉ fr → h.get? b = some o → h'.get? b = some o
  slot : ∀ b o, b ∈ fr → h.get? b = some o → ∃ sl, h'.get? b = some { o with slots := sl }
theorem XObj.there {h : Heap} {e : Addr} {cls : Value} {o : Option (Addr × Value)} (x : XObj h e cls o) : ∃ oe, h.get? e = some oe ∧ oe.cls = cls ∧ oe.dict = none :=
  let ⟨oe, _, a, b, _⟩ := x; ⟨oe, a, b⟩
theorem XObj.fields {h : Heap} {e : Addr} {cls : Value} {o : Option (Addr × Value)} (x : XObj h e cls o) : ∃ oe vs, h.get? e = some oe ∧ oe.data = .fields vs :=
  let ⟨oe, vs, a, _, b, _⟩ := x; ⟨oe, vs, a, b⟩
theorem XObj.fieldsT {h : Heap} {e T : Addr} {cls fl : Value} (x : XObj h e cls (some (T, fl))) : ∃ oT ts, h.get? T = some oT ∧ oT.data = .fields ts :=
  let ⟨_, _, _, _, _, _, _, oT, ts, a, b, _⟩ := x; ⟨oT, ts, a, b⟩
section
variable {M : Model} {A : Around} {E : Value → Shared → Prop} {s : Shared}
end
end L2
end
section
set_option Elab.async false
set_option linter.all false
set_option maxRecDepth 100000
namespace L2
open PySem PySem.Spec PyProof.Rows
theorem HOk.there {P : Program} {w : World} {H : Hp} {h : Heap} {a : Addr} (x : HOk P w H h) (e : h.get? a = none) : H a = none := by
  cases q : H a with
  | none => rfl
  | some o =>
    have z := x a o q
    have no : ∀ ob, ¬ h.get? a = some ob := fun ob z => by rw [e] at z; cases z
    cases o with
    | lst xs => obtain ⟨_, _, _, _, e'⟩ := z; exact absurd e' (no _)
    | tup xs => obtain ⟨_, _, _, ob, e', _⟩ := z; exact absurd e' (no _)
    | dK kvs => obtain ⟨_, _, _, _, o, _, _, e', _⟩ := z; exact absurd e' (no _)
    | dT kvs => obtain ⟨_, _, _, _, o, _, _, e', _⟩ := z; exact absurd e' (no _)
    | set S n => obtain ⟨o, _, _, _, e', _⟩ := z; exact absurd e' (no _)
    | ins C dx fs => obtain ⟨_, _, _, e', _⟩ := z; exact absurd e' (no _)
    | own y => obtain ⟨_, e'⟩ := z; exact absurd e' (no _)
    | xd fs => obtain ⟨_, ⟨_, _, _, e', _⟩, _⟩ := z; exact absurd e' (no _)
    | rng lo hi => obtain ⟨_, _, _, e'⟩ := z; exact absurd e' (no _)
    | frz ob u => obtain ⟨e', _⟩ := z; exact absurd e' (no _)
    | tbl ps => exact absurd (show h.get? a = some _ from z) (no _)
    | met f y => exact absurd (show h.get? a = some _ from z) (no _)
    | ext φ => obtain ⟨_, ⟨_, e'⟩, _⟩ := z; exact absurd e' (no _)
structure XFree (X : Cx) (pins : List (Addr × Obj)) (H : Hp) (a : Addr) : Prop where
  free : H a = none
  new : X.s₀.heap.get? a = none ∨ a ∈ X.ex
  pin : ∀ p ∈ X.pn ++ pins, p.1 ≠ a
structure XIn (X : Cx) (pins : List (Addr × Obj)) (H : Hp) (s : Shared) (e : Addr) (cls : Value) (o : Option (Addr × Value)) : Prop where
  obj : XObj s.heap e cls o
  fe : XFree X pins H e
  fT : ∀ T fl, o = some (T, fl) → XFree X pins H T
section
variable {X : Cx} {pins : List (Addr × Obj)} {σ : St} {H : Hp} {s : Shared}
theorem XIn.dT {e : Addr} {cls : Value} {o : Option (Addr × Value)} (x : XIn X pins H s e cls o) : ∀ t, o.map (·.1) = some t → ∃ oe vs, s.heap.get? t = some oe ∧ oe.data = .fields vs := fun t z => by
  cases o with
  | none => cases z
  | some p =>
    obtain ⟨T, fl⟩ := p
    cases z
    exact x.obj.fieldsT
end
section
variable {X : Cx}
end
end L2
end
section
set_option Elab.async false
set_option linter.all false
set_option maxRecDepth 100000
namespace L2
open PySem PySem.Spec PyProof.Rows
section
variable {X : Cx}
theorem XFree.wish {pins : List (Addr × Obj)} {H : Hp} {a : Addr} {E : Value → Shared → Prop} (x : XFree X pins H a) : XFree (X.wish E) pins H a := ⟨x.free, x.new, x.pin⟩
theorem XFree.unwish {pins : List (Addr × Obj)} {H : Hp} {a : Addr} {E : Value → Shared → Prop} (x : XFree (X.wish E) pins H a) : XFree X pins H a := ⟨x.free, x.new, x.pin⟩
theorem XIn.unwish {pins : List (Addr × Obj)} {H : Hp} {s : Shared} {e : Addr} {cls : Value} {o : Option (Addr × Value)} {E : Value → Shared → Prop} (x : XIn (X.wish E) pins H s e cls o) : XIn X pins H s e cls o := ⟨x.obj, x.fe.unwish, fun T fl z => (x.fT T fl z).unwish⟩
end
end L2
end
section
set_option Elab.async false
set_option linter.all false
set_option maxRecDepth 100000
namespace L2
open PySem PySem.Spec PyProof.Rows
structure ExCls (K : PySem.W.Frag) (C : Addr) : Prop where
  ga : PySem.W.findIn K (.ref C) "__getattribute__" = some (some (.builtin "BaseException.__getattribute__"))
  gt : PySem.W.findIn K (.ref C) "__getattr__" = some none
  cl : PySem.W.findIn K (.ref C) "__class__" = some (some (.builtin "object.__class__"))
  gs : PySem.W.specialIn K (.builtin "object.__class__") "__get__" = some (some (.builtin "getset_descriptor.__get__"))
  tk : PySem.W.takesIn K (.builtin "object.__class__") = some true
  mo : PySem.W.mroIn K C (.type "object") = some true
  mb : PySem.W.mroIn K C (.type "BaseException") = some true
section
variable {prog : Program} {w : World} {A : Around} {E : Value → Shared → Prop} {K : PySem.W.Frag} {e C : Addr}
end
section
variable {X : Cx}
end
end L2
end
section
set_option Elab.async false
set_option linter.all false
set_option maxRecDepth 100000
namespace L2
open PySem PySem.Spec PyProof.Rows
section
variable {X : Cx} {pins : List (Addr × Obj)} {σ : St} {H : Hp} {s : Shared}
end
section
variable {X : Cx}
end
end L2
end
section
set_option Elab.async false
set_option linter.all false
set_option maxRecDepth 100000
namespace L2
open PySem PySem.Spec PyProof.Rows
section
variable {X : Cx}
theorem intT0 : CallR X (.type "int") (fun xs H Q => ∃ (x : Str) (n : Int), xs = [.str x] ∧ intText? x = some n ∧ x.length ≤ 640 ∧ Q (.int n) H) := by
  intro pins s σ H xs us Q I r h
  obtain ⟨x, n, rfl, hn, hl, q⟩ := h
  obtain ⟨u, rfl, t, rfl⟩ := vals1 r
  exact PySem.W.KIN.call_text hn hl ⟨.int n, H, I.tok _, ⟨_, rfl⟩, q⟩
end
end L2
end
section
set_option Elab.async false
set_option linter.all false
set_option maxRecDepth 100000
namespace L2
open PySem PySem.Spec PyProof.Rows
section
variable {X : Cx} {tg : Expr}
noncomputable def FmtV (x : V) (y : Str) : Prop := (∃ n : Int, x = .int n ∧ n.natAbs < 10 ^ 15 ∧ y = Str.ofString (toString n)) ∨ (x = .str y ∧ y.length < 1000000)
noncomputable def tFmt (te : TE) : TE := fun σ H Q => te σ H fun x H1 => ∃ y, FmtV x y ∧ Q (.str y) H1
theorem a_tFmt {te : TE} {σ : St} {H : Hp} {Q : VK} : tFmt te σ H Q = te σ H fun x H1 => ∃ y, FmtV x y ∧ Q (.str y) H1 := rfl
theorem pe_fmt {e : Expr} {te : TE} {pos : Pos} (he : PE X e te) : PE X (.FormattedValue e (-1) none pos) (tFmt te) := by
  intro pins s σ H Q I h
  refine FormattedValue_plain (thn (he pins s σ H _ I h) fun v s1 ⟨x, H1, I1, r1, y, f, q⟩ => ?_)
  rcases f with ⟨n, rfl, hn, rfl⟩ | ⟨rfl, hy⟩
  · obtain ⟨t, rfl⟩ := r1
    refine formatField_int_small ?_ ⟨.str _, H1, I1.tok _, ⟨_, rfl⟩, q⟩
    by_cases z : n.natAbs = 0
    · rw [z]; decide
    · exact Nat.lt_of_lt_of_le ((Nat.log2_lt z).mpr (Nat.lt_of_lt_of_le hn (by decide : 10 ^ 15 ≤ 2 ^ 60))) (by decide)
  · obtain ⟨t, rfl⟩ := r1
    exact formatField_str (fun t' tk => ⟨.str _, H1, I1.tok _, ⟨_, rfl⟩, q⟩) (by rw [sizeLine_eq]; omega)
noncomputable def JP (X : Cx) (es : List Expr) (tj : Str → TE) : Prop := ∀ (pins : List (Addr × Obj)) (s : Shared) (σ : St) (H : Hp) (out : Str) (Q : VK), Inv X pins σ H s → tj out σ H Q → wpAny (model X.prog X.w) X.A (joinParts out (es.map fun e => eval e X.env)) (EP X pins σ Q) X.xe s
noncomputable def tJ0 (out : Str) : TE := fun _ H Q => out.length < 1000000 ∧ Q (.str out) H
noncomputable def tJC (t : TE) (tj : Str → TE) (out : Str) : TE := fun σ H Q => t σ H fun x H1 => ∃ a, x = .str a ∧ out.length + a.length < 1000000 ∧ tj (out ++ a) σ H1 Q
theorem a_tJ0 {out : Str} {σ : St} {H : Hp} {Q : VK} : tJ0 out σ H Q = (out.length < 1000000 ∧ Q (.str out) H) := rfl
theorem a_tJC {t : TE} {tj : Str → TE} {out : Str} {σ : St} {H : Hp} {Q : VK} : tJC t tj out σ H Q = t σ H fun x H1 => ∃ a, x = .str a ∧ out.length + a.length < 1000000 ∧ tj (out ++ a) σ H1 Q := rfl
theorem jp_nil : JP X [] tJ0 := fun pins s σ H out Q I h => joinParts_nil ⟨.str _, H, I.tok _, ⟨_, rfl⟩, h.2⟩ (by rw [sizeLine_eq]; have := h.1; omega)
theorem jp_cons {e : Expr} {es : List Expr} {t : TE} {tj : Str → TE} (h1 : PE X e t) (h2 : JP X es tj) : JP X (e :: es) (tJC t tj) := by
  intro pins s σ H out Q I h
  refine joinParts_cons (thn (h1 pins s σ H _ I h) fun v s1 ⟨x, H1, I1, r1, a, e, hz, q1⟩ => ?_)
  subst e
  obtain ⟨t, rfl⟩ := r1
  exact ⟨by rw [Str.length_append, sizeLine_eq]; omega, h2 pins s1 σ H1 _ Q I1 q1⟩
theorem pe_fj {e1 e2 : Expr} {es : List Expr} {tj : Str → TE} {pos : Pos} (h : JP X (e1 :: e2 :: es) tj) (he : evalEach es X.env = es.map fun e => eval e X.env := by rfl) : PE X (.JoinedStr (e1 :: e2 :: es) pos) (tj Str.empty) := by
  intro pins s σ H Q I hq
  refine JoinedStr_many ?_
  rw [he]
  exact h pins s σ H Str.empty Q I hq
end
end L2
end
section
set_option Elab.async false
set_option linter.all false
set_option maxRecDepth 100000
namespace L2
open PySem PySem.Spec PyProof.Rows
section
variable {X : Cx}
noncomputable def two {α : Type} (a b : α) : List α := [a, b]
noncomputable def shV : V → Str
  | .int n => Str.ofString (toString n)
  | .str x => x
  | _ => Str.ofString ""
noncomputable def shOk : V → Bool
  | .int n => decide (n.natAbs < 10 ^ 15)
  | .str _ => true
  | _ => false
theorem strV0 : CallR X (.type "str") (fun xs H Q => ∃ v : V, xs = [v] ∧ shOk v = true ∧ Q (.str (shV v)) H) := by
  intro pins s σ H xs us Q I r h
  obtain ⟨v, rfl, hv, q⟩ := h
  cases v with
  | int n => exact strI0 pins s σ H _ us Q I r ⟨n, rfl, of_decide_eq_true hv, q⟩
  | str x =>
    obtain ⟨u, rfl, t, rfl⟩ := vals1 r
    exact P.str_of_str ⟨.str x, H, I, ⟨_, rfl⟩, q⟩
  | _ => cases hv
end
end L2
end
section
set_option Elab.async false
set_option linter.all false
set_option maxRecDepth 100000
namespace L2
open PySem PySem.Spec PyProof.Rows
section
variable {prog : Program} {w : World} {A : Around} {E : Value → Shared → Prop} {s : Shared}
theorem walks_from {it t : Addr} {items : Array Value} {k : Nat} (hne : t ≠ it) (hh : A.handled = none) :
    WalksS prog w A it [it, t] [it] (fun a b => b = a) (items.size - k) (fun i v => items[k + i]? = some v) (fun i s => s.heap.IsListIter it t (k + i) ∧ s.heap.IsList t items) where
  sub := by simp
  grefl := fun _ => rfl
  gtrans := fun _ _ _ h1 h2 => h2.trans h1
  frame := fun i s h' tk st _ k => ⟨st.1.at fun o e => k it (by simp) o e, st.2.at fun o e => k t (by simp) o e⟩
  item := fun i s Q E hi st hQ => by
    refine wpAny_pyNext_list_item st.1 st.2 (x := items[k + i]'(by omega)) (by simp) fun h1 hit hs => ?_
    exact hQ _ _ (by simp) ⟨hit, st.2.extBut hs.extBut hne⟩ ⟨fun b o hb e => (hs.2 b (fun z => hb (by rw [z]; simp))).trans e, rfl, rfl, rfl, Nat.le_refl _⟩
  done := fun s Q E st hQ => by
    refine wpAny_pyNext_list_end hh st.1 st.2 (by simp; omega) fun h1 he => ?_
    exact hQ _ ⟨fun b o hb e => he b o (fun z => hb (by rw [z]; simp)) e, rfl, rfl, rfl, Nat.le_refl _⟩
  self := fun i s Q E st h => wpAny_pyIter_listiter st.1 h
theorem unpackItems_star {t : Addr} {x : Value} {xs : List Value} {Q : List Value → Shared → Prop} (hh : A.handled = none) (ht : s.heap.IsList t (x :: xs).toArray) (hz : xs.length ≤ sizeLine)
    (hQ : ∀ (h' : Heap) (tk : Nat), (∀ b o, s.heap.get? b = some o → h'.get? b = some o) → Q [x, .ref h'.objs.size] { s with heap := h'.push { cls := .type "list", data := .seq xs.toArray }, toks := tk }) : wpAny (model prog w) A (unpackItems (.ref t) 2 (some 1)) Q E s := by
  have hlt : t ≠ s.heap.objs.size := by obtain ⟨o, ho, _⟩ := ht; exact Nat.ne_of_lt (Heap.lt_size ho)
  unfold unpackItems
  refine wpAny_bind ?_
  · unfold notIterableAtAll
    refine wpAny_bind (wpAny_specialOf ht.typeIs PySem.F.slot_list_iter.lookup ?_)
    refine wpAny_pure ?_
    simp only [Bool.false_eq_true, if_false]
    refine wpAny_bind (wpAny_holding (wpAny_pyIter_list ht ?_))
    have htp : ∀ o, (s.heap.push o).IsList t (x :: xs).toArray := fun o => ht.at fun o e => Heap.get?_push_of_some _ e
    refine wpAny_bind (wpAny_holding (PySem.W.kun_draw hlt 1 0 _ _ ⟨_, Heap.get?_push_size _ rfl, rfl, rfl⟩ (htp _) (by simp) fun h₁ hit₁ hs₁ => ?_))
    have ht₁ : h₁.IsList t (x :: xs).toArray := (htp _).extBut hs₁.extBut hlt
    rw [if_neg (by simp)]
    have hfp : ∀ b ∈ [s.heap.objs.size, t], b < h₁.objs.size := fun b hb => by
      rcases List.mem_cons.mp hb with z | z
      · obtain ⟨o, ho, _⟩ := hit₁
        rw [z]
        exact Heap.lt_size ho
      · obtain ⟨o, ho, _⟩ := ht₁
        rw [List.mem_singleton.mp z]
        exact Heap.lt_size ho
    have hh1 : A.in1.handled = none := hh
    have sz : (x :: xs).toArray.size - 1 = xs.length := by simp
    refine wpAny_bind (wpAny_holding (wpAny_collect_iter (T := "list_iterator") (.inr (.inr (.inl rfl))) (walks_from (A := A.in1) (items := (x :: xs).toArray) (k := 1) hlt hh1) (fun i s st => st.1.typeIs) ⟨hit₁, ht₁⟩ hfp (by simp) (fun s' acc hm hacc => ?_) (by rw [sz]; exact hz)))
    have ea : acc.toList = xs := by
      refine List.ext_getElem? fun j => ?_
      obtain ⟨a1, a2⟩ := hacc
      rw [sz] at a1
      by_cases hj : j < xs.length
      · have h1 := a2 j (acc[j]'(by omega)) (by simp)
        rw [Array.getElem?_toList, Array.getElem?_eq_getElem (by omega)]
        rw [← h1]
        simp [Nat.add_comm 1 j]
      · rw [List.getElem?_eq_none (by simp; omega), List.getElem?_eq_none (by omega)]
    rw [ea, if_neg (by simp)]
    refine wpAny_bind (wpAny_newList (wpAny_pure ?_))
    have := hQ s'.heap s'.toks fun b o e => hm.heap b o (fun z => by
      rw [List.mem_singleton.mp z] at e
      exact absurd (Heap.lt_size e) (Nat.lt_irrefl _)) (hs₁.extBut b o (fun z => by
      rw [z] at e
      exact absurd (Heap.lt_size e) (Nat.lt_irrefl _)) (Heap.get?_push_of_some _ e))
    obtain ⟨h', g', d', tk', os'⟩ := s'
    obtain rfl : g' = s.gens := hm.gens
    obtain rfl : d' = s.drawn := hm.drawn
    obtain rfl : os' = s.os := hm.os
    simpa using this
theorem assign_star {env : Env} {e1 e2 : Expr} {x1} {pos p2 : Pos} {t : Addr} {x : Value} {xs : List Value} {Q : Unit → Shared → Prop} (hh : A.handled = none) (ht : s.heap.IsList t (x :: xs).toArray) (hz : xs.length ≤ sizeLine)
    (hn : (assignEach [e1, .Starred e2 p2] env).findIdx? (·.1) = some 1) (hm : (assignEach [e1, .Starred e2 p2] env).map (·.2) = (assignEach [e1, e2] env).map (·.2)) (hl : (assignEach [e1, .Starred e2 p2] env).length = 2)
    (h : ∀ (h' : Heap) (tk : Nat), (∀ b o, s.heap.get? b = some o → h'.get? b = some o) → wpAny (model prog w) A (assignInOrder ((assignEach [e1, e2] env).map (·.2)) [x, .ref h'.objs.size]) Q E { s with heap := h'.push { cls := .type "list", data := .seq xs.toArray }, toks := tk }) :
    wpAny (model prog w) A (assign (.Tuple [e1, .Starred e2 p2] x1 pos) env (.ref t)) Q E s := by
  rw [arm_assign_Tuple]
  refine wpAny_bind (wpAny_standAt ?_)
  unfold unpack
  rw [hn, hl, hm]
  exact wpAny_bind (wpAny_holding (unpackItems_star hh ht hz h))
end
section
variable {X : Cx}
noncomputable def gStar (t : TGs) : TG := fun v σ H Q => ∃ a x xs, v = .ref a ∧ H a = some (.lst (x :: xs)) ∧ ∀ (p : Addr) (H2 : Hp), H p = none → Same H H2 → H2 p = some (.lst xs) → t [x, .ref p] σ H2 Q
theorem a_gStar {t : TGs} {v : V} {σ : St} {H : Hp} {Q : St → Hp → Prop} : gStar t v σ H Q = ∃ a x xs, v = .ref a ∧ H a = some (.lst (x :: xs)) ∧ ∀ (p : Addr) (H2 : Hp), H p = none → Same H H2 → H2 p = some (.lst xs) → t [x, .ref p] σ H2 Q := rfl
theorem pg_star {e1 e2 : Expr} {k : Nat} {t : TGs} {pos p2 : Pos} (hc : X.calm = true) (h : PGs X [e1, e2] t)
    (hn : (assignEach [e1, .Starred e2 p2] X.env).findIdx? (·.1) = some 1 := by rfl) (hm : (assignEach [e1, .Starred e2 p2] X.env).map (·.2) = (assignEach [e1, e2] X.env).map (·.2) := by rfl) (hl : (assignEach [e1, .Starred e2 p2] X.env).length = 2 := by rfl) : PG X (.Tuple [e1, .Starred e2 p2] k pos) (gStar t) := by
  intro pins s σ H v u Q I r hw
  obtain ⟨a, x, xs, e, hq, hw⟩ := hw
  subst e
  cases r
  obtain ⟨its, rv, ht, hz⟩ := I.list (SqL.of hq)
  cases rv with
  | cons r1 r2 =>
    rename_i y ys
    have z2 : ys.length ≤ sizeLine := by
      have := r2.length
      simp at hz
      omega
    refine assign_star (I.ok.hd hc) ht.isList z2 hn hm hl fun h' tk hx => ?_
    have I1 : Inv X pins σ H { s with heap := h', toks := tk } := I.kept (t' := tk) hx
    have nf := I1.hok.fresh (Nat.le_refl h'.objs.size)
    have I2 := I1.laid (t' := tk) (a := h'.objs.size) (o := .lst xs) (h' := h'.push { cls := .type "list", data := .seq ys.toArray }) (fun b u e => Heap.get?_push_of_some _ e) (Nat.le_refl _) ⟨r2.length ▸ z2, ys, 0, r2, Heap.get?_push_size _ rfl⟩
    exact h pins _ σ _ [x, .ref h'.objs.size] _ Q I2 (.cons r1 (.cons rfl .nil)) (hw _ _ nf (same_upd nf) upd_same)
end
end L2
end
section
section
open PySem L2
set_option hygiene false in
local macro_rules | `(tactic| walk_at "rd") => `(tactic| (try simp only [V.str.injEq, HO.dK.injEq, a_gLst0, a_tSeqL, a_tChain, a_tDict, a_tLstA, a_tLC2, a_tLC3, a_tInner, a_tIns, a_rCatA, a_rCatL, a_tSeq, a_tFor, a_rIxL, a_iZip, a_tSortR, a_tSl, a_rSlL0, a_tNoPart, a_tPart, a_tApp, a_tRet, a_tRetN, a_tNext, a_tDrop, a_tAsg, a_gSub, a_gName, a_gNil, a_gCons, a_gTup0, a_rSetL, a_tIfS, a_tAnd, a_tOr, a_tNot, a_tTest, a_tB, a_tTrue, a_tIf, a_tAndV, a_tOrV, a_tNotV, a_tOp, a_tUn, a_rU, a_tVar, a_tC, a_rI0, a_rI, a_rEq, a_rNe, a_rIx0, a_rIn0, a_tCB, a_tCal, a_tCons, a_tNil, a_tTupA, a_tLst, a_tPar, a_tBits, a_tLC, a_iRng1, a_iRng2, a_iT0, a_iL0, a_tEmit, frS, scal, V.ty.injEq, tyN, subN, String.reduceEq, String.reduceBEq, Bool.true_or, Bool.false_or, Bool.or_false, Bool.true_and, Bool.false_and, Bool.and_false, or_true, true_or, beq_self_eq_true, decide_true, decide_false, List.map_cons, List.map_nil, List.length_cons, List.length_nil, List.getElem?_cons_zero, List.getElem?_cons_succ, List.getElem?_nil, List.set_cons_zero, List.set_cons_succ, Option.some.injEq, Option.bind_some, Option.bind_none, id, exists_eq_left', exists_eq_left, exists_and_left, exists_eq_right, V.int.injEq, V.bl.injEq, V.ref.injEq, List.cons.injEq, and_true, true_and, and_assoc, exists_const, atI0, atI1, atI2, ixN30, ixN31, ixN32, upd_same, upd_upd, sq_updL, sq_updT, Nat.zero_add, Nat.reduceAdd, reduceCtorEq, false_and, and_false, exists_false, false_or, or_false, List.length_map, HO.lst.injEq, HO.tup.injEq, Bool.false_eq_true, if_false, if_true, decide_eq_true_eq, ite_true, ite_false, reduceIte, Int.reduceLT, Int.reduceLE, Nat.reduceLT, Int.zero_add, Bool.not_true, Bool.not_false]))
set_option hygiene false in
local macro_rules | `(tactic| w_cond $a:ident) => `(tactic| (try simp only [V.str.injEq, HO.dK.injEq, a_gLst0, a_tSeqL, a_tChain, a_tDict, a_tLstA, a_tLC2, a_tLC3, a_tInner, a_tIns, a_rCatA, a_rCatL, a_tSeq, a_tFor, a_rIxL, a_iZip, a_tSortR, a_tSl, a_rSlL0, a_tNoPart, a_tPart, a_tApp, a_tRet, a_tRetN, a_tNext, a_tDrop, a_tAsg, a_gSub, a_gName, a_gNil, a_gCons, a_gTup0, a_rSetL, a_tIfS, a_tAnd, a_tOr, a_tNot, a_tTest, a_tB, a_tTrue, a_tIf, a_tAndV, a_tOrV, a_tNotV, a_tOp, a_tUn, a_rU, a_tVar, a_tC, a_rI0, a_rI, a_rEq, a_rNe, a_rIx0, a_rIn0, a_tCB, a_tCal, a_tCons, a_tNil, a_tTupA, a_tLst, a_tPar, a_tBits, a_tLC, a_iRng1, a_iRng2, a_iT0, a_iL0, a_tEmit, frS, scal, V.ty.injEq, tyN, subN, String.reduceEq, String.reduceBEq, Bool.true_or, Bool.false_or, Bool.or_false, Bool.true_and, Bool.false_and, Bool.and_false, or_true, true_or, beq_self_eq_true, decide_true, decide_false, List.map_cons, List.map_nil, List.length_cons, List.length_nil, List.getElem?_cons_zero, List.getElem?_cons_succ, List.getElem?_nil, List.set_cons_zero, List.set_cons_succ, Option.some.injEq, Option.bind_some, Option.bind_none, id, exists_eq_left', exists_eq_left, exists_and_left, exists_eq_right, V.int.injEq, V.bl.injEq, V.ref.injEq, List.cons.injEq, and_true, true_and, and_assoc, exists_const, atI0, atI1, atI2, ixN30, ixN31, ixN32, upd_same, upd_upd, sq_updL, sq_updT, Nat.zero_add, Nat.reduceAdd, reduceCtorEq, false_and, and_false, exists_false, false_or, or_false, List.length_map, HO.lst.injEq, HO.tup.injEq, Bool.false_eq_true, if_false, if_true, decide_eq_true_eq, ite_true, ite_false, reduceIte, Int.reduceLT, Int.reduceLE, Nat.reduceLT, Int.zero_add, Bool.not_true, Bool.not_false, $a:ident]))
set_option hygiene false in
local macro_rules | `(tactic| wrow_has $a:ident $b:ident) => `(tactic| (try simp only [V.str.injEq, HO.dK.injEq, a_gLst0, a_tSeqL, a_tChain, a_tDict, a_tLstA, a_tLC2, a_tLC3, a_tInner, a_tIns, a_rCatA, a_rCatL, a_tSeq, a_tFor, a_rIxL, a_iZip, a_tSortR, a_tSl, a_rSlL0, a_tNoPart, a_tPart, a_tApp, a_tRet, a_tRetN, a_tNext, a_tDrop, a_tAsg, a_gSub, a_gName, a_gNil, a_gCons, a_gTup0, a_rSetL, a_tIfS, a_tAnd, a_tOr, a_tNot, a_tTest, a_tB, a_tTrue, a_tIf, a_tAndV, a_tOrV, a_tNotV, a_tOp, a_tUn, a_rU, a_tVar, a_tC, a_rI0, a_rI, a_rEq, a_rNe, a_rIx0, a_rIn0, a_tCB, a_tCal, a_tCons, a_tNil, a_tTupA, a_tLst, a_tPar, a_tBits, a_tLC, a_iRng1, a_iRng2, a_iT0, a_iL0, a_tEmit, frS, scal, V.ty.injEq, tyN, subN, String.reduceEq, String.reduceBEq, Bool.true_or, Bool.false_or, Bool.or_false, Bool.true_and, Bool.false_and, Bool.and_false, or_true, true_or, beq_self_eq_true, decide_true, decide_false, List.map_cons, List.map_nil, List.length_cons, List.length_nil, List.getElem?_cons_zero, List.getElem?_cons_succ, List.getElem?_nil, List.set_cons_zero, List.set_cons_succ, Option.some.injEq, Option.bind_some, Option.bind_none, id, exists_eq_left', exists_eq_left, exists_and_left, exists_eq_right, V.int.injEq, V.bl.injEq, V.ref.injEq, List.cons.injEq, and_true, true_and, and_assoc, exists_const, atI0, atI1, atI2, ixN30, ixN31, ixN32, upd_same, upd_upd, sq_updL, sq_updT, Nat.zero_add, Nat.reduceAdd, reduceCtorEq, false_and, and_false, exists_false, false_or, or_false, List.length_map, HO.lst.injEq, HO.tup.injEq, Bool.false_eq_true, if_false, if_true, decide_eq_true_eq, ite_true, ite_false, reduceIte, Int.reduceLT, Int.reduceLE, Nat.reduceLT, Int.zero_add, Bool.not_true, Bool.not_false, $a:ident, $b:ident]))
set_option hygiene false in
local macro_rules | `(tactic| wrow_read $a:ident $b:ident $c:ident) => `(tactic| (try simp only [V.str.injEq, HO.dK.injEq, a_gLst0, a_tSeqL, a_tChain, a_tDict, a_tLstA, a_tLC2, a_tLC3, a_tInner, a_tIns, a_rCatA, a_rCatL, a_tSeq, a_tFor, a_rIxL, a_iZip, a_tSortR, a_tSl, a_rSlL0, a_tNoPart, a_tPart, a_tApp, a_tRet, a_tRetN, a_tNext, a_tDrop, a_tAsg, a_gSub, a_gName, a_gNil, a_gCons, a_gTup0, a_rSetL, a_tIfS, a_tAnd, a_tOr, a_tNot, a_tTest, a_tB, a_tTrue, a_tIf, a_tAndV, a_tOrV, a_tNotV, a_tOp, a_tUn, a_rU, a_tVar, a_tC, a_rI0, a_rI, a_rEq, a_rNe, a_rIx0, a_rIn0, a_tCB, a_tCal, a_tCons, a_tNil, a_tTupA, a_tLst, a_tPar, a_tBits, a_tLC, a_iRng1, a_iRng2, a_iT0, a_iL0, a_tEmit, frS, scal, V.ty.injEq, tyN, subN, String.reduceEq, String.reduceBEq, Bool.true_or, Bool.false_or, Bool.or_false, Bool.true_and, Bool.false_and, Bool.and_false, or_true, true_or, beq_self_eq_true, decide_true, decide_false, List.map_cons, List.map_nil, List.length_cons, List.length_nil, List.getElem?_cons_zero, List.getElem?_cons_succ, List.getElem?_nil, List.set_cons_zero, List.set_cons_succ, Option.some.injEq, Option.bind_some, Option.bind_none, id, exists_eq_left', exists_eq_left, exists_and_left, exists_eq_right, V.int.injEq, V.bl.injEq, V.ref.injEq, List.cons.injEq, and_true, true_and, and_assoc, exists_const, atI0, atI1, atI2, ixN30, ixN31, ixN32, upd_same, upd_upd, sq_updL, sq_updT, Nat.zero_add, Nat.reduceAdd, reduceCtorEq, false_and, and_false, exists_false, false_or, or_false, List.length_map, HO.lst.injEq, HO.tup.injEq, Bool.false_eq_true, if_false, if_true, decide_eq_true_eq, ite_true, ite_false, reduceIte, Int.reduceLT, Int.reduceLE, Nat.reduceLT, Int.zero_add, Bool.not_true, Bool.not_false, $a:ident, $b:ident, $c:ident]))
section
set_option Elab.async false
set_option linter.all false
set_option maxRecDepth 100000
set_option maxHeartbeats 4000000
namespace K78
open PySem L2
noncomputable def top (i : Nat) : Stmt := PySem.Challenge.pw_wantprices_k78_towns_written.main.body.getD i (.Pass ⟨0, 0, 0, 0⟩)
noncomputable abbrev s_has : Stmt := top 1
noncomputable abbrev s_taken_out : Stmt := top 2
noncomputable abbrev s_less : Stmt := top 3
noncomputable abbrev s_things_in : Stmt := top 4
noncomputable abbrev s_is_whole : Stmt := top 6
noncomputable abbrev s_are_wholes : Stmt := top 7
noncomputable abbrev s_are_wholes_from : Stmt := top 8
noncomputable abbrev s_show_town : Stmt := top 10
noncomputable abbrev s_in_row : Stmt := top 11
noncomputable abbrev s_is_want : Stmt := top 16
noncomputable abbrev s_never_sinks : Stmt := top 17
noncomputable abbrev s_is_sides : Stmt := top 21
noncomputable abbrev s_read_town : Stmt := top 25
noncomputable abbrev s_read_want : Stmt := top 26
noncomputable abbrev s_read_numbers : Stmt := top 27
noncomputable abbrev s_read_number : Stmt := top 28
noncomputable abbrev s_words_behind : Stmt := top 29
noncomputable abbrev s_parted : Stmt := top 30
noncomputable abbrev s_need : Stmt := top 31
noncomputable abbrev s__law_box : Stmt := top 33
noncomputable abbrev s__law_take : Stmt := top 34
noncomputable abbrev s__law_many : Stmt := top 35
noncomputable abbrev s__law_want : Stmt := top 36
noncomputable abbrev s__law_same : Stmt := top 37
noncomputable abbrev s__law_written : Stmt := top 38
noncomputable abbrev s_law : Stmt := top 39
structure Txt (mg : Str → Option Value) : Prop where
  len_ : mg "len" = none
  all_ : mg "all" = none
  isinstance_ : mg "isinstance" = none
  abs_ : mg "abs" = none
  min_ : mg "min" = none
  max_ : mg "max" = none
  range_ : mg "range" = none
  tuple_ : mg "tuple" = none
  int_ : mg "int" = none
  bool_ : mg "bool" = none
  str_ : mg "str" = none
  zip_ : mg "zip" = none
  MOST_THINGS_c : ∃ t, mg "MOST_THINGS" = some (.int 5 t)
  MOST_HANDS_c : ∃ t, mg "MOST_HANDS" = some (.int 5 t)
  MOST_FIGURES_c : ∃ t, mg "MOST_FIGURES" = some (.int 9 t)
  MOST_WORTH_c : ∃ t, mg "MOST_WORTH" = some (.int 1000 t)
section
variable {P : Program} {w : World} {K : PySem.W.Frag} {mg : Str → Option Value} {base : Heap} {f : Addr} {fd : FuncData}
theorem bits_le {h : Int} (h0 : 0 ≤ h) (h1 : h < 32) : Builtin.Int.intBits h ≤ 5 := by
  obtain ⟨n, rfl⟩ := Int.eq_ofNat_of_zero_le h0
  have hn : n < 32 := by omega
  have key : ∀ m : _root_.Fin 32, Builtin.Int.intBits (m.val : Int) ≤ 5 := by decide +kernel
  exact key ⟨n, hn⟩
noncomputable def hasI (h t : Int) : Bool := decide (Builtin.bitAnd (h / 2 ^ t.toNat) 1 = 1)
theorem bits_filter {h : Int} (h0 : 0 ≤ h) (h1 : h < 32) : ((List.range (Builtin.Int.intBits h)).filter fun t : Nat => hasI h (t : Int)) = ((List.range 5).filter fun t : Nat => hasI h (t : Int)) := by
  obtain ⟨n, rfl⟩ := Int.eq_ofNat_of_zero_le h0
  have hn : n < 32 := by omega
  have key : ∀ m : _root_.Fin 32, ((List.range (Builtin.Int.intBits (m.val : Int))).filter fun t : Nat => hasI (m.val : Int) (t : Int)) = ((List.range 5).filter fun t : Nat => hasI (m.val : Int) (t : Int)) := by decide +kernel
  exact key ⟨n, hn⟩
noncomputable def sp_has : Sp := fun vs H Q _ => ∃ h t : Int, vs = [.int h, .int t] ∧ 0 ≤ t ∧ Q (.bl (hasI h t)) H
theorem sc_has : FnScope ["heap", "thing"] ["heap", "thing"] (defScope s_has) := ⟨rfl, rfl, rfl, by decide +kernel, rfl, by decide +kernel, by decide +kernel⟩
theorem ok_has (F : Fun K "has" "has" s_has f fd) (hm : mg "has" = some (.ref f)) (hb : Binds K fd ["heap", "thing"] []) (T : Txt mg) : Cal P w K mg base "has" ["heap", "thing"] 1 sp_has := by
  refine cal_of F hm hb sc_has (fun vs H Q E h => ?_) (fun cdv A outer s H vs Q E hr h => ?_)
  · obtain ⟨_, _, rfl, _⟩ := h; rfl
  · obtain ⟨h, t, rfl, ht, q⟩ := h
    have sc := sc_has
    refine ⟨_, pss_one (ps_ret (pe_cmpR op_eq (pe_op op_and (pe_op op_shr (pv 0) (pv 1)) pe_int) pe_int (nomark _))), ?_⟩
    rw [show L2.start ["heap", "thing"] [.int h, .int t] = [some (.int h), some (.int t)] from rfl]
    (walk_at "rd")
    exact ⟨ht, q⟩
theorem sc__law_take : FnScope ["_law_box_here", "_law_many_here", "_law_digit"] ["_law_box_here", "_law_many_here"] (defScope s__law_take) := ⟨rfl, rfl, rfl, by decide +kernel, rfl, by decide +kernel, by decide +kernel⟩
theorem ok_take (F : Fun K "_law_take" "_law_take" s__law_take f fd) (hm : mg "_law_take" = some (.ref f)) (hb : Binds K fd ["_law_box_here", "_law_many_here"] []) (T : Txt mg) : Cal P w K mg base "_law_take" ["_law_box_here", "_law_many_here"] 1 spTake := by
  refine cal_of F hm hb sc__law_take (fun vs H Q E h => ?_) (fun cdv A outer s H vs Q E hr h => ?_)
  · obtain ⟨_, _, rfl, _⟩ := h; rfl
  · obtain ⟨p, many, rfl, ⟨g, m, c, hp⟩, h1, h2, q⟩ := h
    have sc := sc__law_take
    refine ⟨_, pss_cons (ps_asg (pe_op op_add (pe_ix ix0 (pv 0) pe_int (fun _ _ => rfl)) pe_int) (pg_sub (pv 0) pe_int set_list))
      (pss_cons (ps_if (PW.pt (pw_and (pt_cmpR op_gt (pe_ix ix0 (pv 0) pe_int (fun _ _ => rfl)) pe_int (nomark _)) (pw_and1 (pt_cmpR op_le (pe_ix ix0 (pv 0) pe_int (fun _ _ => rfl)) pe_int (nomark _))))) (pss_cons (ps_set (i := 2) sc.nd rfl (Or.inl rfl) (pe_op op_mod (pe_ix ix0 (pv 0) pe_int (fun _ _ => rfl)) (pv 1)))
      (pss_cons (ps_asg (pe_op op_fdiv (pe_ix ix0 (pv 0) pe_int (fun _ _ => rfl)) (pv 1)) (pg_sub (pv 0) pe_int set_list))
      (pss_one (ps_ret (pv 2))))) pss_nil)
      (pss_cons (ps_asg (pe_op op_mod (pe_op op_add (pe_op op_add (pe_op op_mul (pe_ix ix0 (pv 0) pe_int (fun _ _ => rfl)) pe_int) pe_int) (pe_ix ix0 (pv 0) pe_int (fun _ _ => rfl))) pe_int) (pg_sub (pv 0) pe_int set_list))
      (pss_one (ps_ret (pe_op op_mod (pe_op op_fdiv (pe_op op_mod (pe_op op_mul (pe_ix ix0 (pv 0) pe_int (fun _ _ => rfl)) (pe_op op_add (pe_op op_mod (pe_ix ix0 (pv 0) pe_int (fun _ _ => rfl)) pe_int) pe_int)) pe_int) pe_int) (pv 1)))))), ?_⟩
    have hq := sq_lst hp
    rw [show L2.start ["_law_box_here", "_law_many_here", "_law_digit"] [.ref p, .int many] = [some (.ref p), some (.int many), none] from rfl]
    (wrow_has hq hp)
    have fin : ∀ (z g' m' c' : Int), Q (V.int (z % many)) (upd H p (.lst [.int g', .int m', .int c'])) := fun z g' m' c' => q _ _ (Int.emod_nonneg _ (by omega)) (Int.emod_lt_of_pos _ h1) ⟨g', m', c', upd_same⟩ But.upd
    have cm : ∀ a b : Int, CMul a (b % 40009 + 3) := fun a b => .inr ⟨by omega, by omega⟩
    split
    · split
      · exact ⟨h1, ⟨h1, h2⟩, fin _ _ _ _⟩
      · exact ⟨.inr ⟨by decide, by decide⟩, cm _ _, ⟨by decide, by decide⟩, h1, fin _ _ _ _⟩
    · exact ⟨.inr ⟨by decide, by decide⟩, cm _ _, ⟨by decide, by decide⟩, h1, fin _ _ _ _⟩
theorem sc__law_box : FnScope ["_law_script", "_law_k", "_law_cell", "_law_great"] ["_law_script", "_law_k"] (defScope s__law_box) := ⟨rfl, rfl, rfl, by decide +kernel, rfl, by decide +kernel, by decide +kernel⟩
theorem ok_box (F : Fun K "_law_box" "_law_box" s__law_box f fd) (hm : mg "_law_box" = some (.ref f)) (hb : Binds K fd ["_law_script", "_law_k"] []) (T : Txt mg) : Cal P w K mg base "_law_box" ["_law_script", "_law_k"] 1 (spBox K) := by
  refine cal_of F hm hb sc__law_box (fun vs H Q E h => ?_) (fun cdv A outer s H vs Q E hr h => ?_)
  · obtain ⟨_, _, _, rfl, _⟩ := h; rfl
  · obtain ⟨a, k, ns, rfl, hq, hk, q⟩ := h
    have sc := sc__law_box
    refine ⟨_, pss_cons (ps_set (i := 2) sc.nd rfl (Or.inl rfl) (pe_ifExp (pt_cmpR op_lt (pv 1) (pe_callB call_len_seq rfl T.len_ bt_len (pa_cons (pv 0) pa_nil)) (nomark _)) (pe_ix ix_list (pv 0) (pv 1) (fun _ _ => rfl)) pe_int))
      (pss_cons (ps_set (i := 3) sc.nd rfl (Or.inl rfl) (pe_op op_mul (pe_callB call_abs rfl T.abs_ bt_abs (pa_cns (pv 2) pa_nil)) (pe_callTy call_int1 rfl T.int_ bt_int (pa_cns (pe_cmpR op_ge (pe_callB call_abs rfl T.abs_ bt_abs (pa_cns (pv 2) pa_nil)) (pe_op op_pow pe_int pe_int) (nomark _)) pa_nil))))
      (pss_one (ps_ret (pe_lst (pa_cns (pv 3) (pa_cns (pe_op op_mod (pe_op op_mul (pe_op op_add (pe_op op_add (pe_op op_mod (pv 2) pe_int) (pe_op op_mul (pe_op op_mul pe_int (pv 1)) (pv 1))) pe_int) pe_int) pe_int) (pa_cns pe_int pa_nil))))))), ?_⟩
    rw [show L2.start ["_law_script", "_law_k", "_law_cell", "_law_great"] [.ref a, .int (k : Int)] = [some (.ref a), some (.int (k : Int)), none, none] from rfl]
    have cm : ∀ (z : Int) (c : Prop) [Decidable c], CMul z (if c then 1 else 0) := fun z c _ => .inr (by split <;> exact ⟨by decide, by decide⟩)
    have fin : ∀ x y z : Int, CPow 10 18 ∧ ((CMul 7919 (k : Int) ∧ CMul (7919 * (k : Int)) (k : Int) ∧ CMul x 48271 ∧ 3 ≤ sizeLine) ∧ ∀ p : Addr, H p = none → Q (V.ref p) (upd H p (.lst [.int y, .int z, .int 0]))) := fun x y z =>
      ⟨⟨by decide, by decide, by decide⟩, ⟨.inl ⟨by decide, by decide⟩, .inr ⟨by omega, by omega⟩, .inr ⟨by decide, by decide⟩, by decide⟩, fun p hp => q p _ hp ⟨y, z, 0, upd_same⟩ But.upd⟩
    (walk_at "rd")
    refine ⟨_, .inl hq, ?_⟩
    by_cases hlt : k < ns.length
    · have ha : atI (ns.map V.int) (k : Int) = some (V.int ns[k]) := atI_nat (by simp [hlt])
      rw [if_pos (by simp; omega)]
      refine ⟨_, hq, _, ha, ?_⟩
      (walk_at "rd")
      obtain ⟨f1, ⟨f2, f3, f4, f5⟩, f6⟩ := fin (ns[k] % 2147483629 + 7919 * (k : Int) * (k : Int) + 11) ((if ns[k] < 0 then -ns[k] else ns[k]) * if 10 ^ Int.toNat 18 ≤ if ns[k] < 0 then -ns[k] else ns[k] then 1 else 0) ((ns[k] % 2147483629 + 7919 * (k : Int) * (k : Int) + 11) * 48271 % 2147483647)
      exact ⟨f1, cm _ _, f2, f3, f4, f5, f6⟩
    · rw [if_neg (by simp; omega)]
      (walk_at "rd")
      obtain ⟨f1, ⟨f2, f3, f4, f5⟩, f6⟩ := fin (0 % 2147483629 + 7919 * (k : Int) * (k : Int) + 11) (0 * if 10 ^ Int.toNat 18 ≤ 0 then 1 else 0) ((0 % 2147483629 + 7919 * (k : Int) * (k : Int) + 11) * 48271 % 2147483647)
      exact ⟨f1, cm _ _, f2, f3, f4, f5, f6⟩
noncomputable def thingsI (h : Int) : List Int := ((List.range 5).filter fun t : Nat => hasI h (t : Int)).map fun t : Nat => (t : Int)
noncomputable def sp_things : Sp := fun vs H Q _ => ∃ h : Int, vs = [.int h] ∧ 0 ≤ h ∧ h < 32 ∧ ∀ (t : Addr) (H' : Hp), H t = none → Same H H' → H' t = some (.tup ((thingsI h).map V.int)) → Q (.ref t) H'
theorem sc_things_in : FnScope ["heap"] ["heap"] (defScope s_things_in) := ⟨rfl, rfl, rfl, by decide +kernel, rfl, by decide +kernel, by decide +kernel⟩
theorem ok_things (F : Fun K "things_in" "things_in" s_things_in f fd) (hm : mg "things_in" = some (.ref f)) (hb : Binds K fd ["heap"] []) (T : Txt mg) (c_has : Cal P w K mg base "has" ["heap", "thing"] 1 sp_has) : Cal P w K mg base "things_in" ["heap"] 2 sp_things := by
  refine cal_of F hm hb sc_things_in (fun vs H Q E h => ?_) (fun cdv A outer s H vs Q E hr h => ?_)
  · obtain ⟨_, rfl, _⟩ := h; rfl
  · obtain ⟨h, rfl, h0, h1, q⟩ := h
    have sc := sc_things_in
    refine ⟨_, pss_one (ps_ret (pe_callTy tupA0 rfl T.tuple_ bt_tuple (pa_cns (pe_lc (N := ["thing", "heap"]) (fr := [none, some 0]) rfl (pi_range1 rfl T.range_ (pa_cns (pe_bits (pv 0) rfl rfl mono_var) pa_nil)) (CScope.of rfl rfl rfl) rfl (fun _ _ _ => ⟨pg_name (i := 0) (show List.Nodup (α := Str) ["thing", "heap"] by decide +kernel) rfl (Or.inl rfl), pif_one (pt_val (pe_cal c_has hr (pa_cns (pv 1) (pa_cns (pv 0) pa_nil)))), pv 0⟩)) pa_nil))), ?_⟩
    rw [show L2.start ["heap"] [.int h] = [some (.int h)] from rfl]
    (w_cond sp_has)
    have hb : Builtin.Int.intBits h ≤ 5 := bits_le h0 h1
    refine ⟨by omega, by omega, fun p hp => cl_range (fun i σ H' => ∃ v, σ = [v, some (.int h)] ∧ H' = upd H p (.lst ((((List.range i).filter fun t : Nat => hasI h (t : Int)).map fun t : Nat => (t : Int)).map V.int))) ⟨_, rfl, rfl⟩ ?_ ?_⟩
    · rintro i σ H' hi ⟨v, rfl, rfl⟩
      (w_cond sp_has)
      have el : ((List.range (i + 1)).filter fun t : Nat => hasI h (t : Int)) = ((List.range i).filter fun t : Nat => hasI h (t : Int)) ++ if hasI h (i : Int) = true then [i] else [] := by
        rw [List.range_succ, List.filter_append]
        congr 1
        cases e : hasI h (i : Int) <;> simp [List.filter, e]
      have len : ((List.range i).filter fun t : Nat => hasI h (t : Int)).length ≤ i := Nat.le_trans (List.length_filter_le _ _) (by simp)
      refine ⟨by omega, ?_⟩
      split
      · rename_i e
        rw [el, if_pos e]
        exact ⟨small1000 (by omega), by simp⟩
      · rename_i e
        rw [el, if_neg e]
        simp
    · rintro σ H' ⟨v, rfl, rfl⟩
      (walk_at "rd")
      intro l H2 hl sm hT
      have npl : l ≠ p := by rintro rfl; rw [upd_same] at hl; cases hl
      rw [upd_ne npl] at hl
      refine q l _ hl ((same_upd hp).trans sm) ?_
      rw [hT, Int.toNat_natCast, bits_filter h0 h1]
      rfl
noncomputable def sp_many : Sp := fun vs H Q _ => ∃ p : Addr, vs = [.ref p] ∧ Box H p ∧ ∀ (m : Nat) (H' : Hp), 1 ≤ m → m ≤ 5 → Box H' p → SameX p H H' → Q (.int (m : Int)) H'
theorem sc__law_many : FnScope ["_law_box_here"] ["_law_box_here"] (defScope s__law_many) := ⟨rfl, rfl, rfl, by decide +kernel, rfl, by decide +kernel, by decide +kernel⟩
theorem ok_many (F : Fun K "_law_many" "_law_many" s__law_many f fd) (hm : mg "_law_many" = some (.ref f)) (hb : Binds K fd ["_law_box_here"] []) (T : Txt mg) (c__law_take : Cal P w K mg base "_law_take" ["_law_box_here", "_law_many_here"] 1 spTake) : Cal P w K mg base "_law_many" ["_law_box_here"] 2 sp_many := by
  refine cal_of F hm hb sc__law_many (fun vs H Q E h => ?_) (fun cdv A outer s H vs Q E hr h => ?_)
  · obtain ⟨_, rfl, _⟩ := h; rfl
  · obtain ⟨p, rfl, bx, q⟩ := h
    have sc := sc__law_many
    refine ⟨_, pss_one (ps_ret (pe_ifExp (pt_cmpR op_eq (pe_cal c__law_take hr (pa_cns (pv 0) (pa_cns pe_int pa_nil))) pe_int (nomark _)) pe_int (pe_op op_add pe_int (pe_cal c__law_take hr (pa_cns (pv 0) (pa_cns pe_int pa_nil)))))), ?_⟩
    rw [show L2.start ["_law_box_here"] [.ref p] = [some (.ref p)] from rfl]
    (walk_at "rd")
    refine ⟨p, 8, rfl, bx, by decide, by decide, fun r H1 r0 r1 bx1 bt1 => ?_⟩
    (walk_at "rd")
    split
    · exact q 5 H1 (by decide) (by decide) bx1 bt1.x
    · refine ⟨p, 4, rfl, bx1, by decide, by decide, fun r' H2 r0' r1' bx2 bt2 => ?_⟩
      (walk_at "rd")
      obtain ⟨n, rfl⟩ := Int.eq_ofNat_of_zero_le r0'
      have := q (1 + n) H2 (by omega) (by omega) bx2 (bt1.x.trans bt2.x)
      rw [Int.natCast_add] at this
      exact this
noncomputable def lessI (a b : Int) : Int := a - Builtin.bitAnd a b
noncomputable def sp_less : Sp := fun vs H Q _ => ∃ a b : Int, vs = [.int a, .int b] ∧ Q (.int (lessI a b)) H
theorem sc_less : FnScope ["one", "other"] ["one", "other"] (defScope s_less) := ⟨rfl, rfl, rfl, by decide +kernel, rfl, by decide +kernel, by decide +kernel⟩
theorem ok_less (F : Fun K "less" "less" s_less f fd) (hm : mg "less" = some (.ref f)) (hb : Binds K fd ["one", "other"] []) (T : Txt mg) : Cal P w K mg base "less" ["one", "other"] 1 sp_less := by
  refine cal_of F hm hb sc_less (fun vs H Q E h => ?_) (fun cdv A outer s H vs Q E hr h => ?_)
  · obtain ⟨_, _, rfl, _⟩ := h; rfl
  · obtain ⟨h, t, rfl, q⟩ := h
    have sc := sc_less
    refine ⟨_, pss_one (ps_ret (pe_op op_sub (pv 0) (pe_op op_and (pv 0) (pv 1)))), ?_⟩
    rw [show L2.start ["one", "other"] [.int h, .int t] = [some (.int h), some (.int t)] from rfl]
    (walk_at "rd")
    exact q
noncomputable def out (h t : Nat) : Nat := if h / 2 ^ t % 2 = 1 then h - 2 ^ t else h
theorem out_int {h t : Nat} (hh : h < 32) (ht : t < 5) : lessI (h : Int) (1 * 2 ^ (t : Int).toNat) = (out h t : Int) := by
  have key : ∀ (a : _root_.Fin 32) (b : _root_.Fin 5), lessI (a.val : Int) (1 * 2 ^ (b.val : Int).toNat) = (out a.val b.val : Int) := by decide +kernel
  exact key ⟨h, hh⟩ ⟨t, ht⟩
theorem out_le (h t : Nat) : out h t ≤ h := by
  unfold out
  split
  · exact Nat.sub_le _ _
  · exact Nat.le_refl _
noncomputable def sp_taken : Sp := fun vs H Q _ => ∃ h t : Nat, vs = [.int (h : Int), .int (t : Int)] ∧ h < 32 ∧ t < 5 ∧ Q (.int (out h t : Int)) H
theorem sc_taken_out : FnScope ["heap", "thing"] ["heap", "thing"] (defScope s_taken_out) := ⟨rfl, rfl, rfl, by decide +kernel, rfl, by decide +kernel, by decide +kernel⟩
theorem ok_taken (F : Fun K "taken_out" "taken_out" s_taken_out f fd) (hm : mg "taken_out" = some (.ref f)) (hb : Binds K fd ["heap", "thing"] []) (T : Txt mg) (c_less : Cal P w K mg base "less" ["one", "other"] 1 sp_less) : Cal P w K mg base "taken_out" ["heap", "thing"] 2 sp_taken := by
  refine cal_of F hm hb sc_taken_out (fun vs H Q E h => ?_) (fun cdv A outer s H vs Q E hr h => ?_)
  · obtain ⟨_, _, rfl, _⟩ := h; rfl
  · obtain ⟨h, t, rfl, hh, ht, q⟩ := h
    have sc := sc_taken_out
    refine ⟨_, pss_one (ps_ret (pe_cal c_less hr (pa_cns (pv 0) (pa_cns (pe_op op_shl pe_int (pv 1)) pa_nil)))), ?_⟩
    rw [show L2.start ["heap", "thing"] [.int (h : Int), .int (t : Int)] = [some (.int (h : Int)), some (.int (t : Int))] from rfl]
    (w_cond sp_less)
    refine ⟨⟨by omega, by omega, by decide⟩, ?_⟩
    rw [out_int hh ht]
    exact q
noncomputable def isI : V → Bool
  | .int _ => true
  | _ => false
noncomputable def isFrom (least : Int) : V → Bool
  | .int i => decide (least ≤ i)
  | _ => false
theorem tyN_isI {H : Hp} {x : V} {t : String} (h : tyN H x = some t) : ((t == "int" || (t == "bool" && true)) && !(t == "bool")) = isI x := by
  cases x with
  | non => cases h; rfl
  | bl b => cases h; rfl
  | int i => cases h; rfl
  | str i => cases h; rfl
  | ref a =>
    cases e : H a with
    | none => simp [tyN, e] at h
    | some o =>
      cases o with
      | lst xs => simp [tyN, e] at h; subst h; rfl
      | tup xs => simp [tyN, e] at h; subst h; rfl
      | dK xs => simp [tyN, e] at h; subst h; rfl
      | _ => simp [tyN, e] at h
  | _ => cases h
theorem tyN_same {H H' : Hp} (s : Same H H') {x : V} {t : String} (h : tyN H x = some t) : tyN H' x = some t := by
  cases x with
  | ref a =>
    cases e : H a with
    | none => simp [tyN, e] at h
    | some o => simp only [tyN, e] at h; simp only [tyN, s a o e]; exact h
  | _ => exact h
noncomputable def sp_whole : Sp := fun vs H Q _ => ∃ (x : V) (t : String), vs = [x] ∧ tyN H x = some t ∧ Q (.bl (isI x)) H
theorem sc_is_whole : FnScope ["thing"] ["thing"] (defScope s_is_whole) := ⟨rfl, rfl, rfl, by decide +kernel, rfl, by decide +kernel, by decide +kernel⟩
theorem ok_whole (F : Fun K "is_whole" "is_whole" s_is_whole f fd) (hm : mg "is_whole" = some (.ref f)) (hb : Binds K fd ["thing"] []) (T : Txt mg) : Cal P w K mg base "is_whole" ["thing"] 1 sp_whole := by
  refine cal_of F hm hb sc_is_whole (fun vs H Q E h => ?_) (fun cdv A outer s H vs Q E hr h => ?_)
  · obtain ⟨_, _, rfl, _⟩ := h; rfl
  · obtain ⟨x, t, rfl, hx, q⟩ := h
    have sc := sc_is_whole
    refine ⟨_, pss_one (ps_ret (pe_and (pe_callB isi0 rfl T.isinstance_ bt_isinstance (pa_cns (pv 0) (pa_cns (pe_bltn (v := .ty "int") rfl T.int_ bt_int rfl) pa_nil))) (pe_one (pe_not (pe_callB isi0 rfl T.isinstance_ bt_isinstance (pa_cns (pv 0) (pa_cns (pe_bltn (v := .ty "bool") rfl T.bool_ bt_bool rfl) pa_nil))))))), ?_⟩
    rw [show L2.start ["thing"] [x] = [some (x)] from rfl]
    rw [← tyN_isI hx] at q
    (walk_at "rd")
    refine ⟨_, hx, ?_⟩
    obtain ⟨_, ht⟩ := tyN_of (K := K) hx
    rcases ht with rfl | rfl | rfl | rfl | rfl | rfl | rfl
    all_goals first
      | (rw [if_neg (by decide)]; simpa using q)
      | (rw [if_pos (by decide)]; refine ⟨_, hx, ?_⟩; simpa using q)
noncomputable def Kn (H : Hp) (xs : List V) : Prop := ∀ x ∈ xs, ∃ t, tyN H x = some t
theorem Kn.same {H H' : Hp} (s : Same H H') {xs : List V} (k : Kn H xs) : Kn H' xs := fun x hx => let ⟨t, e⟩ := k x hx; ⟨t, tyN_same s e⟩
theorem Kn.ints {H : Hp} (ns : List Int) : Kn H (ns.map V.int) := fun x hx => by
  obtain ⟨n, _, rfl⟩ := List.mem_map.mp hx
  exact ⟨"int", rfl⟩
noncomputable def sp_wholes : Sp := fun vs H Q _ => (∃ (x : V) (k : Int) (t : String), vs = [x, .int k] ∧ tyN H x = some t ∧ (t == "tuple") = false ∧ Q (.bl false) H) ∨
  ∃ (a : Addr) (k : Int) (xs : List V), vs = [.ref a, .int k] ∧ H a = some (.tup xs) ∧ Kn H xs ∧ xs.length < 1000 ∧ ∀ H', Same H H' → Q (.bl (decide ((xs.length : Int) = k) && xs.all isI)) H'
noncomputable def LW (c : Addr) (xs : List V) (G : Hp) (i : Nat) (σ : St) (H : Hp) : Prop := ∃ v, σ = [v] ∧ SameX c G H ∧ H c = some (.lst (((xs.take i).map isI).map V.bl))
theorem sc_are_wholes : FnScope ["thing", "many"] ["thing", "many"] (defScope s_are_wholes) := ⟨rfl, rfl, rfl, by decide +kernel, rfl, by decide +kernel, by decide +kernel⟩
theorem ok_wholes (F : Fun K "are_wholes" "are_wholes" s_are_wholes f fd) (hm : mg "are_wholes" = some (.ref f)) (hb : Binds K fd ["thing", "many"] []) (T : Txt mg) (c_is_whole : Cal P w K mg base "is_whole" ["thing"] 1 sp_whole) : Cal P w K mg base "are_wholes" ["thing", "many"] 2 sp_wholes := by
  refine cal_of F hm hb sc_are_wholes (fun vs H Q E h => ?_) (fun cdv A outer s H vs Q E hr h => ?_)
  · rcases h with h | h
    · obtain ⟨_, _, _, rfl, _⟩ := h; rfl
    · obtain ⟨_, _, _, rfl, _⟩ := h; rfl
  · rcases h with h | h
    · obtain ⟨x, k, t, rfl, hx, ht, q⟩ := h
      have sc := sc_are_wholes
      refine ⟨_, pss_one (ps_ret (pe_and (pe_callB isi0 rfl T.isinstance_ bt_isinstance (pa_cns (pv 0) (pa_cns (pe_bltn (v := .ty "tuple") rfl T.tuple_ bt_tuple rfl) pa_nil))) (pe_and (pe_cmpR op_eq (pe_callB len0 rfl T.len_ bt_len (pa_cns (pv 0) pa_nil)) (pv 1) (nomark _)) (pe_one (pe_callB (all0 rfl) rfl T.all_ bt_all (pa_cns (pe_lc (N := ["part"]) (fr := [none]) rfl (pi_t0 (pv 0)) (CScope.of rfl rfl rfl) rfl (fun _ _ _ => ⟨pg_name (i := 0) (show List.Nodup (α := Str) ["part"] by decide +kernel) rfl (Or.inl rfl), pif_nil, pe_cal c_is_whole hr (pa_cns (pv 0) pa_nil)⟩)) pa_nil)))))), ?_⟩
      rw [show L2.start ["thing", "many"] [x, .int k] = [some (x), some (.int k)] from rfl]
      (walk_at "rd")
      refine ⟨_, hx, ?_⟩
      (walk_at "rd")
      rw [if_neg (by rw [ht]; decide)]
      exact q
    · obtain ⟨a, k, xs, rfl, ha, hk, hlen, q⟩ := h
      have sc := sc_are_wholes
      refine ⟨_, pss_one (ps_ret (pe_and (pe_callB isi0 rfl T.isinstance_ bt_isinstance (pa_cns (pv 0) (pa_cns (pe_bltn (v := .ty "tuple") rfl T.tuple_ bt_tuple rfl) pa_nil))) (pe_and (pe_cmpR op_eq (pe_callB len0 rfl T.len_ bt_len (pa_cns (pv 0) pa_nil)) (pv 1) (nomark _)) (pe_one (pe_callB (all0 rfl) rfl T.all_ bt_all (pa_cns (pe_lc (N := ["part"]) (fr := [none]) rfl (pi_t0 (pv 0)) (CScope.of rfl rfl rfl) rfl (fun _ _ _ => ⟨pg_name (i := 0) (show List.Nodup (α := Str) ["part"] by decide +kernel) rfl (Or.inl rfl), pif_nil, pe_cal c_is_whole hr (pa_cns (pv 0) pa_nil)⟩)) pa_nil)))))), ?_⟩
      rw [show L2.start ["thing", "many"] [.ref a, .int k] = [some (.ref a), some (.int k)] from rfl]
      have hsa := sq_tup ha
      (wrow_has ha hsa)
      by_cases hl : (xs.length : Int) = k
      · rw [if_pos hl]
        intro c nc
        have nac : a ≠ c := ne_of_none ha nc
        refine cl_seq (LW c xs H) ⟨none, rfl, SameX.upd, upd_same⟩ (fun j σ H' _ ⟨_, _, s, _⟩ => s _ _ nac ha) ?_ ?_
        · rintro i x σ H1 hx ⟨v, rfl, s1, e1⟩
          obtain ⟨t, ht⟩ := hk x (List.mem_of_getElem? hx)
          have ht1 := tyN_same (s1.same nc) ht
          have hi : i < xs.length := (List.getElem?_eq_some_iff.mp hx).1
          (w_cond e1)
          refine ⟨_, _, rfl, ht1, ?_⟩
          refine ⟨_, e1, small1000 (by rw [List.length_map, List.length_map, List.length_take]; omega), ⟨_, rfl, s1.trans SameX.upd, ?_⟩⟩
          rw [upd_same, List.take_add_one, hx]
          simp
        · rintro σ H1 ⟨v, rfl, s1, e1⟩
          rw [List.take_length] at e1
          refine ⟨_, sq_lst e1, ?_⟩
          have := q H1 (s1.same nc)
          rw [decide_eq_true hl, Bool.true_and] at this
          rw [List.all_map]
          exact this
      · rw [if_neg hl]
        have := q H (Same.refl H)
        rw [decide_eq_false hl, Bool.false_and] at this
        exact this
theorem isI_int {x : V} (h : isI x = true) : ∃ i, x = .int i := by
  cases x with
  | int i => exact ⟨i, rfl⟩
  | _ => cases h
theorem allI_ints : ∀ {xs : List V}, xs.all isI = true → ∃ ns : List Int, xs = ns.map V.int
  | [], _ => ⟨[], rfl⟩
  | x :: r, h => by
    rw [List.all_cons, Bool.and_eq_true] at h
    obtain ⟨ns, e⟩ := allI_ints h.2
    obtain ⟨i, rfl⟩ := isI_int h.1
    exact ⟨i :: ns, by rw [e]; rfl⟩
theorem allF_I {least : Int} : ∀ {xs : List V}, xs.all (isFrom least) = true → xs.all isI = true
  | [], _ => rfl
  | x :: r, h => by
    rw [List.all_cons, Bool.and_eq_true] at h
    rw [List.all_cons, allF_I h.2, Bool.and_true]
    cases x <;> first | rfl | exact h.1
noncomputable def sp_from : Sp := fun vs H Q _ => (∃ (x : V) (k l : Int) (t : String), vs = [x, .int k, .int l] ∧ tyN H x = some t ∧ (t == "tuple") = false ∧ Q (.bl false) H) ∨
  ∃ (a : Addr) (k l : Int) (xs : List V), vs = [.ref a, .int k, .int l] ∧ H a = some (.tup xs) ∧ Kn H xs ∧ xs.length < 1000 ∧ ∀ H', Same H H' → Q (.bl (decide ((xs.length : Int) = k) && xs.all (isFrom l))) H'
noncomputable def LF (c : Addr) (ns : List Int) (l : Int) (G : Hp) (i : Nat) (σ : St) (H : Hp) : Prop := ∃ v, σ = [v, some (.int l)] ∧ SameX c G H ∧ H c = some (.lst (((ns.take i).map fun n => decide (l ≤ n)).map V.bl))
theorem sc_are_wholes_from : FnScope ["thing", "many", "least"] ["thing", "many", "least"] (defScope s_are_wholes_from) := ⟨rfl, rfl, rfl, by decide +kernel, rfl, by decide +kernel, by decide +kernel⟩
theorem ok_from (F : Fun K "are_wholes_from" "are_wholes_from" s_are_wholes_from f fd) (hm : mg "are_wholes_from" = some (.ref f)) (hb : Binds K fd ["thing", "many", "least"] []) (T : Txt mg) (c_are_wholes : Cal P w K mg base "are_wholes" ["thing", "many"] 2 sp_wholes) : Cal P w K mg base "are_wholes_from" ["thing", "many", "least"] 3 sp_from := by
  refine cal_of F hm hb sc_are_wholes_from (fun vs H Q E h => ?_) (fun cdv A outer s H vs Q E hr h => ?_)
  · rcases h with h | h
    · obtain ⟨_, _, _, _, rfl, _⟩ := h; rfl
    · obtain ⟨_, _, _, _, rfl, _⟩ := h; rfl
  · rcases h with h | h
    · obtain ⟨x, k, l, t, rfl, hx, ht, q⟩ := h
      have sc := sc_are_wholes_from
      refine ⟨_, pss_one (ps_ret (pe_and (pe_cal c_are_wholes hr (pa_cns (pv 0) (pa_cns (pv 1) pa_nil))) (pe_one (pe_callB (all0 rfl) rfl T.all_ bt_all (pa_cns (pe_lc (N := ["part", "least"]) (fr := [none, some 2]) rfl (pi_t0 (pv 0)) (CScope.of rfl rfl rfl) rfl (fun _ _ _ => ⟨pg_name (i := 0) (show List.Nodup (α := Str) ["part", "least"] by decide +kernel) rfl (Or.inl rfl), pif_nil, pe_cmpR op_ge (pv 0) (pv 1) (nomark _)⟩)) pa_nil))))), ?_⟩
      rw [show L2.start ["thing", "many", "least"] [x, .int k, .int l] = [some (x), some (.int k), some (.int l)] from rfl]
      (walk_at "rd")
      refine .inl ⟨x, k, t, rfl, hx, ht, ?_⟩
      (walk_at "rd")
      exact q
    · obtain ⟨a, k, l, xs, rfl, ha, hk, hlen, q⟩ := h
      have sc := sc_are_wholes_from
      refine ⟨_, pss_one (ps_ret (pe_and (pe_cal c_are_wholes hr (pa_cns (pv 0) (pa_cns (pv 1) pa_nil))) (pe_one (pe_callB (all0 rfl) rfl T.all_ bt_all (pa_cns (pe_lc (N := ["part", "least"]) (fr := [none, some 2]) rfl (pi_t0 (pv 0)) (CScope.of rfl rfl rfl) rfl (fun _ _ _ => ⟨pg_name (i := 0) (show List.Nodup (α := Str) ["part", "least"] by decide +kernel) rfl (Or.inl rfl), pif_nil, pe_cmpR op_ge (pv 0) (pv 1) (nomark _)⟩)) pa_nil))))), ?_⟩
      rw [show L2.start ["thing", "many", "least"] [.ref a, .int k, .int l] = [some (.ref a), some (.int k), some (.int l)] from rfl]
      (walk_at "rd")
      refine .inr ⟨a, k, xs, rfl, ha, hk, hlen, fun H1 s1 => ?_⟩
      by_cases hl : (decide ((xs.length : Int) = k) && xs.all isI) = true
      · rw [hl]
        rw [Bool.and_eq_true, decide_eq_true_eq] at hl
        obtain ⟨ns, rfl⟩ := allI_ints hl.2
        have ha1 := s1 _ _ ha
        (w_cond ha1)
        intro c nc
        have nac : a ≠ c := ne_of_none ha1 nc
        refine cl_seq (LF c ns l H1) ⟨none, rfl, SameX.upd, upd_same⟩ (fun j σ H' _ ⟨_, _, s, _⟩ => s _ _ nac ha1) ?_ ?_
        · rintro i x σ H2 hx ⟨v, rfl, s2, e2⟩
          rw [List.getElem?_map] at hx
          obtain ⟨n, hn, rfl⟩ := Option.map_eq_some_iff.mp hx
          have hi : i < ns.length := (List.getElem?_eq_some_iff.mp hn).1
          rw [List.length_map] at hlen
          (w_cond e2)
          refine ⟨small1000 (by rw [List.length_take]; omega), ⟨_, rfl, s2.trans SameX.upd, ?_⟩⟩
          rw [upd_same, List.take_add_one, hn]
          simp
        · rintro σ H2 ⟨v, rfl, s2, e2⟩
          rw [List.length_map, List.take_length] at e2
          refine ⟨_, sq_lst e2, ?_⟩
          have := q H2 (s1.trans (s2.same nc))
          rw [decide_eq_true hl.1, Bool.true_and, List.all_map] at this
          rw [List.all_map]
          exact this
      · have hf : (decide ((xs.length : Int) = k) && xs.all isI) = false := by simpa using hl
        rw [hf]
        have e : (decide ((xs.length : Int) = k) && xs.all (isFrom l)) = false := by
          cases e1 : decide ((xs.length : Int) = k) with
          | false => rfl
          | true =>
            cases e2 : xs.all (isFrom l) with
            | false => rfl
            | true => rw [e1, allF_I e2] at hf; exact hf
        have := q H1 s1
        rw [e] at this
        (walk_at "rd")
        exact this
end
end K78
end
section
set_option Elab.async false
set_option linter.all false
set_option maxRecDepth 100000
set_option maxHeartbeats 4000000
namespace K78
open PySem L2
section
variable {P : Program} {w : World} {K : PySem.W.Frag} {mg : Str → Option Value} {base : Heap} {f : Addr} {fd : FuncData}
noncomputable def sinkRow (ns : List Int) (h : Nat) : List Bool := (thingsI (h : Int)).map fun t => decide (ns.getD (out h t.toNat) 0 ≤ ns.getD h 0)
noncomputable def noSink (ns : List Int) : Bool := ((List.range ns.length).flatMap (sinkRow ns)).all id
theorem thingsI_bd (h : Int) : ∀ t ∈ thingsI h, 0 ≤ t ∧ t < 5 := by
  intro t ht
  unfold thingsI at ht
  obtain ⟨n, hn, rfl⟩ := List.mem_map.mp ht
  have := List.mem_range.mp (List.mem_filter.mp hn).1
  omega
theorem thingsI_len (h : Int) : (thingsI h).length ≤ 5 := by
  unfold thingsI
  rw [List.length_map]
  exact Nat.le_trans (List.length_filter_le _ _) (by simp)
theorem sink_len (ns : List Int) : ∀ n : Nat, ((List.range n).flatMap (sinkRow ns)).length ≤ 5 * n
  | 0 => by simp
  | n + 1 => by
    rw [List.range_succ, List.flatMap_append, List.length_append]
    have := sink_len ns n
    have h2 : ([n].flatMap (sinkRow ns)).length ≤ 5 := by
      rw [List.flatMap_singleton]
      unfold sinkRow
      rw [List.length_map]
      exact thingsI_len _
    omega
noncomputable def sp_sinks : Sp := fun vs H Q _ => ∃ (a : Addr) (ns : List Int), vs = [.ref a] ∧ H a = some (.tup (ns.map V.int)) ∧ ns.length ≤ 32 ∧ ∀ H', Same H H' → Q (.bl (noSink ns)) H'
noncomputable def NS1 (a c : Addr) (ns : List Int) (G : Hp) (i : Nat) (σ : St) (H : Hp) : Prop := ∃ v1 v2, σ = [v1, v2, some (.ref a)] ∧ SameX c G H ∧ H c = some (.lst (((List.range i).flatMap (sinkRow ns)).map V.bl))
noncomputable def NS2 (a c : Addr) (ns : List Int) (h : Nat) (G : Hp) (j : Nat) (σ : St) (H : Hp) : Prop := ∃ v2, σ = [some (.int (h : Int)), v2, some (.ref a)] ∧ SameX c G H ∧ H c = some (.lst (((List.range h).flatMap (sinkRow ns) ++ (sinkRow ns h).take j).map V.bl))
theorem at_int {ns : List Int} {n : Nat} (h : n < ns.length) : atI (ns.map V.int) (n : Int) = some (V.int (ns.getD n 0)) := atI_nat (by simp [h, List.getD_eq_getElem?_getD])
theorem sc_never_sinks : FnScope ["worths"] ["worths"] (defScope s_never_sinks) := ⟨rfl, rfl, rfl, by decide +kernel, rfl, by decide +kernel, by decide +kernel⟩
theorem ok_sinks (F : Fun K "never_sinks" "never_sinks" s_never_sinks f fd) (hm : mg "never_sinks" = some (.ref f)) (hb : Binds K fd ["worths"] []) (T : Txt mg) (c_things_in : Cal P w K mg base "things_in" ["heap"] 2 sp_things) (c_taken_out : Cal P w K mg base "taken_out" ["heap", "thing"] 2 sp_taken) : Cal P w K mg base "never_sinks" ["worths"] 3 sp_sinks := by
  refine cal_of F hm hb sc_never_sinks (fun vs H Q E h => ?_) (fun cdv A outer s H vs Q E hr h => ?_)
  · obtain ⟨_, _, rfl, _⟩ := h; rfl
  · obtain ⟨a, ns, rfl, ha, hlen, q⟩ := h
    have sc := sc_never_sinks
    refine ⟨_, pss_one (ps_ret (pe_callB (all0 rfl) rfl T.all_ bt_all (pa_cns (pe_lc2 (N := ["heap", "thing", "worths"]) (fr := [none, none, some 0]) rfl (pi_range1 rfl T.range_ (pa_cns (pe_callB len0 rfl T.len_ bt_len (pa_cns (pv 0) pa_nil)) pa_nil)) (CScope.of rfl rfl rfl) rfl (fun _ _ _ => ⟨pg_name (i := 0) (show List.Nodup (α := Str) ["heap", "thing", "worths"] by decide +kernel) rfl (Or.inl rfl), pif_nil, pi_t0 (pe_cal c_things_in hr (pa_cns (pv 0) pa_nil)), pg_name (i := 1) (show List.Nodup (α := Str) ["heap", "thing", "worths"] by decide +kernel) rfl (Or.inl rfl), pif_nil, pe_cmpR op_le (pe_ix ix0 (pv 2) (pe_cal c_taken_out hr (pa_cns (pv 0) (pa_cns (pv 1) pa_nil))) (fun _ _ => rfl)) (pe_ix ix0 (pv 2) (pv 0) (fun _ _ => rfl)) (nomark _)⟩)) pa_nil))), ?_⟩
    rw [show L2.start ["worths"] [.ref a] = [some (.ref a)] from rfl]
    have hsa := sq_tup ha
    (w_cond hsa)
    refine ⟨by omega, by omega, fun c nc => ?_⟩
    have nac : a ≠ c := ne_of_none ha nc
    refine cl_range (NS1 a c ns H) ⟨none, none, rfl, SameX.upd, upd_same⟩ ?_ ?_
    · rintro i σ H1 hi ⟨v1, v2, rfl, s1, e1⟩
      rw [Int.toNat_natCast] at hi
      have ha1 := s1 _ _ nac ha
      (walk_at "rd")
      refine ⟨(i : Int), rfl, by omega, by omega, fun t H2 nt s2 e2 => ?_⟩
      have ha2 := s2 _ _ ha1
      have e2c := s2 _ _ e1
      have ntc : t ≠ c := (ne_of_none e1 nt).symm
      (w_cond e2)
      refine cl_seq (NS2 a c ns i H2) ⟨_, rfl, SameX.refl, by rw [e2c]; simp⟩ (fun j σ H' _ ⟨_, _, s, _⟩ => s _ _ ntc e2) ?_ ?_
      · rintro j x σ H3 hx ⟨v3, rfl, s3, e3⟩
        rw [List.getElem?_map] at hx
        obtain ⟨tt, htt, rfl⟩ := Option.map_eq_some_iff.mp hx
        have htm := List.mem_of_getElem? htt
        obtain ⟨t0, t5⟩ := thingsI_bd _ tt htm
        obtain ⟨n, rfl⟩ := Int.eq_ofNat_of_zero_le t0
        have hsa3 := sq_tup (s3 _ _ nac ha2)
        have hj : j < (thingsI (i : Int)).length := (List.getElem?_eq_some_iff.mp htt).1
        have ol := out_le i n
        have hat1 := at_int (ns := ns) (n := out i n) (by omega)
        have hat2 := at_int (ns := ns) (n := i) hi
        (w_cond hsa3)
        refine ⟨i, n, rfl, by omega, by omega, ?_⟩
        (try simp only [V.str.injEq, HO.dK.injEq, a_gLst0, a_tSeqL, a_tChain, a_tDict, a_tLstA, a_tLC2, a_tLC3, a_tInner, a_tIns, a_rCatA, a_rCatL, a_tSeq, a_tFor, a_rIxL, a_iZip, a_tSortR, a_tSl, a_rSlL0, a_tNoPart, a_tPart, a_tApp, a_tRet, a_tRetN, a_tNext, a_tDrop, a_tAsg, a_gSub, a_gName, a_gNil, a_gCons, a_gTup0, a_rSetL, a_tIfS, a_tAnd, a_tOr, a_tNot, a_tTest, a_tB, a_tTrue, a_tIf, a_tAndV, a_tOrV, a_tNotV, a_tOp, a_tUn, a_rU, a_tVar, a_tC, a_rI0, a_rI, a_rEq, a_rNe, a_rIx0, a_rIn0, a_tCB, a_tCal, a_tCons, a_tNil, a_tTupA, a_tLst, a_tPar, a_tBits, a_tLC, a_iRng1, a_iRng2, a_iT0, a_iL0, a_tEmit, frS, scal, V.ty.injEq, tyN, subN, String.reduceEq, String.reduceBEq, Bool.true_or, Bool.false_or, Bool.or_false, Bool.true_and, Bool.false_and, Bool.and_false, or_true, true_or, beq_self_eq_true, decide_true, decide_false, List.map_cons, List.map_nil, List.length_cons, List.length_nil, List.getElem?_cons_zero, List.getElem?_cons_succ, List.getElem?_nil, List.set_cons_zero, List.set_cons_succ, Option.some.injEq, Option.bind_some, Option.bind_none, id, exists_eq_left', exists_eq_left, exists_and_left, exists_eq_right, V.int.injEq, V.bl.injEq, V.ref.injEq, List.cons.injEq, and_true, true_and, and_assoc, exists_const, atI0, atI1, atI2, ixN30, ixN31, ixN32, upd_same, upd_upd, sq_updL, sq_updT, Nat.zero_add, Nat.reduceAdd, reduceCtorEq, false_and, and_false, exists_false, false_or, or_false, List.length_map, HO.lst.injEq, HO.tup.injEq, Bool.false_eq_true, if_false, if_true, decide_eq_true_eq, ite_true, ite_false, reduceIte, Int.reduceLT, Int.reduceLE, Nat.reduceLT, Int.zero_add, Bool.not_true, Bool.not_false, hsa3, hat1, hat2, e3])
        have sl := sink_len ns i
        have tl := thingsI_len (i : Int)
        refine ⟨small1000 (by rw [List.length_append, List.length_take]; unfold sinkRow at *; rw [List.length_map]; omega), ⟨_, rfl, s3.trans SameX.upd, ?_⟩⟩
        rw [upd_same, List.take_add_one]
        have er : (sinkRow ns i)[j]? = some (decide (ns.getD (out i n) 0 ≤ ns.getD i 0)) := by
          unfold sinkRow
          rw [List.getElem?_map, htt]
          rfl
        rw [er]
        simp
      · rintro σ H3 ⟨v3, rfl, s3, e3⟩
        rw [List.length_map, List.take_of_length_le (by unfold sinkRow; rw [List.length_map]; exact Nat.le_refl _)] at e3
        refine ⟨_, _, rfl, (s1.trans s2.x).trans s3, ?_⟩
        rw [e3, List.range_succ, List.flatMap_append, List.flatMap_singleton]
    · rintro σ H1 ⟨v1, v2, rfl, s1, e1⟩
      rw [Int.toNat_natCast] at e1
      refine ⟨_, sq_lst e1, ?_⟩
      exact q H1 (s1.same nc)
noncomputable def intV : V → Int
  | .int i => i
  | _ => 0
theorem intV_map (ns : List Int) : (ns.map V.int).map intV = ns := by
  rw [List.map_map]
  exact List.map_id' ns
noncomputable def isWant (xs : List V) (m : Nat) : Bool := decide (xs.length = 2 ^ m) && xs.all (isFrom 0) && (decide ((xs.map intV).getD 0 0 = 0) && noSink (xs.map intV))
theorem pow32 {m : Nat} (h : m ≤ 5) : 2 ^ m ≤ 32 ∧ 0 < 2 ^ m := by
  have h6 : m = 0 ∨ m = 1 ∨ m = 2 ∨ m = 3 ∨ m = 4 ∨ m = 5 := by omega
  rcases h6 with e | e | e | e | e | e <;> rw [e] <;> decide
noncomputable def sp_want : Sp := fun vs H Q _ => (∃ (x : V) (m : Nat) (t : String), vs = [x, .int (m : Int)] ∧ m ≤ 5 ∧ tyN H x = some t ∧ (t == "tuple") = false ∧ Q (.bl false) H) ∨
  ∃ (a : Addr) (m : Nat) (xs : List V), vs = [.ref a, .int (m : Int)] ∧ m ≤ 5 ∧ H a = some (.tup xs) ∧ Kn H xs ∧ xs.length < 1000 ∧ ∀ H', Same H H' → Q (.bl (isWant xs m)) H'
theorem sc_is_want : FnScope ["thing", "many"] ["thing", "many"] (defScope s_is_want) := ⟨rfl, rfl, rfl, by decide +kernel, rfl, by decide +kernel, by decide +kernel⟩
theorem ok_want (F : Fun K "is_want" "is_want" s_is_want f fd) (hm : mg "is_want" = some (.ref f)) (hb : Binds K fd ["thing", "many"] []) (T : Txt mg) (c_are_wholes_from : Cal P w K mg base "are_wholes_from" ["thing", "many", "least"] 3 sp_from) (c_never_sinks : Cal P w K mg base "never_sinks" ["worths"] 3 sp_sinks) : Cal P w K mg base "is_want" ["thing", "many"] 4 sp_want := by
  refine cal_of F hm hb sc_is_want (fun vs H Q E h => ?_) (fun cdv A outer s H vs Q E hr h => ?_)
  · rcases h with h | h
    · obtain ⟨_, _, _, rfl, _⟩ := h; rfl
    · obtain ⟨_, _, _, rfl, _⟩ := h; rfl
  · rcases h with h | h
    · obtain ⟨x, m, t, rfl, m5, hx, ht, q⟩ := h
      have sc := sc_is_want
      refine ⟨_, pss_one (ps_ret (pe_and (pe_cal c_are_wholes_from hr (pa_cns (pv 0) (pa_cns (pe_op op_shl pe_int (pv 1)) (pa_cns pe_int pa_nil)))) (pe_and (pe_cmpR op_eq (pe_ix ix0 (pv 0) pe_int (fun _ _ => rfl)) pe_int (nomark _)) (pe_one (pe_cal c_never_sinks hr (pa_cns (pv 0) pa_nil)))))), ?_⟩
      rw [show L2.start ["thing", "many"] [x, .int (m : Int)] = [some (x), some (.int (m : Int))] from rfl]
      (walk_at "rd")
      refine ⟨⟨by omega, by omega, by decide⟩, ?_⟩
      refine .inl ⟨x, _, _, t, rfl, hx, ht, ?_⟩
      (walk_at "rd")
      exact q
    · obtain ⟨a, m, xs, rfl, m5, ha, hk, hlen, q⟩ := h
      have sc := sc_is_want
      refine ⟨_, pss_one (ps_ret (pe_and (pe_cal c_are_wholes_from hr (pa_cns (pv 0) (pa_cns (pe_op op_shl pe_int (pv 1)) (pa_cns pe_int pa_nil)))) (pe_and (pe_cmpR op_eq (pe_ix ix0 (pv 0) pe_int (fun _ _ => rfl)) pe_int (nomark _)) (pe_one (pe_cal c_never_sinks hr (pa_cns (pv 0) pa_nil)))))), ?_⟩
      rw [show L2.start ["thing", "many"] [.ref a, .int (m : Int)] = [some (.ref a), some (.int (m : Int))] from rfl]
      (walk_at "rd")
      refine ⟨⟨by omega, by omega, by decide⟩, ?_⟩
      refine .inr ⟨a, _, _, xs, rfl, ha, hk, hlen, fun H1 s1 => ?_⟩
      have hpow : (1 : Int) * 2 ^ (m : Int).toNat = ((2 ^ m : Nat) : Int) := by rw [Int.one_mul, Int.toNat_natCast]; norm_cast
      have hdec : decide ((xs.length : Int) = 1 * 2 ^ (m : Int).toNat) = decide (xs.length = 2 ^ m) := by
        rw [hpow, Bool.eq_iff_iff, decide_eq_true_eq, decide_eq_true_eq, Int.ofNat_inj]
      rw [hdec]
      unfold isWant at q
      cases hl : decide (xs.length = 2 ^ m) && xs.all (isFrom 0) with
      | false =>
        rw [hl] at q
        (walk_at "rd")
        exact q H1 s1
      | true =>
        rw [hl] at q
        rw [Bool.and_eq_true, decide_eq_true_eq] at hl
        obtain ⟨ns, rfl⟩ := allI_ints (allF_I hl.2)
        rw [intV_map, List.length_map] at *
        have hp := pow32 m5
        have ha1 := s1 _ _ ha
        have hsa1 := sq_tup ha1
        have hat := at_int (ns := ns) (n := 0) (by omega)
        rw [Int.natCast_zero] at hat
        (wrow_has hsa1 hat)
        cases hz : decide (ns.getD 0 0 = 0) with
        | false =>
          rw [hz] at q
          rw [if_neg (by simpa using hz)]
          exact q H1 s1
        | true =>
          rw [hz] at q
          rw [if_pos (by simpa using hz)]
          refine ⟨a, ns, rfl, ha1, by omega, fun H2 s2 => ?_⟩
          exact q H2 (s1.trans s2)
structure Want (ns : List Int) (m : Nat) : Prop where
  len : ns.length = 2 ^ m
  zero : ns.getD 0 0 = 0
  bd : ∀ x ∈ ns, 0 ≤ x ∧ x ≤ 1000
  mono : ∀ h t, h < 2 ^ m → t < 5 → ns.getD (out h t) 0 ≤ ns.getD h 0
structure Pre (ns : List Int) : Prop where
  zero : ns.getD 0 0 = 0
  bd : ∀ x ∈ ns, 0 ≤ x ∧ x ≤ 1000
  mono : ∀ h t, h < ns.length → t < 5 → ns.getD (out h t) 0 ≤ ns.getD h 0
noncomputable def bitOn (h t : Nat) : Bool := decide (h / 2 ^ t % 2 = 1)
theorem bit_on {h t : Nat} (hh : h < 32) (ht : t < 5) : decide (Builtin.bitAnd ((h : Int) / 2 ^ (t : Int).toNat) 1 = 1) = bitOn h t ∧ (bitOn h t = true → (h : Int) - 1 * 2 ^ (t : Int).toNat = (out h t : Int) ∧ out h t < h) ∧ (bitOn h t = false → out h t = h) := by
  have key : ∀ (a : _root_.Fin 32) (b : _root_.Fin 5), decide (Builtin.bitAnd ((a.val : Int) / 2 ^ (b.val : Int).toNat) 1 = 1) = bitOn a.val b.val ∧ (bitOn a.val b.val = true → (a.val : Int) - 1 * 2 ^ (b.val : Int).toNat = (out a.val b.val : Int) ∧ out a.val b.val < a.val) ∧ (bitOn a.val b.val = false → out a.val b.val = a.val) := by decide +kernel
  exact key ⟨h, hh⟩ ⟨t, ht⟩
theorem some_bit {h m : Nat} (h0 : 1 ≤ h) (hm : m ≤ 5) (h1 : h < 2 ^ m) : ∃ t, t < m ∧ bitOn h t = true := by
  have key : ∀ (a : _root_.Fin 32) (b : _root_.Fin 6), 1 ≤ a.val → a.val < 2 ^ b.val → ∃ t : _root_.Fin 5, t.val < b.val ∧ bitOn a.val t.val = true := by decide +kernel
  have := pow32 hm
  obtain ⟨t, q⟩ := key ⟨h, by omega⟩ ⟨m, by omega⟩ h0 h1
  exact ⟨t.val, q⟩
theorem high_bit {h m t : Nat} (hm : m ≤ 5) (h1 : h < 2 ^ m) (ht : t < 5) (hb : bitOn h t = true) : t < m := by
  have key : ∀ (a : _root_.Fin 32) (b : _root_.Fin 6) (t : _root_.Fin 5), a.val < 2 ^ b.val → bitOn a.val t.val = true → t.val < b.val := by decide +kernel
  have := pow32 hm
  exact key ⟨h, by omega⟩ ⟨m, by omega⟩ ⟨t, ht⟩ h1 hb
noncomputable def lows (ns : List Int) (h m : Nat) : List Int := ((List.range m).filter (bitOn h)).map fun t => ns.getD (out h t) 0
theorem lows_succ (ns : List Int) (h i : Nat) : lows ns h (i + 1) = lows ns h i ++ if bitOn h i = true then [ns.getD (out h i) 0] else [] := by
  unfold lows
  rw [List.range_succ, List.filter_append, List.map_append]
  congr 1
  cases e : bitOn h i <;> simp [List.filter, e]
theorem lows_len (ns : List Int) (h m : Nat) : (lows ns h m).length ≤ m := by
  unfold lows
  rw [List.length_map]
  exact Nat.le_trans (List.length_filter_le _ _) (by simp)
theorem pre_push {ns : List Int} {m : Nat} {v mx : Int} (W : Pre ns) (hm : m ≤ 5) (hl : ns.length < 2 ^ m) (h1 : 1 ≤ ns.length) (hmx : ∀ x ∈ lows ns ns.length m, x ≤ mx) (hv : mx ≤ v) (v0 : 0 ≤ v) (v1 : v ≤ 1000) : Pre (ns ++ [v]) := by
  have hp := pow32 hm
  have gd : ∀ n, n < ns.length → (ns ++ [v]).getD n 0 = ns.getD n 0 := fun n hn => by simp [List.getD_eq_getElem?_getD, List.getElem?_append_left hn]
  have gv : (ns ++ [v]).getD ns.length 0 = v := by simp [List.getD_eq_getElem?_getD]
  refine ⟨by rw [gd 0 (by omega)]; exact W.zero, fun x hx => ?_, fun h t hh ht => ?_⟩
  · rcases List.mem_append.mp hx with z | z
    · exact W.bd x z
    · have : x = v := by simpa using z
      omega
  · rw [List.length_append] at hh
    have hh' : h < ns.length ∨ h = ns.length := by simp at hh; omega
    rcases hh' with hh' | rfl
    · have := out_le h t
      rw [gd _ (by omega), gd _ hh']
      exact W.mono h t hh' ht
    · obtain ⟨_, b2, b3⟩ := bit_on (h := ns.length) (t := t) (by omega) ht
      cases e : bitOn ns.length t with
      | false => rw [b3 e]; exact Int.le_refl _
      | true =>
        obtain ⟨_, lt⟩ := b2 e
        rw [gd _ lt, gv]
        refine Int.le_trans (hmx _ ?_) hv
        unfold lows
        exact List.mem_map.mpr ⟨t, List.mem_filter.mpr ⟨List.mem_range.mpr (high_bit hm hl ht e), e⟩, rfl⟩
noncomputable def sp_lwant : Sp := fun vs H Q _ => ∃ (p : Addr) (m : Nat), vs = [.ref p, .int (m : Int)] ∧ Box H p ∧ 1 ≤ m ∧ m ≤ 5 ∧ ∀ (t : Addr) (ns : List Int) (H' : Hp), H t = none → Want ns m → Box H' p → SameX p H H' → H' t = some (.tup (ns.map V.int)) → Q (.ref t) H'
noncomputable def LQ (p c : Addr) (m : Nat) (most : Int) (G : Hp) (i : Nat) (σ : St) (H : Hp) : Prop := ∃ (v4 v5 : Option V) (ns : List Int), σ = [some (.ref p), some (.int (m : Int)), some (.int most), some (.ref c), v4, v5] ∧ ns.length = min (i + 1) (2 ^ m) ∧ Pre ns ∧ Box H p ∧ (∀ b o, b ≠ p → b ≠ c → G b = some o → H b = some o) ∧ H c = some (.lst (ns.map V.int))
noncomputable def LR (c d : Addr) (ns : List Int) (G : Hp) (i : Nat) (σ : St) (H : Hp) : Prop := ∃ v, σ = [v, some (.ref c), some (.int (ns.length : Int))] ∧ SameX d G H ∧ H d = some (.lst ((lows ns ns.length i).map V.int))
theorem sc__law_want : FnScope ["_law_box_here", "_law_many_here", "_law_most", "_law_found", "_law_heap", "_law_low"] ["_law_box_here", "_law_many_here"] (defScope s__law_want) := ⟨rfl, rfl, rfl, by decide +kernel, rfl, by decide +kernel, by decide +kernel⟩
theorem ok_lwant (F : Fun K "_law_want" "_law_want" s__law_want f fd) (hm : mg "_law_want" = some (.ref f)) (hb : Binds K fd ["_law_box_here", "_law_many_here"] []) (T : Txt mg) (c__law_take : Cal P w K mg base "_law_take" ["_law_box_here", "_law_many_here"] 1 spTake) : Cal P w K mg base "_law_want" ["_law_box_here", "_law_many_here"] 2 sp_lwant := by
  refine cal_of F hm hb sc__law_want (fun vs H Q E h => ?_) (fun cdv A outer s H vs Q E hr h => ?_)
  · obtain ⟨_, _, rfl, _⟩ := h; rfl
  · obtain ⟨p, m, rfl, bx, m1, m5, q⟩ := h
    have sc := sc__law_want
    refine ⟨_, pss_cons (ps_set (i := 2) sc.nd rfl (Or.inl rfl) (pe_ix ix0 (pe_lst (pa_cns pe_int (pa_cns pe_int (pa_cns pe_int (pa_cns pe_int (pa_cns pe_int pa_nil)))))) (pe_cal c__law_take hr (pa_cns (pv 0) (pa_cns pe_int pa_nil))) (fun _ _ => rfl)))
      (pss_cons (ps_set (i := 3) sc.nd rfl (Or.inr rfl) (pe_lst (pa_cns pe_int pa_nil)))
      (pss_cons (ps_for PassesOwn.never rfl (pi_range2 rfl T.range_ (pa_cns pe_int (pa_cns (pe_op op_pow pe_int pe_int) pa_nil))) (pg_name (i := 4) sc.nd rfl (Or.inr rfl))
        (pss_one (ps_if (pt_cmpR op_lt (pv 4) (pe_op op_shl pe_int (pv 1)) (nomark _)) (pss_cons (ps_set (i := 5) sc.nd rfl (Or.inl rfl) (pe_callB (max0 rfl) rfl T.max_ bt_max (pa_cns (pe_lc (N := ["_law_t", "_law_found", "_law_heap"]) (fr := [none, some 3, some 4]) rfl (pi_range1 rfl T.range_ (pa_cns (pv 1) pa_nil)) (CScope.of rfl rfl rfl) rfl (fun _ _ _ => ⟨pg_name (i := 0) (show List.Nodup (α := Str) ["_law_t", "_law_found", "_law_heap"] by decide +kernel) rfl (Or.inl rfl), pif_one (pt_cmpR op_eq (pe_op op_and (pe_op op_shr (pv 2) (pv 0)) pe_int) pe_int (nomark _)), pe_ix ix0 (pv 1) (pe_op op_sub (pv 2) (pe_op op_shl pe_int (pv 0))) (fun _ _ => rfl)⟩)) pa_nil)))
      (pss_one (ps_expr (pe_append (pv 3) (pa_cns (pe_callB (call_min2 rfl) rfl T.min_ bt_min (pa_cns pe_int (pa_cns (pe_op op_add (pv 5) (pe_op op_mul (pe_cal c__law_take hr (pa_cns (pv 0) (pa_cns (pv 2) pa_nil))) (pe_callTy call_int1 rfl T.int_ bt_int (pa_cns (pe_cmpR op_gt (pe_cal c__law_take hr (pa_cns (pv 0) (pa_cns pe_int pa_nil))) pe_int (nomark _)) pa_nil)))) pa_nil))) pa_nil))))) pss_nil)))
      (pss_one (ps_ret (pe_callTy tupA0 rfl T.tuple_ bt_tuple (pa_cns (pv 3) pa_nil)))))), ?_⟩
    rw [show L2.start ["_law_box_here", "_law_many_here", "_law_most", "_law_found", "_law_heap", "_law_low"] [.ref p, .int (m : Int)] = [some (.ref p), some (.int (m : Int)), none, none, none, none] from rfl]
    have hp := pow32 m5
    (walk_at "rd")
    refine ⟨by decide, fun d0 nd0 => ?_⟩
    have n0 := bx.ne nd0
    refine ⟨p, 5, rfl, bx.upd n0, by decide, by decide, fun r H1 r0 r1 bx1 bt1 => ?_⟩
    have hd1 : H1 d0 = some (.lst [.int 2, .int 4, .int 10, .int 31, .int 201]) := by rw [bt1 d0 n0.symm]; exact upd_same
    have hsd := sq_lst hd1
    have s1 : SameX p H H1 := (same_upd nd0).x.trans bt1.x
    obtain ⟨most, hat, mo0, mo1⟩ : ∃ most : Int, atI [V.int 2, V.int 4, V.int 10, V.int 31, V.int 201] r = some (.int most) ∧ 0 < most ∧ most ≤ 1001 := by
      have h4 : r = 0 ∨ r = 1 ∨ r = 2 ∨ r = 3 ∨ r = 4 := by omega
      rcases h4 with rfl | rfl | rfl | rfl | rfl
      · exact ⟨2, rfl, by decide, by decide⟩
      · exact ⟨4, rfl, by decide, by decide⟩
      · exact ⟨10, rfl, by decide, by decide⟩
      · exact ⟨31, rfl, by decide, by decide⟩
      · exact ⟨201, rfl, by decide, by decide⟩
    (wrow_has hsd hat)
    refine ⟨by decide, fun c nc => ?_⟩
    have ncp := bx1.ne nc
    refine ⟨⟨by decide, by decide, by decide⟩, by decide, by decide, by decide, by decide, ?_⟩
    refine fl_range (LQ p c m most H1) ⟨none, none, [0], rfl, by simp; omega, ⟨rfl, fun x hx => ?_, fun h t hh ht => ?_⟩, bx1.upd ncp, fun b o _ n e => by rw [upd_ne n]; exact e, by rw [upd_same]; rfl⟩ ?_ ?_
    · have : x = 0 := by simpa using hx
      omega
    · have h0 : h = 0 := by simpa using hh
      subst h0
      have := out_le 0 t
      rw [show out 0 t = 0 by omega]
      exact Int.le_refl _
    · rintro i σ H2 hi ⟨v4, v5, ns, rfl, hlen, W, bx2, k2, e2⟩
      have hi31 : i < 31 := by simpa using hi
      (walk_at "rd")
      have hpow : (1 : Int) * 2 ^ (m : Int).toNat = ((2 ^ m : Nat) : Int) := by rw [Int.one_mul, Int.toNat_natCast]; norm_cast
      refine ⟨⟨by omega, by omega, by decide⟩, ?_⟩
      rw [hpow]
      by_cases hlt : i + 1 < 2 ^ m
      · rw [if_pos (by omega)]
        have hl : ns.length = i + 1 := by omega
        have hI : (1 : Int) + (i : Int) = (ns.length : Int) := by omega
        rw [hI]
        (walk_at "rd")
        refine ⟨by omega, by omega, fun d nd => ?_⟩
        have ncd : c ≠ d := ne_of_none e2 nd
        have npd := bx2.ne nd
        refine cl_range (LR c d ns H2) ⟨none, rfl, SameX.upd, by rw [upd_same]; rfl⟩ ?_ ?_
        · rintro j σ H3 hj ⟨v, rfl, s3, e3⟩
          rw [Int.toNat_natCast] at hj
          have hsc := sq_lst (s3 _ _ ncd e2)
          obtain ⟨b1, b2, b3⟩ := bit_on (h := ns.length) (t := j) (by omega) (by omega)
          (walk_at "rd")
          refine ⟨by omega, ?_⟩
          have ll := lows_len ns ns.length j
          by_cases hb : bitOn ns.length j = true
          · have hc1 : Builtin.bitAnd ((ns.length : Int) / 2 ^ (j : Int).toNat) 1 = 1 := by rw [hb] at b1; simpa using b1
            rw [if_pos (by simpa using hc1)]
            obtain ⟨b4, b5⟩ := b2 hb
            have hat2 := at_int (ns := ns) (n := out ns.length j) b5
            rw [← b4] at hat2
            refine ⟨⟨by omega, by omega, by decide⟩, ?_⟩
            (wrow_read hsc hat2 e3)
            refine ⟨small1000 (by omega), ⟨_, rfl, s3.trans SameX.upd, ?_⟩⟩
            rw [upd_same, lows_succ, if_pos hb]
            simp
          · have hc1 : ¬ Builtin.bitAnd ((ns.length : Int) / 2 ^ (j : Int).toNat) 1 = 1 := by
              have : bitOn ns.length j = false := by simpa using hb
              rw [this] at b1
              simpa using b1
            rw [if_neg (by simpa using hc1)]
            refine ⟨_, rfl, s3, ?_⟩
            rw [e3, lows_succ, if_neg hb, List.append_nil]
        · rintro σ H3 ⟨v, rfl, s3, e3⟩
          rw [Int.toNat_natCast] at e3
          have hne : lows ns ns.length m ≠ [] := by
            obtain ⟨t, t1, t2⟩ := some_bit (h := ns.length) (m := m) (by omega) m5 (by omega)
            intro z
            have : ns.getD (out ns.length t) 0 ∈ lows ns ns.length m := by
              unfold lows
              exact List.mem_map.mpr ⟨t, List.mem_filter.mpr ⟨List.mem_range.mpr t1, t2⟩, rfl⟩
            rw [z] at this
            cases this
          refine ⟨_, sq_lst e3, hne, fun mx hm1 hm2 => ?_⟩
          have mxb : 0 ≤ mx ∧ mx ≤ 1000 := by
            unfold lows at hm1
            obtain ⟨t, ht, rfl⟩ := List.mem_map.mp hm1
            obtain ⟨_, b2, _⟩ := bit_on (h := ns.length) (t := t) (by omega) (by have := List.mem_range.mp (List.mem_filter.mp ht).1; omega)
            obtain ⟨_, lt⟩ := b2 (List.mem_filter.mp ht).2
            have := W.bd ns[out ns.length t] (List.getElem_mem lt)
            simpa [List.getD_eq_getElem?_getD, lt] using this
          (walk_at "rd")
          have e3c := s3 _ _ ncd e2
          have bx3 : Box H3 p := by obtain ⟨g, m', z, e⟩ := bx2; exact ⟨g, m', z, s3 _ _ npd e⟩
          refine ⟨_, e3c, ?_⟩
          (walk_at "rd")
          refine ⟨p, most, rfl, bx3, mo0, by omega, fun ra H4 ra0 ra1 bx4 bt4 => ?_⟩
          (walk_at "rd")
          refine ⟨p, 3, rfl, bx4, by decide, by decide, fun rb H5 rb0 rb1 bx5 bt5 => ?_⟩
          (walk_at "rd")
          have e5 : H5 c = some (.lst (ns.map V.int)) := by rw [bt5 c ncp.symm, bt4 c ncp.symm]; exact e3c
          refine ⟨.inr (by split <;> exact ⟨by decide, by decide⟩), ?_⟩
          have k5 : ∀ b o, b ≠ p → b ≠ c → H1 b = some o → H5 b = some o := fun b o n1 n2 e => by
            rw [bt5 b n1, bt4 b n1]
            have z := k2 b o n1 n2 e
            exact s3 _ _ (ne_of_none z nd) z
          have fin : ∀ v : Int, mx ≤ v → v ≤ 1000 → LQ p c m most H1 (i + 1) [some (.ref p), some (.int (m : Int)), some (.int most), some (.ref c), some (.int (ns.length : Int)), some (.int mx)] (L2.upd H5 c (.lst (ns.map V.int ++ [.int v]))) := fun v hv hv1 =>
            ⟨_, _, ns ++ [v], rfl, by rw [List.length_append, List.length_singleton]; omega, pre_push W m5 (by omega) (by omega) hm2 hv (by omega) hv1, bx5.upd ncp, fun b o n1 n2 e => by rw [upd_ne n2]; exact k5 b o n1 n2 e, by rw [upd_same]; simp⟩
          refine ⟨_, e5, small1000 (by rw [List.length_map]; omega), fin _ ?_ ?_⟩
          · have hm0 : 0 ≤ ra * (if 0 < rb then 1 else 0) := Int.mul_nonneg ra0 (by split <;> decide)
            split <;> omega
          · split <;> omega
      · rw [if_neg (by omega)]
        exact ⟨_, _, ns, rfl, by omega, W, bx2, k2, e2⟩
    · rintro σ H2 ⟨v4, v5, ns, rfl, hlen, W, bx2, k2, e2⟩
      have h32 : ns.length = 2 ^ m := by rw [hlen]; simp; omega
      (walk_at "rd")
      refine ⟨_, e2, fun l H3 nl s3 e3 => ?_⟩
      refine q l ns H3 ?_ ⟨h32, W.zero, W.bd, fun h t hh ht => W.mono h t (by omega) ht⟩ (bx2.same s3) ?_ e3
      · cases e : H l with
        | none => rfl
        | some o =>
          have nlp : l ≠ p := (bx2.ne nl).symm
          have e1 := s1 _ _ nlp e
          rw [k2 l o nlp (ne_of_none e1 nc) e1] at nl
          cases nl
      · intro b o n e
        have e1 := s1 _ _ n e
        exact s3 _ _ (k2 b o n (ne_of_none e1 nc) e1)
theorem things_bit {h t : Nat} (hh : h < 32) : ((t : Int) ∈ thingsI (h : Int)) ↔ (t < 5 ∧ bitOn h t = true) := by
  unfold thingsI
  constructor
  · intro z
    obtain ⟨n, hn, e⟩ := List.mem_map.mp z
    have e' : n = t := Int.ofNat_inj.mp e
    subst e'
    obtain ⟨h1, h2⟩ := List.mem_filter.mp hn
    have ht := List.mem_range.mp h1
    refine ⟨ht, ?_⟩
    have := (bit_on hh ht).1
    unfold hasI at h2
    rw [← this]
    exact h2
  · rintro ⟨ht, hb⟩
    refine List.mem_map.mpr ⟨t, List.mem_filter.mpr ⟨List.mem_range.mpr ht, ?_⟩, rfl⟩
    have := (bit_on hh ht).1
    unfold hasI
    rw [hb] at this
    exact this
theorem noSink_iff {ns : List Int} (hl : ns.length ≤ 32) : noSink ns = true ↔ ∀ h t, h < ns.length → t < 5 → bitOn h t = true → ns.getD (out h t) 0 ≤ ns.getD h 0 := by
  unfold noSink
  rw [List.all_eq_true]
  constructor
  · intro z h t hh ht hb
    have hm : decide (ns.getD (out h t) 0 ≤ ns.getD h 0) ∈ (List.range ns.length).flatMap (sinkRow ns) := by
      refine List.mem_flatMap.mpr ⟨h, List.mem_range.mpr hh, ?_⟩
      unfold sinkRow
      exact List.mem_map.mpr ⟨(t : Int), (things_bit (by omega)).mpr ⟨ht, hb⟩, by simp⟩
    simpa using z _ hm
  · intro z b hb
    obtain ⟨h, hh, hb⟩ := List.mem_flatMap.mp hb
    unfold sinkRow at hb
    obtain ⟨t, ht, rfl⟩ := List.mem_map.mp hb
    obtain ⟨t0, t5⟩ := thingsI_bd _ t ht
    obtain ⟨n, rfl⟩ := Int.eq_ofNat_of_zero_le t0
    have hh' := List.mem_range.mp hh
    obtain ⟨n5, hb⟩ := (things_bit (by omega)).mp ht
    simpa using z h n hh' n5 hb
theorem isWant_ints (ns : List Int) (m : Nat) : isWant (ns.map V.int) m = (decide (ns.length = 2 ^ m) && ns.all (fun n => decide (0 ≤ n)) && (decide (ns.getD 0 0 = 0) && noSink ns)) := by
  unfold isWant
  rw [intV_map, List.length_map, List.all_map]
  rfl
theorem isWant_of {ns : List Int} {m : Nat} (m5 : m ≤ 5) (hl : ns.length = 2 ^ m) (h0 : ns.getD 0 0 = 0) (hn : ∀ x ∈ ns, 0 ≤ x) (hs : ∀ h t, h < 2 ^ m → t < 5 → ns.getD (out h t) 0 ≤ ns.getD h 0) : isWant (ns.map V.int) m = true := by
  have hp := pow32 m5
  rw [isWant_ints, decide_eq_true hl, decide_eq_true h0, Bool.true_and, Bool.true_and, Bool.and_eq_true]
  exact ⟨List.all_eq_true.mpr fun x hx => decide_eq_true (hn x hx), (noSink_iff (by omega)).mpr fun h t hh ht _ => hs h t (by omega) ht⟩
end
end K78
end
section
set_option Elab.async false
set_option linter.all false
set_option maxRecDepth 100000
set_option maxHeartbeats 4000000
namespace K78
open PySem L2
section
variable {P : Program} {w : World} {K : PySem.W.Frag} {mg : Str → Option Value} {base : Heap} {f : Addr} {fd : FuncData}
theorem split_ne (x m : Str) : (PySem.Txt.split x m) ≠ [] := by
  unfold PySem.Txt.split
  split
  · simp
  · split
    · simp
    · unfold Builtin.Str.partsBetween
      intro e
      have := congrArg List.length e
      simp at this
noncomputable def okN (x : Str) : Bool := PySem.Txt.isascii x && PySem.Txt.isdecimal x && decide (x.length ≤ 9) && (decide (x = "0") || decide (x.cps.toList.head? ≠ some 48))
noncomputable def nv (x : Str) : Nat := NumText.digitsVal x.cps.toList
theorem dec_digit : ∀ c : _root_.Fin 128, Unicode.isDecimal c.1 = true → 48 ≤ c.1 ∧ c.1 ≤ 57 := by decide +kernel
theorem ascii_digits {x : Str} (h1 : PySem.Txt.isascii x = true) (h2 : PySem.Txt.isdecimal x = true) : NumText.AllDigits x.cps.toList ∧ x.cps.toList ≠ [] := by
  unfold PySem.Txt.isascii at h1
  unfold PySem.Txt.isdecimal at h2
  rw [Bool.and_eq_true, decide_eq_true_eq] at h2
  rw [← Array.all_toList, List.all_eq_true] at h1
  have h3 := h2.2
  rw [← Array.all_toList, List.all_eq_true] at h3
  refine ⟨fun c hc => dec_digit ⟨c, of_decide_eq_true (h1 c hc)⟩ (h3 c hc), fun e => ?_⟩
  have : x.cps.toList.length = x.length := Array.length_toList
  rw [e] at this
  have h4 := h2.1
  rw [← this] at h4
  exact absurd h4 (by decide)
theorem okN_parts {x : Str} (h : okN x = true) : PySem.Txt.isascii x = true ∧ PySem.Txt.isdecimal x = true ∧ x.length ≤ 9 ∧ (x = "0" ∨ x.cps.toList.head? ≠ some 48) := by
  unfold okN at h
  simp only [Bool.and_eq_true, Bool.or_eq_true, decide_eq_true_eq] at h
  exact ⟨h.1.1.1, h.1.1.2, h.1.2, h.2⟩
theorem okN_reads {x : Str} (h : okN x = true) : intText? x = some ((nv x : Nat) : Int) := by
  obtain ⟨h1, h2, h3, _⟩ := okN_parts h
  obtain ⟨d, ne⟩ := ascii_digits h1 h2
  exact intText_digits d ne (by omega)
theorem fold_ge : ∀ (cs : List Nat) (a : Nat), a * 10 ^ cs.length ≤ cs.foldl (fun acc c => acc * 10 + (c - 48)) a
  | [], a => by simp
  | c :: cs, a => by
    have ih := fold_ge cs (a * 10 + (c - 48))
    rw [List.foldl_cons, List.length_cons, Nat.pow_succ]
    refine Nat.le_trans ?_ ih
    rw [Nat.mul_comm (10 ^ cs.length) 10, ← Nat.mul_assoc]
    exact Nat.mul_le_mul (Nat.le_add_right _ _) (Nat.le_refl _)
theorem fm_uniq {c : Nat} : ∀ (ws us : List (List Nat)) (w u : List Nat), c ∉ w → c ∉ u → (∀ x ∈ ws, c ∉ x) → (∀ x ∈ us, c ∉ x) → w ++ ws.flatMap (fun x => c :: x) = u ++ us.flatMap (fun x => c :: x) → w = u ∧ ws = us := by
  have cut : ∀ (w u r s : List Nat), c ∉ w → c ∉ u → w ++ c :: r = u ++ c :: s → w = u ∧ r = s := by
    intro w
    induction w with
    | nil =>
      intro u r s _ hu h
      cases u with
      | nil => exact ⟨rfl, by simpa using h⟩
      | cons d u =>
        simp only [List.nil_append, List.cons_append, List.cons.injEq] at h
        exact absurd (by rw [← h.1]; exact List.mem_cons_self) hu
    | cons d w ih =>
      intro u r s hw hu h
      cases u with
      | nil =>
        simp only [List.nil_append, List.cons_append, List.cons.injEq] at h
        exact absurd (by rw [h.1]; exact List.mem_cons_self) hw
      | cons e u =>
        simp only [List.cons_append, List.cons.injEq] at h
        obtain ⟨h1, h2⟩ := ih u r s (fun z => hw (List.mem_cons_of_mem _ z)) (fun z => hu (List.mem_cons_of_mem _ z)) h.2
        exact ⟨by rw [h.1, h1], h2⟩
  have none : ∀ (w u s : List Nat), c ∉ w → w ≠ u ++ c :: s := fun w u s hw e => hw (by rw [e]; simp)
  intro ws
  induction ws with
  | nil =>
    intro us w u hw hu _ _ h
    cases us with
    | nil => exact ⟨by simpa using h, rfl⟩
    | cons x us =>
      simp only [List.flatMap_nil, List.append_nil, List.flatMap_cons, List.cons_append] at h
      exact absurd h (none w u _ hw)
  | cons y ws ih =>
    intro us w u hw hu hws hus h
    cases us with
    | nil =>
      simp only [List.flatMap_nil, List.append_nil, List.flatMap_cons, List.cons_append] at h
      exact absurd h.symm (none u w _ hu)
    | cons x us =>
      simp only [List.flatMap_cons, List.cons_append] at h
      obtain ⟨h1, h2⟩ := cut w u _ _ hw hu h
      obtain ⟨h3, h4⟩ := ih us y x (hws y List.mem_cons_self) (hus x List.mem_cons_self) (fun z hz => hws z (List.mem_cons_of_mem _ hz)) (fun z hz => hus z (List.mem_cons_of_mem _ hz)) h2
      exact ⟨h1, by rw [h3, h4]⟩
theorem join_list (c : Nat) : ∀ (ws : List Str) (w : Str), (Str.join ⟨#[c]⟩ (w :: ws)).cps.toList = w.cps.toList ++ (ws.map fun x => x.cps.toList).flatMap (fun x => c :: x)
  | [], w => by simp [Str.join]
  | y :: ws, w => by
    have ih := join_list c ws y
    show ((w ++ ⟨#[c]⟩ ++ Str.join ⟨#[c]⟩ (y :: ws) : Str)).cps.toList = _
    rw [Str.cps_append, Str.cps_append, Array.toList_append, Array.toList_append, ih]
    simp
theorem str_list {a b : Str} (h : a.cps.toList = b.cps.toList) : a = b := by
  obtain ⟨⟨x⟩⟩ := a
  obtain ⟨⟨y⟩⟩ := b
  simpa using h
theorem strs_list : ∀ {as bs : List Str}, as.map (fun x => x.cps.toList) = bs.map (fun x => x.cps.toList) → as = bs
  | [], [], _ => rfl
  | [], _ :: _, h => by cases h
  | _ :: _, [], h => by cases h
  | a :: as, b :: bs, h => by
    simp only [List.map_cons, List.cons.injEq] at h
    rw [str_list h.1, strs_list h.2]
theorem split_join {c : Nat} {ws : List Str} (hne : ws ≠ []) (hf : ∀ x ∈ ws, c ∉ x.cps.toList) : PySem.Txt.split (Str.join ⟨#[c]⟩ ws) ⟨#[c]⟩ = ws := by
  have h1 := StrLaws.split_free (Str.join ⟨#[c]⟩ ws) c
  have h2 := StrLaws.join_split (Str.join ⟨#[c]⟩ ws) ⟨#[c]⟩
  have h3 := split_ne (Str.join ⟨#[c]⟩ ws) ⟨#[c]⟩
  generalize PySem.Txt.split (Str.join ⟨#[c]⟩ ws) ⟨#[c]⟩ = us at h1 h2 h3
  match ws, us, hne, h3 with
  | w :: ws, u :: us, _, _ =>
    have e := congrArg (fun s : Str => s.cps.toList) h2
    rw [join_list, join_list] at e
    have m : ∀ {l : List Str}, (∀ x ∈ l, c ∉ x.cps.toList) → ∀ y ∈ l.map (fun x => x.cps.toList), c ∉ y := fun hl y hy => by
      obtain ⟨x, hx, rfl⟩ := List.mem_map.mp hy
      exact hl x hx
    obtain ⟨k1, k2⟩ := fm_uniq _ _ _ _ (h1 u List.mem_cons_self) (hf w List.mem_cons_self) (m fun x hx => h1 x (List.mem_cons_of_mem _ hx)) (m fun x hx => hf x (List.mem_cons_of_mem _ hx)) e
    rw [str_list k1, strs_list k2]
theorem rev_ind {α : Type} {P : List α → Prop} (h0 : P []) (hs : ∀ l c, P l → P (l ++ [c])) (l : List α) : P l := by
  have : ∀ (n : Nat) (l : List α), l.length = n → P l := by
    intro n
    induction n with
    | zero => intro l e; rw [List.length_eq_zero_iff.mp e]; exact h0
    | succ n ih =>
      intro l e
      have ne : l ≠ [] := fun z => by rw [z] at e; cases e
      rw [← List.dropLast_concat_getLast ne]
      exact hs _ _ (ih _ (by rw [List.length_dropLast]; omega))
  exact this _ l rfl
noncomputable def Lead (l : List Nat) : Prop := l ≠ [] ∧ (l = [48] ∨ l.head? ≠ some 48)
theorem lead_pos {l : List Nat} (d : NumText.AllDigits l) (ne : l ≠ []) (h : l.head? ≠ some 48) : 10 ^ (l.length - 1) ≤ NumText.digitsVal l := by
  cases l with
  | nil => exact absurd rfl ne
  | cons c cs =>
    have hc := d c List.mem_cons_self
    have : c ≠ 48 := fun e => h (by rw [e]; rfl)
    have g := fold_ge cs (0 * 10 + (c - 48))
    have e : NumText.digitsVal (c :: cs) = cs.foldl (fun acc c => acc * 10 + (c - 48)) (0 * 10 + (c - 48)) := rfl
    rw [e]
    refine Nat.le_trans ?_ g
    have q : 1 * 10 ^ cs.length ≤ (0 * 10 + (c - 48)) * 10 ^ cs.length := Nat.mul_le_mul (by omega) (Nat.le_refl _)
    simpa using q
theorem tod_lead (n : Nat) : Lead ((Nat.toDigits 10 n).map Char.toNat) ∧ NumText.AllDigits ((Nat.toDigits 10 n).map Char.toNat) := by
  induction n using Nat.strongRecOn with
  | _ n ih =>
    have small : ∀ k : _root_.Fin 10, Lead ((Nat.toDigits 10 k.1).map Char.toNat) ∧ NumText.AllDigits ((Nat.toDigits 10 k.1).map Char.toNat) := by
      unfold Lead NumText.AllDigits
      decide +kernel
    by_cases h : n < 10
    · exact small ⟨n, h⟩
    · have t : Nat.toDigits 10 (n / 10) ++ Nat.toDigits 10 (n % 10) = Nat.toDigits 10 (10 * (n / 10) + n % 10) := Nat.toDigits_append_toDigits (by decide) (by omega) (Nat.mod_lt n (by decide))
      rw [Nat.div_add_mod] at t
      rw [← t, List.map_append]
      obtain ⟨i1, i2⟩ := ih (n / 10) (by omega)
      obtain ⟨j1, j2⟩ := small ⟨n % 10, Nat.mod_lt n (by decide)⟩
      have hd : ((Nat.toDigits 10 (n / 10)).map Char.toNat).head? ≠ some 48 := by
        rcases i1.2 with k | k
        · exfalso
          have hv := PySem.W.KIN.val_back (n / 10)
          rw [k] at hv
          have : NumText.digitsVal [48] = 0 := rfl
          omega
        · exact k
      refine ⟨⟨by simp [i1.1], .inr ?_⟩, fun c hc => (List.mem_append.mp hc).elim (i2 c) (j2 c)⟩
      have i3 := i1.1
      revert hd i3
      cases (Nat.toDigits 10 (n / 10)).map Char.toNat with
      | nil => intro _ z; exact absurd rfl z
      | cons a l => intro z _; exact z
theorem okN_of {x : Str} (d : NumText.AllDigits x.cps.toList) (L : Lead x.cps.toList) (hl : x.length ≤ 9) : okN x = true := by
  have dd : ∀ k : _root_.Fin 58, 48 ≤ k.1 → Unicode.isDecimal k.1 = true := by decide +kernel
  have hsz : x.cps.toList.length = x.length := Array.length_toList
  have h1 : PySem.Txt.isascii x = true := by
    unfold PySem.Txt.isascii
    rw [← Array.all_toList, List.all_eq_true]
    intro c hc
    have := d c hc
    exact decide_eq_true (by omega)
  have h2 : PySem.Txt.isdecimal x = true := by
    unfold PySem.Txt.isdecimal
    rw [Bool.and_eq_true, decide_eq_true_eq, ← Array.all_toList, List.all_eq_true]
    refine ⟨?_, fun c hc => ?_⟩
    · have := List.length_pos_iff.mpr L.1
      omega
    · have := d c hc
      exact dd ⟨c, by omega⟩ this.1
  unfold okN
  rw [h1, h2, decide_eq_true hl]
  rcases L.2 with k | k
  · rw [decide_eq_true (show x = "0" from str_list (k.trans (by decide)))]
    rfl
  · rw [decide_eq_true k, Bool.or_true]
    rfl
theorem okN_lead {x : Str} (h : okN x = true) : NumText.AllDigits x.cps.toList ∧ Lead x.cps.toList ∧ x.length ≤ 9 := by
  obtain ⟨h1, h2, h3, h4⟩ := okN_parts h
  obtain ⟨d, ne⟩ := ascii_digits h1 h2
  refine ⟨d, ⟨ne, h4.imp (fun e => ?_) id⟩, h3⟩
  rw [e]
  decide
theorem okN_num {n : Nat} (h : n < 10 ^ 9) : okN (Str.ofString (toString (n : Int))) = true ∧ nv (Str.ofString (toString (n : Int))) = n := by
  have e := PySem.W.KIN.signs_num n
  obtain ⟨L, d⟩ := tod_lead n
  rw [← e] at L d
  have hv : nv (Str.ofString (toString (n : Int))) = n := by
    unfold nv
    rw [e]
    exact PySem.W.KIN.val_back n
  refine ⟨okN_of d L ?_, hv⟩
  have hsz : (Str.ofString (toString (n : Int))).cps.toList.length = (Str.ofString (toString (n : Int))).length := Array.length_toList
  rcases L.2 with k | k
  · have : (Str.ofString (toString (n : Int))).length = 1 := by rw [← hsz, k]; rfl
    omega
  · have p := lead_pos d L.1 k
    have hv' : NumText.digitsVal (Str.ofString (toString (n : Int))).cps.toList = n := hv
    rw [hv'] at p
    have : 10 ^ ((Str.ofString (toString (n : Int))).cps.toList.length - 1) < 10 ^ 9 := Nat.lt_of_le_of_lt p h
    have := (Nat.pow_lt_pow_iff_right (by decide : 1 < 10)).mp this
    omega
theorem join_fold (k : Nat) : ∀ (ts : List Str) (a : Nat), (∀ t ∈ ts, t.length ≤ 1000) → ts.foldl (fun n t => n + t.length + k) a ≤ a + ts.length * (1000 + k)
  | [], a, _ => by simp
  | t :: ts, a, h => by
    have h1 := h t List.mem_cons_self
    have ih := join_fold k ts (a + t.length + k) fun x hx => h x (List.mem_cons_of_mem _ hx)
    rw [List.foldl_cons, List.length_cons, Nat.succ_mul]
    omega
theorem joinOk_small {x : Str} {ts : List Str} (hx : x.length ≤ 1000) (hl : ts.length ≤ 1000) (h : ∀ t ∈ ts, t.length ≤ 1000) : JoinOk x ts = true := by
  have b := join_fold x.length ts 0 h
  have c : ts.length * (1000 + x.length) ≤ 1000 * 2000 := Nat.mul_le_mul hl (by omega)
  unfold JoinOk Builtin.Str.tooLong
  rw [List.foldl_toArray']
  have sz : 2000000 ≤ sizeLine := by rw [sizeLine_eq]; decide
  simp
  omega
  all_goals simp
theorem join_len {m : Str} {us : List Str} {k : Nat} (hm : m.length = 1) (b : ∀ x ∈ us, x.length ≤ k) : (PySem.Txt.join m us).length ≤ (k + 1) * us.length := by
  have e : (PySem.Txt.join m us).length = (us.map (·.length)).sum + (us.length - 1) * m.length := PySem.size_glued m us
  have s : ∀ l : List Str, (∀ x ∈ l, x.length ≤ k) → (l.map (·.length)).sum ≤ k * l.length := by
    intro l
    induction l with
    | nil => intro _; simp
    | cons x l ih =>
      intro h
      have h1 := h x List.mem_cons_self
      have h2 := ih fun y hy => h y (List.mem_cons_of_mem _ hy)
      rw [List.map_cons, List.sum_cons, List.length_cons, Nat.mul_succ]
      omega
  have h := s us b
  rw [hm] at e
  rw [Nat.succ_mul]
  omega
noncomputable def sN (n : Nat) : Str := Str.ofString (toString (n : Int))
noncomputable def iN (n : Nat) : V := V.int (n : Nat)
noncomputable def rowT (ns : List Nat) : Str := PySem.Txt.join (Str.ofString " ") (ns.map sN)
theorem sN_len {n : Nat} (h : n < 10 ^ 9) : (sN n).length ≤ 9 := (okN_parts (okN_num h).1).2.2.1
theorem rowT_len {ns : List Nat} (h : ∀ n ∈ ns, n < 10 ^ 9) (l : ns.length ≤ 32) : (rowT ns).length ≤ 320 := by
  have := join_len (m := Str.ofString " ") (us := ns.map sN) (k := 9) (by decide) (fun x hx => by
    obtain ⟨n, hn, rfl⟩ := List.mem_map.mp hx
    exact sN_len (h n hn))
  rw [List.length_map] at this
  exact Nat.le_trans this (by omega)
noncomputable def sp_row : Sp := fun vs H Q _ => ∃ (a : Addr) (ns : List Nat), vs = [.ref a] ∧ H a = some (.tup (ns.map iN)) ∧ ns.length ≤ 32 ∧ (∀ n ∈ ns, n < 10 ^ 9) ∧ ∀ H', Same H H' → Q (.str (rowT ns)) H'
noncomputable def RWI (c a : Addr) (ns : List Nat) (G : Hp) (i : Nat) (σ : St) (H : Hp) : Prop := ∃ v : Option V, σ = [v] ∧ SameX c G H ∧ H c = some (.lst (((ns.take i).map sN).map V.str))
theorem sc_in_row : FnScope ["parts"] ["parts"] (defScope s_in_row) := ⟨rfl, rfl, rfl, by decide +kernel, rfl, by decide +kernel, by decide +kernel⟩
theorem ok_row (F : Fun K "in_row" "in_row" s_in_row f fd) (hm : mg "in_row" = some (.ref f)) (hb : Binds K fd ["parts"] []) (T : Txt mg) : Cal P w K mg base "in_row" ["parts"] 1 sp_row := by
  refine cal_of F hm hb sc_in_row (fun vs H Q E h => ?_) (fun cdv A outer s H vs Q E hr h => ?_)
  · obtain ⟨_, _, rfl, _⟩ := h; rfl
  · obtain ⟨a, ns, rfl, ha, hl, hb, q⟩ := h
    have sc := sc_in_row
    refine ⟨_, pss_one (ps_ret (pe_join pe_str (pa_cns (pe_lc (N := ["part"]) (fr := [none]) rfl (pi_t0 (pv 0)) (CScope.of rfl rfl rfl) rfl (fun _ _ _ => ⟨pg_name (i := 0) (show List.Nodup (α := Str) ["part"] by decide +kernel) rfl (Or.inl rfl), pif_nil, pe_callTy strV0 rfl T.str_ bt_str (pa_cns (pv 0) pa_nil)⟩)) pa_nil))), ?_⟩
    rw [show L2.start ["parts"] [.ref a] = [some (.ref a)] from rfl]
    (wrow_has a_tJoin ha)
    intro c nc
    have nac : a ≠ c := ne_of_none ha nc
    refine cl_seq (RWI c a ns H) ⟨none, rfl, SameX.upd, upd_same⟩ (fun j σ H' _ ⟨_, _, s, _⟩ => s _ _ nac ha) ?_ ?_
    · rintro i x σ H1 hx ⟨v, rfl, s1, e1⟩
      rw [List.getElem?_map] at hx
      obtain ⟨n, hn, rfl⟩ := Option.map_eq_some_iff.mp hx
      have hi : i < ns.length := (List.getElem?_eq_some_iff.mp hn).1
      have nb := hb n (List.mem_of_getElem? hn)
      (w_cond e1)
      refine ⟨decide_eq_true (Nat.lt_of_lt_of_le nb (by decide)), small1000 (by rw [List.length_take]; omega), ⟨_, rfl, s1.trans SameX.upd, ?_⟩⟩
      rw [upd_same, List.take_add_one, hn]
      simp
      rfl
    · rintro σ H1 ⟨v, rfl, s1, e1⟩
      rw [List.length_map, List.take_length] at e1
      refine ⟨_, e1, joinOk_small (by decide) (by rw [List.length_map]; omega) (fun t ht => ?_), ?_⟩
      · obtain ⟨n, hn, rfl⟩ := List.mem_map.mp ht
        have := sN_len (hb n hn)
        omega
      exact q H1 (s1.same nc)
structure TownAt (H : Hp) (a : Addr) (ss : List Nat) (wss : List (List Nat)) : Prop where
  at_ : ∃ (sd wt : Addr) (as : List Addr), H a = some (.tup [.ref sd, .ref wt]) ∧ H sd = some (.tup (ss.map iN)) ∧ H wt = some (.tup (as.map V.ref)) ∧ as.length = wss.length ∧ ∀ (i : Nat) (b : Addr) (ns : List Nat), as[i]? = some b → wss[i]? = some ns → H b = some (.tup (ns.map iN))
structure TownOk (ss : List Nat) (wss : List (List Nat)) : Prop where
  s1 : 1 ≤ ss.length
  s5 : ss.length ≤ 5
  sb : ∀ n ∈ ss, n ≤ 1
  w1 : 1 ≤ wss.length
  w5 : wss.length ≤ 5
  wl : ∀ ns ∈ wss, 1 ≤ ns.length ∧ ns.length ≤ 32
  wb : ∀ ns ∈ wss, ∀ n ∈ ns, n ≤ 1000
noncomputable def sidesT (ss : List Nat) : Str := Str.ofString "sides " ++ rowT ss
noncomputable def wantT (ns : List Nat) : Str := Str.ofString "want " ++ rowT ns
noncomputable def townT (ss : List Nat) (wss : List (List Nat)) : Str := PySem.Txt.join (Str.ofString "\n") (sidesT ss :: wss.map wantT)
theorem TownAt.same {H H' : Hp} {a : Addr} {ss : List Nat} {wss : List (List Nat)} (t : TownAt H a ss wss) (s : Same H H') : TownAt H' a ss wss := by
  obtain ⟨sd, wt, as, h1, h2, h3, h4, h5⟩ := t.at_
  exact ⟨⟨sd, wt, as, s _ _ h1, s _ _ h2, s _ _ h3, h4, fun i b ns hb hn => s _ _ (h5 i b ns hb hn)⟩⟩
theorem TownOk.s9 {ss : List Nat} {wss : List (List Nat)} (t : TownOk ss wss) : ∀ n ∈ ss, n < 10 ^ 9 := fun n hn => Nat.lt_of_le_of_lt (t.sb n hn) (by decide)
theorem TownOk.w9 {ss : List Nat} {wss : List (List Nat)} (t : TownOk ss wss) : ∀ ns ∈ wss, ∀ n ∈ ns, n < 10 ^ 9 := fun ns hns n hn => Nat.lt_of_le_of_lt (t.wb ns hns n hn) (by decide)
theorem sidesT_len {ss : List Nat} (h : ∀ n ∈ ss, n < 10 ^ 9) (l : ss.length ≤ 32) : (sidesT ss).length ≤ 330 := by
  have h1 := rowT_len h l
  have h2 : (sidesT ss).length = (Str.ofString "sides ").length + (rowT ss).length := Str.length_append _ _
  have h3 : (Str.ofString "sides ").length = 6 := by decide
  omega
theorem wantT_len {ss : List Nat} (h : ∀ n ∈ ss, n < 10 ^ 9) (l : ss.length ≤ 32) : (wantT ss).length ≤ 330 := by
  have h1 := rowT_len h l
  have h2 : (wantT ss).length = (Str.ofString "want ").length + (rowT ss).length := Str.length_append _ _
  have h3 : (Str.ofString "want ").length = 5 := by decide
  omega
theorem lines_len {ss : List Nat} {wss : List (List Nat)} (t : TownOk ss wss) : ∀ x ∈ sidesT ss :: wss.map wantT, x.length ≤ 330 := fun x hx => by
  rcases List.mem_cons.mp hx with rfl | hx
  · exact sidesT_len t.s9 (by have := t.s5; omega)
  · obtain ⟨ns, hns, rfl⟩ := List.mem_map.mp hx
    exact wantT_len (t.w9 ns hns) (t.wl ns hns).2
theorem empty_app (x : Str) : Str.empty ++ x = x := by
  refine str_list ?_
  rw [Str.cps_append, Array.toList_append]
  rfl
end
end K78
end
section
set_option Elab.async false
set_option linter.all false
set_option maxRecDepth 100000
set_option maxHeartbeats 4000000
namespace K78
open PySem L2
section
variable {P : Program} {w : World} {K : PySem.W.Frag} {mg : Str → Option Value} {base : Heap} {f : Addr} {fd : FuncData}
noncomputable def sp_stown : Sp := fun vs H Q _ => ∃ (a : Addr) (ss : List Nat) (wss : List (List Nat)), vs = [.ref a] ∧ TownAt H a ss wss ∧ TownOk ss wss ∧ ∀ H', Same H H' → Q (.str (townT ss wss)) H'
noncomputable def SWI (c : Addr) (wss : List (List Nat)) (G : Hp) (i : Nat) (σ : St) (H : Hp) : Prop := ∃ v : Option V, σ = [v] ∧ SameX c G H ∧ H c = some (.lst (((wss.take i).map wantT).map V.str))
theorem sc_show_town : FnScope ["town", "sides", "wants"] ["town"] (defScope s_show_town) := ⟨rfl, rfl, rfl, by decide +kernel, rfl, by decide +kernel, by decide +kernel⟩
theorem ok_stown (F : Fun K "show_town" "show_town" s_show_town f fd) (hm : mg "show_town" = some (.ref f)) (hb : Binds K fd ["town"] []) (T : Txt mg) (c_in_row : Cal P w K mg base "in_row" ["parts"] 1 sp_row) : Cal P w K mg base "show_town" ["town"] 2 sp_stown := by
  refine cal_of F hm hb sc_show_town (fun vs H Q E h => ?_) (fun cdv A outer s H vs Q E hr h => ?_)
  · obtain ⟨_, _, _, rfl, _⟩ := h; rfl
  · obtain ⟨a, ss, wss, rfl, ta, tk, q⟩ := h
    have sc := sc_show_town
    obtain ⟨sd, wt, as, h1, h2, h3, h4, h5⟩ := ta.at_
    refine ⟨_, pss_consL (ps_asg (pv 0) (pg_tup0 (n := 2) rfl (pgs_cons (pg_name (i := 1) sc.nd rfl (Or.inl rfl)) (pgs_cons (pg_name (i := 2) sc.nd rfl (Or.inl rfl)) pgs_nil))))
      (pss_one (ps_ret (pe_join pe_str (pa_cns (pe_op catL0 (pe_lstA (pa_cns (pe_fj (jp_cons pe_str (jp_cons (pe_fmt (pe_cal c_in_row hr (pa_cns (pv 1) pa_nil))) jp_nil))) pa_nil)) (pe_lc (N := ["want"]) (fr := [none]) rfl (pi_t0 (pv 2)) (CScope.of rfl rfl rfl) rfl (fun _ _ _ => ⟨pg_name (i := 0) (show List.Nodup (α := Str) ["want"] by decide +kernel) rfl (Or.inl rfl), pif_nil, pe_fj (jp_cons pe_str (jp_cons (pe_fmt (pe_cal c_in_row hr (pa_cns (pv 0) pa_nil))) jp_nil))⟩))) pa_nil)))), ?_⟩
    rw [show L2.start ["town", "sides", "wants"] [.ref a] = [some (.ref a), none, none] from rfl]
    (w_cond h1)
    (simp only [a_later])
    (try simp only [V.str.injEq, HO.dK.injEq, a_gLst0, a_tSeqL, a_tChain, a_tDict, a_tLstA, a_tLC2, a_tLC3, a_tInner, a_tIns, a_rCatA, a_rCatL, a_tSeq, a_tFor, a_rIxL, a_iZip, a_tSortR, a_tSl, a_rSlL0, a_tNoPart, a_tPart, a_tApp, a_tRet, a_tRetN, a_tNext, a_tDrop, a_tAsg, a_gSub, a_gName, a_gNil, a_gCons, a_gTup0, a_rSetL, a_tIfS, a_tAnd, a_tOr, a_tNot, a_tTest, a_tB, a_tTrue, a_tIf, a_tAndV, a_tOrV, a_tNotV, a_tOp, a_tUn, a_rU, a_tVar, a_tC, a_rI0, a_rI, a_rEq, a_rNe, a_rIx0, a_rIn0, a_tCB, a_tCal, a_tCons, a_tNil, a_tTupA, a_tLst, a_tPar, a_tBits, a_tLC, a_iRng1, a_iRng2, a_iT0, a_iL0, a_tEmit, frS, scal, V.ty.injEq, tyN, subN, String.reduceEq, String.reduceBEq, Bool.true_or, Bool.false_or, Bool.or_false, Bool.true_and, Bool.false_and, Bool.and_false, or_true, true_or, beq_self_eq_true, decide_true, decide_false, List.map_cons, List.map_nil, List.length_cons, List.length_nil, List.getElem?_cons_zero, List.getElem?_cons_succ, List.getElem?_nil, List.set_cons_zero, List.set_cons_succ, Option.some.injEq, Option.bind_some, Option.bind_none, id, exists_eq_left', exists_eq_left, exists_and_left, exists_eq_right, V.int.injEq, V.bl.injEq, V.ref.injEq, List.cons.injEq, and_true, true_and, and_assoc, exists_const, atI0, atI1, atI2, ixN30, ixN31, ixN32, upd_same, upd_upd, sq_updL, sq_updT, Nat.zero_add, Nat.reduceAdd, reduceCtorEq, false_and, and_false, exists_false, false_or, or_false, List.length_map, HO.lst.injEq, HO.tup.injEq, Bool.false_eq_true, if_false, if_true, decide_eq_true_eq, ite_true, ite_false, reduceIte, Int.reduceLT, Int.reduceLE, Nat.reduceLT, Int.zero_add, Bool.not_true, Bool.not_false, a_tJoin, a_tFmt, a_tJ0, a_tJC])
    have ls := sidesT_len tk.s9 (by have := tk.s5; omega)
    have lr := rowT_len tk.s9 (by have := tk.s5; omega)
    have l6 : (Str.ofString "sides ").length = 6 := by decide
    have l5 : (Str.ofString "want ").length = 5 := by decide
    have lines := lines_len tk
    rw [empty_app]
    refine ⟨by show 0 + _ < _; omega, sd, ss, rfl, h2, by have := tk.s5; omega, tk.s9, fun H1 s1 => ⟨_, .inr ⟨rfl, by omega⟩, by omega, ?_, by decide, fun p H2 np s2 e2 => ?_⟩⟩
    · show (sidesT ss).length < 1000000
      omega
    have S2 := s1.trans s2
    have h32 := S2 _ _ h3
    refine ⟨_, h32, fun c nc => ?_⟩
    have nwc : wt ≠ c := ne_of_none h32 nc
    have npc : p ≠ c := ne_of_none e2 nc
    refine cl_seq (SWI c wss H2) ⟨none, rfl, SameX.upd, upd_same⟩ (fun j σ H' _ ⟨_, _, s, _⟩ => s _ _ nwc h32) ?_ ?_
    · rintro i x σ H3 hx ⟨v, rfl, s3, e3⟩
      rw [List.getElem?_map] at hx
      obtain ⟨b, hbx, rfl⟩ := Option.map_eq_some_iff.mp hx
      have hi : i < as.length := (List.getElem?_eq_some_iff.mp hbx).1
      obtain ⟨ns, hns⟩ : ∃ ns, wss[i]? = some ns := ⟨wss[i]'(by omega), List.getElem?_eq_getElem _⟩
      have nm := List.mem_of_getElem? hns
      have hb3 := s3 _ _ (ne_of_none (S2 _ _ (h5 i b ns hbx hns)) nc) (S2 _ _ (h5 i b ns hbx hns))
      have lw := wantT_len (tk.w9 ns nm) (tk.wl ns nm).2
      have lrw := rowT_len (tk.w9 ns nm) (tk.wl ns nm).2
      (wrow_read a_tFmt a_tJ0 a_tJC)
      rw [empty_app]
      refine ⟨by show 0 + _ < _; omega, b, ns, rfl, hb3, (tk.wl ns nm).2, tk.w9 ns nm, fun H4 s4 => ⟨_, .inr ⟨rfl, by omega⟩, by omega, ?_, _, s4 _ _ e3, small1000 (by have := tk.w5; rw [List.length_map, List.length_map, List.length_take]; omega), ⟨_, rfl, fun b o hb hh => ?_, ?_⟩⟩⟩
      · show (wantT ns).length < 1000000
        omega
      · rw [upd_ne hb]
        exact s4 _ _ (s3 _ _ hb hh)
      · rw [upd_same, List.take_add_one, hns]
        simp
        rfl
    · rintro σ H3 ⟨v, rfl, s3, e3⟩
      rw [List.length_map, h4, List.take_length] at e3
      have S3 := S2.trans (s3.same nc)
      refine ⟨_, s3 _ _ npc e2, _, e3, Nat.le_of_lt (small1000 (by have := tk.w5; simp; omega)), fun t H4 nt s4 e4 => ?_⟩
      refine ⟨sidesT ss :: wss.map wantT, by rw [e4]; rfl, joinOk_small (by decide) (by have := tk.w5; simp; omega) (fun t ht => by have := lines t ht; omega), ?_⟩
      exact q H4 (S3.trans s4)
end
end K78
end
section
set_option Elab.async false
set_option linter.all false
set_option maxRecDepth 100000
set_option maxHeartbeats 4000000
namespace K78
open PySem L2
section
variable {P : Program} {w : World} {K : PySem.W.Frag} {mg : Str → Option Value} {base : Heap} {f : Addr} {fd : FuncData}
noncomputable def sp_need : Sp := fun vs H Q _ => ∃ y : Str, vs = [.bl true, .str y] ∧ Q .non H
theorem sc_need : FnScope ["holds", "why"] ["holds", "why"] (defScope s_need) := ⟨rfl, rfl, rfl, by decide +kernel, rfl, by decide +kernel, by decide +kernel⟩
theorem ok_need (F : Fun K "need" "need" s_need f fd) (hm : mg "need" = some (.ref f)) (hb : Binds K fd ["holds", "why"] []) (T : Txt mg) : Cal P w K mg base "need" ["holds", "why"] 1 sp_need := by
  refine cal_of F hm hb sc_need (fun vs H Q E h => ?_) (fun cdv A outer s H vs Q E hr h => ?_)
  · obtain ⟨_, rfl, _⟩ := h; rfl
  · obtain ⟨y, rfl, q⟩ := h
    have sc := sc_need
    refine ⟨_, pss_one (ps_if (pt_not (pt_val (pv 0))) (pss_one ps_never) pss_nil), ?_⟩
    rw [show L2.start ["holds", "why"] [.bl true, .str y] = [some (.bl true), some (.str y)] from rfl]
    (walk_at "rd")
    exact q
noncomputable def sp_parted : Sp := fun vs H Q _ => ∃ (x m : Str), vs = [.str x, .str m] ∧ (m.length == 0) = false ∧ x.length < 100000 ∧ (PySem.Txt.split x m).length < 1000 ∧ ∀ l H', Same H H' → H' l = some (.lst ((PySem.Txt.split x m).map V.str)) → Q (.ref l) H'
theorem sc_parted : FnScope ["thing", "mark"] ["thing", "mark"] (defScope s_parted) := ⟨rfl, rfl, rfl, by decide +kernel, rfl, by decide +kernel, by decide +kernel⟩
theorem ok_parted (F : Fun K "parted" "parted" s_parted f fd) (hm : mg "parted" = some (.ref f)) (hb : Binds K fd ["thing", "mark"] []) (T : Txt mg) (c_need : Cal P w K mg base "need" ["holds", "why"] 1 sp_need) : Cal P w K mg base "parted" ["thing", "mark"] 2 sp_parted := by
  refine cal_of F hm hb sc_parted (fun vs H Q E h => ?_) (fun cdv A outer s H vs Q E hr h => ?_)
  · obtain ⟨_, _, rfl, _⟩ := h; rfl
  · obtain ⟨x, m, rfl, hm0, hx1, hx2, q⟩ := h
    have sc := sc_parted
    refine ⟨_, pss_consL (ps_expr (pe_cal c_need hr (pa_cns (pe_callB isi0 rfl T.isinstance_ bt_isinstance (pa_cns (pv 0) (pa_cns (pe_bltn (v := .ty "str") rfl T.str_ bt_str rfl) pa_nil))) (pa_cns pe_str pa_nil))))
      (pss_one (ps_ret (pe_split (pv 0) (pa_cns (pv 1) pa_nil)))), ?_⟩
    rw [show L2.start ["thing", "mark"] [.str x, .str m] = [some (.str x), some (.str m)] from rfl]
    (walk_at "rd")
    refine ⟨_, rfl, ?_⟩
    (simp only [a_later])
    (w_cond a_tSplit)
    exact ⟨hm0, hx1, by omega, fun l H' _ s e => q l H' s e⟩
noncomputable def sp_number : Sp := fun vs H Q _ => ∃ x : Str, vs = [.str x] ∧ okN x = true ∧ Q (.int (nv x : Nat)) H
theorem sc_read_number : FnScope ["word"] ["word"] (defScope s_read_number) := ⟨rfl, rfl, rfl, by decide +kernel, rfl, by decide +kernel, by decide +kernel⟩
theorem ok_number (F : Fun K "read_number" "read_number" s_read_number f fd) (hm : mg "read_number" = some (.ref f)) (hb : Binds K fd ["word"] []) (T : Txt mg) (c_need : Cal P w K mg base "need" ["holds", "why"] 1 sp_need) : Cal P w K mg base "read_number" ["word"] 2 sp_number := by
  refine cal_of F hm hb sc_read_number (fun vs H Q E h => ?_) (fun cdv A outer s H vs Q E hr h => ?_)
  · obtain ⟨_, rfl, _⟩ := h; rfl
  · obtain ⟨x, rfl, ok, q⟩ := h
    have sc := sc_read_number
    refine ⟨_, pss_consL (ps_expr (pe_cal c_need hr (pa_cns (pe_and (pe_isascii (pv 0)) (pe_and (pe_isdecimal (pv 0)) (pe_one (pe_cmpR op_le (pe_callB call_len_str rfl T.len_ bt_len (pa_cns (pv 0) pa_nil)) (pe_glob (v := .int 9) rfl T.MOST_FIGURES_c.choose_spec ⟨_, rfl⟩) (nomark _))))) (pa_cns pe_str pa_nil))))
      (pss_consL (ps_expr (pe_cal c_need hr (pa_cns (pe_or (pe_cmpR op_eq (pv 0) pe_str (nomark _)) (pe_one (pe_cmpR op_ne (pe_ix ix_str (pv 0) pe_int (fun _ _ => rfl)) pe_str (nomark _)))) (pa_cns pe_str pa_nil))))
      (pss_one (ps_ret (pe_callTy intT0 rfl T.int_ bt_int (pa_cns (pv 0) pa_nil))))), ?_⟩
    rw [show L2.start ["word"] [.str x] = [some (.str x)] from rfl]
    obtain ⟨h1, h2, h3, h4⟩ := okN_parts ok
    obtain ⟨dg, ne⟩ := ascii_digits h1 h2
    (wrow_read a_tSM h1 h2)
    refine ⟨by rw [sizeLine_eq]; omega, _, by rw [decide_eq_true (show (x.length : Int) ≤ 9 by omega)], ?_⟩
    obtain ⟨c, cs, hcs⟩ : ∃ c cs, x.cps.toList = c :: cs := by
      cases hq : x.cps.toList with
      | nil => exact absurd hq ne
      | cons c cs => exact ⟨c, cs, rfl⟩
    (simp only [a_later])
    (walk_at "rd")
    by_cases h0 : x = Str.ofString "0"
    · rw [if_pos h0]
      refine ⟨_, rfl, ?_⟩
      (simp only [a_later])
      (walk_at "rd")
      exact ⟨_, okN_reads ok, by omega, q⟩
    · rw [if_neg h0]
      have hc : c ≠ 48 := fun z => by
        rcases h4 with k | k
        · exact h0 k
        · rw [hcs, z] at k
          exact k rfl
      have e3 : (!decide (V.str ⟨#[c]⟩ = V.str (Str.ofString "0"))) = true := by
        rw [decide_eq_false]
        · rfl
        · intro z
          have z1 := congrArg (fun s : Str => s.cps.toList) (V.str.inj z)
          have z2 : [c] = [48] := z1.trans (by decide)
          exact hc (by injection z2)
      refine ⟨x, 0, c, rfl, rfl, by rw [sizeLine_eq]; omega, by rw [hcs]; exact atI0 _ _, rfl, ?_⟩
      rw [e3]
      refine ⟨_, rfl, ?_⟩
      (simp only [a_later])
      (walk_at "rd")
      exact ⟨_, okN_reads ok, by omega, q⟩
noncomputable def sp_rnums : Sp := fun vs H Q _ => ∃ (a : Addr) (ns : List Nat), vs = [.ref a] ∧ H a = some (.lst ((ns.map sN).map V.str)) ∧ ns.length < 1000 ∧ (∀ n ∈ ns, n < 10 ^ 9) ∧
  ∀ t H', Same H H' → H' t = some (.tup (ns.map iN)) → Q (.ref t) H'
noncomputable def RNI (c : Addr) (ns : List Nat) (G : Hp) (i : Nat) (σ : St) (H : Hp) : Prop := ∃ v : Option V, σ = [v] ∧ SameX c G H ∧ H c = some (.lst ((ns.take i).map iN))
theorem sc_read_numbers : FnScope ["words"] ["words"] (defScope s_read_numbers) := ⟨rfl, rfl, rfl, by decide +kernel, rfl, by decide +kernel, by decide +kernel⟩
theorem ok_rnums (F : Fun K "read_numbers" "read_numbers" s_read_numbers f fd) (hm : mg "read_numbers" = some (.ref f)) (hb : Binds K fd ["words"] []) (T : Txt mg) (c_read_number : Cal P w K mg base "read_number" ["word"] 2 sp_number) : Cal P w K mg base "read_numbers" ["words"] 3 sp_rnums := by
  refine cal_of F hm hb sc_read_numbers (fun vs H Q E h => ?_) (fun cdv A outer s H vs Q E hr h => ?_)
  · obtain ⟨_, _, rfl, _⟩ := h; rfl
  · obtain ⟨a, ns, rfl, ha, hl, nb, q⟩ := h
    have sc := sc_read_numbers
    refine ⟨_, pss_one (ps_ret (pe_callTy tupA0 rfl T.tuple_ bt_tuple (pa_cns (pe_lc (N := ["word"]) (fr := [none]) rfl (pi_l0 (pv 0)) (CScope.of rfl rfl rfl) rfl (fun _ _ _ => ⟨pg_name (i := 0) (show List.Nodup (α := Str) ["word"] by decide +kernel) rfl (Or.inl rfl), pif_nil, pe_cal c_read_number hr (pa_cns (pv 0) pa_nil)⟩)) pa_nil))), ?_⟩
    rw [show L2.start ["words"] [.ref a] = [some (.ref a)] from rfl]
    (w_cond ha)
    intro c nc
    have nac : a ≠ c := ne_of_none ha nc
    refine cl_seq (RNI c ns H) ⟨none, rfl, SameX.upd, upd_same⟩ (fun j σ H' _ ⟨_, _, s, _⟩ => s _ _ nac ha) ?_ ?_
    · rintro i y σ H1 hy ⟨v, rfl, s1, e1⟩
      rw [List.getElem?_map, List.getElem?_map] at hy
      obtain ⟨z, hz, rfl⟩ := Option.map_eq_some_iff.mp hy
      obtain ⟨n, hn, rfl⟩ := Option.map_eq_some_iff.mp hz
      have hi : i < ns.length := (List.getElem?_eq_some_iff.mp hn).1
      have on := okN_num (nb n (List.mem_of_getElem? hn))
      (walk_at "rd")
      refine ⟨sN n, rfl, on.1, _, e1, small1000 (by rw [List.length_map, List.length_take]; omega), ⟨_, rfl, s1.trans SameX.upd, ?_⟩⟩
      have e : V.int ((nv (sN n) : Nat) : Int) = iN n := by
        show V.int ((nv (Str.ofString (toString (n : Int))) : Nat) : Int) = V.int (n : Nat)
        rw [on.2]
      rw [upd_same, List.take_add_one, hn, e]
      simp
    · rintro σ H1 ⟨v, rfl, s1, e1⟩
      rw [List.length_map, List.length_map, List.take_length] at e1
      exact ⟨_, e1, fun t H2 nt s2 e2 => q t H2 ((s1.same nc).trans s2) e2⟩
theorem sN_free {n : Nat} (h : n < 10 ^ 9) {c : Nat} (hc : c = 32 ∨ c = 10) : c ∉ (sN n).cps.toList := fun z => by
  have := (okN_lead (okN_num h).1).1 c z
  omega
theorem tj (m : Str) (us : List Str) : PySem.Txt.join m us = Str.join m us := StrLaws.glued_eq_join _ _
theorem sp_is : Str.ofString " " = ⟨#[32]⟩ := by decide
theorem nl_is : Str.ofString "\n" = ⟨#[10]⟩ := by decide
theorem head_join {wd : Str} {ns : List Nat} (ne : ns ≠ []) : wd ++ Str.ofString " " ++ rowT ns = Str.join ⟨#[32]⟩ (wd :: ns.map sN) := by
  unfold rowT
  rw [tj, sp_is]
  cases ns with
  | nil => exact absurd rfl ne
  | cons n ns => rfl
theorem head_split {wd : Str} {ns : List Nat} (hw : 32 ∉ wd.cps.toList) (ne : ns ≠ []) (nb : ∀ n ∈ ns, n < 10 ^ 9) : PySem.Txt.split (wd ++ Str.ofString " " ++ rowT ns) (Str.ofString " ") = wd :: ns.map sN := by
  rw [head_join ne, sp_is]
  refine split_join (by simp) fun y hy => ?_
  rcases List.mem_cons.mp hy with rfl | hy
  · exact hw
  · obtain ⟨n, hn, rfl⟩ := List.mem_map.mp hy
    exact sN_free (nb n hn) (.inl rfl)
theorem sides_is : Str.ofString "sides " = Str.ofString "sides" ++ Str.ofString " " := by decide
theorem want_is : Str.ofString "want " = Str.ofString "want" ++ Str.ofString " " := by decide
noncomputable def sp_behind : Sp := fun vs H Q _ => ∃ (wd ln : Str) (ns : List Nat), vs = [.str wd, .str ln] ∧ wd.length ≤ 100 ∧ ln.length < 100000 ∧ PySem.Txt.split ln (Str.ofString " ") = wd :: ns.map sN ∧ ns.length < 900 ∧ ∀ l H', Same H H' → H' l = some (.lst ((ns.map sN).map V.str)) → Q (.ref l) H'
theorem sc_words_behind : FnScope ["word", "line", "first", "words"] ["word", "line"] (defScope s_words_behind) := ⟨rfl, rfl, rfl, by decide +kernel, rfl, by decide +kernel, by decide +kernel⟩
theorem ok_behind (F : Fun K "words_behind" "words_behind" s_words_behind f fd) (hm : mg "words_behind" = some (.ref f)) (hb : Binds K fd ["word", "line"] []) (T : Txt mg) (c_need : Cal P w K mg base "need" ["holds", "why"] 1 sp_need) : Cal P w K mg base "words_behind" ["word", "line"] 2 sp_behind := by
  refine cal_of F hm hb sc_words_behind (fun vs H Q E h => ?_) (fun cdv A outer s H vs Q E hr h => ?_)
  · obtain ⟨_, _, _, rfl, _⟩ := h; rfl
  · obtain ⟨wd, ln, ns, rfl, lw, ll, hs, nl, q⟩ := h
    have sc := sc_words_behind
    refine ⟨_, pss_consL (ps_asg (pe_split (pv 1) (pa_cns pe_str pa_nil)) (pg_star rfl (pgs_cons (pg_name (i := 2) sc.nd rfl (Or.inl rfl)) (pgs_cons (pg_name (i := 3) sc.nd rfl (Or.inl rfl)) pgs_nil))))
      (pss_consL (ps_expr (pe_cal c_need hr (pa_cns (pe_cmpR op_eq (pv 2) (pv 0) (nomark _)) (pa_cns (pe_fj (jp_cons pe_str (jp_cons (pe_fmt (pv 0)) jp_nil))) pa_nil))))
      (pss_one (ps_ret (pv 3)))), ?_⟩
    rw [show L2.start ["word", "line", "first", "words"] [.str wd, .str ln] = [some (.str wd), some (.str ln), none, none] from rfl]
    (wrow_has a_tSplit a_gStar)
    refine ⟨by decide, ll, by rw [hs]; simp; omega, fun l H1 nl1 s1 e1 => ?_⟩
    rw [hs] at e1
    refine ⟨_, _, e1, fun p H2 np s2 e2 => ?_⟩
    (walk_at "rd")
    (simp only [a_later])
    (wrow_read a_tFmt a_tJ0 a_tJC)
    have lt : (Str.ofString "the line does not begin with ").length = 29 := by decide
    rw [empty_app]
    refine ⟨by show 0 + _ < _; omega, wd, .inr ⟨rfl, by omega⟩, by omega, by rw [Str.length_append]; omega, _, rfl, ?_⟩
    (simp only [a_later])
    (walk_at "rd")
    exact q p H2 (s1.trans s2) e2
end
end K78
end
section
set_option Elab.async false
set_option linter.all false
set_option maxRecDepth 100000
set_option maxHeartbeats 4000000
namespace K78
open PySem L2
section
variable {P : Program} {w : World} {K : PySem.W.Frag} {mg : Str → Option Value} {base : Heap} {f : Addr} {fd : FuncData}
theorem iN_map (ns : List Nat) : ns.map iN = (ns.map fun n : Nat => (n : Int)).map V.int := by
  rw [List.map_map]
  rfl
theorem iN_from (ns : List Nat) : (ns.map iN).all (isFrom 0) = true := by
  refine List.all_eq_true.mpr fun x hx => ?_
  obtain ⟨n, hn, rfl⟩ := List.mem_map.mp hx
  show decide ((0 : Int) ≤ (n : Int)) = true
  exact decide_eq_true (by omega)
noncomputable def sp_sides : Sp := fun vs H Q _ => ∃ (a : Addr) (ns : List Nat), vs = [.ref a] ∧ H a = some (.tup (ns.map iN)) ∧ 1 ≤ ns.length ∧ ns.length ≤ 5 ∧ (∀ n ∈ ns, n ≤ 1) ∧ ∀ H', Same H H' → Q (.bl true) H'
theorem sc_is_sides : FnScope ["thing"] ["thing"] (defScope s_is_sides) := ⟨rfl, rfl, rfl, by decide +kernel, rfl, by decide +kernel, by decide +kernel⟩
theorem ok_sides (F : Fun K "is_sides" "is_sides" s_is_sides f fd) (hm : mg "is_sides" = some (.ref f)) (hb : Binds K fd ["thing"] []) (T : Txt mg) (c_are_wholes_from : Cal P w K mg base "are_wholes_from" ["thing", "many", "least"] 3 sp_from) : Cal P w K mg base "is_sides" ["thing"] 4 sp_sides := by
  refine cal_of F hm hb sc_is_sides (fun vs H Q E h => ?_) (fun cdv A outer s H vs Q E hr h => ?_)
  · obtain ⟨_, _, rfl, _⟩ := h; rfl
  · obtain ⟨a, ns, rfl, ha, n1, n5, nb, q⟩ := h
    have sc := sc_is_sides
    refine ⟨_, pss_consL (ps_if (PW.pt (pw_or (pt_not (pt_val (pe_callB isi0 rfl T.isinstance_ bt_isinstance (pa_cns (pv 0) (pa_cns (pe_bltn (v := .ty "tuple") rfl T.tuple_ bt_tuple rfl) pa_nil))))) (pw_or1 (pt_not (pt_chain op_le op_le pe_int (pe_callB len0 rfl T.len_ bt_len (pa_cns (pv 0) pa_nil)) (pe_glob (v := .int 5) rfl T.MOST_THINGS_c.choose_spec ⟨_, rfl⟩) rfl))))) (pss_one (ps_ret pe_bl)) pss_nil)
      (pss_one (ps_ret (pe_and (pe_cal c_are_wholes_from hr (pa_cns (pv 0) (pa_cns (pe_callB len0 rfl T.len_ bt_len (pa_cns (pv 0) pa_nil)) (pa_cns pe_int pa_nil)))) (pe_one (pe_cmpR op_le (pe_callB (max0 rfl) rfl T.max_ bt_max (pa_cns (pv 0) pa_nil)) pe_int (nomark _)))))), ?_⟩
    rw [show L2.start ["thing"] [.ref a] = [some (.ref a)] from rfl]
    have hsa := sq_tup ha
    (wrow_has ha hsa)
    have c1 : (1 : Int) ≤ (ns.length : Int) := by omega
    have c2 : (ns.length : Int) ≤ 5 := by omega
    simp only [c1, c2, decide_true, if_true, Bool.not_true, Bool.false_eq_true, if_false]
    (simp only [a_later])
    (w_cond hsa)
    refine .inr ⟨a, _, _, _, rfl, ha, by rw [iN_map]; exact Kn.ints _, by rw [List.length_map]; omega, fun H1 s1 => ?_⟩
    rw [iN_from, List.length_map, decide_eq_true rfl]
    have h1 := s1 _ _ ha
    rw [iN_map] at h1
    (walk_at "rd")
    refine ⟨_, sq_tup h1, by intro z; have := congrArg List.length z; simp at this; subst this; simp at n1, fun m hm hmax => ?_⟩
    obtain ⟨n, hn, rfl⟩ := List.mem_map.mp hm
    have := nb n hn
    rw [decide_eq_true (show (n : Int) ≤ 1 by omega)]
    exact q H1 s1
noncomputable def sp_rwant : Sp := fun vs H Q _ => ∃ (l : Addr) (ns : List Nat) (m : Nat), vs = [.ref l, .int (m : Int)] ∧ H l = some (.lst ((ns.map sN).map V.str)) ∧ m ≤ 5 ∧ 1 ≤ ns.length ∧ ns.length ≤ 32 ∧ (∀ n ∈ ns, n ≤ 1000) ∧ isWant (ns.map iN) m = true ∧ ∀ t H', Same H H' → H' t = some (.tup (ns.map iN)) → Q (.ref t) H'
theorem sc_read_want : FnScope ["words", "many", "want"] ["words", "many"] (defScope s_read_want) := ⟨rfl, rfl, rfl, by decide +kernel, rfl, by decide +kernel, by decide +kernel⟩
theorem ok_rwant (F : Fun K "read_want" "read_want" s_read_want f fd) (hm : mg "read_want" = some (.ref f)) (hb : Binds K fd ["words", "many"] []) (T : Txt mg) (c_need : Cal P w K mg base "need" ["holds", "why"] 1 sp_need) (c_read_numbers : Cal P w K mg base "read_numbers" ["words"] 3 sp_rnums) (c_is_want : Cal P w K mg base "is_want" ["thing", "many"] 4 sp_want) : Cal P w K mg base "read_want" ["words", "many"] 5 sp_rwant := by
  refine cal_of F hm hb sc_read_want (fun vs H Q E h => ?_) (fun cdv A outer s H vs Q E hr h => ?_)
  · obtain ⟨_, _, _, rfl, _⟩ := h; rfl
  · obtain ⟨l, ns, m, rfl, hl, m5, n1, n32, nb, iw, q⟩ := h
    have sc := sc_read_want
    refine ⟨_, pss_consL (ps_set (i := 2) sc.nd rfl (Or.inl rfl) (pe_cal c_read_numbers hr (pa_cns (pv 0) pa_nil)))
      (pss_consL (ps_expr (pe_cal c_need hr (pa_cns (pe_and (pe_cal c_is_want hr (pa_cns (pv 2) (pa_cns (pv 1) pa_nil))) (pe_one (pe_cmpR op_le (pe_callB (max0 rfl) rfl T.max_ bt_max (pa_cns (pv 2) pa_nil)) (pe_glob (v := .int 1000) rfl T.MOST_WORTH_c.choose_spec ⟨_, rfl⟩) (nomark _)))) (pa_cns pe_str pa_nil))))
      (pss_one (ps_ret (pv 2)))), ?_⟩
    rw [show L2.start ["words", "many", "want"] [.ref l, .int (m : Int)] = [some (.ref l), some (.int (m : Int)), none] from rfl]
    (walk_at "rd")
    refine ⟨l, ns, rfl, hl, by omega, fun n hn => Nat.lt_of_le_of_lt (nb n hn) (by decide), fun t H1 s1 e1 => ?_⟩
    (simp only [a_later])
    (walk_at "rd")
    refine .inr ⟨t, m, _, rfl, m5, e1, by rw [iN_map]; exact Kn.ints _, by rw [List.length_map]; omega, fun H2 s2 => ?_⟩
    rw [iw]
    have e2 := s2 _ _ e1
    rw [iN_map] at e2
    refine ⟨true, rfl, ?_⟩
    rw [if_pos rfl]
    refine ⟨_, sq_tup e2, by intro z; have := congrArg List.length z; simp at this; subst this; simp at n1, fun k hk hmax => ?_⟩
    obtain ⟨n, hn, rfl⟩ := List.mem_map.mp hk
    have := nb n hn
    rw [decide_eq_true (show (n : Int) ≤ 1000 by omega)]
    refine ⟨_, rfl, ?_⟩
    (simp only [a_later])
    (walk_at "rd")
    exact q t H2 (s1.trans s2) (s2 _ _ e1)
theorem sides_split {ss : List Nat} {wss : List (List Nat)} (t : TownOk ss wss) : PySem.Txt.split (sidesT ss) (Str.ofString " ") = Str.ofString "sides" :: ss.map sN := by
  unfold sidesT
  rw [sides_is]
  exact head_split (by decide) (by have := t.s1; intro z; rw [z] at this; exact absurd this (by decide)) t.s9
theorem want_split {ns : List Nat} (n1 : 1 ≤ ns.length) (nb : ∀ n ∈ ns, n < 10 ^ 9) : PySem.Txt.split (wantT ns) (Str.ofString " ") = Str.ofString "want" :: ns.map sN := by
  unfold wantT
  rw [want_is]
  exact head_split (by decide) (by intro z; rw [z] at n1; exact absurd n1 (by decide)) nb
theorem row_free {ns : List Nat} (nb : ∀ n ∈ ns, n < 10 ^ 9) : 10 ∉ (rowT ns).cps.toList := by
  unfold rowT
  rw [tj, sp_is]
  cases ns with
  | nil => decide
  | cons n ns =>
    rw [List.map_cons, join_list]
    intro z
    rcases List.mem_append.mp z with z | z
    · exact sN_free (nb n List.mem_cons_self) (.inr rfl) z
    · obtain ⟨l, hl, hz⟩ := List.mem_flatMap.mp z
      obtain ⟨u, hu, rfl⟩ := List.mem_map.mp hl
      obtain ⟨k, hk, rfl⟩ := List.mem_map.mp hu
      rcases List.mem_cons.mp hz with k' | k'
      · cases k'
      · exact sN_free (nb k (List.mem_cons_of_mem _ hk)) (.inr rfl) k'
theorem line_free {wd : Str} {ns : List Nat} (hw : 10 ∉ wd.cps.toList) (nb : ∀ n ∈ ns, n < 10 ^ 9) : 10 ∉ (wd ++ rowT ns).cps.toList := by
  rw [Str.cps_append, Array.toList_append]
  intro z
  rcases List.mem_append.mp z with z | z
  · exact hw z
  · exact row_free nb z
theorem town_split {ss : List Nat} {wss : List (List Nat)} (t : TownOk ss wss) : PySem.Txt.split (townT ss wss) (Str.ofString "\n") = sidesT ss :: wss.map wantT := by
  unfold townT
  rw [tj, nl_is]
  refine split_join (by simp) fun y hy => ?_
  rcases List.mem_cons.mp hy with rfl | hy
  · exact line_free (by decide) t.s9
  · obtain ⟨ns, hns, rfl⟩ := List.mem_map.mp hy
    exact line_free (by decide) (t.w9 ns hns)
theorem town_len {ss : List Nat} {wss : List (List Nat)} (t : TownOk ss wss) : (townT ss wss).length ≤ 2000 := by
  have h := join_len (m := Str.ofString "\n") (us := sidesT ss :: wss.map wantT) (k := 330) (by decide) (lines_len t)
  have w5 := t.w5
  rw [List.length_cons, List.length_map] at h
  exact Nat.le_trans h (by omega)
noncomputable def sp_rtown : Sp := fun vs H Q _ => ∃ (ss : List Nat) (wss : List (List Nat)), vs = [.str (townT ss wss)] ∧ TownOk ss wss ∧ (∀ ns ∈ wss, isWant (ns.map iN) ss.length = true) ∧ ∀ a H', Same H H' → TownAt H' a ss wss → Q (.ref a) H'
end
end K78
end
section
set_option Elab.async false
set_option linter.all false
set_option maxRecDepth 100000
set_option maxHeartbeats 4000000
namespace K78
open PySem L2
section
variable {P : Program} {w : World} {K : PySem.W.Frag} {mg : Str → Option Value} {base : Heap} {f : Addr} {fd : FuncData}
theorem cutV_drop (xs : List V) (t : Nat) (ht : t ≤ xs.length) : cutV xs (some (t : Int)) none = xs.drop t := by
  unfold cutV
  rw [HT.sIx_none, HT.sIx_nat, Nat.min_eq_left ht, List.take_of_length_le (by simp)]
noncomputable def RTI (c sd : Addr) (wss : List (List Nat)) (G : Hp) (i : Nat) (σ : St) (H : Hp) : Prop := ∃ (v : Option V) (as : List Addr), σ = [v, some (.ref sd)] ∧ SameX c G H ∧ as.length = i ∧ (∀ (j : Nat) (b : Addr) (ns : List Nat), as[j]? = some b → wss[j]? = some ns → H b = some (.tup (ns.map iN))) ∧ H c = some (.lst (as.map V.ref))
theorem sc_read_town : FnScope ["text", "lines", "sides"] ["text"] (defScope s_read_town) := ⟨rfl, rfl, rfl, by decide +kernel, rfl, by decide +kernel, by decide +kernel⟩
theorem ok_rtown (F : Fun K "read_town" "read_town" s_read_town f fd) (hm : mg "read_town" = some (.ref f)) (hb : Binds K fd ["text"] []) (T : Txt mg) (c_need : Cal P w K mg base "need" ["holds", "why"] 1 sp_need) (c_parted : Cal P w K mg base "parted" ["thing", "mark"] 2 sp_parted) (c_words_behind : Cal P w K mg base "words_behind" ["word", "line"] 2 sp_behind) (c_read_numbers : Cal P w K mg base "read_numbers" ["words"] 3 sp_rnums) (c_is_sides : Cal P w K mg base "is_sides" ["thing"] 4 sp_sides) (c_read_want : Cal P w K mg base "read_want" ["words", "many"] 5 sp_rwant) : Cal P w K mg base "read_town" ["text"] 6 sp_rtown := by
  refine cal_of F hm hb sc_read_town (fun vs H Q E h => ?_) (fun cdv A outer s H vs Q E hr h => ?_)
  · obtain ⟨_, _, rfl, _⟩ := h; rfl
  · obtain ⟨ss, wss, rfl, tk, iw, q⟩ := h
    have sc := sc_read_town
    refine ⟨_, pss_consL (ps_set (i := 1) sc.nd rfl (Or.inl rfl) (pe_cal c_parted hr (pa_cns (pv 0) (pa_cns pe_str pa_nil))))
      (pss_consL (ps_set (i := 2) sc.nd rfl (Or.inr rfl) (pe_cal c_read_numbers hr (pa_cns (pe_cal c_words_behind hr (pa_cns pe_str (pa_cns (pe_ix ix0 (pv 1) pe_int (fun _ _ => rfl)) pa_nil))) pa_nil)))
      (pss_consL (ps_expr (pe_cal c_need hr (pa_cns (pe_cal c_is_sides hr (pa_cns (pv 2) pa_nil)) (pa_cns pe_str pa_nil))))
      (pss_consL (ps_expr (pe_cal c_need hr (pa_cns (pe_chain op_le op_le pe_int (pe_callB len0 rfl T.len_ bt_len (pa_cns (pv 1) pa_nil)) (pe_op op_add pe_int (pe_glob (v := .int 5) rfl T.MOST_HANDS_c.choose_spec ⟨_, rfl⟩)) rfl) (pa_cns pe_str pa_nil))))
      (pss_one (ps_ret (pe_tupA (pa_cns (pv 2) (pa_cns (pe_callTy tupA0 rfl T.tuple_ bt_tuple (pa_cns (pe_lc (N := ["line", "sides"]) (fr := [none, some 2]) rfl (pi_l0 (pe_slice slL0 (pv 1) (po_some pe_int) po_none)) (CScope.of rfl rfl rfl) rfl (fun _ _ _ => ⟨pg_name (i := 0) (show List.Nodup (α := Str) ["line", "sides"] by decide +kernel) rfl (Or.inl rfl), pif_nil, pe_cal c_read_want hr (pa_cns (pe_cal c_words_behind hr (pa_cns pe_str (pa_cns (pv 0) pa_nil))) (pa_cns (pe_callB len0 rfl T.len_ bt_len (pa_cns (pv 1) pa_nil)) pa_nil))⟩)) pa_nil)) pa_nil)))))))), ?_⟩
    rw [show L2.start ["text", "lines", "sides"] [.str (townT ss wss)] = [some (.str (townT ss wss)), none, none] from rfl]
    have tl := town_len tk
    have ts := town_split tk
    (walk_at "rd")
    refine ⟨_, _, rfl, by decide, by omega, by rw [ts]; have := tk.w5; simp; omega, fun l H1 s1 e1 => ?_⟩
    rw [ts] at e1
    have hs1 := sq_lst e1
    (simp only [a_later])
    (w_cond hs1)
    refine ⟨_, sidesT ss, ss, rfl, by decide, by have := sidesT_len tk.s9 (by have := tk.s5; omega); omega, sides_split tk, by have := tk.s5; omega, fun l2 H2 s2 e2 => ⟨l2, ss, rfl, e2, by have := tk.s5; omega, tk.s9, fun sd H3 s3 e3 => ?_⟩⟩
    (simp only [a_later])
    (walk_at "rd")
    refine ⟨sd, ss, rfl, e3, tk.s1, tk.s5, tk.sb, fun H4 s4 => ⟨_, rfl, ?_⟩⟩
    have S4 : Same H1 H4 := (s2.trans s3).trans s4
    have e4 := S4 _ _ e1
    have hs4 := sq_lst e4
    have sd4 := s4 _ _ e3
    (simp only [a_later])
    (w_cond hs4)
    have w1 := tk.w1
    have w5 := tk.w5
    rw [if_pos (show (2 : Int) ≤ ((wss.length + 1 : Nat) : Int) by omega), decide_eq_true (show ((wss.length + 1 : Nat) : Int) ≤ 1 + 5 by omega)]
    refine ⟨_, rfl, ?_⟩
    (simp only [a_later])
    (w_cond e4)
    have ce : cutV (V.str (sidesT ss) :: (wss.map wantT).map V.str) (some (1 : Int)) none = (wss.map wantT).map V.str := cutV_drop _ 1 (by simp)
    intro lp nlp
    rw [ce]
    have S5 : Same H4 (upd H4 lp (.lst ((wss.map wantT).map V.str))) := same_upd nlp
    have E5 : upd H4 lp (.lst ((wss.map wantT).map V.str)) lp = some (.lst ((wss.map wantT).map V.str)) := upd_same
    generalize upd H4 lp (.lst ((wss.map wantT).map V.str)) = H5 at S5 E5 ⊢
    intro c nc
    have nlc : lp ≠ c := ne_of_none E5 nc
    have sd5 := S5 _ _ sd4
    have nsc : sd ≠ c := ne_of_none sd5 nc
    refine cl_seq (RTI c sd wss H5) ⟨none, [], rfl, SameX.upd, rfl, (fun j b ns hb => by simp at hb), upd_same⟩ (fun j σ H' _ ⟨_, _, _, s, _⟩ => s _ _ nlc E5) ?_ ?_
    · rintro i x σ H6 hx ⟨v, as, rfl, s6, l6, a6, e6⟩
      rw [List.getElem?_map, List.getElem?_map] at hx
      obtain ⟨y, hy, rfl⟩ := Option.map_eq_some_iff.mp hx
      obtain ⟨ns, hns, rfl⟩ := Option.map_eq_some_iff.mp hy
      have nm := List.mem_of_getElem? hns
      have hi : i < wss.length := (List.getElem?_eq_some_iff.mp hns).1
      have nl := tk.wl ns nm
      have n9 := tk.w9 ns nm
      (walk_at "rd")
      refine ⟨_, wantT ns, ns, rfl, by decide, by have := wantT_len n9 nl.2; omega, want_split nl.1 n9, by omega, fun l3 H7 s7 e7 => ?_⟩
      have hsd := sq_tup (s7 _ _ (s6 _ _ nsc sd5))
      (w_cond hsd)
      refine ⟨l3, ns, ss.length, rfl, e7, tk.s5, nl.1, nl.2, tk.wb ns nm, iw ns nm, fun t H8 s8 e8 => ?_⟩
      have e68 := s8 _ _ (s7 _ _ e6)
      refine ⟨_, e68, small1000 (by rw [List.length_map]; omega), ⟨_, as ++ [t], rfl, fun b o hb hh => ?_, by simp [l6], fun j b ns' hb hn => ?_, ?_⟩⟩
      · rw [upd_ne hb]
        exact s8 _ _ (s7 _ _ (s6 _ _ hb hh))
      · have hb8 : H8 b = some (.tup (ns'.map iN)) := by
          by_cases hj : j < as.length
          · rw [List.getElem?_append_left hj] at hb
            exact s8 _ _ (s7 _ _ (a6 j b ns' hb hn))
          · have hj' : j = as.length := by
              have := (List.getElem?_eq_some_iff.mp hb).1
              simp at this
              omega
            subst hj'
            rw [List.getElem?_append_right (Nat.le_refl _)] at hb
            simp at hb
            subst hb
            rw [l6, hns] at hn
            cases hn
            exact e8
        rw [upd_ne (fun z => by rw [z, e68] at hb8; cases hb8)]
        exact hb8
      · rw [upd_same]
        simp
    · rintro σ H6 ⟨v, as, rfl, s6, l6, a6, e6⟩
      rw [List.length_map, List.length_map] at l6
      refine ⟨_, e6, fun wt H7 nwt s7 e7 => ⟨by decide, fun t H8 nt s8 e8 => ?_⟩⟩
      have SX : Same H H8 := ((((s1.trans S4).trans S5).trans (s6.same nc)).trans s7).trans s8
      exact q t H8 SX ⟨⟨sd, wt, as, e8, s8 _ _ (s7 _ _ (s6 _ _ nsc sd5)), s8 _ _ e7, l6, fun j b ns hb hn => s8 _ _ (s7 _ _ (a6 j b ns hb hn))⟩⟩
end
end K78
end
section
set_option Elab.async false
set_option linter.all false
set_option maxRecDepth 100000
set_option maxHeartbeats 4000000
namespace K78
open PySem L2
section
variable {P : Program} {w : World} {K : PySem.W.Frag} {mg : Str → Option Value} {base : Heap} {f : Addr} {fd : FuncData}
noncomputable def SV : Nat → Hp → V → V → Prop
  | 0, _, x, y => False
  | n + 1, H, x, y => (∃ i : Int, x = .int i ∧ y = .int i) ∨ ∃ a b xs ys, x = .ref a ∧ y = .ref b ∧ H a = some (.tup xs) ∧ H b = some (.tup ys) ∧ xs.length = ys.length ∧ xs.length < 1000 ∧ ∀ (i : Nat) u v, xs[i]? = some u → ys[i]? = some v → SV n H u v
theorem SV.same {H H' : Hp} (s : Same H H') : ∀ (n : Nat) {x y : V}, SV n H x y → SV n H' x y
  | 0, _, _, h => h
  | n + 1, x, y, h => by
    rcases h with h | ⟨a, b, xs, ys, e1, e2, e3, e4, e5, e6, e7⟩
    · exact .inl h
    · exact .inr ⟨a, b, xs, ys, e1, e2, s _ _ e3, s _ _ e4, e5, e6, fun i u v hu hv => SV.same s n (e7 i u v hu hv)⟩
noncomputable def sp_sv (n : Nat) : Sp := fun vs H Q _ => ∃ x y, vs = [x, y] ∧ SV n H x y ∧ ∀ H', Same H H' → Q (.bl true) H'
theorem cal_sv0 {x : Str} {ps : List Str} {st : Stmt} (F : Fun K x x st f fd) (hm : mg x = some (.ref f)) (hb : Binds K fd ps []) : Cal P w K mg base x ps 0 (sp_sv 0) :=
  ⟨f, fd, ⟨fun _ _ _ _ h => h.choose_spec.choose_spec.2.1.elim, fun _ _ _ _ _ _ _ _ _ _ _ _ _ h => h.choose_spec.choose_spec.2.1.elim⟩, hm, F.kp, hb⟩
noncomputable def L5 (c : Addr) (G : Hp) (i : Nat) (σ : St) (H : Hp) : Prop := ∃ (v1 v2 : Option V), σ = [v1, v2] ∧ SameX c G H ∧ H c = some (.lst ((List.replicate i true).map V.bl))
theorem sc__law_same : FnScope ["_law_found", "_law_due"] ["_law_found", "_law_due"] (defScope s__law_same) := ⟨rfl, rfl, rfl, by decide +kernel, rfl, by decide +kernel, by decide +kernel⟩
theorem ok_sv (F : Fun K "_law_same" "_law_same" s__law_same f fd) (hm : mg "_law_same" = some (.ref f)) (hb : Binds K fd ["_law_found", "_law_due"] []) (T : Txt mg) (n : Nat) (c__law_same : Cal P w K mg base "_law_same" ["_law_found", "_law_due"] n (sp_sv n)) : Cal P w K mg base "_law_same" ["_law_found", "_law_due"] (n + 1) (sp_sv (n + 1)) := by
  refine cal_of F hm hb sc__law_same (fun vs H Q E h => ?_) (fun cdv A outer s H vs Q E hr h => ?_)
  · obtain ⟨_, _, rfl, _⟩ := h; rfl
  · obtain ⟨x, y, rfl, h, q⟩ := h
    rcases h with ⟨i, rfl, rfl⟩ | ⟨a, b, xs, ys, rfl, rfl, ha, hb', hl', hsm, h⟩
    · have sc := sc__law_same
      refine ⟨_, pss_cons (ps_if (pt_val (pe_callB isi0 rfl T.isinstance_ bt_isinstance (pa_cns (pv 1) (pa_cns (pe_bltn (v := .ty "tuple") rfl T.tuple_ bt_tuple rfl) pa_nil)))) (pss_cons (ps_if (PW.pt (pw_or (pt_not (pt_val (pe_callB isi0 rfl T.isinstance_ bt_isinstance (pa_cns (pv 0) (pa_cns (pe_bltn (v := .ty "tuple") rfl T.tuple_ bt_tuple rfl) pa_nil))))) (pw_or1 (pt_cmpR op_ne (pe_callB len0 rfl T.len_ bt_len (pa_cns (pv 0) pa_nil)) (pe_callB len0 rfl T.len_ bt_len (pa_cns (pv 1) pa_nil)) (nomark _))))) (pss_one (ps_ret pe_bl)) pss_nil)
      (pss_one (ps_ret (pe_callB (all0 rfl) rfl T.all_ bt_all (pa_cns (pe_lc (N := ["_law_mine", "_law_its"]) (fr := [none, none]) rfl (pi_zip rfl T.zip_ (pa_cns (pv 0) (pa_cns (pv 1) pa_nil))) (CScope.of rfl rfl rfl) rfl (fun _ _ _ => ⟨pg_tup0 (n := 2) rfl (pgs_cons (pg_name (i := 0) (show List.Nodup (α := Str) ["_law_mine", "_law_its"] by decide +kernel) rfl (Or.inl rfl)) (pgs_cons (pg_name (i := 1) (show List.Nodup (α := Str) ["_law_mine", "_law_its"] by decide +kernel) rfl (Or.inl rfl)) pgs_nil)), pif_nil, pe_cal c__law_same hr (pa_cns (pv 0) (pa_cns (pv 1) pa_nil)) (hk := Nat.le_refl _)⟩)) pa_nil))))) pss_nil)
      (pss_one (ps_ret (pe_and (pe_callB isi0 rfl T.isinstance_ bt_isinstance (pa_cns (pv 0) (pa_cns (pe_bltn (v := .ty "int") rfl T.int_ bt_int rfl) pa_nil))) (pe_and (pe_not (pe_callB isi0 rfl T.isinstance_ bt_isinstance (pa_cns (pv 0) (pa_cns (pe_bltn (v := .ty "bool") rfl T.bool_ bt_bool rfl) pa_nil)))) (pe_one (pe_cmpR op_eq (pv 0) (pv 1) (nomark _))))))), ?_⟩
      rw [show L2.start ["_law_found", "_law_due"] [.int i, .int i] = [some (.int i), some (.int i)] from rfl]
      (walk_at "rd")
      exact q H (Same.refl H)
    have sc := sc__law_same
    refine ⟨_, pss_cons (ps_if (pt_val (pe_callB isi0 rfl T.isinstance_ bt_isinstance (pa_cns (pv 1) (pa_cns (pe_bltn (v := .ty "tuple") rfl T.tuple_ bt_tuple rfl) pa_nil)))) (pss_cons (ps_if (PW.pt (pw_or (pt_not (pt_val (pe_callB isi0 rfl T.isinstance_ bt_isinstance (pa_cns (pv 0) (pa_cns (pe_bltn (v := .ty "tuple") rfl T.tuple_ bt_tuple rfl) pa_nil))))) (pw_or1 (pt_cmpR op_ne (pe_callB len0 rfl T.len_ bt_len (pa_cns (pv 0) pa_nil)) (pe_callB len0 rfl T.len_ bt_len (pa_cns (pv 1) pa_nil)) (nomark _))))) (pss_one (ps_ret pe_bl)) pss_nil)
      (pss_one (ps_ret (pe_callB (all0 rfl) rfl T.all_ bt_all (pa_cns (pe_lc (N := ["_law_mine", "_law_its"]) (fr := [none, none]) rfl (pi_zip rfl T.zip_ (pa_cns (pv 0) (pa_cns (pv 1) pa_nil))) (CScope.of rfl rfl rfl) rfl (fun _ _ _ => ⟨pg_tup0 (n := 2) rfl (pgs_cons (pg_name (i := 0) (show List.Nodup (α := Str) ["_law_mine", "_law_its"] by decide +kernel) rfl (Or.inl rfl)) (pgs_cons (pg_name (i := 1) (show List.Nodup (α := Str) ["_law_mine", "_law_its"] by decide +kernel) rfl (Or.inl rfl)) pgs_nil)), pif_nil, pe_cal c__law_same hr (pa_cns (pv 0) (pa_cns (pv 1) pa_nil)) (hk := Nat.le_refl _)⟩)) pa_nil))))) pss_nil)
      (pss_one (ps_ret (pe_and (pe_callB isi0 rfl T.isinstance_ bt_isinstance (pa_cns (pv 0) (pa_cns (pe_bltn (v := .ty "int") rfl T.int_ bt_int rfl) pa_nil))) (pe_and (pe_not (pe_callB isi0 rfl T.isinstance_ bt_isinstance (pa_cns (pv 0) (pa_cns (pe_bltn (v := .ty "bool") rfl T.bool_ bt_bool rfl) pa_nil)))) (pe_one (pe_cmpR op_eq (pv 0) (pv 1) (nomark _))))))), ?_⟩
    have hsa := sq_tup ha
    have hsb := sq_tup hb'
    rw [show L2.start ["_law_found", "_law_due"] [.ref a, .ref b] = [some (.ref a), some (.ref b)] from rfl]
    (try simp only [V.str.injEq, HO.dK.injEq, a_gLst0, a_tSeqL, a_tChain, a_tDict, a_tLstA, a_tLC2, a_tLC3, a_tInner, a_tIns, a_rCatA, a_rCatL, a_tSeq, a_tFor, a_rIxL, a_iZip, a_tSortR, a_tSl, a_rSlL0, a_tNoPart, a_tPart, a_tApp, a_tRet, a_tRetN, a_tNext, a_tDrop, a_tAsg, a_gSub, a_gName, a_gNil, a_gCons, a_gTup0, a_rSetL, a_tIfS, a_tAnd, a_tOr, a_tNot, a_tTest, a_tB, a_tTrue, a_tIf, a_tAndV, a_tOrV, a_tNotV, a_tOp, a_tUn, a_rU, a_tVar, a_tC, a_rI0, a_rI, a_rEq, a_rNe, a_rIx0, a_rIn0, a_tCB, a_tCal, a_tCons, a_tNil, a_tTupA, a_tLst, a_tPar, a_tBits, a_tLC, a_iRng1, a_iRng2, a_iT0, a_iL0, a_tEmit, frS, scal, V.ty.injEq, tyN, subN, String.reduceEq, String.reduceBEq, Bool.true_or, Bool.false_or, Bool.or_false, Bool.true_and, Bool.false_and, Bool.and_false, or_true, true_or, beq_self_eq_true, decide_true, decide_false, List.map_cons, List.map_nil, List.length_cons, List.length_nil, List.getElem?_cons_zero, List.getElem?_cons_succ, List.getElem?_nil, List.set_cons_zero, List.set_cons_succ, Option.some.injEq, Option.bind_some, Option.bind_none, id, exists_eq_left', exists_eq_left, exists_and_left, exists_eq_right, V.int.injEq, V.bl.injEq, V.ref.injEq, List.cons.injEq, and_true, true_and, and_assoc, exists_const, atI0, atI1, atI2, ixN30, ixN31, ixN32, upd_same, upd_upd, sq_updL, sq_updT, Nat.zero_add, Nat.reduceAdd, reduceCtorEq, false_and, and_false, exists_false, false_or, or_false, List.length_map, HO.lst.injEq, HO.tup.injEq, Bool.false_eq_true, if_false, if_true, decide_eq_true_eq, ite_true, ite_false, reduceIte, Int.reduceLT, Int.reduceLE, Nat.reduceLT, Int.zero_add, Bool.not_true, Bool.not_false, ha, hb', hsa, hsb])
    rw [if_neg (by simp [hl'])]
    refine ⟨_, _, _, .inr ⟨rfl, ha⟩, _, .inr ⟨rfl, hb'⟩, fun c nc => ?_⟩
    have nca : a ≠ c := ne_of_none ha nc
    have ncb : b ≠ c := ne_of_none hb' nc
    refine cl_zip (L5 c H) ⟨none, none, rfl, SameX.upd, upd_same⟩ (fun i σ H1 ⟨_, _, _, s, _⟩ => ⟨.inr ⟨rfl, s _ _ nca ha⟩, .inr ⟨rfl, s _ _ ncb hb'⟩⟩) ?_ ?_
    · rintro i u v t σ H1 H2 hu hv ⟨v1, v2, rfl, s1, e1⟩ nt s2 e2
      have ec2 := s2 _ _ e1
      have hi : i < xs.length := (List.getElem?_eq_some_iff.mp hu).1
      (w_cond e2)
      refine ⟨u, v, rfl, SV.same ((s1.same nc).trans s2) n (h i u v hu hv), fun H3 s3 => ?_⟩
      refine ⟨_, s3 _ _ ec2, small1000 (by rw [List.length_map, List.length_replicate]; omega), ⟨_, _, rfl, fun b o hb hh => ?_, ?_⟩⟩
      · rw [upd_ne hb]
        exact s3 _ _ (s2 _ _ (s1 _ _ hb hh))
      · rw [upd_same, List.replicate_succ']
        simp
    · rintro σ H1 ⟨v1, v2, rfl, s1, e1⟩
      refine ⟨_, sq_lst e1, ?_⟩
      have : (List.replicate (min xs.length ys.length) true).all id = true := by
        rw [List.all_eq_true]
        intro x hx
        exact (List.mem_replicate.mp hx).2
      rw [this]
      exact q H1 (s1.same nc)
end
end K78
end
section
set_option Elab.async false
set_option linter.all false
set_option maxRecDepth 100000
set_option maxHeartbeats 4000000
namespace K78
open PySem L2
section
variable {P : Program} {w : World} {K : PySem.W.Frag} {mg : Str → Option Value} {base : Heap} {f : Addr} {fd : FuncData}
noncomputable def sp_written : Sp := fun vs H Q _ => ∃ (sd wt : Addr) (as : List Addr) (ss : List Nat) (wss : List (List Nat)), vs = [.ref sd, .ref wt] ∧ H sd = some (.tup (ss.map iN)) ∧ H wt = some (.tup (as.map V.ref)) ∧ as.length = wss.length ∧ (∀ (i : Nat) (b : Addr) (ns : List Nat), as[i]? = some b → wss[i]? = some ns → H b = some (.tup (ns.map iN))) ∧ TownOk ss wss ∧ ∀ H', Same H H' → Q (.str (townT ss wss)) H'
theorem ixN_end {α : Type} (xs : List α) (v : α) : ixN (xs ++ [v]).length (-1) = some xs.length := by
  unfold ixN
  rw [List.length_append, List.length_singleton, if_neg (by decide), if_pos (by omega)]
  congr 1
  omega
noncomputable def wfold (wd : Str) (ns : List Nat) : Str := ns.foldl (fun s n => s ++ Str.ofString " " ++ sN n) wd
theorem wfold_eq : ∀ (ns : List Nat) (wd : Str), ns ≠ [] → wfold wd ns = wd ++ Str.ofString " " ++ rowT ns := by
  intro ns wd ne
  rw [head_join ne]
  have key : ∀ (ns : List Nat) (wd : Str), wfold wd ns = Str.join ⟨#[32]⟩ (wd :: ns.map sN) := by
    intro ns
    induction ns with
    | nil => intro wd; rfl
    | cons n ns ih =>
      intro wd
      show wfold (wd ++ Str.ofString " " ++ sN n) ns = _
      rw [ih]
      refine str_list ?_
      rw [join_list, join_list, Str.cps_append, Str.cps_append, Array.toList_append, Array.toList_append, sp_is]
      simp
  exact key ns wd
theorem wfold_snoc (wd : Str) (ns : List Nat) (n : Nat) : wfold wd (ns ++ [n]) = wfold wd ns ++ Str.ofString " " ++ sN n := by
  unfold wfold
  rw [List.foldl_append]
  rfl
theorem wfold_len (wd : Str) : ∀ (ns : List Nat), (∀ n ∈ ns, n < 10 ^ 9) → (wfold wd ns).length ≤ wd.length + 10 * ns.length := by
  intro ns
  refine rev_ind (P := fun ns => (∀ n ∈ ns, n < 10 ^ 9) → (wfold wd ns).length ≤ wd.length + 10 * ns.length) ?_ ?_ ns
  · intro _; exact Nat.le_refl _
  · intro l n ih h
    have h1 := ih fun k hk => h k (List.mem_append_left _ hk)
    have h2 := sN_len (h n (List.mem_append_right _ (by simp)))
    have h3 : (Str.ofString " ").length = 1 := by decide
    rw [wfold_snoc, Str.length_append, Str.length_append, List.length_append, List.length_singleton]
    omega
noncomputable def WSI (c : Addr) (ss : List Nat) (G : Hp) (i : Nat) (σ : St) (H : Hp) : Prop := ∃ v : Option V, σ = [v] ∧ SameX c G H ∧ H c = some (.lst (((ss.take i).map sN).map V.str))
noncomputable def WW1 (sd wt r : Addr) (ss : List Nat) (wss : List (List Nat)) (G : Hp) (i : Nat) (σ : St) (H : Hp) : Prop := ∃ v3 v4 : Option V, σ = [some (.ref sd), some (.ref wt), some (.ref r), v3, v4] ∧ SameX r G H ∧ H r = some (.lst ((sidesT ss :: (wss.take i).map wantT).map V.str))
noncomputable def WW2 (sd wt r b : Addr) (L : List Str) (ns : List Nat) (G : Hp) (i : Nat) (σ : St) (H : Hp) : Prop := ∃ v4 : Option V, σ = [some (.ref sd), some (.ref wt), some (.ref r), some (.ref b), v4] ∧ SameX r G H ∧ H r = some (.lst (L.map V.str ++ [V.str (wfold (Str.ofString "want") (ns.take i))]))
theorem sc__law_written : FnScope ["_law_sides", "_law_wants", "_law_rows", "_law_want_here", "_law_worth"] ["_law_sides", "_law_wants"] (defScope s__law_written) := ⟨rfl, rfl, rfl, by decide +kernel, rfl, by decide +kernel, by decide +kernel⟩
theorem ok_written (F : Fun K "_law_written" "_law_written" s__law_written f fd) (hm : mg "_law_written" = some (.ref f)) (hb : Binds K fd ["_law_sides", "_law_wants"] []) (T : Txt mg) : Cal P w K mg base "_law_written" ["_law_sides", "_law_wants"] 1 sp_written := by
  refine cal_of F hm hb sc__law_written (fun vs H Q E h => ?_) (fun cdv A outer s H vs Q E hr h => ?_)
  · obtain ⟨_, _, _, _, _, rfl, _⟩ := h; rfl
  · obtain ⟨sd, wt, as, ss, wss, rfl, h2, h3, h4, h5, tk, q⟩ := h
    have sc := sc__law_written
    refine ⟨_, pss_consL (ps_set (i := 2) sc.nd rfl (Or.inl rfl) (pe_lstA (pa_cns (pe_join pe_str (pa_cns (pe_op catL0 (pe_lstA (pa_cns pe_str pa_nil)) (pe_lc (N := ["_law_side"]) (fr := [none]) rfl (pi_t0 (pv 0)) (CScope.of rfl rfl rfl) rfl (fun _ _ _ => ⟨pg_name (i := 0) (show List.Nodup (α := Str) ["_law_side"] by decide +kernel) rfl (Or.inl rfl), pif_nil, pe_callTy strI0 rfl T.str_ bt_str (pa_cns (pv 0) pa_nil)⟩))) pa_nil)) pa_nil)))
      (pss_consL (ps_for PassesOwn.never rfl (pi_t0 (pv 1)) (pg_name (i := 3) sc.nd rfl (Or.inl rfl))
        (pss_consL (ps_expr (pe_append (pv 2) (pa_cns pe_str pa_nil)))
      (pss_one (ps_for PassesOwn.never rfl (pi_t0 (pv 3)) (pg_name (i := 4) sc.nd rfl (Or.inl rfl))
        (pss_one (ps_asg (pe_op op_add_str (pe_op op_add_str (pe_ix ix0 (pv 2) (pe_un un_neg pe_int) (fun _ _ => rfl)) pe_str) (pe_callTy strI0 rfl T.str_ bt_str (pa_cns (pv 4) pa_nil))) (pg_sub (pv 2) (pe_un un_neg pe_int) set_list)))))))
      (pss_one (ps_ret (pe_join pe_str (pa_cns (pv 2) pa_nil))))), ?_⟩
    rw [show L2.start ["_law_sides", "_law_wants", "_law_rows", "_law_want_here", "_law_worth"] [.ref sd, .ref wt] = [some (.ref sd), some (.ref wt), none, none, none] from rfl]
    (w_cond a_tJoin)
    refine ⟨by decide, fun p H1 np s1 e1 => ⟨_, s1 _ _ h2, fun c nc => ?_⟩⟩
    have h21 := s1 _ _ h2
    have nsc : sd ≠ c := ne_of_none h21 nc
    have npc : p ≠ c := ne_of_none e1 nc
    refine cl_seq (WSI c ss H1) ⟨none, rfl, SameX.upd, upd_same⟩ (fun j σ H' _ ⟨_, _, s, _⟩ => s _ _ nsc h21) ?_ ?_
    · rintro i x σ H2 hx ⟨v, rfl, s2, e2⟩
      rw [List.getElem?_map] at hx
      obtain ⟨n, hn, rfl⟩ := Option.map_eq_some_iff.mp hx
      have hi : i < ss.length := (List.getElem?_eq_some_iff.mp hn).1
      have nb := tk.s9 n (List.mem_of_getElem? hn)
      unfold iN
      (walk_at "rd")
      refine ⟨Nat.lt_of_lt_of_le nb (by decide), _, e2, small1000 (by have := tk.s5; rw [List.length_map, List.length_map, List.length_take]; omega), ⟨_, rfl, s2.trans SameX.upd, ?_⟩⟩
      rw [upd_same, List.take_add_one, hn]
      simp
      rfl
    · rintro σ H2 ⟨v, rfl, s2, e2⟩
      rw [List.length_map, List.take_length] at e2
      refine ⟨_, s2 _ _ npc e1, _, e2, Nat.le_of_lt (small1000 (by have := tk.s5; simp; omega)), fun p2 H3 np2 s3 e3 => ?_⟩
      have sne : ss ≠ [] := fun z => by have := tk.s1; rw [z] at this; exact absurd this (by decide)
      have ej : PySem.Txt.join (Str.ofString " ") (Str.ofString "sides" :: ss.map sN) = sidesT ss := by
        unfold sidesT
        rw [sides_is, head_join sne, tj, sp_is]
      refine ⟨Str.ofString "sides" :: ss.map sN, by rw [e3]; rfl, joinOk_small (by decide) (by have := tk.s5; simp; omega) (fun t ht => ?_), by decide, fun r H4 nr s4 e4 => ?_⟩
      · rcases List.mem_cons.mp ht with rfl | ht
        · decide
        · obtain ⟨n, hn, rfl⟩ := List.mem_map.mp ht
          have := sN_len (tk.s9 n hn)
          omega
      rw [ej] at e4
      have S3 : Same H H3 := (s1.trans (s2.same nc)).trans s3
      have S4 : Same H H4 := S3.trans s4
      have h34 := S4 _ _ h3
      have nwr : wt ≠ r := fun z => by rw [z, e4] at h34; cases h34
      have w5 := tk.w5
      (simp only [a_later])
      (walk_at "rd")
      refine ⟨_, h34, fl_seq (WW1 sd wt r ss wss H4) ⟨_, _, rfl, SameX.refl, e4⟩ (fun j σ H' _ ⟨_, _, _, s, _⟩ => s _ _ nwr h34) ?_ ?_⟩
      · rintro i x σ H5 hx ⟨v3, v4, rfl, s5, e5⟩
        rw [List.getElem?_map] at hx
        obtain ⟨b, hbx, rfl⟩ := Option.map_eq_some_iff.mp hx
        have hi : i < as.length := (List.getElem?_eq_some_iff.mp hbx).1
        obtain ⟨ns, hns⟩ : ∃ ns, wss[i]? = some ns := ⟨wss[i]'(by omega), List.getElem?_eq_getElem _⟩
        have nm := List.mem_of_getElem? hns
        have hb4 := S4 _ _ (h5 i b ns hbx hns)
        have nbr : b ≠ r := fun z => by rw [z, e4] at hb4; cases hb4
        have hb5 := s5 _ _ nbr hb4
        (w_cond e5)
        refine ⟨small1000 (by simp; omega), ?_⟩
        have nl := tk.wl ns nm
        have n9 := tk.w9 ns nm
        have hi' : i < wss.length := by omega
        generalize hG : upd H5 r (HO.lst (V.str (sidesT ss) :: List.map V.str (List.map wantT (List.take i wss)) ++ [V.str (Str.ofString "want")])) = G
        have hbG : G b = some (.tup (ns.map iN)) := by rw [← hG, upd_ne nbr]; exact hb5
        have hrG : G r = some (.lst ((sidesT ss :: (wss.take i).map wantT).map V.str ++ [V.str (wfold (Str.ofString "want") (ns.take 0))])) := by rw [← hG, upd_same]; rfl
        have sG : SameX r H5 G := by rw [← hG]; exact SameX.upd
        (simp only [a_later])
        (walk_at "rd")
        refine ⟨_, hbG, fl_seq (WW2 sd wt r b (sidesT ss :: (wss.take i).map wantT) ns G) ⟨_, rfl, SameX.refl, hrG⟩ (fun j σ H' _ ⟨_, _, s, _⟩ => s _ _ nbr hbG) ?_ ?_⟩
        · rintro j x σ H6 hx ⟨v4', rfl, s6, e6⟩
          rw [List.getElem?_map] at hx
          obtain ⟨n, hn, rfl⟩ := Option.map_eq_some_iff.mp hx
          have nb := n9 n (List.mem_of_getElem? hn)
          have lf := wfold_len (Str.ofString "want") (ns.take j) fun k hk => n9 k (List.mem_of_mem_take hk)
          have l4 : (Str.ofString "want").length = 4 := by decide
          have l1 : (Str.ofString " ").length = 1 := by decide
          have ls := sN_len nb
          have lt : (ns.take j).length ≤ 32 := by rw [List.length_take]; omega
          have hs6 := sq_lst e6
          unfold iN
          (w_cond hs6)
          refine ⟨_, atI_last _ _, _, rfl, Nat.le_of_lt (small1000 (by omega)), Nat.lt_of_lt_of_le nb (by decide), ?_, _, e6, _, ixN_end _ _, ⟨_, rfl, s6.trans SameX.upd, ?_⟩⟩
          · show _ + (sN n).length ≤ _
            rw [Str.length_append]
            exact Nat.le_of_lt (small1000 (by omega))
          · rw [upd_same, List.take_add_one, hn]
            rw [List.set_append_right _ _ (Nat.le_refl _), Nat.sub_self]
            show some (HO.lst (_ ++ [V.str (_ ++ _ ++ sN n)])) = some (HO.lst (_ ++ [V.str (wfold _ (ns.take j ++ [n]))]))
            rw [wfold_snoc]
        · rintro σ H6 ⟨v4', rfl, s6, e6⟩
          rw [List.length_map, List.take_length] at e6
          refine ⟨_, _, rfl, (s5.trans sG).trans s6, ?_⟩
          have nne : ns ≠ [] := fun z => by have := nl.1; rw [z] at this; exact absurd this (by decide)
          rw [e6, List.take_add_one, hns, wfold_eq ns _ nne]
          have : Str.ofString "want" ++ Str.ofString " " ++ rowT ns = wantT ns := by
            unfold wantT
            rw [want_is]
          rw [this]
          simp
      · rintro σ H5 ⟨v3, v4, rfl, s5, e5⟩
        rw [List.length_map, h4, List.take_length] at e5
        show Later _ _ _
        (simp only [a_later])
        (w_cond a_tJoin)
        refine ⟨_, e5, joinOk_small (by decide) (by simp; omega) (fun t ht => by have := lines_len tk t ht; omega), ?_⟩
        exact q H5 fun b o h => s5 _ _ (ne_of_none (S3 _ _ h) nr) (S4 _ _ h)
end
end K78
end
section
set_option Elab.async false
set_option linter.all false
set_option maxRecDepth 100000
set_option maxHeartbeats 8000000
namespace K78
open PySem L2
section
variable {P : Program} {w : World} {K : PySem.W.Frag} {mg : Str → Option Value} {base : Heap} {f : Addr} {fd : FuncData}
theorem town_same {H : Hp} {a b : Addr} {ss : List Nat} {wss : List (List Nat)} (tk : TownOk ss wss) (ha : TownAt H a ss wss) (hb : TownAt H b ss wss) : SV 4 H (.ref a) (.ref b) := by
  obtain ⟨sd, wt, as, h1, h2, h3, h4, h5⟩ := ha.at_
  obtain ⟨sd', wt', as', k1, k2, k3, k4, k5⟩ := hb.at_
  have allN : ∀ (n : Nat) (ns : List Nat) (x y : Addr), ns.length < 1000 → H x = some (.tup (ns.map iN)) → H y = some (.tup (ns.map iN)) → SV (n + 2) H (.ref x) (.ref y) := fun n ns x y hl hx hy => by
    refine .inr ⟨x, y, _, _, rfl, rfl, hx, hy, rfl, by rw [List.length_map]; exact hl, fun i u v hu hv => ?_⟩
    rw [hu] at hv
    cases hv
    rw [List.getElem?_map] at hu
    obtain ⟨k, hk, rfl⟩ := Option.map_eq_some_iff.mp hu
    exact .inl ⟨_, rfl, rfl⟩
  refine .inr ⟨a, b, _, _, rfl, rfl, h1, k1, rfl, by simp, fun i u v hu hv => ?_⟩
  match i, hu, hv with
  | 0, hu, hv =>
    cases hu; cases hv
    exact allN 1 ss sd sd' (by have := tk.s5; omega) h2 k2
  | 1, hu, hv =>
    cases hu; cases hv
    refine .inr ⟨wt, wt', _, _, rfl, rfl, h3, k3, by rw [List.length_map, List.length_map, h4, k4], by rw [List.length_map, h4]; have := tk.w5; omega, fun i u v hu hv => ?_⟩
    rw [List.getElem?_map] at hu hv
    obtain ⟨x, hx, rfl⟩ := Option.map_eq_some_iff.mp hu
    obtain ⟨y, hy, rfl⟩ := Option.map_eq_some_iff.mp hv
    have hi : i < as.length := (List.getElem?_eq_some_iff.mp hx).1
    obtain ⟨ns, hns⟩ : ∃ ns, wss[i]? = some ns := ⟨wss[i]'(by omega), List.getElem?_eq_getElem _⟩
    exact allN 0 ns x y (by have := (tk.wl ns (List.mem_of_getElem? hns)).2; omega) (h5 i x ns hx hns) (k5 i y ns hy hns)
  | i + 2, hu, _ => cases hu
theorem nats_of {ns : List Int} (h : ∀ x ∈ ns, 0 ≤ x ∧ x ≤ 1000) : ∃ ms : List Nat, ns.map V.int = ms.map iN ∧ ms.length = ns.length ∧ ∀ n ∈ ms, n ≤ 1000 := by
  refine ⟨ns.map Int.toNat, ?_, by rw [List.length_map], fun n hn => ?_⟩
  · rw [List.map_map]
    refine List.map_congr_left fun x hx => ?_
    show V.int x = V.int ((x.toNat : Nat) : Int)
    rw [Int.toNat_of_nonneg (h x hx).1]
  · obtain ⟨x, hx, rfl⟩ := List.mem_map.mp hn
    have := h x hx
    omega
noncomputable def sp_law (K : PySem.W.Frag) : Sp := fun vs H Q _ => ∃ (a : Addr) (ns : List Int), vs = [.ref a] ∧ Scr K a ns H ∧ ns.length ≤ 63 ∧ ∀ H', Q (.bl true) H'
noncomputable def J0 (K : PySem.W.Frag) (a : Addr) (ns : List Int) (i : Nat) (σ : St) (H : Hp) : Prop := ∃ v1 v2 v3 v4 v5 v6 : Option V, σ = [some (.ref a), v1, v2, v3, v4, v5, v6] ∧ Scr K a ns H
noncomputable def Xc (p c : Addr) (G H : Hp) : Prop := ∀ b o, b ≠ p → b ≠ c → G b = some o → H b = some o
noncomputable def SDI (c p : Addr) (G : Hp) (i : Nat) (σ : St) (H : Hp) : Prop := ∃ (v : Option V) (ss : List Nat), σ = [v, some (.ref p)] ∧ Xc p c G H ∧ Box H p ∧ ss.length = i ∧ (∀ n ∈ ss, n ≤ 1) ∧ H c = some (.lst (ss.map iN))
noncomputable def WTI (c p : Addr) (m : Nat) (G : Hp) (i : Nat) (σ : St) (H : Hp) : Prop := ∃ (v : Option V) (as : List Addr) (wss : List (List Nat)), σ = [v, some (.ref p), some (.int (m : Int))] ∧ Xc p c G H ∧ Box H p ∧ as.length = i ∧ wss.length = i ∧ (∀ ns ∈ wss, (1 ≤ ns.length ∧ ns.length ≤ 32) ∧ (∀ n ∈ ns, n ≤ 1000) ∧ isWant (ns.map iN) m = true) ∧
  (∀ (j : Nat) (b : Addr) (ns : List Nat), as[j]? = some b → wss[j]? = some ns → H b = some (.tup (ns.map iN))) ∧ H c = some (.lst (as.map V.ref))
theorem sc_law : FnScope ["_law_script", "_law_k", "_law_box_here", "_law_many_here", "_law_sides", "_law_wants", "_law_text"] ["_law_script"] (defScope s_law) := ⟨rfl, rfl, rfl, by decide +kernel, rfl, by decide +kernel, by decide +kernel⟩
theorem ok_law (F : Fun K "law" "law" s_law f fd) (T : Txt mg) (c__law_box : Cal P w K mg base "_law_box" ["_law_script", "_law_k"] 1 (spBox K)) (c__law_take : Cal P w K mg base "_law_take" ["_law_box_here", "_law_many_here"] 1 spTake) (c__law_many : Cal P w K mg base "_law_many" ["_law_box_here"] 2 sp_many) (c__law_want : Cal P w K mg base "_law_want" ["_law_box_here", "_law_many_here"] 2 sp_lwant) (c_show_town : Cal P w K mg base "show_town" ["town"] 2 sp_stown) (c__law_written : Cal P w K mg base "_law_written" ["_law_sides", "_law_wants"] 1 sp_written) (c__law_same : Cal P w K mg base "_law_same" ["_law_found", "_law_due"] 4 (sp_sv 4)) (c_read_town : Cal P w K mg base "read_town" ["text"] 6 sp_rtown) :
    FnOk P w K mg base CX0 7 f fd ["_law_script"] (sp_law K) := by
  refine F.ok sc_law (fun vs H Q E h => ?_) (fun cdv A outer s H vs Q E hr h => ?_)
  · obtain ⟨_, _, rfl, _⟩ := h; rfl
  · obtain ⟨a, ns, rfl, hq, hlen, q⟩ := h
    have sc := sc_law
    refine ⟨_, pss_consL (ps_for PassesOwn.never rfl (pi_range1 rfl T.range_ (pa_cns (pe_op op_add pe_int (pe_callB (call_min2 rfl) rfl T.min_ bt_min (pa_cns pe_int (pa_cns (pe_callB call_len_seq rfl T.len_ bt_len (pa_cons (pv 0) pa_nil)) pa_nil)))) pa_nil)) (pg_name (i := 1) sc.nd rfl (Or.inl rfl))
        (pss_consL (ps_set (i := 2) sc.nd rfl (Or.inr rfl) (pe_cal c__law_box hr (pa_cns (pv 0) (pa_cns (pv 1) pa_nil))))
      (pss_consL (ps_set (i := 3) sc.nd rfl (Or.inr rfl) (pe_cal c__law_many hr (pa_cns (pv 2) pa_nil)))
      (pss_consL (ps_set (i := 4) sc.nd rfl (Or.inl rfl) (pe_callTy tupA0 rfl T.tuple_ bt_tuple (pa_cns (pe_lc (N := ["_law_t", "_law_box_here"]) (fr := [none, some 2]) rfl (pi_range1 rfl T.range_ (pa_cns (pv 3) pa_nil)) (CScope.of rfl rfl rfl) rfl (fun _ _ _ => ⟨pg_name (i := 0) (show List.Nodup (α := Str) ["_law_t", "_law_box_here"] by decide +kernel) rfl (Or.inl rfl), pif_nil, pe_cal c__law_take hr (pa_cns (pv 1) (pa_cns pe_int pa_nil))⟩)) pa_nil)))
      (pss_consL (ps_set (i := 5) sc.nd rfl (Or.inl rfl) (pe_callTy tupA0 rfl T.tuple_ bt_tuple (pa_cns (pe_lc (N := ["_law_hand", "_law_box_here", "_law_many_here"]) (fr := [none, some 2, some 3]) rfl (pi_range1 rfl T.range_ (pa_cns (pe_op op_add pe_int (pe_cal c__law_take hr (pa_cns (pv 2) (pa_cns pe_int pa_nil)))) pa_nil)) (CScope.of rfl rfl rfl) rfl (fun _ _ _ => ⟨pg_name (i := 0) (show List.Nodup (α := Str) ["_law_hand", "_law_box_here", "_law_many_here"] by decide +kernel) rfl (Or.inl rfl), pif_nil, pe_cal c__law_want hr (pa_cns (pv 1) (pa_cns (pv 2) pa_nil))⟩)) pa_nil)))
      (pss_consL (ps_set (i := 6) sc.nd rfl (Or.inl rfl) (pe_cal c_show_town hr (pa_cns (pe_tupA (pa_cns (pv 4) (pa_cns (pv 5) pa_nil))) pa_nil)))
      (pss_consL (ps_if (PW.pt (pw_or (pt_not (pt_val (pe_callB isi0 rfl T.isinstance_ bt_isinstance (pa_cns (pv 6) (pa_cns (pe_bltn (v := .ty "str") rfl T.str_ bt_str rfl) pa_nil))))) (pw_or1 (pt_cmpR op_ne (pv 6) (pe_cal c__law_written hr (pa_cns (pv 4) (pa_cns (pv 5) pa_nil))) (nomark _))))) (pss_one (ps_ret pe_bl)) pss_nil)
      (pss_one (ps_if (PW.pt (pw_or (pt_not (pt_val (pe_cal c__law_same hr (pa_cns (pe_cal c_read_town hr (pa_cns (pv 6) pa_nil)) (pa_cns (pe_tupA (pa_cns (pv 4) (pa_cns (pv 5) pa_nil))) pa_nil))))) (pw_or1 (pt_cmpR op_ne (pe_cal c_show_town hr (pa_cns (pe_cal c_read_town hr (pa_cns (pv 6) pa_nil)) pa_nil)) (pv 6) (nomark _))))) (pss_one (ps_ret pe_bl)) pss_nil)))))))))
      (pss_one (ps_ret (pe_cmpR op_eq (pe_cal c_show_town hr (pa_cns (pe_tupA (pa_cns (pe_tupA (pa_cns pe_int pa_nil)) (pa_cns (pe_tupA (pa_cns (pe_tupA (pa_cns pe_int (pa_cns pe_int pa_nil))) pa_nil)) pa_nil))) pa_nil)) pe_str (nomark _)))), ?_⟩
    rw [show L2.start ["_law_script", "_law_k", "_law_box_here", "_law_many_here", "_law_sides", "_law_wants", "_law_text"] [.ref a] = [some (.ref a), none, none, none, none, none, none] from rfl]
    (walk_at "rd")
    refine ⟨_, .inl hq, ?_⟩
    (walk_at "rd")
    refine ⟨by omega, by omega, fl_range (J0 K a ns) ⟨none, none, none, none, none, none, rfl, hq⟩ ?_ ?_⟩
    · rintro i σ H1 hi ⟨v1, v2, v3, v4, v5, v6, rfl, hq1⟩
      (walk_at "rd")
      refine ⟨a, i, ns, rfl, hq1, by omega, fun p H2 np bx2 bt2 => ?_⟩
      (walk_at "rd")
      (simp only [a_later])
      (walk_at "rd")
      refine ⟨p, rfl, bx2, fun m H3 m1 m5 bx3 sx3 => ?_⟩
      (simp only [a_later])
      (walk_at "rd")
      refine ⟨by omega, by omega, fun c nc => ?_⟩
      have npc : p ≠ c := bx3.ne nc
      refine cl_range (SDI c p H3) ⟨none, [], rfl, (fun b o _ h2 h => by rw [upd_ne h2]; exact h), bx3.upd npc, rfl, (fun n hn => absurd hn (by simp)), upd_same⟩ ?_ ?_
      · rintro j σ G1 hj ⟨v, ss, rfl, x1, b1, l1, d1, e1⟩
        (walk_at "rd")
        refine ⟨p, _, rfl, b1, by decide, by decide, fun r2 G2 r20 r21 b2 bt2' => ⟨_, bt2'.x _ _ npc.symm e1, small1000 (by rw [List.length_map]; omega), ?_⟩⟩
        obtain ⟨n, rfl⟩ := Int.eq_ofNat_of_zero_le r20
        refine ⟨_, ss ++ [n], rfl, fun b o h1 h2 h => ?_, b2.upd npc, by simp [l1], fun k hk => ?_, ?_⟩
        · rw [upd_ne h2]
          exact bt2'.x _ _ h1 (x1 _ _ h1 h2 h)
        · rcases List.mem_append.mp hk with z | z
          · exact d1 k z
          · rw [List.mem_singleton.mp z]
            omega
        · rw [upd_same]
          simp
          rfl
      · rintro σ G1 ⟨v, ss, rfl, x1, b1, l1, d1, e1⟩
        refine ⟨_, e1, fun sd G2 nsd s2 e2 => ?_⟩
        have npsd : p ≠ sd := b1.ne nsd
        have b2 : Box G2 p := b1.same s2
        have SG : Same H1 G2 := fun b o h => by
          have h1 : b ≠ p := ne_of_none h np
          have h3 := sx3 _ _ h1 (bt2.x _ _ h1 h)
          exact s2 _ _ (x1 _ _ h1 (ne_of_none h3 nc) h3)
        rw [Int.toNat_natCast] at l1
        (simp only [a_later])
        (walk_at "rd")
        refine ⟨p, _, rfl, b2, by decide, by decide, fun r G3 r0 r1 b3 bt3 => ⟨_, rfl, by omega, by omega, fun c2 nc2 => ?_⟩⟩
        have npc2 : p ≠ c2 := b3.ne nc2
        have noP : ∀ {G : Hp} {b : Addr} {xs : List V}, Box G p → G b = some (.tup xs) → b ≠ p := fun {G b xs} bx h z => by
          obtain ⟨g, m', z', e⟩ := bx
          rw [z, e] at h
          cases h
        refine cl_range (WTI c2 p m G3) ⟨none, [], [], rfl, (fun b o _ h2 h => by rw [upd_ne h2]; exact h), b3.upd npc2, rfl, rfl, (by simp), (fun j b ns hb => by simp at hb), upd_same⟩ ?_ ?_
        · rintro j σ G4 hj ⟨v, as, wss, rfl, x4, b4, la, lw, wk, wa, e4⟩
          (walk_at "rd")
          refine ⟨p, m, rfl, b4, m1, m5, fun t ws G5 nt W b5 sx5 e5 => ?_⟩
          obtain ⟨ns, en, ln, nb⟩ := nats_of W.bd
          rw [en] at e5
          have e45 := sx5 _ _ npc2.symm e4
          have hp := pow32 m5
          refine ⟨_, e45, small1000 (by rw [List.length_map]; omega), ⟨_, as ++ [t], wss ++ [ns], rfl, fun b o h1 h2 h => ?_, b5.upd npc2, by simp [la], by simp [lw], fun k hk => ?_, fun j' b ns' hb hn => ?_, ?_⟩⟩
          · rw [upd_ne h2]
            exact sx5 _ _ h1 (x4 _ _ h1 h2 h)
          · rcases List.mem_append.mp hk with z | z
            · exact wk k z
            · rw [List.mem_singleton.mp z]
              have wl := W.len
              refine ⟨⟨by omega, by omega⟩, nb, ?_⟩
              rw [← en]
              exact isWant_of m5 W.len W.zero (fun x hx => (W.bd x hx).1) W.mono
          · have hb5 : G5 b = some (.tup (ns'.map iN)) := by
              by_cases hj' : j' < as.length
              · rw [List.getElem?_append_left hj'] at hb
                rw [List.getElem?_append_left (by omega)] at hn
                have := wa j' b ns' hb hn
                exact sx5 _ _ (noP b4 this) this
              · have hj2 : j' = as.length := by
                  have := (List.getElem?_eq_some_iff.mp hb).1
                  simp at this
                  omega
                subst hj2
                rw [List.getElem?_append_right (Nat.le_refl _)] at hb
                rw [List.getElem?_append_right (by omega), la, lw] at hn
                simp at hb hn
                subst hb
                subst hn
                exact e5
            rw [upd_ne (fun z => by rw [z, e45] at hb5; cases hb5)]
            exact hb5
          · rw [upd_same]
            simp
        · rintro σ G4 ⟨v, as, wss, rfl, x4, b4, la, lw, wk, wa, e4⟩
          refine ⟨_, e4, fun wt G5 nwt s5 e5 => ?_⟩
          have sd3 := bt3.x _ _ npsd.symm e2
          have sd5 := s5 _ _ (x4 _ _ npsd.symm (ne_of_none sd3 nc2) sd3)
          have tk : TownOk ss wss := ⟨by omega, by omega, d1, by omega, by omega, fun ns h => (wk ns h).1, fun ns h => (wk ns h).2.1⟩
          have iw : ∀ ns ∈ wss, isWant (ns.map iN) ss.length = true := fun ns h => by rw [l1]; exact (wk ns h).2.2
          have SH : Same H1 G5 := fun b o h => by
            have h1 : b ≠ p := ne_of_none h np
            have h3 := bt3.x _ _ h1 (SG _ _ h)
            exact s5 _ _ (x4 _ _ h1 (ne_of_none h3 nc2) h3)
          (simp only [a_later])
          (walk_at "rd")
          refine ⟨by decide, fun tw G6 ntw s6 e6 => ?_⟩
          have TA : TownAt G6 tw ss wss := ⟨⟨sd, wt, as, e6, s6 _ _ sd5, s6 _ _ e5, la.trans lw.symm, fun j b ns hb hn => s6 _ _ (s5 _ _ (wa j b ns hb hn))⟩⟩
          refine ⟨tw, ss, wss, rfl, TA, tk, fun G7 s7 => ?_⟩
          have S7 : Same G5 G7 := s6.trans s7
          generalize hT : townT ss wss = tx
          (simp only [a_later])
          (walk_at "rd")
          refine ⟨sd, wt, as, ss, wss, rfl, S7 _ _ sd5, S7 _ _ e5, la.trans lw.symm, fun j b ns hb hn => S7 _ _ (s5 _ _ (wa j b ns hb hn)), tk, fun G8 s8 => ?_⟩
          rw [hT]
          refine ⟨rfl, ?_⟩
          rw [decide_eq_true rfl, if_neg (by decide)]
          have S8 : Same G5 G8 := S7.trans s8
          (simp only [a_later])
          (walk_at "rd")
          refine ⟨ss, wss, by rw [hT], tk, iw, fun a9 G9 s9 t9 => ⟨by decide, fun p9 G10 n10 s10 e10 => ?_⟩⟩
          have S10 : Same G5 G10 := (S8.trans s9).trans s10
          refine ⟨_, _, rfl, town_same tk (t9.same s10) ⟨⟨sd, wt, as, e10, S10 _ _ sd5, S10 _ _ e5, la.trans lw.symm, fun j b ns hb hn => S10 _ _ (s5 _ _ (wa j b ns hb hn))⟩⟩, fun G11 s11 => ⟨true, rfl, ?_⟩⟩
          rw [if_neg (by decide)]
          refine ⟨ss, wss, by rw [hT], tk, iw, fun a12 G12 s12 t12 => ⟨a12, ss, wss, rfl, t12, tk, fun G13 s13 => ⟨rfl, ?_⟩⟩⟩
          rw [hT, decide_eq_true rfl, if_neg (by decide)]
          exact ⟨_, _, _, _, _, _, rfl, ((((SH.trans S10).trans s11).trans s12).trans s13).seq hq1⟩
    · rintro σ H1 ⟨v1, v2, v3, v4, v5, v6, rfl, hq1⟩
      show Later _ _ _
      (simp only [a_later])
      (walk_at "rd")
      refine ⟨by decide, fun sd H2 n2 s2 e2 => ⟨by decide, fun b H3 n3 s3 e3 => ⟨by decide, fun wt H4 n4 s4 e4 => ⟨by decide, fun t H5 n5 s5 e5 => ?_⟩⟩⟩⟩
      refine ⟨t, [1], [[0, 4]], rfl, ⟨⟨sd, wt, [b], e5, s5 _ _ (s4 _ _ (s3 _ _ e2)), s5 _ _ e4, rfl, fun i b' ns hb hn => ?_⟩⟩, ⟨by decide, by decide, by decide, by decide, by decide, by decide, by decide⟩, fun H6 s6 => ⟨rfl, ?_⟩⟩
      · match i, hb, hn with
        | 0, hb, hn =>
          cases hb
          cases hn
          exact s5 _ _ (s4 _ _ e3)
        | i + 1, hb, _ => cases hb
      · have e : townT [1] [[0, 4]] = Str.ofString "sides 1\nwant 0 4" := by decide +kernel
        rw [e, decide_eq_true rfl]
        exact q H6
end
theorem all_mk {l : PySem.W.OpenLaw} {w : World} {K : PySem.W.Frag} {h : Heap} {mg : Str → Option Value} {fa : Addr} (X : K.In h) (G : h.Ns mainGlobals mg) (hfa : mg "law" = some (.ref fa))
    {f0 : Addr} {od0 an0 : Option Addr} {sl0 : Array (Option Value)} {oc0 kV0 dc0 pm0 cd0 ct0 : Value}
    (a0 : PySem.W.nsIn K mainGlobals "has" = some (some (.ref f0))) (l0 : K.lookup f0 = some ⟨oc0, od0, .func (PySem.W.fnOf "has" "has" (defArgs s_has) (defBody s_has) (defScope s_has) .none kV0 dc0 pm0 an0 cd0 ct0), sl0⟩) (c0 : PySem.W.codeIn K cd0 "has" = true) (k0 : PySem.W.keepIn K (.ref f0) = true)
    {f1 : Addr} {od1 an1 : Option Addr} {sl1 : Array (Option Value)} {oc1 kV1 dc1 pm1 cd1 ct1 : Value}
    (a1 : PySem.W.nsIn K mainGlobals "taken_out" = some (some (.ref f1))) (l1 : K.lookup f1 = some ⟨oc1, od1, .func (PySem.W.fnOf "taken_out" "taken_out" (defArgs s_taken_out) (defBody s_taken_out) (defScope s_taken_out) .none kV1 dc1 pm1 an1 cd1 ct1), sl1⟩) (c1 : PySem.W.codeIn K cd1 "taken_out" = true) (k1 : PySem.W.keepIn K (.ref f1) = true)
    {f2 : Addr} {od2 an2 : Option Addr} {sl2 : Array (Option Value)} {oc2 kV2 dc2 pm2 cd2 ct2 : Value}
    (a2 : PySem.W.nsIn K mainGlobals "less" = some (some (.ref f2))) (l2 : K.lookup f2 = some ⟨oc2, od2, .func (PySem.W.fnOf "less" "less" (defArgs s_less) (defBody s_less) (defScope s_less) .none kV2 dc2 pm2 an2 cd2 ct2), sl2⟩) (c2 : PySem.W.codeIn K cd2 "less" = true) (k2 : PySem.W.keepIn K (.ref f2) = true)
    {f3 : Addr} {od3 an3 : Option Addr} {sl3 : Array (Option Value)} {oc3 kV3 dc3 pm3 cd3 ct3 : Value}
    (a3 : PySem.W.nsIn K mainGlobals "things_in" = some (some (.ref f3))) (l3 : K.lookup f3 = some ⟨oc3, od3, .func (PySem.W.fnOf "things_in" "things_in" (defArgs s_things_in) (defBody s_things_in) (defScope s_things_in) .none kV3 dc3 pm3 an3 cd3 ct3), sl3⟩) (c3 : PySem.W.codeIn K cd3 "things_in" = true) (k3 : PySem.W.keepIn K (.ref f3) = true)
    {f4 : Addr} {od4 an4 : Option Addr} {sl4 : Array (Option Value)} {oc4 kV4 dc4 pm4 cd4 ct4 : Value}
    (a4 : PySem.W.nsIn K mainGlobals "is_whole" = some (some (.ref f4))) (l4 : K.lookup f4 = some ⟨oc4, od4, .func (PySem.W.fnOf "is_whole" "is_whole" (defArgs s_is_whole) (defBody s_is_whole) (defScope s_is_whole) .none kV4 dc4 pm4 an4 cd4 ct4), sl4⟩) (c4 : PySem.W.codeIn K cd4 "is_whole" = true) (k4 : PySem.W.keepIn K (.ref f4) = true)
    {f5 : Addr} {od5 an5 : Option Addr} {sl5 : Array (Option Value)} {oc5 kV5 dc5 pm5 cd5 ct5 : Value}
    (a5 : PySem.W.nsIn K mainGlobals "are_wholes" = some (some (.ref f5))) (l5 : K.lookup f5 = some ⟨oc5, od5, .func (PySem.W.fnOf "are_wholes" "are_wholes" (defArgs s_are_wholes) (defBody s_are_wholes) (defScope s_are_wholes) .none kV5 dc5 pm5 an5 cd5 ct5), sl5⟩) (c5 : PySem.W.codeIn K cd5 "are_wholes" = true) (k5 : PySem.W.keepIn K (.ref f5) = true)
    {f6 : Addr} {od6 an6 : Option Addr} {sl6 : Array (Option Value)} {oc6 kV6 dc6 pm6 cd6 ct6 : Value}
    (a6 : PySem.W.nsIn K mainGlobals "are_wholes_from" = some (some (.ref f6))) (l6 : K.lookup f6 = some ⟨oc6, od6, .func (PySem.W.fnOf "are_wholes_from" "are_wholes_from" (defArgs s_are_wholes_from) (defBody s_are_wholes_from) (defScope s_are_wholes_from) .none kV6 dc6 pm6 an6 cd6 ct6), sl6⟩) (c6 : PySem.W.codeIn K cd6 "are_wholes_from" = true) (k6 : PySem.W.keepIn K (.ref f6) = true)
    {f7 : Addr} {od7 an7 : Option Addr} {sl7 : Array (Option Value)} {oc7 kV7 dc7 pm7 cd7 ct7 : Value}
    (a7 : PySem.W.nsIn K mainGlobals "show_town" = some (some (.ref f7))) (l7 : K.lookup f7 = some ⟨oc7, od7, .func (PySem.W.fnOf "show_town" "show_town" (defArgs s_show_town) (defBody s_show_town) (defScope s_show_town) .none kV7 dc7 pm7 an7 cd7 ct7), sl7⟩) (c7 : PySem.W.codeIn K cd7 "show_town" = true) (k7 : PySem.W.keepIn K (.ref f7) = true)
    {f8 : Addr} {od8 an8 : Option Addr} {sl8 : Array (Option Value)} {oc8 kV8 dc8 pm8 cd8 ct8 : Value}
    (a8 : PySem.W.nsIn K mainGlobals "in_row" = some (some (.ref f8))) (l8 : K.lookup f8 = some ⟨oc8, od8, .func (PySem.W.fnOf "in_row" "in_row" (defArgs s_in_row) (defBody s_in_row) (defScope s_in_row) .none kV8 dc8 pm8 an8 cd8 ct8), sl8⟩) (c8 : PySem.W.codeIn K cd8 "in_row" = true) (k8 : PySem.W.keepIn K (.ref f8) = true)
    {f9 : Addr} {od9 an9 : Option Addr} {sl9 : Array (Option Value)} {oc9 kV9 dc9 pm9 cd9 ct9 : Value}
    (a9 : PySem.W.nsIn K mainGlobals "is_want" = some (some (.ref f9))) (l9 : K.lookup f9 = some ⟨oc9, od9, .func (PySem.W.fnOf "is_want" "is_want" (defArgs s_is_want) (defBody s_is_want) (defScope s_is_want) .none kV9 dc9 pm9 an9 cd9 ct9), sl9⟩) (c9 : PySem.W.codeIn K cd9 "is_want" = true) (k9 : PySem.W.keepIn K (.ref f9) = true)
    {f10 : Addr} {od10 an10 : Option Addr} {sl10 : Array (Option Value)} {oc10 kV10 dc10 pm10 cd10 ct10 : Value}
    (a10 : PySem.W.nsIn K mainGlobals "never_sinks" = some (some (.ref f10))) (l10 : K.lookup f10 = some ⟨oc10, od10, .func (PySem.W.fnOf "never_sinks" "never_sinks" (defArgs s_never_sinks) (defBody s_never_sinks) (defScope s_never_sinks) .none kV10 dc10 pm10 an10 cd10 ct10), sl10⟩) (c10 : PySem.W.codeIn K cd10 "never_sinks" = true) (k10 : PySem.W.keepIn K (.ref f10) = true)
    {f11 : Addr} {od11 an11 : Option Addr} {sl11 : Array (Option Value)} {oc11 kV11 dc11 pm11 cd11 ct11 : Value}
    (a11 : PySem.W.nsIn K mainGlobals "is_sides" = some (some (.ref f11))) (l11 : K.lookup f11 = some ⟨oc11, od11, .func (PySem.W.fnOf "is_sides" "is_sides" (defArgs s_is_sides) (defBody s_is_sides) (defScope s_is_sides) .none kV11 dc11 pm11 an11 cd11 ct11), sl11⟩) (c11 : PySem.W.codeIn K cd11 "is_sides" = true) (k11 : PySem.W.keepIn K (.ref f11) = true)
    {f12 : Addr} {od12 an12 : Option Addr} {sl12 : Array (Option Value)} {oc12 kV12 dc12 pm12 cd12 ct12 : Value}
    (a12 : PySem.W.nsIn K mainGlobals "read_town" = some (some (.ref f12))) (l12 : K.lookup f12 = some ⟨oc12, od12, .func (PySem.W.fnOf "read_town" "read_town" (defArgs s_read_town) (defBody s_read_town) (defScope s_read_town) .none kV12 dc12 pm12 an12 cd12 ct12), sl12⟩) (c12 : PySem.W.codeIn K cd12 "read_town" = true) (k12 : PySem.W.keepIn K (.ref f12) = true)
    {f13 : Addr} {od13 an13 : Option Addr} {sl13 : Array (Option Value)} {oc13 kV13 dc13 pm13 cd13 ct13 : Value}
    (a13 : PySem.W.nsIn K mainGlobals "read_want" = some (some (.ref f13))) (l13 : K.lookup f13 = some ⟨oc13, od13, .func (PySem.W.fnOf "read_want" "read_want" (defArgs s_read_want) (defBody s_read_want) (defScope s_read_want) .none kV13 dc13 pm13 an13 cd13 ct13), sl13⟩) (c13 : PySem.W.codeIn K cd13 "read_want" = true) (k13 : PySem.W.keepIn K (.ref f13) = true)
    {f14 : Addr} {od14 an14 : Option Addr} {sl14 : Array (Option Value)} {oc14 kV14 dc14 pm14 cd14 ct14 : Value}
    (a14 : PySem.W.nsIn K mainGlobals "read_numbers" = some (some (.ref f14))) (l14 : K.lookup f14 = some ⟨oc14, od14, .func (PySem.W.fnOf "read_numbers" "read_numbers" (defArgs s_read_numbers) (defBody s_read_numbers) (defScope s_read_numbers) .none kV14 dc14 pm14 an14 cd14 ct14), sl14⟩) (c14 : PySem.W.codeIn K cd14 "read_numbers" = true) (k14 : PySem.W.keepIn K (.ref f14) = true)
    {f15 : Addr} {od15 an15 : Option Addr} {sl15 : Array (Option Value)} {oc15 kV15 dc15 pm15 cd15 ct15 : Value}
    (a15 : PySem.W.nsIn K mainGlobals "read_number" = some (some (.ref f15))) (l15 : K.lookup f15 = some ⟨oc15, od15, .func (PySem.W.fnOf "read_number" "read_number" (defArgs s_read_number) (defBody s_read_number) (defScope s_read_number) .none kV15 dc15 pm15 an15 cd15 ct15), sl15⟩) (c15 : PySem.W.codeIn K cd15 "read_number" = true) (k15 : PySem.W.keepIn K (.ref f15) = true)
    {f16 : Addr} {od16 an16 : Option Addr} {sl16 : Array (Option Value)} {oc16 kV16 dc16 pm16 cd16 ct16 : Value}
    (a16 : PySem.W.nsIn K mainGlobals "words_behind" = some (some (.ref f16))) (l16 : K.lookup f16 = some ⟨oc16, od16, .func (PySem.W.fnOf "words_behind" "words_behind" (defArgs s_words_behind) (defBody s_words_behind) (defScope s_words_behind) .none kV16 dc16 pm16 an16 cd16 ct16), sl16⟩) (c16 : PySem.W.codeIn K cd16 "words_behind" = true) (k16 : PySem.W.keepIn K (.ref f16) = true)
    {f17 : Addr} {od17 an17 : Option Addr} {sl17 : Array (Option Value)} {oc17 kV17 dc17 pm17 cd17 ct17 : Value}
    (a17 : PySem.W.nsIn K mainGlobals "parted" = some (some (.ref f17))) (l17 : K.lookup f17 = some ⟨oc17, od17, .func (PySem.W.fnOf "parted" "parted" (defArgs s_parted) (defBody s_parted) (defScope s_parted) .none kV17 dc17 pm17 an17 cd17 ct17), sl17⟩) (c17 : PySem.W.codeIn K cd17 "parted" = true) (k17 : PySem.W.keepIn K (.ref f17) = true)
    {f18 : Addr} {od18 an18 : Option Addr} {sl18 : Array (Option Value)} {oc18 kV18 dc18 pm18 cd18 ct18 : Value}
    (a18 : PySem.W.nsIn K mainGlobals "need" = some (some (.ref f18))) (l18 : K.lookup f18 = some ⟨oc18, od18, .func (PySem.W.fnOf "need" "need" (defArgs s_need) (defBody s_need) (defScope s_need) .none kV18 dc18 pm18 an18 cd18 ct18), sl18⟩) (c18 : PySem.W.codeIn K cd18 "need" = true) (k18 : PySem.W.keepIn K (.ref f18) = true)
    {f19 : Addr} {od19 an19 : Option Addr} {sl19 : Array (Option Value)} {oc19 kV19 dc19 pm19 cd19 ct19 : Value}
    (a19 : PySem.W.nsIn K mainGlobals "_law_box" = some (some (.ref f19))) (l19 : K.lookup f19 = some ⟨oc19, od19, .func (PySem.W.fnOf "_law_box" "_law_box" (defArgs s__law_box) (defBody s__law_box) (defScope s__law_box) .none kV19 dc19 pm19 an19 cd19 ct19), sl19⟩) (c19 : PySem.W.codeIn K cd19 "_law_box" = true) (k19 : PySem.W.keepIn K (.ref f19) = true)
    {f20 : Addr} {od20 an20 : Option Addr} {sl20 : Array (Option Value)} {oc20 kV20 dc20 pm20 cd20 ct20 : Value}
    (a20 : PySem.W.nsIn K mainGlobals "_law_take" = some (some (.ref f20))) (l20 : K.lookup f20 = some ⟨oc20, od20, .func (PySem.W.fnOf "_law_take" "_law_take" (defArgs s__law_take) (defBody s__law_take) (defScope s__law_take) .none kV20 dc20 pm20 an20 cd20 ct20), sl20⟩) (c20 : PySem.W.codeIn K cd20 "_law_take" = true) (k20 : PySem.W.keepIn K (.ref f20) = true)
    {f21 : Addr} {od21 an21 : Option Addr} {sl21 : Array (Option Value)} {oc21 kV21 dc21 pm21 cd21 ct21 : Value}
    (a21 : PySem.W.nsIn K mainGlobals "_law_many" = some (some (.ref f21))) (l21 : K.lookup f21 = some ⟨oc21, od21, .func (PySem.W.fnOf "_law_many" "_law_many" (defArgs s__law_many) (defBody s__law_many) (defScope s__law_many) .none kV21 dc21 pm21 an21 cd21 ct21), sl21⟩) (c21 : PySem.W.codeIn K cd21 "_law_many" = true) (k21 : PySem.W.keepIn K (.ref f21) = true)
    {f22 : Addr} {od22 an22 : Option Addr} {sl22 : Array (Option Value)} {oc22 kV22 dc22 pm22 cd22 ct22 : Value}
    (a22 : PySem.W.nsIn K mainGlobals "_law_want" = some (some (.ref f22))) (l22 : K.lookup f22 = some ⟨oc22, od22, .func (PySem.W.fnOf "_law_want" "_law_want" (defArgs s__law_want) (defBody s__law_want) (defScope s__law_want) .none kV22 dc22 pm22 an22 cd22 ct22), sl22⟩) (c22 : PySem.W.codeIn K cd22 "_law_want" = true) (k22 : PySem.W.keepIn K (.ref f22) = true)
    {f23 : Addr} {od23 an23 : Option Addr} {sl23 : Array (Option Value)} {oc23 kV23 dc23 pm23 cd23 ct23 : Value}
    (a23 : PySem.W.nsIn K mainGlobals "_law_same" = some (some (.ref f23))) (l23 : K.lookup f23 = some ⟨oc23, od23, .func (PySem.W.fnOf "_law_same" "_law_same" (defArgs s__law_same) (defBody s__law_same) (defScope s__law_same) .none kV23 dc23 pm23 an23 cd23 ct23), sl23⟩) (c23 : PySem.W.codeIn K cd23 "_law_same" = true) (k23 : PySem.W.keepIn K (.ref f23) = true)
    {f24 : Addr} {od24 an24 : Option Addr} {sl24 : Array (Option Value)} {oc24 kV24 dc24 pm24 cd24 ct24 : Value}
    (a24 : PySem.W.nsIn K mainGlobals "_law_written" = some (some (.ref f24))) (l24 : K.lookup f24 = some ⟨oc24, od24, .func (PySem.W.fnOf "_law_written" "_law_written" (defArgs s__law_written) (defBody s__law_written) (defScope s__law_written) .none kV24 dc24 pm24 an24 cd24 ct24), sl24⟩) (c24 : PySem.W.codeIn K cd24 "_law_written" = true) (k24 : PySem.W.keepIn K (.ref f24) = true)
    {f25 : Addr} {od25 an25 : Option Addr} {sl25 : Array (Option Value)} {oc25 kV25 dc25 pm25 cd25 ct25 : Value}
    (a25 : PySem.W.nsIn K mainGlobals "law" = some (some (.ref f25))) (l25 : K.lookup f25 = some ⟨oc25, od25, .func (PySem.W.fnOf "law" "law" (defArgs s_law) (defBody s_law) (defScope s_law) .none kV25 dc25 pm25 an25 cd25 ct25), sl25⟩) (c25 : PySem.W.codeIn K cd25 "law" = true) (k25 : PySem.W.keepIn K (.ref f25) = true)
    (z_len : PySem.W.nsIn K mainGlobals "len" = some none)
    (z_all : PySem.W.nsIn K mainGlobals "all" = some none)
    (z_isinstance : PySem.W.nsIn K mainGlobals "isinstance" = some none)
    (z_abs : PySem.W.nsIn K mainGlobals "abs" = some none)
    (z_min : PySem.W.nsIn K mainGlobals "min" = some none)
    (z_max : PySem.W.nsIn K mainGlobals "max" = some none)
    (z_range : PySem.W.nsIn K mainGlobals "range" = some none)
    (z_tuple : PySem.W.nsIn K mainGlobals "tuple" = some none)
    (z_int : PySem.W.nsIn K mainGlobals "int" = some none)
    (z_bool : PySem.W.nsIn K mainGlobals "bool" = some none)
    (z_str : PySem.W.nsIn K mainGlobals "str" = some none)
    (z_zip : PySem.W.nsIn K mainGlobals "zip" = some none)
    {u_MOST_THINGS : Tok} (y_MOST_THINGS : PySem.W.nsIn K mainGlobals "MOST_THINGS" = some (some (.int 5 u_MOST_THINGS)))
    {u_MOST_HANDS : Tok} (y_MOST_HANDS : PySem.W.nsIn K mainGlobals "MOST_HANDS" = some (some (.int 5 u_MOST_HANDS)))
    {u_MOST_FIGURES : Tok} (y_MOST_FIGURES : PySem.W.nsIn K mainGlobals "MOST_FIGURES" = some (some (.int 9 u_MOST_FIGURES)))
    {u_MOST_WORTH : Tok} (y_MOST_WORTH : PySem.W.nsIn K mainGlobals "MOST_WORTH" = some (some (.int 1000 u_MOST_WORTH)))
    : ∃ fd : FuncData, (∀ (s : Shared) (v : Value), BindsTo s fd ⟨[v], []⟩ [("_law_script", v)]) ∧ ∀ base : Heap, K.In base → base.Ns mainGlobals mg → FnOk l.prog w K mg base CX0 7 fa fd ["_law_script"] (sp_law K) := by
  have e := hfa.symm.trans (PySem.W.mg_of X G a25)
  cases e
  have T : Txt mg := ⟨PySem.W.mg_none_of X G z_len, PySem.W.mg_none_of X G z_all, PySem.W.mg_none_of X G z_isinstance, PySem.W.mg_none_of X G z_abs, PySem.W.mg_none_of X G z_min, PySem.W.mg_none_of X G z_max, PySem.W.mg_none_of X G z_range, PySem.W.mg_none_of X G z_tuple, PySem.W.mg_none_of X G z_int, PySem.W.mg_none_of X G z_bool, PySem.W.mg_none_of X G z_str, PySem.W.mg_none_of X G z_zip, ⟨_, PySem.W.mg_of X G y_MOST_THINGS⟩, ⟨_, PySem.W.mg_of X G y_MOST_HANDS⟩, ⟨_, PySem.W.mg_of X G y_MOST_FIGURES⟩, ⟨_, PySem.W.mg_of X G y_MOST_WORTH⟩⟩
  have F_has := fun_mk (st := s_has) l0 c0 k0
  have m_has := PySem.W.mg_of X G a0
  have b_has := F_has.binds (ps := ["heap", "thing"]) fun _ _ _ _ _ _ => L2.us2 (fun _ _ => rfl)
  have F_taken_out := fun_mk (st := s_taken_out) l1 c1 k1
  have m_taken_out := PySem.W.mg_of X G a1
  have b_taken_out := F_taken_out.binds (ps := ["heap", "thing"]) fun _ _ _ _ _ _ => L2.us2 (fun _ _ => rfl)
  have F_less := fun_mk (st := s_less) l2 c2 k2
  have m_less := PySem.W.mg_of X G a2
  have b_less := F_less.binds (ps := ["one", "other"]) fun _ _ _ _ _ _ => L2.us2 (fun _ _ => rfl)
  have F_things_in := fun_mk (st := s_things_in) l3 c3 k3
  have m_things_in := PySem.W.mg_of X G a3
  have b_things_in := F_things_in.binds (ps := ["heap"]) fun _ _ _ _ _ _ => L2.us1 (fun _ => rfl)
  have F_is_whole := fun_mk (st := s_is_whole) l4 c4 k4
  have m_is_whole := PySem.W.mg_of X G a4
  have b_is_whole := F_is_whole.binds (ps := ["thing"]) fun _ _ _ _ _ _ => L2.us1 (fun _ => rfl)
  have F_are_wholes := fun_mk (st := s_are_wholes) l5 c5 k5
  have m_are_wholes := PySem.W.mg_of X G a5
  have b_are_wholes := F_are_wholes.binds (ps := ["thing", "many"]) fun _ _ _ _ _ _ => L2.us2 (fun _ _ => rfl)
  have F_are_wholes_from := fun_mk (st := s_are_wholes_from) l6 c6 k6
  have m_are_wholes_from := PySem.W.mg_of X G a6
  have b_are_wholes_from := F_are_wholes_from.binds (ps := ["thing", "many", "least"]) fun _ _ _ _ _ _ => L2.us3 (fun _ _ _ => rfl)
  have F_show_town := fun_mk (st := s_show_town) l7 c7 k7
  have m_show_town := PySem.W.mg_of X G a7
  have b_show_town := F_show_town.binds (ps := ["town"]) fun _ _ _ _ _ _ => L2.us1 (fun _ => rfl)
  have F_in_row := fun_mk (st := s_in_row) l8 c8 k8
  have m_in_row := PySem.W.mg_of X G a8
  have b_in_row := F_in_row.binds (ps := ["parts"]) fun _ _ _ _ _ _ => L2.us1 (fun _ => rfl)
  have F_is_want := fun_mk (st := s_is_want) l9 c9 k9
  have m_is_want := PySem.W.mg_of X G a9
  have b_is_want := F_is_want.binds (ps := ["thing", "many"]) fun _ _ _ _ _ _ => L2.us2 (fun _ _ => rfl)
  have F_never_sinks := fun_mk (st := s_never_sinks) l10 c10 k10
  have m_never_sinks := PySem.W.mg_of X G a10
  have b_never_sinks := F_never_sinks.binds (ps := ["worths"]) fun _ _ _ _ _ _ => L2.us1 (fun _ => rfl)
  have F_is_sides := fun_mk (st := s_is_sides) l11 c11 k11
  have m_is_sides := PySem.W.mg_of X G a11
  have b_is_sides := F_is_sides.binds (ps := ["thing"]) fun _ _ _ _ _ _ => L2.us1 (fun _ => rfl)
  have F_read_town := fun_mk (st := s_read_town) l12 c12 k12
  have m_read_town := PySem.W.mg_of X G a12
  have b_read_town := F_read_town.binds (ps := ["text"]) fun _ _ _ _ _ _ => L2.us1 (fun _ => rfl)
  have F_read_want := fun_mk (st := s_read_want) l13 c13 k13
  have m_read_want := PySem.W.mg_of X G a13
  have b_read_want := F_read_want.binds (ps := ["words", "many"]) fun _ _ _ _ _ _ => L2.us2 (fun _ _ => rfl)
  have F_read_numbers := fun_mk (st := s_read_numbers) l14 c14 k14
  have m_read_numbers := PySem.W.mg_of X G a14
  have b_read_numbers := F_read_numbers.binds (ps := ["words"]) fun _ _ _ _ _ _ => L2.us1 (fun _ => rfl)
  have F_read_number := fun_mk (st := s_read_number) l15 c15 k15
  have m_read_number := PySem.W.mg_of X G a15
  have b_read_number := F_read_number.binds (ps := ["word"]) fun _ _ _ _ _ _ => L2.us1 (fun _ => rfl)
  have F_words_behind := fun_mk (st := s_words_behind) l16 c16 k16
  have m_words_behind := PySem.W.mg_of X G a16
  have b_words_behind := F_words_behind.binds (ps := ["word", "line"]) fun _ _ _ _ _ _ => L2.us2 (fun _ _ => rfl)
  have F_parted := fun_mk (st := s_parted) l17 c17 k17
  have m_parted := PySem.W.mg_of X G a17
  have b_parted := F_parted.binds (ps := ["thing", "mark"]) fun _ _ _ _ _ _ => L2.us2 (fun _ _ => rfl)
  have F_need := fun_mk (st := s_need) l18 c18 k18
  have m_need := PySem.W.mg_of X G a18
  have b_need := F_need.binds (ps := ["holds", "why"]) fun _ _ _ _ _ _ => L2.us2 (fun _ _ => rfl)
  have F__law_box := fun_mk (st := s__law_box) l19 c19 k19
  have m__law_box := PySem.W.mg_of X G a19
  have b__law_box := F__law_box.binds (ps := ["_law_script", "_law_k"]) fun _ _ _ _ _ _ => L2.us2 (fun _ _ => rfl)
  have F__law_take := fun_mk (st := s__law_take) l20 c20 k20
  have m__law_take := PySem.W.mg_of X G a20
  have b__law_take := F__law_take.binds (ps := ["_law_box_here", "_law_many_here"]) fun _ _ _ _ _ _ => L2.us2 (fun _ _ => rfl)
  have F__law_many := fun_mk (st := s__law_many) l21 c21 k21
  have m__law_many := PySem.W.mg_of X G a21
  have b__law_many := F__law_many.binds (ps := ["_law_box_here"]) fun _ _ _ _ _ _ => L2.us1 (fun _ => rfl)
  have F__law_want := fun_mk (st := s__law_want) l22 c22 k22
  have m__law_want := PySem.W.mg_of X G a22
  have b__law_want := F__law_want.binds (ps := ["_law_box_here", "_law_many_here"]) fun _ _ _ _ _ _ => L2.us2 (fun _ _ => rfl)
  have F__law_same := fun_mk (st := s__law_same) l23 c23 k23
  have m__law_same := PySem.W.mg_of X G a23
  have b__law_same := F__law_same.binds (ps := ["_law_found", "_law_due"]) fun _ _ _ _ _ _ => L2.us2 (fun _ _ => rfl)
  have F__law_written := fun_mk (st := s__law_written) l24 c24 k24
  have m__law_written := PySem.W.mg_of X G a24
  have b__law_written := F__law_written.binds (ps := ["_law_sides", "_law_wants"]) fun _ _ _ _ _ _ => L2.us2 (fun _ _ => rfl)
  have F_law := fun_mk (st := s_law) l25 c25 k25
  have m_law := PySem.W.mg_of X G a25
  have b_law := F_law.binds (ps := ["_law_script"]) fun _ _ _ _ _ _ => L2.us1 (fun _ => rfl)
  refine ⟨PySem.W.fnOf "law" "law" (defArgs s_law) (defBody s_law) (defScope s_law) .none kV25 dc25 pm25 an25 cd25 ct25, fun s v => .of_eq rfl, fun base _ _ => ?_⟩
  have c_has := ok_has (P := l.prog) (w := w) (base := base) F_has m_has b_has T
  have c_take := ok_take (P := l.prog) (w := w) (base := base) F__law_take m__law_take b__law_take T
  have c_box := ok_box (P := l.prog) (w := w) (base := base) F__law_box m__law_box b__law_box T
  have c_things := ok_things (P := l.prog) (w := w) (base := base) F_things_in m_things_in b_things_in T c_has
  have c_less := ok_less (P := l.prog) (w := w) (base := base) F_less m_less b_less T
  have c_taken := ok_taken (P := l.prog) (w := w) (base := base) F_taken_out m_taken_out b_taken_out T c_less
  have c_whole := ok_whole (P := l.prog) (w := w) (base := base) F_is_whole m_is_whole b_is_whole T
  have c_wholes := ok_wholes (P := l.prog) (w := w) (base := base) F_are_wholes m_are_wholes b_are_wholes T c_whole
  have c_from := ok_from (P := l.prog) (w := w) (base := base) F_are_wholes_from m_are_wholes_from b_are_wholes_from T c_wholes
  have c_sinks := ok_sinks (P := l.prog) (w := w) (base := base) F_never_sinks m_never_sinks b_never_sinks T c_things c_taken
  have c_want := ok_want (P := l.prog) (w := w) (base := base) F_is_want m_is_want b_is_want T c_from c_sinks
  have c_many := ok_many (P := l.prog) (w := w) (base := base) F__law_many m__law_many b__law_many T c_take
  have c_lwant := ok_lwant (P := l.prog) (w := w) (base := base) F__law_want m__law_want b__law_want T c_take
  have c_row := ok_row (P := l.prog) (w := w) (base := base) F_in_row m_in_row b_in_row T
  have c_stown := ok_stown (P := l.prog) (w := w) (base := base) F_show_town m_show_town b_show_town T c_row
  have c_need := ok_need (P := l.prog) (w := w) (base := base) F_need m_need b_need T
  have c_parted := ok_parted (P := l.prog) (w := w) (base := base) F_parted m_parted b_parted T c_need
  have c_number := ok_number (P := l.prog) (w := w) (base := base) F_read_number m_read_number b_read_number T c_need
  have c_rnums := ok_rnums (P := l.prog) (w := w) (base := base) F_read_numbers m_read_numbers b_read_numbers T c_number
  have c_behind := ok_behind (P := l.prog) (w := w) (base := base) F_words_behind m_words_behind b_words_behind T c_need
  have c_sides := ok_sides (P := l.prog) (w := w) (base := base) F_is_sides m_is_sides b_is_sides T c_from
  have c_rwant := ok_rwant (P := l.prog) (w := w) (base := base) F_read_want m_read_want b_read_want T c_need c_rnums c_want
  have c_rtown := ok_rtown (P := l.prog) (w := w) (base := base) F_read_town m_read_town b_read_town T c_need c_parted c_behind c_rnums c_sides c_rwant
  have c_sv0 := cal_sv0 (P := l.prog) (w := w) (base := base) F__law_same m__law_same b__law_same
  have c_sv1 := ok_sv (P := l.prog) (w := w) (base := base) F__law_same m__law_same b__law_same T 0 c_sv0
  have c_sv2 := ok_sv (P := l.prog) (w := w) (base := base) F__law_same m__law_same b__law_same T 1 c_sv1
  have c_sv3 := ok_sv (P := l.prog) (w := w) (base := base) F__law_same m__law_same b__law_same T 2 c_sv2
  have c_sv4 := ok_sv (P := l.prog) (w := w) (base := base) F__law_same m__law_same b__law_same T 3 c_sv3
  have c_written := ok_written (P := l.prog) (w := w) (base := base) F__law_written m__law_written b__law_written T
  exact ok_law (P := l.prog) (w := w) (base := base) F_law T c_box c_take c_many c_lwant c_stown c_written c_sv4 c_rtown
theorem walk {l : PySem.W.OpenLaw} {q : Program} {loose : List Str} {XP : (Str → Option Value) → Heap → Prop} {YP : World → Heap → Prop} {d : DefRec} {K : Params → PySem.W.Frag} (hn : l.most = some 63) (hdf : d.params.defaults = [])
    (hY : ∀ (w : World) (h : Heap), YP w h → (K w.params).In h)
    (F : ∀ (w : World) (mg : Str → Option Value) (fa : Addr) (h : Heap), (K w.params).In h → h.Ns mainGlobals mg → mg d.name = some (.ref fa) →
      ∃ fd : FuncData, (∀ (s : Shared) (u : Value), BindsTo s fd ⟨[u], []⟩ [("_law_script", u)]) ∧ ∀ base : Heap, (K w.params).In base → base.Ns mainGlobals mg → FnOk l.prog w (K w.params) mg base CX0 7 fa fd ["_law_script"] (sp_law (K w.params))) :
    PySem.W.WalkO q loose XP YP l.row.toRowW d [] (fun f vs => PySem.call f vs) :=
  L2.walk_of (n := 63) (k := 7) (x := "_law_script") (CX := fun _ => CX0) (sp := fun w => sp_law (K w.params)) hn (by decide) hdf ⟨rfl, by decide, by decide, rfl⟩ hY F (fun w H a ns hl hO hS => ⟨a, ns, rfl, hS, hl, fun _ => rfl⟩) fun _ _ _ _ _ z => z
end K78
end
end
end
section
set_option Elab.async false
set_option linter.all false
open PySem PySem.W PyProof.Rows
set_option maxRecDepth 100000 in
set_option maxHeartbeats 0 in
theorem PySem.Challenge.cw_wantprices_k78_towns_written_holds : PySem.Challenge.rw_wantprices_k78_towns_written.Holds := by
  w_on; o_law; k_head; (case hw => w_witness2)
  k_fill
  refine K78.walk (l := PySem.Challenge.rw_wantprices_k78_towns_written) rfl rfl (fun w h Y => by first | exact PySem.W.kIn_of Y | exact PySem.W.km_in_of Y) ?F
  case F =>
    intro w mg fa h KX G hmg
    refine' K78.all_mk KX G hmg ?a0 ?l0 ?c0 ?k0 ?a1 ?l1 ?c1 ?k1 ?a2 ?l2 ?c2 ?k2 ?a3 ?l3 ?c3 ?k3 ?a4 ?l4 ?c4 ?k4 ?a5 ?l5 ?c5 ?k5 ?a6 ?l6 ?c6 ?k6 ?a7 ?l7 ?c7 ?k7 ?a8 ?l8 ?c8 ?k8 ?a9 ?l9 ?c9 ?k9 ?a10 ?l10 ?c10 ?k10 ?a11 ?l11 ?c11 ?k11 ?a12 ?l12 ?c12 ?k12 ?a13 ?l13 ?c13 ?k13 ?a14 ?l14 ?c14 ?k14 ?a15 ?l15 ?c15 ?k15 ?a16 ?l16 ?c16 ?k16 ?a17 ?l17 ?c17 ?k17 ?a18 ?l18 ?c18 ?k18 ?a19 ?l19 ?c19 ?k19 ?a20 ?l20 ?c20 ?k20 ?a21 ?l21 ?c21 ?k21 ?a22 ?l22 ?c22 ?k22 ?a23 ?l23 ?c23 ?k23 ?a24 ?l24 ?c24 ?k24 ?a25 ?l25 ?c25 ?k25 ?z_len ?z_all ?z_isinstance ?z_abs ?z_min ?z_max ?z_range ?z_tuple ?z_int ?z_bool ?z_str ?z_zip ?y_MOST_THINGS ?y_MOST_HANDS ?y_MOST_FIGURES ?y_MOST_WORTH
    (case a0 => k_is)
    (case l0 => k_is)
    (case c0 => k_is)
    (case k0 => k_is)
    (case a1 => k_is)
    (case l1 => k_is)
    (case c1 => k_is)
    (case k1 => k_is)
    (case a2 => k_is)
    (case l2 => k_is)
    (case c2 => k_is)
    (case k2 => k_is)
    (case a3 => k_is)
    (case l3 => k_is)
    (case c3 => k_is)
    (case k3 => k_is)
    (case a4 => k_is)
    (case l4 => k_is)
    (case c4 => k_is)
    (case k4 => k_is)
    (case a5 => k_is)
    (case l5 => k_is)
    (case c5 => k_is)
    (case k5 => k_is)
    (case a6 => k_is)
    (case l6 => k_is)
    (case c6 => k_is)
    (case k6 => k_is)
    (case a7 => k_is)
    (case l7 => k_is)
    (case c7 => k_is)
    (case k7 => k_is)
    (case a8 => k_is)
    (case l8 => k_is)
    (case c8 => k_is)
    (case k8 => k_is)
    (case a9 => k_is)
    (case l9 => k_is)
    (case c9 => k_is)
    (case k9 => k_is)
    (case a10 => k_is)
    (case l10 => k_is)
    (case c10 => k_is)
    (case k10 => k_is)
    (case a11 => k_is)
    (case l11 => k_is)
    (case c11 => k_is)
    (case k11 => k_is)
    (case a12 => k_is)
    (case l12 => k_is)
    (case c12 => k_is)
    (case k12 => k_is)
    (case a13 => k_is)
    (case l13 => k_is)
    (case c13 => k_is)
    (case k13 => k_is)
    (case a14 => k_is)
    (case l14 => k_is)
    (case c14 => k_is)
    (case k14 => k_is)
    (case a15 => k_is)
    (case l15 => k_is)
    (case c15 => k_is)
    (case k15 => k_is)
    (case a16 => k_is)
    (case l16 => k_is)
    (case c16 => k_is)
    (case k16 => k_is)
    (case a17 => k_is)
    (case l17 => k_is)
    (case c17 => k_is)
    (case k17 => k_is)
    (case a18 => k_is)
    (case l18 => k_is)
    (case c18 => k_is)
    (case k18 => k_is)
    (case a19 => k_is)
    (case l19 => k_is)
    (case c19 => k_is)
    (case k19 => k_is)
    (case a20 => k_is)
    (case l20 => k_is)
    (case c20 => k_is)
    (case k20 => k_is)
    (case a21 => k_is)
    (case l21 => k_is)
    (case c21 => k_is)
    (case k21 => k_is)
    (case a22 => k_is)
    (case l22 => k_is)
    (case c22 => k_is)
    (case k22 => k_is)
    (case a23 => k_is)
    (case l23 => k_is)
    (case c23 => k_is)
    (case k23 => k_is)
    (case a24 => k_is)
    (case l24 => k_is)
    (case c24 => k_is)
    (case k24 => k_is)
    (case a25 => k_is)
    (case l25 => k_is)
    (case c25 => k_is)
    (case k25 => k_is)
    (case z_len => k_is)
    (case z_all => k_is)
    (case z_isinstance => k_is)
    (case z_abs => k_is)
    (case z_min => k_is)
    (case z_max => k_is)
    (case z_range => k_is)
    (case z_tuple => k_is)
    (case z_int => k_is)
    (case z_bool => k_is)
    (case z_str => k_is)
    (case z_zip => k_is)
    (case y_MOST_THINGS => k_is)
    (case y_MOST_HANDS => k_is)
    (case y_MOST_FIGURES => k_is)
    (case y_MOST_WORTH => k_is)
end
