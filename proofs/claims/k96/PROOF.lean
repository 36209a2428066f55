import PyProof.Rows.All
import Wide.All
import OpenK.AllK
import Wide.FinOn
import Lean
import PyProof.EqAt
import PyProof.EqKinds
import PyProof.TupleCall
import PyProof.MinMaxWalk
import PySem.Challenge.RW_wantprices_k96_whole_made_wants_of_their
set_option compiler.extract_closed false
set_option genSizeOfSpec false
section
set_option Elab.async false
set_option linter.all false
set_option maxRecDepth 100000
namespace L2
open PySem PySem.Spec PyProof.Rows
noncomputable abbrev Key:=Sum Int Str
noncomputable def keyIs:Key→Value→Bool
 | .inl k,v=>Value.isInt k v
 | .inr x,v=>Value.isStrOf x v
noncomputable def keyH (w:World):Key→Int
 | .inl k=>hashInt k
 | .inr x=>hashStr w x
theorem keyIs_shape:∀ {k:Key} {v:Value},keyIs k v=true→(∃ i t,k=Sum.inl i∧v=Value.int i t)∨(∃ x t,k=Sum.inr x∧v=Value.str x t)
 | .inl i,v,h=>by
  obtain ⟨t,e⟩:=Value.isInt_shape (k:=i) (v:=v) h
  exact .inl ⟨i,t,rfl,e⟩
 | .inr x,v,h=>by
  obtain ⟨t,e⟩:=Value.isStrOf_shape (x:=x) (v:=v) h
  exact .inr ⟨x,t,rfl,e⟩
theorem key_ll (a b:Int):decide ((Sum.inl a:Key)=Sum.inl b)=(a == b):=by
 by_cases e:a=b
 ·subst e;simp
 ·have h:¬ (Sum.inl a:Key)=Sum.inl b:=fun q=>e (Sum.inl.inj q)
  rw [decide_eq_false h]
  exact (beq_eq_false_iff_ne.mpr e).symm
theorem key_rr (a b:Str):decide ((Sum.inr a:Key)=Sum.inr b)=decide (a=b):=by
 by_cases e:a=b
 ·subst e;simp
 ·have h:¬ (Sum.inr a:Key)=Sum.inr b:=fun q=>e (Sum.inr.inj q)
  rw [decide_eq_false h,decide_eq_false e]
theorem key_lr (a:Int) (b:Str):decide ((Sum.inl a:Key)=Sum.inr b)=false:=decide_eq_false (fun q=>nomatch q)
theorem key_rl (a:Str) (b:Int):decide ((Sum.inr a:Key)=Sum.inl b)=false:=decide_eq_false (fun q=>nomatch q)
noncomputable def mixKind (prog:Program) (w:World):PySem.KeyKind prog w Key where
 is:=keyIs
 hash:=keyH w
 inj:=fun v a b ha hb=>by
  rcases keyIs_shape ha with ⟨i,t,rfl,rfl⟩ | ⟨x,t,rfl,rfl⟩
  ·rcases keyIs_shape hb with ⟨j,u,rfl,e⟩ | ⟨y,u,rfl,e⟩
   ·injection e with e1 _;rw [e1]
   ·exact nomatch e
  ·rcases keyIs_shape hb with ⟨j,u,rfl,e⟩ | ⟨y,u,rfl,e⟩
   ·exact nomatch e
   ·injection e with e1 _;rw [e1]
 byValue:=fun k v h=>by
  rcases keyIs_shape h with ⟨i,t,rfl,rfl⟩ | ⟨x,t,rfl,rfl⟩ <;> rfl
 pyHash:=fun hv h=>by
  rcases keyIs_shape hv with ⟨i,t,rfl,rfl⟩ | ⟨x,t,rfl,rfl⟩
  ·exact wpAny_pyHash_int h
  ·exact wpAny_pyHash_str h
 eqBool:=fun hu hv h=>by
  rcases keyIs_shape hu with ⟨i,t,rfl,rfl⟩ | ⟨x,t,rfl,rfl⟩
  ·rcases keyIs_shape hv with ⟨j,u,rfl,rfl⟩ | ⟨y,u,rfl,rfl⟩
   ·rw [key_ll] at h;exact wpAny_eqBool_int h
   ·rw [key_lr] at h;exact SeqAt.EqAt.int_str i t y u _ _ _ _ h
  ·rcases keyIs_shape hv with ⟨j,u,rfl,rfl⟩ | ⟨y,u,rfl,rfl⟩
   ·rw [key_rl] at h;exact SeqAt.EqAt.str_int x t j u _ _ _ _ h
   ·rw [key_rr] at h;exact wpAny_eqBool_str h
 «strs» := fun k x t v h=>by
  rcases keyIs_shape h with ⟨i,u,rfl,e⟩ | ⟨y,u,rfl,e⟩
  ·exact nomatch e
  ·injection e with e1 _
   subst e1
   cases v <;> rfl
end L2
namespace L2
open PySem PySem.Spec PyProof.Rows
inductive V where
 | non | bl (b:Bool) | int (i:Int) | str (x:Str) | byt (b:Array UInt8) | flt (b:UInt64) | ref (a:Addr) | ty (n:String)
 deriving DecidableEq
noncomputable def RelV:V→Value→Prop
 | .non,u=>u=Value.none
 | .bl b,u=>u=Value.bool b
 | .int i,u=>∃ t,u=Value.int i t
 | .str x,u=>∃ t,u=Value.str x t
 | .byt b,u=>∃ t,u=Value.bytes b t
 | .flt b,u=>∃ t,u=Value.float b t
 | .ref a,u=>u=Value.ref a
 | .ty n,u=>u=Value.type n
noncomputable abbrev Vals:List V→List Value→Prop:=Paired RelV
theorem Vals.length {xs:List V} {us:List Value} (r:Vals xs us):xs.length=us.length:=Paired.length r
theorem Vals.get:∀ {xs:List V} {us:List Value} {i:Nat} {x:V},Vals xs us→xs[i]? = some x→∃ u,us[i]? = some u∧RelV x u
 | _,_,_,_,.nil,e=>by simp at e
 | _,_,0,_,.cons r _,e=>by simp at e;subst e;exact ⟨_,rfl,r⟩
 | _,_,i + 1,x,.cons _ t,e=>by
  obtain ⟨u,h1,h2⟩:=Vals.get (i:=i) (x:=x) t (by simpa using e)
  exact ⟨u,by simpa using h1,h2⟩
theorem Vals.set {x:V} {u:Value} (r:RelV x u):∀ {xs:List V} {us:List Value} (i:Nat),Vals xs us→Vals (xs.set i x) (us.set i u)
 | _,_,_,.nil=>.nil
 | _,_,0,.cons _ t=>.cons r t
 | _,_,i + 1,.cons q t=>.cons q (Vals.set r i t)
theorem Vals.append:∀ {xs ys:List V} {us ws:List Value},Vals xs us→Vals ys ws→Vals (xs ++ ys) (us ++ ws)
 | _,_,_,_,.nil,s=>s
 | _,_,_,_,.cons r t,s=>.cons r (Vals.append t s)
theorem Vals.take:∀ {xs:List V} {us:List Value} (n:Nat),Vals xs us→Vals (xs.take n) (us.take n)
 | _,_,0,_=>.nil
 | _,_,_ + 1,.nil=>.nil
 | _,_,n + 1,.cons r t=>.cons r (Vals.take n t)
theorem Vals.drop:∀ {xs:List V} {us:List Value} (n:Nat),Vals xs us→Vals (xs.drop n) (us.drop n)
 | _,_,0,r=>r
 | _,_,_ + 1,.nil=>.nil
 | _,_,n + 1,.cons _ t=>Vals.drop n t
noncomputable def RelO:Option V→Option Value→Prop
 | some v,some u=>RelV v u
 | none,none=>True
 | _,_=>False
noncomputable def KV {κ:Type}:List (κ × V)→List (κ × Value)→Prop:=Paired fun (p:κ × V) (q:κ × Value)=>p.1=q.1∧RelV p.2 q.2
noncomputable def kV:Key→V
 | .inl i=>.int i
 | .inr x=>.str x
inductive HO where
 | lst (xs:List V)
 | tup (xs:List V)
 | dK (kvs:List (Key × V)) | dT (kvs:List (List Key × V))
 | set (S:Int→Bool) (n:Nat)
 | ins (C dx:Addr) (fs:List (Str × V))
 | own (x:Addr)
 | xd (fs:List (Str × V))
 | met (f x:Addr)
 | rng (lo hi:Int)
 | frz (o:Obj) (u:HO)
 | tbl (ps:Array Value)
 | ext (φ:Heap→Prop)
noncomputable abbrev Hp:=Addr→Option HO
noncomputable def upd (H:Hp) (a:Addr) (o:HO):Hp:=fun b=>if b=a then some o else H b
theorem upd_same {H:Hp} {a:Addr} {o:HO}:upd H a o a=some o:=by unfold upd;rw [if_pos rfl]
theorem upd_ne {H:Hp} {a b:Addr} {o:HO} (h:b ≠ a):upd H a o b=H b:=by unfold upd;rw [if_neg h]
theorem upd_upd {H:Hp} {a:Addr} {o u:HO}:upd (upd H a o) a u=upd H a u:=by
 funext b;unfold upd;split <;> rfl
theorem ne_of_none {H:Hp} {a b:Addr} {o:HO} (h:H a=some o) (h':H b=none):a ≠ b:=by
 intro e;subst e;rw [h] at h';cases h'
section
variable (P:Program) (w:World)
noncomputable def ObjOk (H:Hp) (h:Heap) (a:Addr):HO→Prop
 | .lst xs=>xs.length ≤ sizeLine∧∃ (its:List Value) (n:Nat),Vals xs its∧h.get? a=some { cls:=.type "list",data:=.seq its.toArray n }
 | .tup xs=>xs.length ≤ sizeLine∧∃ its:List Value,Vals xs its∧IsTup h a its.toArray
 | .dK kvs=>kvs.length ≤ sizeLine∧(a == sysModules)=false∧∃ vs,KV kvs vs∧h.DictOf (mixKind P w) a vs
 | .dT kvs=>kvs.length ≤ sizeLine∧(a == sysModules)=false∧∃ xs:List (List Key × Addr × Value),
   Paired (fun (p:List Key × V) (q:List Key × Addr × Value)=>p.1=q.1∧H q.2.1=some (.tup (p.1.map kV))∧RelV p.2 q.2.2) kvs xs ∧
   ∃ o es ep,h.get? a=some o∧o.ExactDict∧o.data = .dict es ep∧es.toList=xs.map (entryOfKey (tupleKind (mixKind P w)))∧(xs.map (·.1)).Nodup
 | .set S n=>h.SetOf (intKind P w) a S n
 | .ins C dx fs=>H dx=some (.own a)∧fs.length ≤ 1000∧dx ≠ a∧h.get? a=some (PySem.W.instObj C dx) ∧
   ∃ mA,h.Ns1 dx mA∧(∀ f,RelO (fs.lookup f) (mA f))∧PySem.Within mA (fs.map (·.1))
 | .own _=>∃ o,h.get? a=some o
 | .xd fs=>∃ mA,h.Ns1 a mA∧∀ f,RelO (fs.lookup f) (mA f)
 | .rng lo hi=>∃ t u v,h.get? a=some { cls:=.type "range",data:=.fields #[.int lo t,.int hi u,.int 1 v] }
 | .frz o u=>h.get? a=some o∧ObjOk H h a u
 | .tbl ps=>h.get? a=some { cls:=.none,data:=.fields ps }
 | .met f x=>h.get? a=some (PySem.W.methodObj (.ref f) (.ref x))
 | .ext φ=>φ h∧(∃ o,h.get? a=some o)∧∀ h1 h2:Heap,φ h1→(∀ o,h1.get? a=some o→h2.get? a=some o)→φ h2
noncomputable def HOk (H:Hp) (h:Heap):Prop:=∀ a o,H a=some o→ObjOk P w H h a o
end
section
variable {P:Program} {w:World} {H H':Hp} {h h':Heap} {a:Addr} {o:HO}
theorem ObjOk.lt (x:ObjOk P w H h a o):a < h.objs.size:=by
 cases o with
 | lst xs=>obtain ⟨_,_,_,_,e⟩:=x;exact Heap.lt_size e
 | tup xs=>obtain ⟨_,_,_,p⟩:=x;exact p.lt
 | dK kvs=>obtain ⟨_,_,_,_,o,_,_,e,_⟩:=x;exact Heap.lt_size e
 | dT kvs=>obtain ⟨_,_,_,_,o,_,_,e,_⟩:=x;exact Heap.lt_size e
 | set S n=>obtain ⟨o,_,_,_,e,_⟩:=x;exact Heap.lt_size e
 | ins C dx fs=>obtain ⟨_,_,_,e,_⟩:=x;exact Heap.lt_size e
 | own y=>obtain ⟨_,e⟩:=x;exact Heap.lt_size e
 | xd fs=>obtain ⟨_,⟨_,_,_,e,_⟩,_⟩:=x;exact Heap.lt_size e
 | rng lo hi=>obtain ⟨_,_,_,e⟩:=x;exact Heap.lt_size e
 | frz ob u=>obtain ⟨e,_⟩:=x;exact Heap.lt_size e
 | tbl ps=>exact Heap.lt_size (show h.get? a=some _ from x)
 | met f y=>exact Heap.lt_size (show h.get? a=some _ from x)
 | ext φ=>obtain ⟨_,⟨_,e⟩,_⟩:=x;exact Heap.lt_size e
theorem Paired.mapP {α β:Type} {F G:α→β→Prop}:∀ {l₁:List α} {l₂:List β},Paired F l₁ l₂→(∀ a b,F a b→G a b)→Paired G l₁ l₂
 | _,_,.nil,_=>.nil
 | _,_,.cons r t,f=>.cons (f _ _ r) (Paired.mapP t f)
theorem ObjOk.stay (x:ObjOk P w H h a o) (k:∀ b u,(b=a∨H b=some (.own a))→h.get? b=some u→h'.get? b=some u)
  (ho:∀ b,H b=some (.own a)→H' b=some (.own a)) (ht:∀ b xs,H b=some (.tup xs)→H' b=some (.tup xs)):ObjOk P w H' h' a o:=by
 induction o with
 | lst xs=>obtain ⟨z,its,n,r,e⟩:=x;exact ⟨z,its,n,r,k _ _ (.inl rfl) e⟩
 | tup xs=>obtain ⟨z,its,r,ob,e,c⟩:=x;exact ⟨z,its,r,ob,k _ _ (.inl rfl) e,c⟩
 | dK kvs=>obtain ⟨z,y,vs,r,ob,es,ep,e,c⟩:=x;exact ⟨z,y,vs,r,ob,es,ep,k _ _ (.inl rfl) e,c⟩
 | dT kvs =>
  obtain ⟨z,y,xs,r,ob,es,ep,e,c⟩:=x
  exact ⟨z,y,xs,Paired.mapP r fun p q z=>⟨z.1,ht _ _ z.2.1,z.2.2⟩,ob,es,ep,k _ _ (.inl rfl) e,c⟩
 | set S n=>obtain ⟨ob,es,ep,t,e,c⟩:=x;exact ⟨ob,es,ep,t,k _ _ (.inl rfl) e,c⟩
 | ins C dx fs =>
  obtain ⟨d,z,ne,e,mA,⟨od,es,ep,e2,c⟩,r⟩:=x
  exact ⟨ho _ d,z,ne,k _ _ (.inl rfl) e,mA,⟨od,es,ep,k _ _ (.inr d) e2,c⟩,r⟩
 | own y=>obtain ⟨ob,e⟩:=x;exact ⟨ob,k _ _ (.inl rfl) e⟩
 | xd fs=>obtain ⟨mA,⟨od,es,ep,e,c⟩,r⟩:=x;exact ⟨mA,⟨od,es,ep,k _ _ (.inl rfl) e,c⟩,r⟩
 | rng lo hi=>obtain ⟨t,u,v,e⟩:=x;exact ⟨t,u,v,k _ _ (.inl rfl) e⟩
 | frz ob u ih=>obtain ⟨e,q⟩:=x;exact ⟨k _ _ (.inl rfl) e,ih q⟩
 | tbl ps =>
  have e:h.get? a=some { cls:=.none,data:=.fields ps }:=x
  show h'.get? a=some { cls:=.none,data:=.fields ps }
  exact k a _ (.inl rfl) e
 | met f y =>
  have e:h.get? a=some (PySem.W.methodObj (.ref f) (.ref y)):=x
  show h'.get? a=some (PySem.W.methodObj (.ref f) (.ref y))
  exact k a _ (.inl rfl) e
 | ext φ=>obtain ⟨p,⟨o,e⟩,st⟩:=x;exact ⟨st _ _ p fun o q=>k _ _ (.inl rfl) q,⟨o,k _ _ (.inl rfl) e⟩,st⟩
theorem HOk.lt (x:HOk P w H h) (e:H a=some o):a < h.objs.size:=(x a o e).lt
theorem HOk.fresh (x:HOk P w H h) (e:h.objs.size ≤ a):H a=none:=by
 cases q:H a with
 | none=>rfl
 | some u=>exact absurd (Nat.lt_of_lt_of_le (x.lt q) e) (Nat.lt_irrefl _)
theorem HOk.kept (x:HOk P w H h) (k:∀ b u,h.get? b=some u→h'.get? b=some u):HOk P w H h':=fun a o e =>
 (x a o e).stay (fun b u _ q=>k b u q) (fun _ q=>q) fun _ _ q=>q
theorem HOk.laid (x:HOk P w H h) (k:∀ b u,h.get? b=some u→h'.get? b=some u) (hp:h.objs.size ≤ a) (new:ObjOk P w (upd H a o) h' a o):HOk P w (upd H a o) h':=fun b u e=>by
 have hn:=x.fresh hp
 by_cases hb:b=a
 ·subst hb;rw [upd_same] at e;cases e;exact new
 ·rw [upd_ne hb] at e
  exact (x b u e).stay (fun c v _ q=>k c v q) (fun c q=>by rw [upd_ne (ne_of_none q hn)];exact q) fun c xs q=>by rw [upd_ne (ne_of_none q hn)];exact q
end
noncomputable def Rd (H:Hp) (a:Addr) (u:HO):Prop:=H a=some u∨∃ o,H a=some (.frz o u)
theorem Rd.of {H:Hp} {a:Addr} {u:HO} (h:H a=some u):Rd H a u:=.inl h
theorem Rd.ok {P:Program} {w:World} {H:Hp} {h:Heap} {a:Addr} {u:HO} (r:Rd H a u) (x:HOk P w H h):ObjOk P w H h a u:=by
 rcases r with r | ⟨o,r⟩
 ·exact x a u r
 ·obtain ⟨_,q⟩:=x a _ r
  exact q
noncomputable def Mut:Option HO→Prop
 | some (.lst _)=>True
 | some (.dK _)=>True
 | some (.dT _)=>True
 | some (.set _ _)=>True
 | some (.ins _ _ _)=>True
 | some (.ext _)=>True
 | _=>False
section
variable {P:Program} {w:World} {H:Hp} {h h':Heap} {x e:Addr} {o':HO}
theorem HOk.write (ok:HOk P w H h) (mu:Mut (H x)) (he:e=x∨H e=some (.own x)) (k:∀ b u,b ≠ e→h.get? b=some u→h'.get? b=some u) (heo:∃ u,h'.get? e=some u)
  (new:ObjOk P w (upd H x o') h' x o'):HOk P w (upd H x o') h':=fun b u q=>by
 have nown:∀ c y,H c=some (.own y)→c ≠ x:=fun c y r z=>by subst z;rw [r] at mu;exact mu
 have ntup:∀ c xs,H c=some (.tup xs)→c ≠ x:=fun c xs r z=>by subst z;rw [r] at mu;exact mu
 by_cases hb:b=x
 ·subst hb;rw [upd_same] at q;cases q;exact new
 ·rw [upd_ne hb] at q
  by_cases hbe:b=e
  ·have q':H b=some (.own x):=by
    rcases he with z | z
    ·exact absurd (hbe.trans z) hb
    ·rw [hbe];exact z
   rw [q] at q';cases q'
   obtain ⟨v,hv⟩:=heo
   exact ⟨v,by rw [hbe];exact hv⟩
  ·refine (ok b u q).stay (fun c v hc r=>k c v ?_ r) (fun c r=>by rw [upd_ne (nown c b r)];exact r) fun c xs r=>by rw [upd_ne (ntup c xs r)];exact r
   rcases hc with rfl | hc
   ·exact hbe
   ·rintro rfl
    rcases he with z | z
    ·exact nown c b hc z
    ·rw [hc] at z;cases z;exact hb rfl
end
structure Un (fs ex:List Addr) (H H':Hp) (h h':Heap):Prop where
 keep:∀ b o,h.get? b=some o→H b=none→b ∉ fs→b ∉ ex→h'.get? b=some o
 slot:∀ b o,h.get? b=some o→H b=none→b ∈ fs→b ∉ ex→∃ sl,h'.get? b=some { o with slots:=sl }
 free:∀ b o,h.get? b=some o→H b=none→b ∉ ex→H' b=none
 there:∀ b o,h.get? b=some o→b ∉ ex→∃ o',h'.get? b=some o'
 tups:∀ b xs,H b=some (.tup xs)→H' b=some (.tup xs)
 frzs:∀ b o u,H b=some (.frz o u)→H' b=some (.frz o u)
 tbls:∀ b ps,H b=some (.tbl ps)→∃ more,H' b=some (.tbl (ps ++ more))
section
variable {fs fs' ex ex':List Addr} {H H1 H2:Hp} {h h1 h2 h':Heap} {a x e:Addr} {o:HO}
theorem Un.any (u:Un fs ex H H1 h h1) {b:Addr} {ob:Obj} (q:h.get? b=some ob) (n:H b=none) (hx:b ∉ ex):∃ sl,h1.get? b=some { ob with slots:=sl }:=by
 by_cases hb:b ∈ fs
 ·exact u.slot b ob q n hb hx
 ·exact ⟨ob.slots,u.keep b ob q n hb hx⟩
theorem Un.trans (a:Un fs ex H H1 h h1) (b:Un fs ex H1 H2 h1 h2):Un fs ex H H2 h h2 where
 keep:=fun c ob q n hc hx=>b.keep c ob (a.keep c ob q n hc hx) (a.free c ob q n hx) hc hx
 slot:=fun c ob q n hc hx=>by
  obtain ⟨sl,e1⟩:=a.slot c ob q n hc hx
  obtain ⟨sl',e2⟩:=b.slot c _ e1 (a.free c ob q n hx) hc hx
  exact ⟨sl',e2⟩
 free:=fun c ob q n hx=>by
  obtain ⟨o',e1⟩:=a.there c ob q hx
  exact b.free c o' e1 (a.free c ob q n hx) hx
 there:=fun c ob q hx=>by
  obtain ⟨o',e1⟩:=a.there c ob q hx
  exact b.there c o' e1 hx
 tups:=fun c xs q=>b.tups c xs (a.tups c xs q)
 frzs:=fun c ob xs q=>b.frzs c ob xs (a.frzs c ob xs q)
 tbls:=fun c ps q=>by
  obtain ⟨m1,e1⟩:=a.tbls c ps q
  obtain ⟨m2,e2⟩:=b.tbls c _ e1
  exact ⟨m1 ++ m2,by rw [e2,Array.append_assoc]⟩
theorem Un.kept (k:∀ b u,h.get? b=some u→h'.get? b=some u):Un fs ex H H h h' :=
 ⟨fun b ob q _ _ _=>k b ob q,fun b ob q _ _ _=>⟨ob.slots,k b ob q⟩,fun _ _ _ n _=>n,fun b ob q _=>⟨ob,k b ob q⟩,fun _ _ q=>q,fun _ _ _ q=>q,fun _ ps q=>⟨#[],by rw [q];simp⟩⟩
theorem Un.refl:Un fs ex H H h h:=Un.kept fun _ _ q=>q
theorem Un.laid (k:∀ b u,h.get? b=some u→h'.get? b=some u) (hp:h.objs.size ≤ a) (hn:H a=none):Un fs ex H (upd H a o) h h' where
 keep:=fun b u q _ _ _=>k b u q
 slot:=fun b u q _ _ _=>⟨u.slots,k b u q⟩
 free:=fun b u q n _=>by rw [upd_ne (Nat.ne_of_lt (Nat.lt_of_lt_of_le (Heap.lt_size q) hp))];exact n
 there:=fun b u q _=>⟨u,k b u q⟩
 tups:=fun b xs q=>by rw [upd_ne (ne_of_none q hn)];exact q
 frzs:=fun b u xs q=>by rw [upd_ne (ne_of_none q hn)];exact q
 tbls:=fun b ps q=>⟨#[],by rw [upd_ne (ne_of_none q hn),q];simp⟩
theorem Un.write (mu:Mut (H x)) (he:e=x∨H e=some (.own x)) (k:∀ b u,b ≠ e→h.get? b=some u→h'.get? b=some u) (heo:∃ u,h'.get? e=some u):Un fs ex H (upd H x o) h h':=by
 have hx:∀ b,H b=none→b ≠ x:=fun b n z=>by subst z;rw [n] at mu;exact mu
 have hb:∀ b,H b=none→b ≠ e:=fun b n z=>by
  subst z
  rcases he with r | r
  ·exact hx b n r
  ·rw [n] at r;cases r
 have hm:∀ b u,H b=some u→¬ Mut (some u)→b ≠ x:=fun b u q nm z=>by subst z;rw [q] at mu;exact nm mu
 refine ⟨fun b u q n _ _=>k b u (hb b n) q,fun b u q n _ _=>⟨u.slots,k b u (hb b n) q⟩,fun b u q n _=>by rw [upd_ne (hx b n)];exact n,fun b u q _=>?_,
  fun b xs q=>by rw [upd_ne (hm b _ q fun z=>z)];exact q,fun b u xs q=>by rw [upd_ne (hm b _ q fun z=>z)];exact q,fun b ps q=>⟨#[],by rw [upd_ne (hm b _ q fun z=>z),q];simp⟩⟩
 by_cases hbe:b=e
 ·subst hbe;exact heo
 ·exact ⟨u,k b u hbe q⟩
theorem Un.mono (u:Un fs ex H H1 h h1) (hs:∀ b ∈ fs,b ∈ fs') (hx:∀ b ∈ ex,b ∈ ex'):Un fs' ex' H H1 h h1 :=
 ⟨fun b ob q n hb he=>u.keep b ob q n (fun z=>hb (hs b z)) fun z=>he (hx b z),fun _ _ q n _ he=>u.any q n fun z=>he (hx _ z),fun b ob q n he=>u.free b ob q n fun z=>he (hx b z),fun b ob q he=>u.there b ob q fun z=>he (hx b z),u.tups,u.frzs,u.tbls⟩
end
noncomputable def trk (h:Heap) (H:Hp):List Addr:=(List.range h.objs.size).filter fun a=>(H a).isSome
noncomputable def hidT (h:Heap) (H:Hp):Heap:=PySem.W.hideAll h (trk h H)
theorem hidT_size (h:Heap) (H:Hp):(hidT h H).objs.size=h.objs.size:=PySem.W.hideAll_size _ _
theorem hidT_get {h:Heap} {H:Hp} {b:Addr} {o:Obj} (e:h.get? b=some o) (n:H b=none):(hidT h H).get? b=some o :=
 PySem.W.hideAll_get _ e fun hm=>by
  have q:(H b).isSome=true:=(List.mem_filter.mp hm).2
  rw [n] at q;simp at q
theorem of_hidT {h:Heap} {H:Hp} {b:Addr} {o:Obj} (e:(hidT h H).get? b=some o):h.get? b=some o∧H b=none:=by
 have e':h.get? b=some o:=PySem.W.of_hideAll (trk h H) e
 refine ⟨e',?_⟩
 cases q:H b with
 | none=>rfl
 | some x =>
  have hm:b ∈ trk h H:=List.mem_filter.mpr ⟨List.mem_range.mpr (Heap.lt_size e'),by simp [q]⟩
  have z:(hidT h H).get? b=none:=PySem.W.hideAll_none (trk h H) hm
  rw [z] at e;cases e
noncomputable def allNews (g h:Heap) (L:Addr):List (Addr × Obj):=(List.range h.objs.size).filterMap fun a=>if a=L∨(g.get? a).isSome=true then none else (h.get? a).map fun o=>(a,o)
noncomputable def rest (g h:Heap) (L d:Addr):List (Addr × Obj):=(allNews g h L).filter fun p=>decide (p.1 ≠ d)
end L2
namespace L2
open PySem PySem.Spec PyProof.Rows
structure Mod (K:PySem.W.Frag) (mg:Str→Option Value) (base:Heap):Prop where
 kin:K.In base
 glob:base.Ns mainGlobals mg
 blt:∃ mb,base.Ns builtinsNs mb∧∀ x:Str,x ≠ "__name__" → mb x=bootBuiltins x
 nolimit:base.NoLimit
structure Cx where
 prog:Program
 w:World
 K:PySem.W.Frag
 mg:Str→Option Value
 base:Heap
 A:Around
 N:List Str
 s₀:Shared
 H₀:Hp
 env:Env
 outer:List Env
 stack:List Env
 ex:List Addr
 fn:Str→Bool
 calm:Bool
 pn:List (Addr × Obj)
 xe:Value→Shared→Prop
noncomputable def frs (l:List Env):List Addr:=l.filterMap (·.frame)
noncomputable abbrev Cx.fs (X:Cx):List Addr:=frs X.outer
noncomputable def Vis (sc:Scope) (x:Str):Prop:=sc.names.lookup x=some .local∨sc.names.lookup x=some .cell∨sc.names.lookup x=some .free
noncomputable def Loc (sc:Scope) (x:Str):Prop:=sc.names.lookup x=some .local∨sc.names.lookup x=some .cell
noncomputable def Look (env:Env) (h:Heap) (m:Str→Option Value) (x:Str) (u:Value):Prop :=
 (env.kindOf x=some .local∧m x=some u)∨((env.kindOf x=some .cell∨env.kindOf x=some .free)∧∃ c,env.cells.lookup x=some c∧h.IsCell c (some u))
structure Cx.Ok (X:Cx):Prop where
 mod:Mod X.K X.mg X.base
 kind:X.env.scope.kind = .function
 glob:X.env.globals=mainGlobals
 blt:X.env.builtins=builtinsNs
 above:X.s₀.heap.objs.size ≤ X.env.locals
 inj:∀ x y c,X.env.cells.lookup x=some c→X.env.cells.lookup y=some c→x=y
 has:∀ x,(X.env.kindOf x=some .cell∨X.env.kindOf x=some .free)→∃ c,X.env.cells.lookup x=some c
 cab:∀ x c,X.fn x=true→X.env.cells.lookup x=some c→X.s₀.heap.objs.size ≤ c
 hd:X.calm=true→X.A.handled=none
 frames:X.A.frames=some X.stack
 stk:X.stack=X.outer∨(X.stack=X.env :: X.outer∧X.env.frame=some X.env.locals)
 exf:∀ b ∈ X.ex,b ≠ X.env.locals∧∀ x c,X.env.cells.lookup x=some c→c ≠ b
 bs:∀ b o,X.base.get? b=some o→X.s₀.heap.get? b=some o∧X.H₀ b=none
 bsz:X.base.objs.size ≤ X.s₀.heap.objs.size
 noex:∀ b o,X.base.get? b=some o→b ∉ X.ex
 exfs:∀ b ∈ X.ex,b ∉ X.fs
 funs:X.s₀.heap.FunFrames X.base X.outer
 frf:∀ b ∈ X.fs,X.H₀ b=none
structure Inv (X:Cx) (pins:List (Addr × Obj)) (σ:List (Option V)) (H:Hp) (s:Shared):Prop where
 ok:X.Ok
 os:s.os=X.s₀.os
 bare:AllBare s.gens
 base:Un X.fs X.ex X.H₀ H X.s₀.heap s.heap
 loc:∃ m,s.heap.Ns X.env.locals m∧∀ (i:Nat) (x:Str) (v:V),X.N[i]? = some x→σ[i]? = some (some v)→Vis X.env.scope x→∃ u,RelV v u∧Look X.env s.heap m x u
 cell:∀ x c,X.env.cells.lookup x=some c→∃ v,s.heap.IsCell c v
 free:H X.env.locals=none
 freeC:∀ x c,X.env.cells.lookup x=some c→H c=none
 pin:∀ p ∈ X.pn ++ pins,s.heap.get? p.1=some p.2∧H p.1=none∧p.1 ≠ X.env.locals∧p.1 ∉ X.fs∧∀ v,p.2.data ≠ .cell v
 hok:HOk X.prog X.w H s.heap
 len:σ.length=X.N.length
section
variable {X:Cx} {pins:List (Addr × Obj)} {σ:List (Option V)} {H H':Hp} {s:Shared} {h':Heap}
theorem Cx.Ok.nofr (ok:X.Ok) {b:Addr} {o:Obj} (e:X.base.get? b=some o):b ∉ X.fs:=fun hb=>by
 have:=(ok.funs.mem hb).1
 rw [e] at this;cases this
theorem Inv.bs (I:Inv X pins σ H s):∀ b o,X.base.get? b=some o→s.heap.get? b=some o∧H b=none:=fun b o e =>
 ⟨I.base.keep b o (I.ok.bs b o e).1 (I.ok.bs b o e).2 (I.ok.nofr e) (I.ok.noex b o e),I.base.free b o (I.ok.bs b o e).1 (I.ok.bs b o e).2 (I.ok.noex b o e)⟩
theorem Inv.bk (I:Inv X pins σ H s):∀ b o,X.base.get? b=some o→s.heap.get? b=some o:=fun b o e=>(I.bs b o e).1
theorem Inv.mod (I:Inv X pins σ H s):Mod X.K X.mg X.base:=I.ok.mod
theorem Inv.kIn (I:Inv X pins σ H s):X.K.In s.heap:=I.ok.mod.kin.keeps I.bk
theorem Inv.nolimit (I:Inv X pins σ H s):s.heap.NoLimit:=I.ok.mod.nolimit.keeps I.bk
theorem Inv.fr (I:Inv X pins σ H s):∃ m,Fr X.base X.env.locals s.heap m :=
 let ⟨m,hn,_⟩:=I.loc
 ⟨m,hn,I.bk,Nat.le_trans I.ok.bsz I.ok.above⟩
theorem Inv.lt (I:Inv X pins σ H s):X.env.locals < s.heap.objs.size:=let ⟨_,hn,_⟩:=I.loc;hn.lt
theorem Inv.sz (I:Inv X pins σ H s):X.s₀.heap.objs.size ≤ s.heap.objs.size:=Nat.le_trans I.ok.above (Nat.le_of_lt I.lt)
theorem Inv.nofs (I:Inv X pins σ H s) {a:Addr} (h:s.heap.objs.size ≤ a):a ∉ X.fs:=fun hb=>by
 obtain ⟨_,o,ho,_⟩:=I.ok.funs.mem hb
 exact absurd (Nat.lt_of_lt_of_le (Heap.lt_size ho) (Nat.le_trans I.sz h)) (Nat.lt_irrefl _)
theorem Inv.cne (I:Inv X pins σ H s):∀ x c,X.env.cells.lookup x=some c→c ≠ X.env.locals:=fun x c e z=>by
 obtain ⟨v,o,ho,hd⟩:=I.cell x c e
 obtain ⟨m,⟨o',es,ep,ho',hd',_⟩,_⟩:=I.loc
 rw [z,ho'] at ho;cases ho;rw [hd'] at hd;cases hd
theorem Inv.funs (I:Inv X pins σ H s):s.heap.FunFrames X.base X.outer:=by
 have all:∀ (l:List Env),(∀ b ∈ frs l,b ∈ X.fs)→X.s₀.heap.FunFrames X.base l→s.heap.FunFrames X.base l:=by
  intro l
  induction l with
  | nil=>intro _ _;trivial
  | cons env r ih =>
   intro hs hl
   obtain ⟨hk,⟨L,o,hf,hn,ho,hd⟩,hr⟩:=hl
   have hL:L ∈ X.fs:=hs L (by unfold frs;rw [List.filterMap_cons,hf];exact List.mem_cons_self)
   obtain ⟨sl,e⟩:=I.base.slot L o ho (I.ok.frf L hL) hL fun z=>I.ok.exfs L z hL
   exact ⟨hk,⟨L,_,hf,hn,e,hd⟩,ih (fun b hb=>hs b (by unfold frs;rw [List.filterMap_cons,hf];exact List.mem_cons_of_mem _ hb)) hr⟩
 exact all X.outer (fun _ hb=>hb) I.ok.funs
theorem Inv.stack (I:Inv X pins σ H s):s.heap.FunFrames X.base X.stack:=by
 rcases I.ok.stk with e | ⟨e,hf⟩
 ·rw [e];exact I.funs
 ·rw [e]
  obtain ⟨m,hn,_⟩:=I.loc
  refine .cons (by rw [I.ok.kind];decide) hf hn ?_ I.funs
  exact Heap.get?_none_of_le (Nat.le_trans I.ok.bsz I.ok.above)
theorem Inv.stkSub (I:Inv X pins σ H s):∀ b ∈ frs X.stack,b ∈ X.env.locals :: X.fs:=fun b hb=>by
 rcases I.ok.stk with e | ⟨e,hf⟩
 ·rw [e] at hb;exact List.mem_cons_of_mem _ hb
 ·rw [e] at hb
  unfold frs at hb
  rw [List.filterMap_cons,hf] at hb
  exact hb
theorem Inv.stkFree (I:Inv X pins σ H s):∀ b ∈ frs X.stack,H b=none:=fun b hb=>by
 rcases List.mem_cons.mp (I.stkSub b hb) with e | hb
 ·rw [e];exact I.free
 ·obtain ⟨_,o,ho,_⟩:=I.ok.funs.mem hb
  exact I.base.free b o ho (I.ok.frf b hb) fun z=>I.ok.exfs b z hb
theorem Inv.step {g':Array GenState} {t':Nat} {d':Drawn} {ch:List Addr} (I:Inv X pins σ H s)
  (hch:∀ b ∈ ch,(b ∈ X.ex∨X.s₀.heap.objs.size ≤ b)∧b ≠ X.env.locals∧(∀ x c,X.env.cells.lookup x=some c→c ≠ b)∧∀ p ∈ X.pn ++ pins,p.1 ≠ b)
  (keep:∀ b o,b ≠ X.env.locals→b ∉ X.fs→b ∉ ch→s.heap.get? b=some o→H b=none→h'.get? b=some o)
  (slot:∀ b o,b ≠ X.env.locals→b ∈ X.fs→b ∉ ch→s.heap.get? b=some o→H b=none→∃ sl,h'.get? b=some { o with slots:=sl }) (free:∀ b o,b ∉ ch→s.heap.get? b=some o→H b=none→H' b=none)
  (there:∀ b o,b ∉ ch→s.heap.get? b=some o→∃ o',h'.get? b=some o')
  (tups:∀ b xs,H b=some (.tup xs)→H' b=some (.tup xs)) (frzs:∀ b o u,H b=some (.frz o u)→H' b=some (.frz o u)) (tbls:∀ b ps,H b=some (.tbl ps)→∃ more,H' b=some (.tbl (ps ++ more)))
  (ns:∀ m,s.heap.Ns X.env.locals m→h'.Ns X.env.locals m) (hok:HOk X.prog X.w H' h') (hg:AllBare g') :
  Inv X pins σ H' { s with heap:=h',gens:=g',drawn:=d',toks:=t' }:=by
 have neL:∀ b o,X.s₀.heap.get? b=some o→b ≠ X.env.locals:=fun b o e=>Nat.ne_of_lt (Nat.lt_of_lt_of_le (Heap.lt_size e) I.ok.above)
 have neC:∀ b o,X.s₀.heap.get? b=some o→b ∉ X.ex→b ∉ ch:=fun b o e hx hb=>by
  rcases (hch b hb).1 with z | z
  ·exact hx z
  ·exact absurd (Nat.lt_of_lt_of_le (Heap.lt_size e) z) (Nat.lt_irrefl _)
 have cellK:∀ x c,X.env.cells.lookup x=some c→∀ v,s.heap.IsCell c v→h'.IsCell c v:=fun x c e v ⟨o,ho,hd⟩=>by
  have nch:c ∉ ch:=fun z=>(hch c z).2.2.1 x c e rfl
  by_cases hc:c ∈ X.fs
  ·obtain ⟨sl,q⟩:=slot c o (I.cne x c e) hc nch ho (I.freeC x c e)
   exact ⟨_,q,hd⟩
  ·exact ⟨o,keep c o (I.cne x c e) hc nch ho (I.freeC x c e),hd⟩
 refine ⟨I.ok,I.os,hg,⟨fun b o e n hb hx=>?_,fun b o e n hb hx=>?_,fun b o e n hx=>?_,fun b o e hx=>?_,fun b xs e=>tups b xs (I.base.tups b xs e),fun b o xs e=>frzs b o xs (I.base.frzs b o xs e),fun b ps e=>?_⟩,?_,fun x c e=>?_,?_,fun x c e=>?_,fun p hp=>?_,hok,I.len⟩
 ·exact keep b o (neL b o e) hb (neC b o e hx) (I.base.keep b o e n hb hx) (I.base.free b o e n hx)
 ·obtain ⟨sl,e1⟩:=I.base.slot b o e n hb hx
  obtain ⟨sl',e2⟩:=slot b _ (neL b o e) hb (neC b o e hx) e1 (I.base.free b o e n hx)
  exact ⟨sl',e2⟩
 ·obtain ⟨o',e1⟩:=I.base.there b o e hx
  exact free b o' (neC b o e hx) e1 (I.base.free b o e n hx)
 ·obtain ⟨o',e1⟩:=I.base.there b o e hx
  exact there b o' (neC b o e hx) e1
 ·obtain ⟨m1,e1⟩:=I.base.tbls b ps e
  obtain ⟨m2,e2⟩:=tbls b _ e1
  exact ⟨m1 ++ m2,by rw [e2,Array.append_assoc]⟩
 ·obtain ⟨m,hn,hl⟩:=I.loc
  refine ⟨m,ns m hn,fun i x v e1 e2 e3=>?_⟩
  obtain ⟨u,r,l⟩:=hl i x v e1 e2 e3
  refine ⟨u,r,?_⟩
  rcases l with l | ⟨k,c,e,z⟩
  ·exact .inl l
  ·exact .inr ⟨k,c,e,cellK x c e _ z⟩
 ·obtain ⟨v,z⟩:=I.cell x c e
  exact ⟨v,cellK x c e v z⟩
 ·obtain ⟨m,⟨o,_,_,ho,_⟩,_⟩:=I.loc
  exact free _ o (fun z=>(hch _ z).2.1 rfl) ho I.free
 ·obtain ⟨v,o,ho,hd⟩:=I.cell x c e
  exact free c o (fun z=>(hch c z).2.2.1 x c e rfl) ho (I.freeC x c e)
 ·obtain ⟨e,n,ne,nf,d⟩:=I.pin p hp
  have nch:p.1 ∉ ch:=fun z=>(hch p.1 z).2.2.2 p hp rfl
  exact ⟨keep p.1 p.2 ne nf nch e n,free p.1 p.2 nch e n,ne,nf,d⟩
theorem Inv.un {t':Nat} (I:Inv X pins σ H s) (u:Un X.fs [] H H' s.heap h') (hok:HOk X.prog X.w H' h'):Inv X pins σ H' { s with heap:=h',toks:=t' }:=by
 obtain ⟨m,⟨o,es,ep,ho,r⟩,_⟩:=id I.loc
 obtain ⟨sl,hL⟩:=u.any ho I.free (by simp)
 exact I.step (g':=s.gens) (d':=s.drawn) (ch:=[]) (fun _ z=>nomatch z) (fun b o _ hb _ e n=>u.keep b o e n hb (by simp)) (fun b o _ hb _ e n=>u.slot b o e n hb (by simp)) (fun b o _ e n=>u.free b o e n (by simp)) (fun b o _ e=>u.there b o e (by simp)) u.tups u.frzs u.tbls (fun m' hm=>by
  obtain ⟨o',es',ep',ho',r'⟩:=hm
  rw [ho] at ho';cases ho'
  exact ⟨_,es',ep',hL,r'⟩) hok I.bare
theorem Inv.call {g':Array GenState} {t':Nat} {d':Drawn} {ch:List Addr} (I:Inv X pins σ H s) (u:Un (frs X.stack) ch H H' s.heap h') (hok:HOk X.prog X.w H' h') (hg:AllBare g')
  (hch:∀ b ∈ ch,(b ∈ X.ex∨X.s₀.heap.objs.size ≤ b)∧b ≠ X.env.locals∧(∀ x c,X.env.cells.lookup x=some c→c ≠ b)∧∀ p ∈ X.pn ++ pins,p.1 ≠ b) :
  Inv X pins σ H' { s with heap:=h',gens:=g',drawn:=d',toks:=t' }:=by
 obtain ⟨m,⟨o,es,ep,ho,r⟩,_⟩:=id I.loc
 obtain ⟨sl,hL⟩:=u.any ho I.free fun z=>(hch _ z).2.1 rfl
 exact I.step (ch:=ch) hch (fun b o hL hb hc e n=>u.keep b o e n (fun z=>(List.mem_cons.mp (I.stkSub b z)).elim hL hb) hc) (fun b o _ _ hc e n=>u.any e n hc) (fun b o hc e n=>u.free b o e n hc) (fun b o hc e=>u.there b o e hc) u.tups u.frzs u.tbls (fun m' hm=>by
  obtain ⟨o',es',ep',ho',r'⟩:=hm
  rw [ho] at ho';cases ho'
  exact ⟨_,es',ep',hL,r'⟩) hok hg
theorem Inv.turned {t':Nat} {it:Addr} (I:Inv X pins σ H s) (k:∀ b o,b ≠ it→s.heap.get? b=some o→h'.get? b=some o) (hn:H it=none) (hL:it ≠ X.env.locals)
  (h1:it ∈ X.ex∨X.s₀.heap.objs.size ≤ it) (h2:∀ x c,X.env.cells.lookup x=some c→c ≠ it) (h3:∀ p ∈ X.pn ++ pins,p.1 ≠ it):Inv X pins σ H { s with heap:=h',toks:=t' }:=by
 have nit:∀ b u,H b=some u→b ≠ it:=fun b u e z=>by rw [z,hn] at e;cases e
 refine I.step (g':=s.gens) (d':=s.drawn) (ch:=[it]) (fun b hb=>?_) (fun b o _ _ hc e _=>k b o (fun z=>hc (by simp [z])) e) (fun b o _ _ hc e _=>⟨o.slots,k b o (fun z=>hc (by simp [z])) e⟩) (fun _ _ _ _ n=>n)
  (fun b o hc e=>⟨o,k b o (fun z=>hc (by simp [z])) e⟩) (fun _ _ e=>e) (fun _ _ _ e=>e) (fun b ps e=>⟨#[],by rw [e];simp⟩) (fun m hm=>?_) (fun b u e=>?_) I.bare
 ·have e:b=it:=by simpa using hb
  subst e
  exact ⟨h1,hL,h2,h3⟩
 ·obtain ⟨o,es,ep,ho,r⟩:=hm
  exact ⟨o,es,ep,k _ o (Ne.symm hL) ho,r⟩
 ·refine (I.hok b u e).stay (fun c v hc q=>k c v ?_ q) (fun _ q=>q) fun _ _ q=>q
  rcases hc with z | z
  ·rw [z];exact nit b u e
  ·exact nit c _ z
theorem Inv.tok (I:Inv X pins σ H s) (t:Nat):Inv X pins σ H { s with toks:=t }:=I.un (h':=s.heap) (t':=t) Un.refl I.hok
theorem Inv.kept {t':Nat} (I:Inv X pins σ H s) (k:∀ b u,s.heap.get? b=some u→h'.get? b=some u):Inv X pins σ H { s with heap:=h',toks:=t' }:=I.un (Un.kept k) (I.hok.kept k)
theorem Inv.laid {a:Addr} {o:HO} {t':Nat} (I:Inv X pins σ H s) (k:∀ b u,s.heap.get? b=some u→h'.get? b=some u) (hp:s.heap.objs.size ≤ a) (new:ObjOk X.prog X.w (upd H a o) h' a o) :
  Inv X pins σ (upd H a o) { s with heap:=h',toks:=t' }:=I.un (Un.laid k hp (I.hok.fresh hp)) (I.hok.laid k hp new)
theorem Inv.write {x e:Addr} {o:HO} {t':Nat} (I:Inv X pins σ H s) (mu:Mut (H x)) (he:e=x∨H e=some (.own x)) (k:∀ b u,b ≠ e→s.heap.get? b=some u→h'.get? b=some u) (heo:∃ u,h'.get? e=some u)
  (new:ObjOk X.prog X.w (upd H x o) h' x o):Inv X pins σ (upd H x o) { s with heap:=h',toks:=t' }:=I.un (Un.write mu he k heo) (I.hok.write mu he k heo new)
theorem Inv.weak {σ':List (Option V)} (I:Inv X pins σ H s) (hl:σ'.length=σ.length) (w:∀ (i:Nat) v,σ'[i]? = some (some v)→σ[i]? = some (some v)):Inv X pins σ' H s :=
 ⟨I.ok,I.os,I.bare,I.base,let ⟨m,hn,hl'⟩:=I.loc;⟨m,hn,fun i x v e1 e2 e3=>hl' i x v e1 (w i v e2) e3⟩,I.cell,I.free,I.freeC,I.pin,I.hok,hl.trans I.len⟩
theorem Inv.pins_of {pins':List (Addr × Obj)} (I:Inv X pins σ H s) (h:∀ p ∈ pins',s.heap.get? p.1=some p.2∧H p.1=none∧p.1 ≠ X.env.locals∧p.1 ∉ X.fs∧∀ v,p.2.data ≠ .cell v):Inv X pins' σ H s :=
 ⟨I.ok,I.os,I.bare,I.base,I.loc,I.cell,I.free,I.freeC,fun p hp=>(List.mem_append.mp hp).elim (fun z=>I.pin p (List.mem_append_left _ z)) (h p),I.hok,I.len⟩
theorem nodup_ix {N:List Str} (hN:N.Nodup) {i j:Nat} {x:Str} (a:N[i]? = some x) (b:N[j]? = some x):i=j:=by
 obtain ⟨h1,e1⟩:=List.getElem?_eq_some_iff.mp a
 obtain ⟨h2,e2⟩:=List.getElem?_eq_some_iff.mp b
 exact (List.getElem_inj hN).mp (e1.trans e2.symm)
theorem store_ok2 {M:Model} {A:Around} {E:Value→Shared→Prop} {i:Nat} {x:Str} {v:V} {u:Value} {Q:Unit→Shared→Prop} (I:Inv X pins σ H s) (hN:X.N.Nodup) (hi:X.N[i]? = some x) (hx:Loc X.env.scope x) (r:RelV v u)
  (h:∀ s',Inv X pins (σ.set i (some v)) H s'→(∃ a,Heap.SameBut a s.heap s'.heap∧(a=X.env.locals∨X.env.cells.lookup x=some a))→Q () s') (hf:X.fn x=true∨X.env.scope.names.lookup x=some .local:=by first | exact .inl rfl | exact .inr rfl | assumption):wpAny M A (storeName X.env x u) Q E s:=by
 obtain ⟨m,hn,hl⟩:=id I.loc
 have hcls:(X.env.scope.kind == .class || (X.env.scope.kind == .module && X.env.locals != X.env.globals))=false:=by rw [I.ok.kind];rfl
 have hiσ:i < σ.length:=by rw [I.len];exact (List.getElem?_eq_some_iff.mp hi).1
 have cne:=I.cne
 have tracked:∀ {a:Addr} {h':Heap},(∃ o,s.heap.get? a=some o∧H a=none)→Heap.SameBut a s.heap h'→HOk X.prog X.w H h':=fun {a h'} ha hs b ob e=>by
  obtain ⟨_,_,hfree⟩:=ha
  refine (I.hok b ob e).stay (fun c w' hc q=>(hs.2 c ?_).trans q) (fun _ q=>q) fun _ _ q=>q
  rintro rfl
  rcases hc with rfl | hc
  ·rw [hfree] at e;cases e
  ·rw [hfree] at hc;cases hc
 rcases hx with hk | hk
 ·refine wpAny_storeName_local hk hn (fun h' hn' hs=>?_) hcls
  obtain ⟨oL,_,_,hoL,_⟩:=id hn
  refine h _ ⟨I.ok,I.os,I.bare,⟨fun b o e n hb hx=>?_,fun b o e n hb hx=>?_,I.base.free,fun b o e hx=>?_,I.base.tups,I.base.frzs,I.base.tbls⟩,⟨_,hn',fun j y v' e1 e2 e3=>?_⟩,fun y c e=>?_,I.free,I.freeC,fun p hp=>?_,tracked ⟨oL,hoL,I.free⟩ hs,by simpa using I.len⟩ ⟨_,hs,.inl rfl⟩
  ·exact (hs.2 b (Nat.ne_of_lt (Nat.lt_of_lt_of_le (Heap.lt_size e) I.ok.above))).trans (I.base.keep b o e n hb hx)
  ·obtain ⟨sl,e1⟩:=I.base.slot b o e n hb hx
   exact ⟨sl,(hs.2 b (Nat.ne_of_lt (Nat.lt_of_lt_of_le (Heap.lt_size e) I.ok.above))).trans e1⟩
  ·obtain ⟨o',e1⟩:=I.base.there b o e hx
   exact ⟨o',(hs.2 b (Nat.ne_of_lt (Nat.lt_of_lt_of_le (Heap.lt_size e) I.ok.above))).trans e1⟩
  ·by_cases hj:j=i
   ·subst hj
    rw [hi] at e1;cases e1
    rw [List.getElem?_set_self hiσ] at e2
    cases e2
    exact ⟨u,r,.inl ⟨hk,by simp⟩⟩
   ·rw [List.getElem?_set_ne (Ne.symm hj)] at e2
    obtain ⟨u',r',q⟩:=hl j y v' e1 e2 e3
    refine ⟨u',r',?_⟩
    rcases q with ⟨k,e⟩ | ⟨k,c,e,z⟩
    ·refine .inl ⟨k,?_⟩
     have:y ≠ x:=fun e=>hj (nodup_ix hN e1 (e ▸ hi))
     simp [this,e]
    ·exact .inr ⟨k,c,e,z.sameBut hs (cne y c e)⟩
  ·obtain ⟨w',z⟩:=I.cell y c e
   exact ⟨w',z.sameBut hs (cne y c e)⟩
  ·obtain ⟨e,n,ne,nf,d⟩:=I.pin p hp
   exact ⟨(hs.2 p.1 ne).trans e,n,ne,nf,d⟩
 ·have hfn:X.fn x=true:=by
   rcases hf with z | z
   ·exact z
   ·rw [z] at hk;cases hk
  obtain ⟨c,hc⟩:=I.ok.has x (.inl hk)
  obtain ⟨w',z⟩:=I.cell x c hc
  refine wpAny_storeName_cell I.ok.kind hk hc z (fun h' hc' hs=>?_)
  obtain ⟨oc,hoc,hocd⟩:=id z
  refine h { s with heap:=h' } ⟨I.ok,I.os,I.bare,⟨fun b o e n hb hx=>?_,fun b o e n hb hx=>?_,I.base.free,fun b o e hx=>?_,I.base.tups,I.base.frzs,I.base.tbls⟩,⟨m,hn.sameBut hs (Ne.symm (cne x c hc)),fun j y v' e1 e2 e3=>?_⟩,fun y c' e=>?_,I.free,I.freeC,fun p hp=>?_,tracked ⟨oc,hoc,I.freeC x c hc⟩ hs,by simpa using I.len⟩ ⟨c,hs,.inr hc⟩
  ·exact (hs.2 b (Nat.ne_of_lt (Nat.lt_of_lt_of_le (Heap.lt_size e) (I.ok.cab x c hfn hc)))).trans (I.base.keep b o e n hb hx)
  ·obtain ⟨sl,e1⟩:=I.base.slot b o e n hb hx
   exact ⟨sl,(hs.2 b (Nat.ne_of_lt (Nat.lt_of_lt_of_le (Heap.lt_size e) (I.ok.cab x c hfn hc)))).trans e1⟩
  ·obtain ⟨o',e1⟩:=I.base.there b o e hx
   exact ⟨o',(hs.2 b (Nat.ne_of_lt (Nat.lt_of_lt_of_le (Heap.lt_size e) (I.ok.cab x c hfn hc)))).trans e1⟩
  ·by_cases hj:j=i
   ·subst hj
    rw [hi] at e1;cases e1
    rw [List.getElem?_set_self hiσ] at e2
    cases e2
    exact ⟨u,r,.inr ⟨.inl hk,c,hc,hc'⟩⟩
   ·rw [List.getElem?_set_ne (Ne.symm hj)] at e2
    obtain ⟨u',r',q⟩:=hl j y v' e1 e2 e3
    refine ⟨u',r',?_⟩
    rcases q with q | ⟨k,c',e,z'⟩
    ·exact .inl q
    ·refine .inr ⟨k,c',e,z'.sameBut hs ?_⟩
     rintro rfl
     exact hj (nodup_ix hN e1 (I.ok.inj _ _ _ e hc ▸ hi))
  ·by_cases hcc:c'=c
   ·subst hcc;exact ⟨_,hc'⟩
   ·obtain ⟨w2,z2⟩:=I.cell y c' e
    exact ⟨w2,z2.sameBut hs hcc⟩
  ·obtain ⟨e,n,ne,nf,d⟩:=I.pin p hp
   refine ⟨(hs.2 p.1 ?_).trans e,n,ne,nf,d⟩
   intro q
   rw [q,hoc] at e
   have q':oc=p.2:=Option.some.inj e
   exact d w' (by rw [← q'];exact hocd)
theorem store_ok {M:Model} {A:Around} {E:Value→Shared→Prop} {i:Nat} {x:Str} {v:V} {u:Value} {Q:Unit→Shared→Prop} (I:Inv X pins σ H s) (hN:X.N.Nodup) (hi:X.N[i]? = some x) (hx:Loc X.env.scope x) (r:RelV v u)
  (h:∀ s',Inv X pins (σ.set i (some v)) H s'→Q () s') (hf:X.fn x=true∨X.env.scope.names.lookup x=some .local:=by first | exact .inl rfl | exact .inr rfl | assumption):wpAny M A (storeName X.env x u) Q E s :=
 store_ok2 I hN hi hx r (fun s' I' _=>h s' I') hf
theorem Inv.call' {s':Shared} {ch:List Addr} (I:Inv X pins σ H s) (ho:s'.os=s.os) (u:Un (frs X.stack) ch H H' s.heap s'.heap) (hok:HOk X.prog X.w H' s'.heap) (hg:AllBare s'.gens)
  (hch:∀ b ∈ ch,(b ∈ X.ex∨X.s₀.heap.objs.size ≤ b)∧b ≠ X.env.locals∧(∀ x c,X.env.cells.lookup x=some c→c ≠ b)∧∀ p ∈ X.pn ++ pins,p.1 ≠ b):Inv X pins σ H' s':=by
 obtain ⟨h',g',d',t',o'⟩:=s'
 have e:o'=s.os:=ho
 subst e
 exact I.call (g':=g') (t':=t') (d':=d') u hok hg hch
end
noncomputable abbrev XK:=Value→Option Addr→Hp→Prop
noncomputable abbrev St:=List (Option V)
noncomputable abbrev VK:=V→Hp→Prop
noncomputable abbrev TE:=St→Hp→VK→Prop
noncomputable abbrev TT:=St→Hp→(Bool→Hp→Prop)→Prop
noncomputable abbrev TA:=St→Hp→(List V→Hp→Prop)→Prop
structure Ends where
 nx:St→Hp→Prop
 rt:VK
 bk:St→Hp→Prop:=fun _ _=>False
 ct:St→Hp→Prop:=fun _ _=>False
noncomputable abbrev TS:=Ends→St→Hp→Prop
noncomputable def EP (X:Cx) (pins:List (Addr × Obj)) (σ:St) (Q:VK) (u:Value) (s':Shared):Prop:=∃ v H',Inv X pins σ H' s'∧RelV v u∧Q v H'
noncomputable def TP (X:Cx) (pins:List (Addr × Obj)) (σ:St) (Q:Bool→Hp→Prop) (b:Bool) (s':Shared):Prop:=∃ H',Inv X pins σ H' s'∧Q b H'
noncomputable def AP (X:Cx) (pins:List (Addr × Obj)) (σ:St) (Q:List V→Hp→Prop) (us:List Value) (s':Shared):Prop:=∃ vs H',Inv X pins σ H' s'∧Vals vs us∧Q vs H'
noncomputable def SP (X:Cx) (pins:List (Addr × Obj)) (D:Ends) (f:Flow) (s':Shared):Prop :=
 match f with
 | .next=>∃ σ' H',Inv X pins σ' H' s'∧D.nx σ' H'
 | .brk=>∃ σ' H',Inv X pins σ' H' s'∧D.bk σ' H'
 | .cont=>∃ σ' H',Inv X pins σ' H' s'∧D.ct σ' H'
 | .ret u=>∃ v σ' H',Inv X pins σ' H' s'∧RelV v u∧D.rt v H'
noncomputable def PE (X:Cx) (e:Expr) (t:TE):Prop :=
 ∀ (pins:List (Addr × Obj)) (s:Shared) (σ:St) (H:Hp) (Q:VK),Inv X pins σ H s→t σ H Q→wpAny (model X.prog X.w) X.A (eval e X.env) (EP X pins σ Q) X.xe s
noncomputable def PT (X:Cx) (e:Expr) (t:TT):Prop :=
 ∀ (pins:List (Addr × Obj)) (s:Shared) (σ:St) (H:Hp) (Q:Bool→Hp→Prop),Inv X pins σ H s→t σ H Q→wpAny (model X.prog X.w) X.A (isTrue e X.env (eval e X.env)) (TP X pins σ Q) X.xe s
noncomputable def PW (X:Cx) (e:Expr) (t:TT):Prop :=
 ∀ (whole:Sem Value) (pins:List (Addr × Obj)) (s:Shared) (σ:St) (H:Hp) (Q:Bool→Hp→Prop),Inv X pins σ H s→t σ H Q→wpAny (model X.prog X.w) X.A (isTrue e X.env whole) (TP X pins σ Q) X.xe s
theorem PW.pt {X:Cx} {e:Expr} {t:TT} (h:PW X e t):PT X e t:=h _
noncomputable def PA (X:Cx) (es:List Expr) (t:TA):Prop :=
 ∀ (pos:Pos) (pins:List (Addr × Obj)) (s:Shared) (σ:St) (H:Hp) (Q:List V→Hp→Prop),Inv X pins σ H s→t σ H Q→wpAny (model X.prog X.w) X.A (spliced (backTo pos (starEach es X.env))) (AP X pins σ Q) X.xe s
noncomputable def PS (X:Cx) (st:Stmt) (t:TS):Prop :=
 ∀ (pins:List (Addr × Obj)) (s:Shared) (σ:St) (H:Hp) (D:Ends),Inv X pins σ H s→t D σ H→wpAny (model X.prog X.w) X.A (exec st X.env) (SP X pins D) X.xe s
noncomputable def PSs (X:Cx) (st:List Stmt) (t:TS):Prop :=
 ∀ (pins:List (Addr × Obj)) (s:Shared) (σ:St) (H:Hp) (D:Ends),Inv X pins σ H s→t D σ H→wpAny (model X.prog X.w) X.A (execs st X.env) (SP X pins D) X.xe s
theorem thn {α:Type} {t:Sem α} {Q Q':α→Shared→Prop} {M:Model} {A:Around} {E:Value→Shared→Prop} {s:Shared} (h:wpAny M A t Q E s) (hQ:∀ a s,Q a s→Q' a s):wpAny M A t Q' E s:=wpAny_mono h hQ fun _ _ x=>x
end L2
namespace L2
open PySem PySem.Spec PyProof.Rows
section
variable {X:Cx}
noncomputable def tVar (i:Nat):TE:=fun σ H Q=>∃ v,σ[i]? = some (some v)∧Q v H
noncomputable def tC (v:V):TE:=fun _ H Q=>Q v H
theorem pe_var {i:Nat} {x:Str} {pos:Pos} (hN:X.N[i]? = some x) (hv:Vis X.env.scope x) (hd:(x == ("__debug__" : Str))=false:=by decide) (hcd:(x == ("__classdict__" : Str))=false:=by decide):PE X (.Name x pos) (tVar i):=by
 intro pins s σ H Q I h
 obtain ⟨v,e,h⟩:=h
 obtain ⟨m,hn,hl⟩:=I.loc
 obtain ⟨u,r,l⟩:=hl i x v hN e hv
 have fin:EP X pins σ Q u s:=⟨v,H,I,r,h⟩
 rcases l with ⟨hk,hm⟩ | ⟨hk,c,hc,hcell⟩
 ·exact wpAny_Name (wpAny_loadName_local I.ok.kind hk hn hm fin) hd
 ·rcases hk with hk | hk
  ·exact wpAny_Name (wpAny_loadName_cell I.ok.kind hk hc hcell fin) hd
  ·exact wpAny_Name (wpAny_loadName_free I.ok.kind hk hc hcell fin hcd) hd
theorem pe_int {i j pos}:PE X (.Constant (.int i) j pos) (tC (.int i)):=fun _ _ _ H _ I h=>wpAny_Constant_int ⟨.int i,H,I.tok _,⟨_,rfl⟩,h⟩
theorem pe_bl {b j pos}:PE X (.Constant (.bool b) j pos) (tC (.bl b)):=fun _ _ _ H _ I h=>Constant_bool ⟨.bl b,H,I,rfl,h⟩
theorem pe_non {j pos}:PE X (.Constant .none j pos) (tC .non):=fun _ _ _ H _ I h=>Constant_none ⟨.non,H,I,rfl,h⟩
theorem pe_str {x j pos}:PE X (.Constant (.str x) j pos) (tC (.str x)):=fun _ _ _ H _ I h=>Calls.Constant_str ⟨.str x,H,I.tok _,⟨_,rfl⟩,h⟩
noncomputable def Gl (X:Cx) (x:Str):Prop:=X.env.kindOf x=some .globalImplicit
theorem ld_glob {E:Value→Shared→Prop} {pins:List (Addr × Obj)} {s:Shared} {σ:St} {H:Hp} {x:Str} {u:Value} {pos:Pos} {Q:Value→Shared→Prop} (I:Inv X pins σ H s) (hg:Gl X x) (hm:X.mg x=some u) (h:Q u s)
  (hd:(x == ("__debug__" : Str))=false:=by decide):wpAny (model X.prog X.w) X.A (eval (.Name x pos) X.env) Q E s :=
 Calls.Name_function_global I.ok.kind hg (Calls.loadGlobal_global (by rw [I.ok.glob];exact I.mod.glob.keeps I.bk) hm h) hd
theorem ld_blt {E:Value→Shared→Prop} {pins:List (Addr × Obj)} {s:Shared} {σ:St} {H:Hp} {x:Str} {u:Value} {pos:Pos} {Q:Value→Shared→Prop} (I:Inv X pins σ H s) (hg:Gl X x) (hm:X.mg x=none) (hv:bootBuiltins x=some u) (h:Q u s)
  (hn:x ≠ "__name__" := by decide) (hd:(x == ("__debug__" : Str))=false:=by decide):wpAny (model X.prog X.w) X.A (eval (.Name x pos) X.env) Q E s:=by
 obtain ⟨mb,h1,h2⟩:=I.mod.blt
 exact Calls.Name_function_global I.ok.kind hg (Calls.loadGlobal_builtin (by rw [I.ok.glob];exact I.mod.glob.keeps I.bk) hm (by rw [I.ok.blt];exact h1.keeps I.bk) ((h2 x hn).trans hv) h) hd
theorem pe_bltn {x:Str} {v:V} {u:Value} {pos:Pos} (hg:Gl X x) (hm:X.mg x=none) (hv:bootBuiltins x=some u) (r:RelV v u) (hn:x ≠ "__name__" := by decide) (hd:(x == ("__debug__" : Str))=false:=by decide):PE X (.Name x pos) (tC v) :=
 fun _ _ _ H _ I h=>ld_blt I hg hm hv ⟨v,H,I,r,h⟩ hn hd
variable {a b:Expr} {ta tb:TE} {pos:Pos}
noncomputable def tB (t:TE):TT:=fun σ H Q=>t σ H fun x H1=>∃ c,x = .bl c∧Q c H1
theorem pt_val {e:Expr} {t:TE} (h:PE X e t) (he:∀ whole,isTrue e X.env whole=(do let v ← whole;standAt e.pos;holding [v] (truthy v)):=by intro _;rfl):PT X e (tB t):=by
 intro pins s σ H Q I hw
 refine isTrue_plain (thn (h pins s σ H _ I hw) fun v s1 ⟨x,H1,I1,r1,q1⟩=>?_) (he _)
 obtain ⟨d,rfl,q⟩:=q1
 cases r1
 exact wpAny_truthy_bool ⟨H1,I1,q⟩
variable {tA tB':TT} {rest:List Expr}
noncomputable def tAnd (t u:TT):TT:=fun σ H Q=>t σ H fun c H1=>if c=true then u σ H1 Q else Q false H1
noncomputable def tOr (t u:TT):TT:=fun σ H Q=>t σ H fun c H1=>if c=true then Q true H1 else u σ H1 Q
noncomputable def tNot (t:TT):TT:=fun σ H Q=>t σ H fun c H1=>Q (!c) H1
theorem pw_and1 (ha:PT X a tA):PW X (.BoolOp .And [a] pos) tA:=by
 intro wh pins s σ H Q I h
 refine isTrue_and (thn (ha pins s σ H Q I h) fun c s1 e=>?_)
 cases c with
 | true=>exact isTrue_and_nil e
 | false=>exact e
theorem pw_or1 (ha:PT X a tA):PW X (.BoolOp .Or [a] pos) tA:=by
 intro wh pins s σ H Q I h
 refine isTrue_or (thn (ha pins s σ H Q I h) fun c s1 e=>?_)
 cases c with
 | false=>exact isTrue_or_nil e
 | true=>exact e
theorem pw_and (ha:PT X a tA) (hb:PW X (.BoolOp .And (b :: rest) pos) tB'):PW X (.BoolOp .And (a :: b :: rest) pos) (tAnd tA tB'):=by
 intro wh pins s σ H Q I h
 refine isTrue_and (thn (ha pins s σ H _ I h) fun c s1 ⟨H1,I1,q1⟩=>?_)
 cases c with
 | true=>exact hb wh pins s1 σ H1 Q I1 q1
 | false=>exact ⟨H1,I1,q1⟩
theorem pw_or (ha:PT X a tA) (hb:PW X (.BoolOp .Or (b :: rest) pos) tB'):PW X (.BoolOp .Or (a :: b :: rest) pos) (tOr tA tB'):=by
 intro wh pins s σ H Q I h
 refine isTrue_or (thn (ha pins s σ H _ I h) fun c s1 ⟨H1,I1,q1⟩=>?_)
 cases c with
 | true=>exact ⟨H1,I1,q1⟩
 | false=>exact hb wh pins s1 σ H1 Q I1 q1
theorem pt_not (ha:PT X a tA):PT X (.UnaryOp .Not a pos) (tNot tA):=by
 intro pins s σ H Q I h
 exact isTrue_not (ha pins s σ H (fun c H1=>Q (!c) H1) I h)
noncomputable def tAndV (ta tb:TE):TE:=fun σ H Q=>ta σ H fun x H1=>∃ c,x = .bl c∧if c=true then tb σ H1 Q else Q (.bl false) H1
noncomputable def tOrV (ta tb:TE):TE:=fun σ H Q=>ta σ H fun x H1=>∃ c,x = .bl c∧if c=true then Q (.bl true) H1 else tb σ H1 Q
noncomputable def tNotV (ta:TE):TE:=fun σ H Q=>ta σ H fun x H1=>∃ c,x = .bl c∧Q (.bl (!c)) H1
theorem pe_one {op} {t:TE} (h:PE X a t):PE X (.BoolOp op [a] pos) t:=fun pins s σ H Q I hw=>BoolOp_one (h pins s σ H Q I hw)
theorem pe_and (ha:PE X a ta) (hb:PE X (.BoolOp .And (b :: rest) pos) tb):PE X (.BoolOp .And (a :: b :: rest) pos) (tAndV ta tb):=by
 intro pins s σ H Q I h
 refine BoolOp_and (thn (ha pins s σ H _ I h) fun v s1 ⟨x,H1,I1,r1,q1⟩=>?_)
 obtain ⟨c,rfl,q1⟩:=q1
 cases r1
 refine wpAny_truthy_bool ?_
 cases c with
 | true=>exact hb pins s1 σ H1 Q I1 q1
 | false=>exact ⟨.bl false,H1,I1,rfl,q1⟩
theorem pe_not (ha:PE X a ta):PE X (.UnaryOp .Not a pos) (tNotV ta):=by
 intro pins s σ H Q I h
 refine UnaryOp_ (thn (ha pins s σ H _ I h) fun v s1 ⟨x,H1,I1,r1,q1⟩=>?_)
 obtain ⟨c,rfl,q1⟩:=q1
 cases r1
 exact not_of (wpAny_truthy_bool ⟨.bl (!c),H1,I1,rfl,q1⟩)
noncomputable def tIf (t:TT) (ta tb:TE):TE:=fun σ H Q=>t σ H fun c H1=>if c=true then ta σ H1 Q else tb σ H1 Q
theorem pe_ifExp {c:Expr} (hc:PT X c tA) (ha:PE X a ta) (hb:PE X b tb):PE X (.IfExp c a b pos) (tIf tA ta tb):=by
 intro pins s σ H Q I h
 refine wpAny_IfExp (thn (hc pins s σ H _ I h) fun d s1 ⟨H1,I1,q1⟩=>?_)
 cases d with
 | true=>exact ha pins s1 σ H1 Q I1 q1
 | false=>exact hb pins s1 σ H1 Q I1 q1
end
end L2
namespace L2
open PySem PySem.Spec PyProof.Rows
noncomputable def SqL (K:PySem.W.Frag) (H:Hp) (a:Addr) (xs:List V):Prop :=
 Rd H a (.lst xs) ∨
  ∃ (o:Obj) (its:Array Value) (n:Nat),K.lookup a=some o∧o.cls = .type "list" ∧ o.dict=none∧o.data = .seq its n∧its.size ≤ sizeLine∧Vals xs its.toList
noncomputable def SqT (K:PySem.W.Frag) (H:Hp) (a:Addr) (xs:List V):Prop :=
 Rd H a (.tup xs) ∨
  ∃ (o:Obj) (its:Array Value) (n:Nat),K.lookup a=some o∧o.cls = .type "tuple" ∧ o.data = .seq its n∧its.size ≤ sizeLine∧Vals xs its.toList
noncomputable def absV:Value→Option V
 | .none=>some .non
 | .bool b=>some (.bl b)
 | .int i _=>some (.int i)
 | .str x _=>some (.str x)
 | .bytes b _=>some (.byt b)
 | .float b _=>some (.flt b)
 | .ref a=>some (.ref a)
 | .type n=>some (.ty n)
 | _=>none
theorem RelV.abs {x:V} {u:Value} (r:RelV x u):absV u=some x:=by
 cases x with
 | non=>cases r;rfl
 | bl _=>cases r;rfl
 | int _=>obtain ⟨t,rfl⟩:=r;rfl
 | str _=>obtain ⟨t,rfl⟩:=r;rfl
 | byt _=>obtain ⟨t,rfl⟩:=r;rfl
 | flt _=>obtain ⟨t,rfl⟩:=r;rfl
 | ref _=>cases r;rfl
 | ty _=>cases r;rfl
theorem RelV.inj {x y:V} {u:Value} (r:RelV x u) (q:RelV y u):x=y:=Option.some.inj (r.abs.symm.trans q.abs)
theorem Vals.inj:∀ {xs ys:List V} {us:List Value},Vals xs us→Vals ys us→xs=ys
 | _,_,_,.nil,.nil=>rfl
 | _,_,_,.cons r t,.cons r' t'=>by rw [r.inj r',Vals.inj t t']
section
variable {X:Cx} {pins:List (Addr × Obj)} {σ:St} {H:Hp} {s:Shared} {a:Addr} {xs ys:List V}
theorem SqL.of {K:PySem.W.Frag} (h:H a=some (.lst xs)):SqL K H a xs:=.inl (.inl h)
theorem SqT.of {K:PySem.W.Frag} (h:H a=some (.tup xs)):SqT K H a xs:=.inl (.inl h)
theorem Inv.list (I:Inv X pins σ H s) (h:SqL X.K H a xs):∃ its:List Value,Vals xs its∧PlainL s.heap a its.toArray∧xs.length ≤ sizeLine:=by
 rcases h with h | ⟨o,its,n,hk,hc,hd,hs,hz,r⟩
 ·obtain ⟨z,its,n,r,e⟩:=h.ok I.hok
  exact ⟨its,r,⟨_,n,e,rfl,rfl,rfl⟩,z⟩
 ·refine ⟨its.toList,r,⟨o,n,I.kIn a o hk,hc,hd,by simpa using hs⟩,?_⟩
  have e:=r.length
  simp only [Array.length_toList] at e
  omega
theorem Inv.tuple (I:Inv X pins σ H s) (h:SqT X.K H a xs):∃ its:List Value,Vals xs its∧IsTup s.heap a its.toArray∧xs.length ≤ sizeLine:=by
 rcases h with h | ⟨o,its,n,hk,hc,hs,hz,r⟩
 ·obtain ⟨z,its,r,p⟩:=h.ok I.hok
  exact ⟨its,r,p,z⟩
 ·refine ⟨its.toList,r,⟨o,I.kIn a o hk,hc,n,by simpa using hs⟩,?_⟩
  have e:=r.length
  simp only [Array.length_toList] at e
  omega
theorem Inv.list_inj (I:Inv X pins σ H s) (h:SqL X.K H a xs) (h':SqL X.K H a ys):xs=ys:=by
 obtain ⟨its,r,⟨o,n,e,_,_,d⟩,_⟩:=I.list h
 obtain ⟨its',r',⟨o',n',e',_,_,d'⟩,_⟩:=I.list h'
 rw [e] at e';cases e'
 rw [d] at d'
 injection d' with d1 _
 have:its=its':=by simpa using congrArg Array.toList d1
 subst this
 exact r.inj r'
theorem Inv.tuple_inj (I:Inv X pins σ H s) (h:SqT X.K H a xs) (h':SqT X.K H a ys):xs=ys:=by
 obtain ⟨its,r,⟨o,e,_,n,d⟩,_⟩:=I.tuple h
 obtain ⟨its',r',⟨o',e',_,n',d'⟩,_⟩:=I.tuple h'
 rw [e] at e';cases e'
 rw [d] at d'
 injection d' with d1 _
 have:its=its':=by simpa using congrArg Array.toList d1
 subst this
 exact r.inj r'
end
noncomputable abbrev Cx.wish (X:Cx) (E:Value→Shared→Prop):Cx:={ X with xe:=E }
noncomputable abbrev Cx.nox (X:Cx):Cx:=X.wish fun _ _=>False
theorem Cx.Ok.wish {X:Cx} (ok:X.Ok) (E:Value→Shared→Prop):(X.wish E).Ok :=
 ⟨ok.mod,ok.kind,ok.glob,ok.blt,ok.above,ok.inj,ok.has,ok.cab,ok.hd,ok.frames,ok.stk,ok.exf,ok.bs,ok.bsz,ok.noex,ok.exfs,ok.funs,ok.frf⟩
theorem Cx.Ok.unwish {X:Cx} {E:Value→Shared→Prop} (ok:(X.wish E).Ok):X.Ok :=
 ⟨ok.mod,ok.kind,ok.glob,ok.blt,ok.above,ok.inj,ok.has,ok.cab,ok.hd,ok.frames,ok.stk,ok.exf,ok.bs,ok.bsz,ok.noex,ok.exfs,ok.funs,ok.frf⟩
section
variable {X:Cx} {pins:List (Addr × Obj)} {σ:St} {H:Hp} {s:Shared} {E:Value→Shared→Prop}
theorem Inv.wish (I:Inv X pins σ H s) (E:Value→Shared→Prop):Inv (X.wish E) pins σ H s:=⟨I.ok.wish E,I.os,I.bare,I.base,I.loc,I.cell,I.free,I.freeC,I.pin,I.hok,I.len⟩
theorem Inv.unwish (I:Inv (X.wish E) pins σ H s):Inv X pins σ H s:=⟨I.ok.unwish,I.os,I.bare,I.base,I.loc,I.cell,I.free,I.freeC,I.pin,I.hok,I.len⟩
theorem SP.unwish {D:Ends} {f:Flow} {s':Shared} (h:SP (X.wish E) pins D f s'):SP X pins D f s':=by
 cases f with
 | next=>obtain ⟨σ',H',I,q⟩:=h;exact ⟨σ',H',I.unwish,q⟩
 | brk=>obtain ⟨σ',H',I,q⟩:=h;exact ⟨σ',H',I.unwish,q⟩
 | cont=>obtain ⟨σ',H',I,q⟩:=h;exact ⟨σ',H',I.unwish,q⟩
 | ret u=>obtain ⟨v,σ',H',I,r,q⟩:=h;exact ⟨v,σ',H',I.unwish,r,q⟩
theorem PE.nox {e:Expr} {t:TE} (h:PE X.nox e t):PE X e t:=fun pins s σ H Q I hw =>
 wpAny_mono (h pins s σ H Q (I.wish _) hw) (fun _ _ ⟨v,H',I',r,q⟩=>⟨v,H',I'.unwish,r,q⟩) fun _ _ z=>False.elim z
theorem PT.nox {e:Expr} {t:TT} (h:PT X.nox e t):PT X e t:=fun pins s σ H Q I hw =>
 wpAny_mono (h pins s σ H Q (I.wish _) hw) (fun _ _ ⟨H',I',q⟩=>⟨H',I'.unwish,q⟩) fun _ _ z=>False.elim z
theorem PSs.nox {st:List Stmt} {t:TS} (h:PSs X.nox st t):PSs X st t:=fun pins s σ H D I hw =>
 wpAny_mono (h pins s σ H D (I.wish _) hw) (fun _ _ q=>q.unwish) fun _ _ z=>False.elim z
end
section
variable {X:Cx} {st:Stmt} {rest:List Stmt} {t u:TS} {e:Expr} {te:TE} {pos:Pos}
noncomputable def tNext:TS:=fun D σ H=>D.nx σ H
noncomputable def tSeq (t u:TS):TS:=fun D σ H=>t { D with nx:=u D } σ H
theorem pss_nil:PSs X [] tNext:=fun _ _ σ H _ I h=>wpAny_execs_nil ⟨σ,H,I,h⟩
theorem pss_cons (h1:PS X st t) (h2:PSs X rest u):PSs X (st :: rest) (tSeq t u):=by
 intro pins s σ H D I h
 refine wpAny_execs_cons (thn (h1 pins s σ H { D with nx:=u D } I h) fun f s1 q=>?_)
 cases f with
 | next =>
  obtain ⟨σ',H',I',q⟩:=q
  exact h2 pins s1 σ' H' D I' q
 | ret v=>exact q
 | brk=>exact q
 | cont=>exact q
theorem pss_one (h1:PS X st t):PSs X [st] t:=by
 intro pins s σ H D I h
 refine wpAny_execs_cons (thn (h1 pins s σ H D I h) fun f s1 q=>?_)
 cases f with
 | next=>exact wpAny_execs_nil q
 | ret v=>exact q
 | brk=>exact q
 | cont=>exact q
theorem Inv.quiet {pins:List (Addr × Obj)} {σ:St} {H:Hp} {s:Shared} (I:Inv X pins σ H s):interactive X.env=false:=by simp [interactive,I.ok.kind]
noncomputable def tDrop (te:TE):TS:=fun D σ H=>te σ H fun _ H1=>D.nx σ H1
theorem ps_expr (he:PE X e te) (hs:swapsWith e none pos.line X.env=pure false:=by rfl):PS X (.Expr e pos) (tDrop te):=by
 intro pins s σ H D I h
 exact wpAny_Expr_any (thn (he pins s σ H _ I h) fun v s1 ⟨x,H1,I1,r1,q1⟩=>⟨σ,H1,I1,q1⟩) I.quiet hs
noncomputable def tRet (te:TE):TS:=fun D σ H=>te σ H D.rt
theorem ps_ret (he:PE X e te):PS X (.Return (some e) pos) (tRet te):=by
 intro pins s σ H D I h
 exact wpAny_Return_some (thn (he pins s σ H _ I h) fun v s1 ⟨x,H1,I1,r1,q1⟩=>⟨x,σ,H1,I1,r1,q1⟩)
noncomputable def tRetN:TS:=fun D _ H=>D.rt .non H
noncomputable def tIfS (c:TT) (t u:TS):TS:=fun D σ H=>c σ H fun b H1=>if b=true then t D σ H1 else u D σ H1
theorem ps_if {c:Expr} {a b:List Stmt} {tc:TT} (hc:PT X c tc) (ha:PSs X a t) (hb:PSs X b u):PS X (.If c a b pos) (tIfS tc t u):=by
 intro pins s σ H D I h
 refine wpAny_If (thn (hc pins s σ H _ I h) fun d s1 ⟨H1,I1,q1⟩=>?_)
 cases d with
 | true=>exact ha pins s1 σ H1 D I1 q1
 | false=>exact hb pins s1 σ H1 D I1 q1
end
noncomputable abbrev TG:=V→St→Hp→(St→Hp→Prop)→Prop
noncomputable abbrev TGs:=List V→St→Hp→(St→Hp→Prop)→Prop
noncomputable def PG (X:Cx) (target:Expr) (t:TG):Prop :=
 ∀ (pins:List (Addr × Obj)) (s:Shared) (σ:St) (H:Hp) (v:V) (u:Value) (Q:St→Hp→Prop),Inv X pins σ H s→RelV v u→t v σ H Q →
  wpAny (model X.prog X.w) X.A (assign target X.env u) (fun _ s'=>∃ σ' H',Inv X pins σ' H' s'∧Q σ' H') X.xe s
noncomputable def PGs (X:Cx) (ts:List Expr) (t:TGs):Prop :=
 ∀ (pins:List (Addr × Obj)) (s:Shared) (σ:St) (H:Hp) (vs:List V) (us:List Value) (Q:St→Hp→Prop),Inv X pins σ H s→Vals vs us→t vs σ H Q →
  wpAny (model X.prog X.w) X.A (assignInOrder ((assignEach ts X.env).map (·.2)) us) (fun _ s'=>∃ σ' H',Inv X pins σ' H' s'∧Q σ' H') X.xe s
noncomputable abbrev TSet:=V→V→V→Hp→(Hp→Prop)→Prop
noncomputable def PSet (X:Cx) (t:TSet):Prop :=
 ∀ (pins:List (Addr × Obj)) (s:Shared) (σ:St) (H:Hp) (o i v:V) (ov iv u:Value) (Q:Hp→Prop),Inv X pins σ H s→RelV o ov→RelV i iv→RelV v u→t o i v H Q →
  wpAny (model X.prog X.w) X.A (setItem ov iv u) (fun _ s'=>∃ H',Inv X pins σ H' s'∧Q H') X.xe s
section
variable {X:Cx} {pos:Pos}
noncomputable def gName (i:Nat):TG:=fun v σ H Q=>Q (σ.set i (some v)) H
theorem pg_name {i:Nat} {x:Str} (hN:X.N.Nodup) (hi:X.N[i]? = some x) (hx:Loc X.env.scope x) (hf:X.fn x=true∨X.env.scope.names.lookup x=some .local:=by first | exact .inl rfl | exact .inr rfl | assumption):PG X (.Name x pos) (gName i):=by
 intro pins s σ H v u Q I r h
 exact wpAny_assign_Name (store_ok I hN hi hx r (fun s' I'=>⟨_,H,I',h⟩) hf)
noncomputable def gNil:TGs:=fun vs σ H Q=>vs=[]∧Q σ H
noncomputable def gCons (t:TG) (u:TGs):TGs:=fun vs σ H Q=>∃ v r,vs=v :: r∧t v σ H fun σ' H'=>u r σ' H' Q
theorem pgs_nil:PGs X [] gNil:=by
 intro pins s σ H vs us Q I r h
 obtain ⟨e,h⟩:=h
 subst e
 cases r
 exact assignInOrder_nil ⟨σ,H,I,h⟩
theorem pgs_cons {e:Expr} {es:List Expr} {t:TG} {u:TGs} (h1:PG X e t) (h2:PGs X es u)
  (hs:(assignEach (e :: es) X.env).map (·.2)=assign e X.env :: (assignEach es X.env).map (·.2):=by rfl):PGs X (e :: es) (gCons t u):=by
 intro pins s σ H vs us Q I r h
 obtain ⟨v,vr,e1,h⟩:=h
 subst e1
 cases r with
 | cons r rr =>
  rw [hs]
  refine assignInOrder_cons (thn (h1 pins s σ H _ _ _ I r h) fun _ s1 ⟨σ1,H1,I1,q1⟩=>?_)
  exact h2 pins s1 σ1 H1 _ _ Q I1 rr q1
noncomputable def gTup (K:PySem.W.Frag) (n:Nat) (t:TGs):TG:=fun v σ H Q=>∃ a xs,v = .ref a∧SqT K H a xs∧xs.length=n∧t xs σ H Q
theorem pg_tup {es:List Expr} {k:Nat} {t:TGs} {n:Nat} (hc:X.calm=true) (h:PGs X es t)
  (hn:(assignEach es X.env).length=n:=by rfl) (hst:(assignEach es X.env).findIdx? (·.1)=none:=by rfl):PG X (.Tuple es k pos) (gTup X.K n t):=by
 intro pins s σ H v u Q I r hw
 obtain ⟨a,xs,e1,hq,hl,hw⟩:=hw
 subst e1
 cases r
 obtain ⟨its,rv,ht,hz⟩:=I.tuple hq
 refine assign_Tuple_tuple (I.ok.hd hc) ht (by simp [hn,← hl,rv.length]) hst fun h' hx=>?_
 have I1:Inv X pins σ H { s with heap:=h' }:=I.kept (t':=s.toks) fun b o e=>hx b o (Nat.ne_of_lt (Heap.lt_size e)) e
 exact h pins _ σ H xs _ Q I1 (by simpa using rv) hw
noncomputable def gSub (to ti:TE) (t:TSet):TG:=fun v σ H Q=>to σ H fun o H1=>ti σ H1 fun i H2=>t o i v H2 fun H3=>Q σ H3
theorem pg_sub {o i:Expr} {to ti:TE} {t:TSet} (ho:PE X o to) (hi:PE X i ti) (hs:PSet X t)
  (ha:∀ v,assign (.Subscript o i pos) X.env v=(do
   let ov ← holding [v] (eval o X.env)
   let iv ← holding [v,ov] (eval i X.env)
   standAt pos
   holding [v,ov,iv] (setItem ov iv v)
   release [v,ov,iv] []):=by intro _;rfl):PG X (.Subscript o i pos) (gSub to ti t):=by
 intro pins s σ H v u Q I r h
 rw [ha]
 refine wpAny_bind (wpAny_holding (thn (ho pins s σ H _ I h) fun ov s1 ⟨x,H1,I1,r1,q1⟩=>?_))
 refine wpAny_bind (wpAny_holding (thn (hi pins s1 σ H1 _ I1 q1) fun iv s2 ⟨y,H2,I2,r2,q2⟩=>?_))
 refine wpAny_bind (wpAny_standAt (wpAny_bind (wpAny_holding (thn (hs pins s2 σ H2 x y v ov iv u _ I2 r1 r2 r q2) fun _ s3 ⟨H3,I3,q3⟩=>?_))))
 exact wpAny_release ⟨σ,H3,I3,q3⟩
noncomputable def tAsg (te:TE) (g:TG):TS:=fun D σ H=>te σ H fun x H1=>g x σ H1 D.nx
theorem ps_asg {tg e:Expr} {te:TE} {g:TG} (he:PE X e te) (hg:PG X tg g) (hs:swapsWithSole [tg] e pos.line X.env=pure false:=by rfl) (hw:swappedStores [tg] e X.env=pure none:=by rfl)
  (h1:(assignEach [tg] X.env).map (·.2)=[assign tg X.env]:=by rfl):PS X (.Assign [tg] e pos) (tAsg te g):=by
 intro pins s σ H D I h
 refine wpAny_Assign_stores (thn (he pins s σ H _ I h) fun v s1 ⟨x,H1,I1,r1,q1⟩=>?_) hs hw
 rw [h1]
 exact thn (hg pins s1 σ H1 x v _ I1 r1 q1) fun _ s2 q=>q
theorem ps_set {i:Nat} {x:Str} {e:Expr} {te:TE} {pos':Pos} (hN:X.N.Nodup) (hi:X.N[i]? = some x) (hx:Loc X.env.scope x) (he:PE X e te) (hs:swapsWith e (some (.Name x pos')) pos.line X.env=pure false:=by rfl) (hf:X.fn x=true∨X.env.scope.names.lookup x=some .local:=by first | exact .inl rfl | exact .inr rfl | assumption) :
  PS X (.Assign [.Name x pos'] e pos) (tAsg te (gName i)):=by
 intro pins s σ H D I h
 refine wpAny_Assign_Name (thn (he pins s σ H _ I h) fun v s1 ⟨y,H1,I1,r1,q1⟩=>?_) hs
 exact store_ok I1 hN hi hx r1 (fun s2 I2=>⟨_,H1,I2,q1⟩) hf
noncomputable def tPar (i j:Nat) (ta:TA):TS:=fun D σ H=>ta σ H fun vs H1=>∃ v w,vs=[v,w]∧D.nx ((σ.set i (some v)).set j (some w)) H1
end
section
variable {X:Cx} {pos:Pos}
end
structure It where
 go:Nat→Hp→Prop
 yld:Nat→Hp→V→Hp→Prop
 stop:Nat→Hp→Prop
noncomputable def FpOk (X:Cx) (pins:List (Addr × Obj)) (H:Hp) (b:Addr):Prop :=
 H b=none∧b ≠ X.env.locals∧b ∉ X.fs∧(b ∈ X.ex∨X.s₀.heap.objs.size ≤ b)∧(∀ x c,X.env.cells.lookup x=some c→c ≠ b)∧∀ p ∈ X.pn ++ pins,p.1 ≠ b
theorem Inv.fpOk {X:Cx} {pins:List (Addr × Obj)} {σ:St} {H H':Hp} {s:Shared} {b:Addr} (I:Inv X pins σ H s) (hb:s.heap.objs.size ≤ b) (hn:H' b=none):FpOk X pins H' b:=by
 refine ⟨hn,Nat.ne_of_gt (Nat.lt_of_lt_of_le I.lt hb),I.nofs hb,.inr (Nat.le_trans I.sz hb),fun x c e z=>?_,fun p hp z=>?_⟩
 ·obtain ⟨v,q⟩:=I.cell x c e
  exact absurd (Nat.lt_of_lt_of_le q.lt (by rw [z];exact hb)) (Nat.lt_irrefl _)
 ·exact absurd (Nat.lt_of_lt_of_le (Heap.lt_size (I.pin p hp).1) (by rw [z];exact hb)) (Nat.lt_irrefl _)
structure Turn (P:Program) (w:World) (K:PySem.W.Frag) (tg:Expr) (J:It) (fp:List Addr) (it:Addr) (tn:Nat→Heap→Prop):Prop where
 mem:it ∈ fp
 obj:∀ i h,tn i h→∀ b ∈ fp,∃ o,h.get? b=some o∧∀ v,o.data ≠ .cell v
 keep:∀ i h h',tn i h→(∀ b ∈ fp,∀ o,h.get? b=some o→h'.get? b=some o)→tn i h'
 item:∀ (X:Cx),X.prog=P→X.w=w→X.K=K→X.calm=true→∀ (i:Nat) (pins:List (Addr × Obj)) (s:Shared) (σ:St) (H:Hp) (E:Value→Shared→Prop),Inv X pins σ H s→(∀ b ∈ fp,FpOk X pins H b)→tn i s.heap→J.go i H →
  wpAny (model P w) X.A (pyNext (.ref it)) (fun r s1=>∃ u,r=some u ∧
   wpAny (model P w) X.A (letOwnedTupleGo tg (.ref it) u) (fun _ s2=>∃ x H',Inv X pins σ H' s2∧RelV x u∧J.yld i H x H'∧tn (i + 1) s2.heap∧∀ b ∈ fp,H' b=none) E s1) E s
 done:∀ (X:Cx),X.prog=P→X.w=w→X.K=K→X.calm=true→∀ (i:Nat) (pins:List (Addr × Obj)) (s:Shared) (σ:St) (H:Hp) (E:Value→Shared→Prop),Inv X pins σ H s→(∀ b ∈ fp,FpOk X pins H b)→tn i s.heap→J.stop i H →
  wpAny (model P w) X.A (pyNext (.ref it)) (fun r s1=>r=none∧Inv X pins σ H s1) E s
 self:∀ (A:Around) (i:Nat) (s:Shared) (Q:Value→Shared→Prop) (E:Value→Shared→Prop),tn i s.heap→Q (.ref it) s→wpAny (model P w) A (pyIter (.ref it)) Q E s
noncomputable abbrev TI:=St→Hp→(It→Hp→Prop)→Prop
noncomputable def PIE (X:Cx) (pins:List (Addr × Obj)) (σ:St) (tg:Expr) (R:It→Hp→Prop) (itv:Value) (s2:Shared):Prop :=
 ∃ (it:Addr) (fp:List Addr) (tn:Nat→Heap→Prop) (J:It) (H':Hp),itv = .ref it∧Inv X pins σ H' s2∧Turn X.prog X.w X.K tg J fp it tn∧tn 0 s2.heap∧(∀ b ∈ fp,FpOk X pins H' b)∧R J H'
noncomputable def PI (X:Cx) (tg iter:Expr) (wi:TI):Prop :=
 ∀ (pins:List (Addr × Obj)) (s:Shared) (σ:St) (H:Hp) (R:It→Hp→Prop),Inv X pins σ H s→wi σ H R →
  wpAny (model X.prog X.w) X.A (eval iter X.env) (fun v s1=>wpAny (model X.prog X.w) X.A (pyIter v) (PIE X pins σ tg R) X.xe s1) X.xe s
theorem go_of {M : Model} {A : Around} {E : Value → Shared → Prop} {s : Shared} {tg : Expr} {it : Addr} {u : Value} {o : Obj} {n : String} {vs : Array Value} {Q : Unit → Shared → Prop} (ho : s.heap.get? it = some o) (hc : o.cls = .type n) (hd : o.data = .fields vs)
    (hn : ["enumerate", "zip", "dict_itemiterator", "dict_reverseitemiterator", "odict_iterator", "itertools.zip_longest", "itertools.pairwise"].contains n = false) (hQ : Q () s) : wpAny M A (letOwnedTupleGo tg (.ref it) u) Q E s := by
  unfold letOwnedTupleGo
  cases tg <;> first
    | exact wpAny_pure hQ
    | (cases u <;> first
        | exact wpAny_pure hQ
        | (refine wpAny_bind (wpAny_load ho ?_)
           rw [hc, hd]
           show wpAny M A (if (["enumerate", "zip", "dict_itemiterator", "dict_reverseitemiterator", "odict_iterator", "itertools.zip_longest", "itertools.pairwise"].contains n && vs[0]? == some (rawInt _)) = true then _ else _) Q E s
           rw [if_neg (by intro h; rw [hn, Bool.false_and] at h; cases h)]
           exact wpAny_pure hQ))
noncomputable def Itl (K:PySem.W.Frag) (a:Addr):It :=
 ⟨fun i H=>∃ xs x,SqL K H a xs∧xs[i]? = some x,fun i H x H'=>H'=H∧∀ xs,SqL K H a xs→xs[i]? = some x,fun i H=>∃ xs,SqL K H a xs∧xs.length ≤ i⟩
noncomputable def Itt (K:PySem.W.Frag) (a:Addr):It :=
 ⟨fun i H=>∃ xs x,SqT K H a xs∧xs[i]? = some x,fun i H x H'=>H'=H∧∀ xs,SqT K H a xs→xs[i]? = some x,fun i H=>∃ xs,SqT K H a xs∧xs.length ≤ i⟩
noncomputable def Itr (lo:Int) (n:Nat):It:=⟨fun i _=>i < n,fun i H x H'=>H'=H∧x = .int (lo + i),fun i _=>n ≤ i⟩
theorem turn_list {P:Program} {w:World} {K:PySem.W.Frag} {tg:Expr} (a it:Addr):Turn P w K tg (Itl K a) [it] it (fun i h=>h.IsListIter it a i) where
 mem:=by simp
 obj:=fun i h st b hb=>by
  have e:b=it:=by simpa using hb
  subst e
  obtain ⟨o,e,c,d⟩:=st
  exact ⟨o,e,fun v z=>by rw [d] at z;cases z⟩
 keep:=fun i h h' st k=>st.at fun o e=>k it (by simp) o e
 item:=by
  intro X hP hw hK hc i pins s σ H E I hf st hg
  subst hP hw hK
  obtain ⟨xs,x,hq,hx⟩:=hg
  obtain ⟨its,rv,p,hz⟩:=I.list hq
  obtain ⟨u,hu,ru⟩:=rv.get hx
  obtain ⟨f0,f1,f2,f3,f4,f5⟩:=hf it (by simp)
  refine wpAny_pyNext_list_item st p.isList (x:=u) (by simpa using hu) fun h' st' sb=>?_
  have I1:Inv X pins σ H { s with heap:=h' }:=I.turned (t':=s.toks) (fun b o hb e=>(sb.2 b hb).trans e) f0 f1 f3 f4 f5
  obtain ⟨o,e,c,d⟩:=id st'
  exact ⟨u,rfl,go_of (s:={ s with heap:=h' }) e c d (by decide) ⟨x,H,I1,ru,⟨rfl,fun ys hy=>by rw [I.list_inj hy hq];exact hx⟩,st',fun b hb=>(hf b hb).1⟩⟩
 done:=by
  intro X hP hw hK hc i pins s σ H E I hf st hg
  subst hP hw hK
  obtain ⟨xs,hq,hx⟩:=hg
  obtain ⟨its,rv,p,hz⟩:=I.list hq
  obtain ⟨f0,f1,f2,f3,f4,f5⟩:=hf it (by simp)
  have hl:=rv.length
  exact wpAny_pyNext_list_end (I.ok.hd hc) st p.isList (by simp;omega) fun h' eb=>⟨rfl,I.turned (t':=s.toks) (fun b o hb e=>eb b o hb e) f0 f1 f3 f4 f5⟩
 self:=fun _ _ _ _ _ st h=>wpAny_pyIter_listiter st h
theorem turn_tuple {P:Program} {w:World} {K:PySem.W.Frag} {tg:Expr} (a it:Addr):Turn P w K tg (Itt K a) [it] it (fun i h=>h.IsTupleIter it a i) where
 mem:=by simp
 obj:=fun i h st b hb=>by
  have e:b=it:=by simpa using hb
  subst e
  obtain ⟨o,e,c,d⟩:=st
  exact ⟨o,e,fun v z=>by rw [d] at z;cases z⟩
 keep:=fun i h h' st k=>st.at fun o e=>k it (by simp) o e
 item:=by
  intro X hP hw hK hc i pins s σ H E I hf st hg
  subst hP hw hK
  obtain ⟨xs,x,hq,hx⟩:=hg
  obtain ⟨its,rv,p,hz⟩:=I.tuple hq
  obtain ⟨u,hu,ru⟩:=rv.get hx
  obtain ⟨f0,f1,f2,f3,f4,f5⟩:=hf it (by simp)
  refine wpAny_pyNext_tuple_item st (show s.heap.IsTuple a its.toArray from p) (x:=u) (by simpa using hu) fun h' st' sb=>?_
  have I1:Inv X pins σ H { s with heap:=h' }:=I.turned (t':=s.toks) (fun b o hb e=>(sb.2 b hb).trans e) f0 f1 f3 f4 f5
  obtain ⟨o,e,c,d⟩:=id st'
  exact ⟨u,rfl,go_of (s:={ s with heap:=h' }) e c d (by decide) ⟨x,H,I1,ru,⟨rfl,fun ys hy=>by rw [I.tuple_inj hy hq];exact hx⟩,st',fun b hb=>(hf b hb).1⟩⟩
 done:=by
  intro X hP hw hK hc i pins s σ H E I hf st hg
  subst hP hw hK
  obtain ⟨xs,hq,hx⟩:=hg
  obtain ⟨its,rv,p,hz⟩:=I.tuple hq
  obtain ⟨f0,f1,f2,f3,f4,f5⟩:=hf it (by simp)
  have hl:=rv.length
  exact wpAny_pyNext_tuple_end (I.ok.hd hc) st (show s.heap.IsTuple a its.toArray from p) (by simp;omega) fun h' eb=>⟨rfl,I.turned (t':=s.toks) (fun b o hb e=>eb b o hb e) f0 f1 f3 f4 f5⟩
 self:=fun _ _ _ _ _ st h=>wpAny_pyIter_tupleiter st h
theorem turn_range {P:Program} {w:World} {K:PySem.W.Frag} {tg:Expr} (it:Addr) (lo:Int) (n:Nat):Turn P w K tg (Itr lo n) [it] it (fun i h=>IsRangeIter h it (lo + (i:Nat) * 1) ((n:Int) - (i:Nat)) 1) where
 mem:=by simp
 obj:=fun i h st b hb=>by
  have e:b=it:=by simpa using hb
  subst e
  exact ⟨_,st,fun v z=>by
   have z':Data.fields _=Data.cell v:=z
   cases z'⟩
 keep:=fun i h h' st k=>k it (by simp) _ st
 item:=by
  intro X hP hw hK hc i pins s σ H E I hf st hg
  subst hP hw hK
  obtain ⟨f0,f1,f2,f3,f4,f5⟩:=hf it (by simp)
  have W:=Walks.range (prog:=X.prog) (w:=X.w) (I.ok.hd hc) it lo 1 n
  refine W.item i s _ _ hg st fun v h' tk hv st' kk=>?_
  obtain ⟨t,rfl⟩:=hv
  have I1:Inv X pins σ H { s with heap:=h',toks:=tk }:=I.turned (fun b o hb e=>kk b o (by simpa using hb) e) f0 f1 f3 f4 f5
  refine ⟨_,rfl,go_of (s:={ s with heap:=h',toks:=tk }) (n := "range_iterator") st' rfl rfl (by decide) ⟨.int (lo + i),H,I1,⟨t,?_⟩,⟨rfl,rfl⟩,st',fun b hb=>(hf b hb).1⟩⟩
  rw [Int.mul_one]
 done:=by
  intro X hP hw hK hc i pins s σ H E I hf st hg
  subst hP hw hK
  obtain ⟨f0,f1,f2,f3,f4,f5⟩:=hf it (by simp)
  exact wpAny_pyNext_range_end (I.ok.hd hc) st (by have:n ≤ i:=hg;omega) fun h' eb=>⟨rfl,I.turned (t':=s.toks) (fun b o hb e=>eb b o hb e) f0 f1 f3 f4 f5⟩
 self:=fun _ _ _ _ _ st h=>wpAny_pyIter_rangeiter st h
end L2
namespace L2
open PySem PySem.Spec PyProof.Rows
section
variable {X:Cx} {tg:Expr}
theorem range_it {pins:List (Addr × Obj)} {σ:St} {H:Hp} {s:Shared} {R:It→Hp→Prop} {E:Value→Shared→Prop} {lo hi:Int} {t u v:Tok} {tk:Nat} (I:Inv X pins σ H s) (h1 : -(2 ^ 62) ≤ lo) (h2:lo < 2 ^ 62) (h3 : -(2 ^ 62) ≤ hi) (h4:hi < 2 ^ 62)
  (q:R (Itr lo (hi - lo).toNat) H):wpAny (model X.prog X.w) X.A (pyIter (.ref s.heap.objs.size)) (PIE X pins σ tg R) E { s with heap:=s.heap.push { cls:=.type "range",data:=.fields #[.int lo t,.int hi u,.int 1 v] },toks:=tk }:=by
 refine wpAny_pyIter_range (IsRange.new ..) (small_one h1 h2 h3 h4) ?_
 have I1:Inv X pins σ H { s with heap:=s.heap.push { cls:=.type "range",data:=.fields #[.int lo t,.int hi u,.int 1 v] },toks:=tk }:=I.kept fun b o e=>Heap.get?_push_of_some _ e
 refine ⟨(s.heap.push { cls:=.type "range",data:=.fields #[.int lo t,.int hi u,.int 1 v] }).objs.size,[(s.heap.push { cls:=.type "range",data:=.fields #[.int lo t,.int hi u,.int 1 v] }).objs.size],_,_,H,rfl,
  I1.kept (t':=tk) fun b o e=>Heap.get?_push_of_some _ e,turn_range _ lo (hi - lo).toNat,?_,fun b hb=>?_,q⟩
 ·have e1:lo + ((0:Nat):Int) * 1=lo:=by simp
  have e2:(((hi - lo).toNat:Nat):Int) - ((0:Nat):Int)=Builtin.Range.rangeSize lo hi 1:=by rw [rangeSize_one];split <;> omega
  show IsRangeIter _ _ (lo + ((0:Nat):Int) * 1) ((((hi - lo).toNat:Nat):Int) - ((0:Nat):Int)) 1
  rw [e1,e2]
  exact Heap.get?_push_size _ rfl
 ·have e:b=(s.heap.push { cls:=.type "range",data:=.fields #[.int lo t,.int hi u,.int 1 v] }).objs.size:=by simpa using hb
  subst e
  exact I1.fpOk (Nat.le_refl _) (I1.hok.fresh (Nat.le_refl _))
noncomputable def iRng1 (ta:TA):TI:=fun σ H R=>ta σ H fun vs H1=>∃ j:Int,vs=[.int j]∧-(2 ^ 62) ≤ j∧j < 2 ^ 62∧R (Itr 0 j.toNat) H1
noncomputable def iRng2 (ta:TA):TI:=fun σ H R=>ta σ H fun vs H1=>∃ i j:Int,vs=[.int i,.int j]∧(-(2 ^ 62) ≤ i∧i < 2 ^ 62∧-(2 ^ 62) ≤ j∧j < 2 ^ 62)∧R (Itr i (j - i).toNat) H1
theorem pi_range1 {a:Expr} {ta:TA} {p pos:Pos} (hg:Gl X "range") (hm:X.mg "range" = none) (ha:PA X [a] ta) (hs:starEach [a] X.env=[(false,eval a X.env)]:=by rfl):PI X tg (.Call (.Name "range" p) [a] [] pos) (iRng1 ta):=by
 intro pins s σ H R I h
 refine Call_ (ld_blt I hg hm boot_range (PyProof.Rows.callWith_type1 (thn (ha pos pins s σ H _ I h) fun us s1 ⟨vs,H1,I1,r1,q1⟩=>?_) hs rfl))
 obtain ⟨j,e,q1,q2,q⟩:=q1
 subst e
 cases r1 with
 | cons r rr =>
  cases rr
  obtain ⟨t,rfl⟩:=r
  exact call_range_1 (range_it I1 (by omega) (by omega) q1 q2 (by simpa using q))
noncomputable def tFor (wi:TI) (g:TG) (tb:TS):TS:=fun D σ H=>wi σ H fun J H1=>∃ W:Nat→Nat→St→Hp→Prop,(∃ m,W 0 m σ H1)∧∀ i m σ H,W i m σ H →
 (J.stop i H∧D.nx σ H)∨(J.go i H∧∃ N:St→Hp→Prop,(∀ σ' H',N σ' H'→∃ m',m' < m∧W (i + 1) m' σ' H')∧∀ x H',J.yld i H x H'→g x σ H' fun σ2 H2=>tb { D with nx:=N,ct:=N,bk:=D.nx } σ2 H2)
noncomputable def pinsAt (fp:List Addr) (h:Heap):List (Addr × Obj):=fp.filterMap fun b=>(h.get? b).map fun o=>(b,o)
theorem mem_pinsAt {fp:List Addr} {h:Heap} {b:Addr} {o:Obj} (hb:b ∈ fp) (e:h.get? b=some o):(b,o) ∈ pinsAt fp h:=List.mem_filterMap.mpr ⟨b,hb,by rw [e];rfl⟩
theorem of_pinsAt {fp:List Addr} {h:Heap} {p:Addr × Obj} (hp:p ∈ pinsAt fp h):p.1 ∈ fp∧h.get? p.1=some p.2:=by
 obtain ⟨b,hb,e⟩:=List.mem_filterMap.mp hp
 cases q:h.get? b with
 | none=>rw [q] at e;cases e
 | some o =>
  rw [q] at e
  have e':(b,o)=p:=Option.some.inj e
  subst e'
  exact ⟨hb,q⟩
theorem Inv.pinned {pins:List (Addr × Obj)} {σ:St} {H:Hp} {s:Shared} {fp:List Addr} (I:Inv X pins σ H s) (hf:∀ b ∈ fp,FpOk X pins H b) (ho:∀ b ∈ fp,∃ o,s.heap.get? b=some o∧∀ v,o.data ≠ .cell v):Inv X (pins ++ pinsAt fp s.heap) σ H s :=
 I.pins_of fun p hp=>(List.mem_append.mp hp).elim (fun z=>I.pin p (List.mem_append_right _ z)) fun z=>by
  obtain ⟨hb,e⟩:=of_pinsAt z
  obtain ⟨f0,f1,f2,_⟩:=hf p.1 hb
  obtain ⟨o,e',d⟩:=ho p.1 hb
  rw [e] at e';cases e'
  exact ⟨e,f0,f1,f2,d⟩
theorem Inv.unpinned {pins pl:List (Addr × Obj)} {σ:St} {H:Hp} {s:Shared} (I:Inv X (pins ++ pl) σ H s):Inv X pins σ H s:=I.pins_of fun p hp=>I.pin p (List.mem_append_right _ (List.mem_append_left _ hp))
theorem ps_for {iter:Expr} {body:List Stmt} {wi:TI} {g:TG} {tb:TS} {pos:Pos} (hp:PassesOwn (model X.prog X.w) X.A X.env X.xe) (hc:X.calm=true) (hi:PI X tg iter wi) (hg:PG X tg g) (hb:PSs X body tb)
  (hs:∀ x,foldedSetIterable iter X.env x=pure x:=by intro _;rfl):PS X (.For tg iter body [] pos) (tFor wi g tb):=by
 intro pins s σ H D I h
 refine wpAny_For (thn (hi pins s σ H _ I h) fun v s1 h1=>thn h1 fun itv s2 h2=>?_) hs
 obtain ⟨it,fp,tn,J,H2,e,I2,T,st2,f2,W,⟨m0,w0⟩,turn⟩:=h2
 subst e
 have stat:∀ {H':Hp},(∀ b ∈ fp,H' b=none)→∀ b ∈ fp,FpOk X pins H' b:=fun hn b hb=>⟨hn b hb,(f2 b hb).2⟩
 refine codeAny_forLoop_any (fun n s'=>∃ i σ' H',Inv X pins σ' H' s'∧tn i s'.heap∧(∀ b ∈ fp,H' b=none)∧W i n σ' H') ?_ m0 ⟨0,σ,H2,I2,st2,fun b hb=>(f2 b hb).1,w0⟩
 rintro n s3 ⟨i,σ3,H3,I3,st3,fr3,w3⟩
 rcases turn i n σ3 H3 w3 with ⟨stop,qn⟩ | ⟨go,N,hN,step⟩
 ·refine wpAny_passesOwn hp (thn (T.done X rfl rfl rfl hc i pins s3 σ3 H3 X.xe I3 (stat fr3) st3 stop) fun r s4 ⟨hr,I4⟩=>?_)
  subst hr
  exact wpAny_execs_nil ⟨σ3,H3,I4,qn⟩
 ·refine wpAny_passesOwn hp (thn (T.item X rfl rfl rfl hc i pins s3 σ3 H3 X.xe I3 (stat fr3) st3 go) fun r s4 ⟨u,hr,h4⟩=>?_)
  subst hr
  refine wpAny_passesOwn hp (thn h4 fun _ s5 ⟨x,H5,I5,r5,y5,st5,fr5⟩=>?_)
  have I5':=I5.pinned (stat fr5) (T.obj _ _ st5)
  refine wpAny_passesOwn hp (thn (hg _ s5 σ3 H5 x u _ I5' r5 (step x H5 y5)) fun _ s6 ⟨σ6,H6,I6,q6⟩=>?_)
  refine wpAny_passesOwn hp (thn (hb _ s6 σ6 H6 _ I6 q6) fun f s7 q7=>?_)
  have again:∀ {σ7:St} {H7:Hp},Inv X (pins ++ pinsAt fp s5.heap) σ7 H7 s7→N σ7 H7→∃ m,m < n∧∃ i σ' H',Inv X pins σ' H' s7∧tn i s7.heap∧(∀ b ∈ fp,H' b=none)∧W i m σ' H':=fun {σ7 H7} I7 n7=>by
   obtain ⟨m',hm,w7⟩:=hN σ7 H7 n7
   refine ⟨m',hm,i + 1,σ7,H7,I7.unpinned,T.keep _ _ _ st5 fun b hb o e=>(I7.pin (b,o) (List.mem_append_right _ (List.mem_append_right _ (mem_pinsAt hb e)))).1,fun b hb=>?_,w7⟩
   obtain ⟨o,e,d⟩:=T.obj _ _ st5 b hb
   exact (I7.pin (b,o) (List.mem_append_right _ (List.mem_append_right _ (mem_pinsAt hb e)))).2.1
  cases f with
  | next=>obtain ⟨σ7,H7,I7,n7⟩:=q7;exact again I7 n7
  | cont=>obtain ⟨σ7,H7,I7,n7⟩:=q7;exact again I7 n7
  | brk=>obtain ⟨σ7,H7,I7,q7⟩:=q7;exact ⟨σ7,H7,I7.unpinned,q7⟩
  | ret v=>obtain ⟨x7,σ7,H7,I7,r7,q7⟩:=q7;exact ⟨x7,σ7,H7,I7.unpinned,r7,q7⟩
end
theorem for_range {lo:Int} {n:Nat} {g:TG} {tb:TS} {D:Ends} {σ:St} {H:Hp} (Pv:Nat→St→Hp→Prop) (h0:Pv 0 σ H)
  (hs:∀ i σ H,i < n→Pv i σ H→g (.int (lo + i)) σ H fun σ2 H2=>tb { D with nx:=Pv (i + 1),ct:=Pv (i + 1),bk:=D.nx } σ2 H2) (hd:∀ σ H,Pv n σ H→D.nx σ H) :
  ∃ W:Nat→Nat→St→Hp→Prop,(∃ m,W 0 m σ H)∧∀ i m σ H,W i m σ H →
   ((Itr lo n).stop i H∧D.nx σ H)∨((Itr lo n).go i H∧∃ N:St→Hp→Prop,(∀ σ' H',N σ' H'→∃ m',m' < m∧W (i + 1) m' σ' H')∧∀ x H',(Itr lo n).yld i H x H'→g x σ H' fun σ2 H2=>tb { D with nx:=N,ct:=N,bk:=D.nx } σ2 H2):=by
 refine ⟨fun i m σ H=>m=n - i∧i ≤ n∧Pv i σ H,⟨n,by simp,Nat.zero_le _,h0⟩,?_⟩
 rintro i m σ H ⟨rfl,hi,p⟩
 by_cases hlt:i < n
 ·refine .inr ⟨hlt,Pv (i + 1),fun σ' H' p'=>⟨n - (i + 1),by omega,rfl,hlt,p'⟩,fun x H' y=>?_⟩
  obtain ⟨e,y⟩:=y
  subst e y
  exact hs i σ _ hlt p
 ·have e:i=n:=by omega
  subst e
  exact .inl ⟨Nat.le_refl _,hd σ H p⟩
end L2
namespace L2
open PySem PySem.Spec PyProof.Rows
noncomputable abbrev R2:=V→V→Hp→VK→Prop
noncomputable def OpR (X:Cx) (f:Value→Value→Sem Value) (r:R2):Prop :=
 ∀ (pins:List (Addr × Obj)) (s:Shared) (σ:St) (H:Hp) (x y:V) (v u:Value) (Q:VK),Inv X pins σ H s→RelV x v→RelV y u→r x y H Q →
  wpAny (model X.prog X.w) X.A (f v u) (EP X pins σ Q) X.xe s
noncomputable def UnR (X:Cx) (f:Value→Sem Value) (r:V→Hp→VK→Prop):Prop :=
 ∀ (pins:List (Addr × Obj)) (s:Shared) (σ:St) (H:Hp) (x:V) (v:Value) (Q:VK),Inv X pins σ H s→RelV x v→r x H Q →
  wpAny (model X.prog X.w) X.A (f v) (EP X pins σ Q) X.xe s
noncomputable def CallR (X:Cx) (f:Value) (r:List V→Hp→VK→Prop):Prop :=
 ∀ (pins:List (Addr × Obj)) (s:Shared) (σ:St) (H:Hp) (xs:List V) (us:List Value) (Q:VK),Inv X pins σ H s→Vals xs us→r xs H Q →
  wpAny (model X.prog X.w) X.A (call f us) (EP X pins σ Q) X.xe s
noncomputable def TruR (X:Cx) (r:V→Hp→(Bool→Hp→Prop)→Prop):Prop :=
 ∀ (pins:List (Addr × Obj)) (s:Shared) (σ:St) (H:Hp) (x:V) (v:Value) (Q:Bool→Hp→Prop),Inv X pins σ H s→RelV x v→r x H Q →
  wpAny (model X.prog X.w) X.A (truthy v) (TP X pins σ Q) X.xe s
noncomputable def tOp (r:R2) (ta tb:TE):TE:=fun σ H Q=>ta σ H fun x H1=>tb σ H1 fun y H2=>r x y H2 Q
noncomputable def tUn (r:V→Hp→VK→Prop) (ta:TE):TE:=fun σ H Q=>ta σ H fun x H1=>r x H1 Q
noncomputable def rI (C:Int→Int→Prop) (g:Int→Int→V):R2:=fun x y H Q=>∃ i j,x = .int i∧y = .int j∧C i j∧Q (g i j) H
noncomputable def rI0 (g:Int→Int→V):R2:=fun x y H Q=>∃ i j,x = .int i∧y = .int j∧Q (g i j) H
noncomputable def rU (g:Int→V):V→Hp→VK→Prop:=fun x H Q=>∃ i,x = .int i∧Q (g i) H
section
variable {X:Cx} {a b c:Expr} {ta tb tc:TE} {pos:Pos}
theorem binT (ha:PE X a ta) (hb:PE X b tb) {pins:List (Addr × Obj)} {s:Shared} {σ:St} {H:Hp} {R:V→V→Hp→Prop} (I:Inv X pins σ H s)
  (h:ta σ H fun x H1=>tb σ H1 fun y H2=>R x y H2) {Q:Value→Shared→Prop} {f:Value→Value→Sem Value}
  (hf:∀ v u s2 x y H2,Inv X pins σ H2 s2→RelV x v→RelV y u→R x y H2→wpAny (model X.prog X.w) X.A (f v u) Q X.xe s2) :
  wpAny (model X.prog X.w) X.A (eval a X.env) (fun v s₁=>wpAny (model X.prog X.w) X.A (eval b X.env) (fun u s₂=>wpAny (model X.prog X.w) X.A (f v u) Q X.xe s₂) X.xe s₁) X.xe s:=by
 refine thn (ha pins s σ H _ I h) fun v s1 ⟨x,H1,I1,r1,q1⟩=>?_
 refine thn (hb pins s1 σ H1 _ I1 q1) fun u s2 ⟨y,H2,I2,r2,q2⟩=>?_
 exact hf v u s2 x y H2 I2 r1 r2 q2
theorem pe_op {op:Operator} {r:R2} (ho:OpR X (binaryOp op) r) (ha:PE X a ta) (hb:PE X b tb):PE X (.BinOp a op b pos) (tOp r ta tb):=by
 intro pins s σ H Q I h
 exact wpAny_BinOp (binT ha hb I h fun v u s2 x y H2 I2 rx ry q=>ho pins s2 σ H2 x y v u Q I2 rx ry q)
theorem pe_un {op:UnaryOp} {r:V→Hp→VK→Prop} (ho:UnR X (unaryOp op) r) (ha:PE X a ta):PE X (.UnaryOp op a pos) (tUn r ta):=by
 intro pins s σ H Q I h
 exact UnaryOp_ (thn (ha pins s σ H _ I h) fun v s1 ⟨x,H1,I1,r1,q1⟩=>ho pins s1 σ H1 x v Q I1 r1 q1)
theorem opI {f:Value→Value→Sem Value} {C:Int→Int→Prop} {g:Int→Int→Int}
  (rule:∀ (i j:Int) (t u:Tok) (s:Shared) (Q:Value→Shared→Prop) (E:Value→Shared→Prop),C i j→Q (.int (g i j) s.toks) { s with toks:=s.toks + 1 }→wpAny (model X.prog X.w) X.A (f (.int i t) (.int j u)) Q E s) :
  OpR X f (rI C fun i j=>.int (g i j)):=by
 intro pins s σ H x y v u Q I rx ry h
 obtain ⟨i,j,rfl,rfl,hc,q⟩:=h
 obtain ⟨t,rfl⟩:=rx
 obtain ⟨t',rfl⟩:=ry
 exact rule i j t t' s _ _ hc ⟨.int (g i j),H,I.tok _,⟨_,rfl⟩,q⟩
theorem opI0 {f:Value→Value→Sem Value} {g:Int→Int→Int}
  (rule:∀ (i j:Int) (t u:Tok) (s:Shared) (Q:Value→Shared→Prop) (E:Value→Shared→Prop),Q (.int (g i j) s.toks) { s with toks:=s.toks + 1 }→wpAny (model X.prog X.w) X.A (f (.int i t) (.int j u)) Q E s) :
  OpR X f (rI0 fun i j=>.int (g i j)):=by
 intro pins s σ H x y v u Q I rx ry h
 obtain ⟨i,j,rfl,rfl,q⟩:=h
 obtain ⟨t,rfl⟩:=rx
 obtain ⟨t',rfl⟩:=ry
 exact rule i j t t' s _ _ ⟨.int (g i j),H,I.tok _,⟨_,rfl⟩,q⟩
theorem opB0 {f:Value→Value→Sem Value} {g:Int→Int→Bool}
  (rule:∀ (i j:Int) (t u:Tok) (s:Shared) (Q:Value→Shared→Prop) (E:Value→Shared→Prop),Q (.bool (g i j)) s→wpAny (model X.prog X.w) X.A (f (.int i t) (.int j u)) Q E s) :
  OpR X f (rI0 fun i j=>.bl (g i j)):=by
 intro pins s σ H x y v u Q I rx ry h
 obtain ⟨i,j,rfl,rfl,q⟩:=h
 obtain ⟨t,rfl⟩:=rx
 obtain ⟨t',rfl⟩:=ry
 exact rule i j t t' s _ _ ⟨.bl (g i j),H,I,rfl,q⟩
noncomputable def CDiv (i j:Int):Prop:=0 < j∧j < 1073741824
noncomputable def CPow (i j:Int):Prop:=0 ≤ j∧j ≤ 1000000∧i.natAbs < 2 ^ 64
noncomputable def CMul (i j:Int):Prop:=(-(2 ^ 64) < i∧i < 2 ^ 64)∨(-(2 ^ 64) < j∧j < 2 ^ 64)
theorem CMul.ok {i j:Int} (h:CMul i j):IntMulOk i j:=by
 rcases h with ⟨h1,h2⟩ | ⟨h1,h2⟩
 ·exact .of_left (intBits_le_64 h1 h2)
 ·exact .of_right (intBits_le_64 h1 h2)
theorem two_pow_nn (k:Nat):(0:Int) ≤ 2 ^ k:=by
 rw [two_pow_cast]
 exact Int.natCast_nonneg _
theorem op_add:OpR X (binaryOp .Add) (rI0 fun i j=>.int (i + j)):=opI0 fun _ _ _ _ _ _ _ q=>add_int q
theorem op_sub:OpR X (binaryOp .Sub) (rI0 fun i j=>.int (i - j)):=opI0 fun _ _ _ _ _ _ _ q=>sub_int q
theorem op_mul:OpR X (binaryOp .Mult) (rI CMul fun i j=>.int (i * j)):=opI fun _ _ _ _ _ _ _ hc q=>mul_int q hc.ok
theorem op_fdiv:OpR X (binaryOp .FloorDiv) (rI CDiv fun i j=>.int (i / j)):=opI fun i j _ _ _ _ _ hc q=>by
 have h1:(0:Int) < j:=hc.1
 have h2:j < 1073741824:=hc.2
 exact floordiv_int (by omega) (by rw [Int.fdiv_eq_ediv_of_nonneg i (by omega)];exact q) (.inl (PyProof.noPylong_small (by omega)))
theorem op_mod:OpR X (binaryOp .Mod) (rI (fun _ j=>0 < j) fun i j=>.int (i % j)):=opI fun i j _ _ _ _ _ hc q=>by
 have h1:(0:Int) < j:=hc
 exact mod_int' (by omega) (by rw [Int.fmod_eq_emod_of_nonneg i (by omega)];exact q)
theorem op_pow:OpR X (binaryOp .Pow) (rI CPow fun i j=>.int (i ^ j.toNat)):=opI fun _ _ _ _ _ _ _ hc q=>pow_int_small hc.1 hc.2.1 hc.2.2 q
theorem op_shl:OpR X (binaryOp .LShift) (rI CPow fun i j=>.int (i * 2 ^ j.toNat)):=opI fun _ _ _ _ _ _ _ hc q=>lshift_int_small hc.1 hc.2.1 hc.2.2 q
theorem op_shr:OpR X (binaryOp .RShift) (rI (fun _ j=>0 ≤ j) fun i j=>.int (i / 2 ^ j.toNat)):=opI fun i j _ _ _ _ _ hc q =>
 rshift_int hc (by rw [Int.fdiv_eq_ediv_of_nonneg i (two_pow_nn _)];exact q)
theorem op_and:OpR X (binaryOp .BitAnd) (rI0 fun i j=>.int (Builtin.bitAnd i j)):=opI0 fun _ _ _ _ _ _ _ q=>and_int q
theorem op_or:OpR X (binaryOp .BitOr) (rI0 fun i j=>.int (Builtin.bitOr i j)):=opI0 fun _ _ _ _ _ _ _ q=>or_int q
theorem op_xor:OpR X (binaryOp .BitXor) (rI0 fun i j=>.int (Builtin.bitXor i j)):=opI0 fun _ _ _ _ _ _ _ q=>xor_int q
theorem unI {f:Value→Sem Value} {g:Int→Int}
  (rule:∀ (i:Int) (t:Tok) (s:Shared) (Q:Value→Shared→Prop) (E:Value→Shared→Prop),Q (.int (g i) s.toks) { s with toks:=s.toks + 1 }→wpAny (model X.prog X.w) X.A (f (.int i t)) Q E s) :
  UnR X f (rU fun i=>.int (g i)):=by
 intro pins s σ H x v Q I rx h
 obtain ⟨i,rfl,q⟩:=h
 obtain ⟨t,rfl⟩:=rx
 exact rule i t s _ _ ⟨.int (g i),H,I.tok _,⟨_,rfl⟩,q⟩
theorem un_neg:UnR X (unaryOp .USub) (rU fun i=>.int (-i)):=unI fun _ _ _ _ _ q=>neg_int q
end
noncomputable def scal:V→V→Bool
 | .non,.non=>true | .non,.int _=>true | .int _,.non=>true | .non,.bl _=>true | .bl _,.non=>true | .non,.str _=>true | .str _,.non=>true
 | .int _,.int _=>true | .bl _,.bl _=>true | .str _,.str _=>true | .byt _,.byt _=>true
 | .int _,.str _=>true | .str _,.int _=>true | .bl _,.str _=>true | .str _,.bl _=>true
 | _,_=>false
noncomputable def rEq:R2:=fun x y H Q=>scal x y=true∧Q (.bl (decide (x=y))) H
noncomputable def rNe:R2:=fun x y H Q=>scal x y=true∧Q (.bl (!decide (x=y))) H
theorem dec_int {i j:Int}:decide (V.int i=V.int j)=(i == j):=by
 rw [Bool.eq_iff_iff]
 simp
theorem dec_bl {i j:Bool}:decide (V.bl i=V.bl j)=(i == j):=by
 rw [Bool.eq_iff_iff]
 simp
theorem dec_str {i j:Str}:decide (V.str i=V.str j)=(i == j):=by
 rw [Bool.eq_iff_iff]
 simp
theorem dec_byt {i j:Array UInt8}:decide (V.byt i=V.byt j)=(i.toList == j.toList):=by
 rw [Bool.eq_iff_iff]
 cases i
 cases j
 simp
section
variable {X:Cx} {a b c:Expr} {ta tb tc:TE} {pos:Pos}
theorem fin_bl {pins:List (Addr × Obj)} {σ:St} {H:Hp} {s:Shared} {Q:VK} {k k':Bool} (I:Inv X pins σ H s) (q:Q (.bl k) H) (e:k=k'):EP X pins σ Q (.bool k') s:=by
 subst e
 exact ⟨.bl k,H,I,rfl,q⟩
theorem op_eq:OpR X (compareOp .Eq) rEq:=by
 intro pins s σ H x y v u Q I rx ry h
 obtain ⟨hs,q⟩:=h
 cases x with
 | non =>
  cases rx
  cases y with
  | non=>cases ry;exact PySem.EqNone.eq_none_none (fin_bl I q (by simp))
  | bl j=>cases ry;exact PySem.EqNone.eq_none_bool (fin_bl I q (by simp))
  | int j=>obtain ⟨t',rfl⟩:=ry;exact PySem.EqNone.eq_none_int (fin_bl I q (by simp))
  | str j=>obtain ⟨t',rfl⟩:=ry;exact PySem.EqNone.eq_none_str (fin_bl I q (by simp))
  | _=>exact absurd (show false=true from hs) Bool.false_ne_true
 | bl i =>
  cases rx
  cases y with
  | non=>cases ry;exact PySem.EqNone.eq_bool_none (fin_bl I q (by simp))
  | bl j=>cases ry;exact eq_bool (fin_bl I q dec_bl)
  | str j=>obtain ⟨t',rfl⟩:=ry;exact PySem.EqMixed.eq_bool_str (fin_bl I q (by simp))
  | _=>exact absurd (show false=true from hs) Bool.false_ne_true
 | int i =>
  obtain ⟨t,rfl⟩:=rx
  cases y with
  | non=>cases ry;exact PySem.EqNone.eq_int_none (fin_bl I q (by simp))
  | int j=>obtain ⟨t',rfl⟩:=ry;exact eq_int (fin_bl I q dec_int)
  | str j=>obtain ⟨t',rfl⟩:=ry;exact PySem.EqMixed.eq_int_str (fin_bl I q (by simp))
  | _=>exact absurd (show false=true from hs) Bool.false_ne_true
 | str i =>
  obtain ⟨t,rfl⟩:=rx
  cases y with
  | non=>cases ry;exact PySem.EqNone.eq_str_none (fin_bl I q (by simp))
  | bl j=>cases ry;exact PySem.EqMixed.eq_str_bool (fin_bl I q (by simp))
  | int j=>obtain ⟨t',rfl⟩:=ry;exact PySem.EqMixed.eq_str_int (fin_bl I q (by simp))
  | str j=>obtain ⟨t',rfl⟩:=ry;exact eq_str (fin_bl I q dec_str)
  | _=>exact absurd (show false=true from hs) Bool.false_ne_true
 | byt i =>
  obtain ⟨t,rfl⟩:=rx
  cases y with
  | byt j=>obtain ⟨t',rfl⟩:=ry;exact PySem.W.eq_bytes (fin_bl I q dec_byt)
  | _=>exact absurd (show false=true from hs) Bool.false_ne_true
 | _=>cases y <;> exact absurd (show false=true from hs) Bool.false_ne_true
theorem op_ne:OpR X (compareOp .NotEq) rNe:=by
 intro pins s σ H x y v u Q I rx ry h
 obtain ⟨hs,q⟩:=h
 cases x with
 | non =>
  cases rx
  cases y with
  | non=>cases ry;exact PySem.EqNone.ne_none_none (fin_bl I q (by simp))
  | bl j=>cases ry;exact PySem.EqNone.ne_none_bool (fin_bl I q (by simp))
  | int j=>obtain ⟨t',rfl⟩:=ry;exact PySem.EqNone.ne_none_int (fin_bl I q (by simp))
  | str j=>obtain ⟨t',rfl⟩:=ry;exact PySem.EqNone.ne_none_str (fin_bl I q (by simp))
  | _=>exact absurd (show false=true from hs) Bool.false_ne_true
 | bl i =>
  cases rx
  cases y with
  | non=>cases ry;exact PySem.EqNone.ne_bool_none (fin_bl I q (by simp))
  | bl j=>cases ry;exact ne_bool (fin_bl I q (congrArg not dec_bl))
  | str j=>obtain ⟨t',rfl⟩:=ry;exact PySem.EqMixed.ne_bool_str (fin_bl I q (by simp))
  | _=>exact absurd (show false=true from hs) Bool.false_ne_true
 | int i =>
  obtain ⟨t,rfl⟩:=rx
  cases y with
  | non=>cases ry;exact PySem.EqNone.ne_int_none (fin_bl I q (by simp))
  | int j=>obtain ⟨t',rfl⟩:=ry;exact ne_int (fin_bl I q (congrArg not dec_int))
  | str j=>obtain ⟨t',rfl⟩:=ry;exact PySem.EqMixed.ne_int_str (fin_bl I q (by simp))
  | _=>exact absurd (show false=true from hs) Bool.false_ne_true
 | str i =>
  obtain ⟨t,rfl⟩:=rx
  cases y with
  | non=>cases ry;exact PySem.EqNone.ne_str_none (fin_bl I q (by simp))
  | bl j=>cases ry;exact PySem.EqMixed.ne_str_bool (fin_bl I q (by simp))
  | int j=>obtain ⟨t',rfl⟩:=ry;exact PySem.EqMixed.ne_str_int (fin_bl I q (by simp))
  | str j=>obtain ⟨t',rfl⟩:=ry;exact ne_str (fin_bl I q (congrArg not dec_str))
  | _=>exact absurd (show false=true from hs) Bool.false_ne_true
 | byt i =>
  obtain ⟨t,rfl⟩:=rx
  cases y with
  | byt j=>obtain ⟨t',rfl⟩:=ry;exact PySem.W.ne_bytes (fin_bl I q (congrArg not dec_byt))
  | _=>exact absurd (show false=true from hs) Bool.false_ne_true
 | _=>cases y <;> exact absurd (show false=true from hs) Bool.false_ne_true
theorem op_lt:OpR X (compareOp .Lt) (rI0 fun i j=>.bl (decide (i < j))):=opB0 fun _ _ _ _ _ _ _ q=>lt_int q
theorem op_le:OpR X (compareOp .LtE) (rI0 fun i j=>.bl (decide (i ≤ j))):=opB0 fun _ _ _ _ _ _ _ q=>le_int q
theorem op_gt:OpR X (compareOp .Gt) (rI0 fun i j=>.bl (decide (j < i))):=opB0 fun _ _ _ _ _ _ _ q=>gt_int q
theorem op_ge:OpR X (compareOp .GtE) (rI0 fun i j=>.bl (decide (j ≤ i))):=opB0 fun _ _ _ _ _ _ _ q=>ge_int q
theorem op_isN:OpR X (compareOp .Is) (fun x y H Q=>y = .non∧Q (.bl (decide (x = .non))) H):=by
 intro pins s σ H x y v u Q I rx ry h
 obtain ⟨rfl,q⟩:=h
 cases ry
 refine is_none_gen (fin_bl I q ?_)
 cases x <;> first
  | (cases rx;rfl)
  | (obtain ⟨t,rfl⟩:=rx;rfl)
theorem op_notN:OpR X (compareOp .IsNot) (fun x y H Q=>y = .non∧Q (.bl (!decide (x = .non))) H):=by
 intro pins s σ H x y v u Q I rx ry h
 obtain ⟨rfl,q⟩:=h
 cases ry
 refine isnot_none_gen (fin_bl I q ?_)
 cases x <;> first
  | (cases rx;rfl)
  | (obtain ⟨t,rfl⟩:=rx;rfl)
theorem nomark (b:Expr) {op:CmpOp} (h:op ≠ .In:=by decide) (h2:op ≠ .NotIn:=by decide):behindInMarks op b=false:=by
 have e1:(op == CmpOp.In)=false:=by cases op <;> first | rfl | exact absurd rfl h
 have e2:(op == CmpOp.NotIn)=false:=by cases op <;> first | rfl | exact absurd rfl h2
 cases b <;> simp [behindInMarks,e1,e2]
theorem pe_cmpR {op:CmpOp} {r:R2} (ho:OpR X (compareOp op) r) (ha:PE X a ta) (hb:PE X b tb) (hm:behindInMarks op b=false):PE X (.Compare a [op] [b] pos) (tOp r ta tb):=by
 intro pins s σ H Q I h
 exact wpAny_Compare1 (binT ha hb I h fun v u s2 x y H2 I2 rx ry q=>ho pins s2 σ H2 x y v u Q I2 rx ry q) hm
noncomputable def tTest (t:TE):TT:=fun σ H Q=>t σ H fun x H'=>∃ k,x = .bl k∧Q k H'
theorem pt_cmpR {op:CmpOp} {r:R2} (ho:OpR X (compareOp op) r) (ha:PE X a ta) (hb:PE X b tb) (hm:behindInMarks op b=false):PT X (.Compare a [op] [b] pos) (tTest (tOp r ta tb)):=by
 intro pins s σ H Q I h
 refine wpAny_isTrue_Compare1 (thn (ha pins s σ H _ I h) fun v s1 ⟨x,H1,I1,r1,q1⟩=>thn (hb pins s1 σ H1 _ I1 q1) fun u s2 ⟨y,H2,I2,r2,q2⟩ =>
  thn (ho pins s2 σ H2 x y v u _ I2 r1 r2 q2) fun c s3 ⟨z,H3,I3,r3,k,e,q3⟩=>?_) hm
 subst e
 cases r3
 exact wpAny_truthy_bool ⟨H3,I3,q3⟩
noncomputable def tChain (r r':R2) (ta tb tc:TE):TE:=fun σ H Q=>ta σ H fun x H1=>tb σ H1 fun y H2=>r x y H2 fun z H3=>∃ k,z = .bl k ∧
 (if k=true then tc σ H3 fun w' H4=>r' y w' H4 Q else Q (.bl false) H3)
noncomputable def TruV (K:PySem.W.Frag) (x:V) (H:Hp) (k:Bool):Prop :=
 match x with
 | .non=>k=false
 | .bl b=>k=b
 | .int i=>k=(i != 0)
 | .str y=>y.length ≤ sizeLine∧k=((y.length:Int) != 0)
 | .byt y=>y.size ≤ sizeLine∧k=((y.size:Int) != 0)
 | .ref p=>(∃ xs,SqL K H p xs∧k = !xs.isEmpty)∨(∃ xs,SqT K H p xs∧k = !xs.isEmpty)∨∃ kvs,H p=some (.dK kvs)∧k = !kvs.isEmpty
 | _=>False
theorem isEmpty_kv {κ:Type} {kvs:List (κ × V)} {vs:List (κ × Value)} (r:KV kvs vs):(!vs.isEmpty) = !kvs.isEmpty:=by
 cases r <;> rfl
theorem isEmpty_of {xs:List V} {its:List Value} (r:Vals xs its):(!its.toArray.isEmpty) = !xs.isEmpty:=by
 cases r <;> simp
theorem line63:(sizeLine:Nat) < 2 ^ 63:=by rw [sizeLine_eq];decide
theorem tru_ok:TruR X (fun x H Q=>∃ k,TruV X.K x H k∧Q k H):=by
 intro pins s σ H x v Q I rx h
 obtain ⟨k,e,q⟩:=h
 have hl:=line63
 have hs:sizeLine=16777216:=sizeLine_eq
 cases x with
 | non =>
  cases rx
  have e':k=false:=e
  subst e'
  exact truthy_none ⟨H,I,q⟩
 | bl b =>
  cases rx
  have e':k=b:=e
  subst e'
  exact wpAny_truthy_bool ⟨H,I,q⟩
 | int i =>
  obtain ⟨t,rfl⟩:=rx
  have e':k=(i != 0):=e
  subst e'
  exact PySem.P.truthy_int ⟨H,I,q⟩
 | str y =>
  obtain ⟨t,rfl⟩:=rx
  obtain ⟨hy,e'⟩:y.length ≤ sizeLine∧k=((y.length:Int) != 0):=e
  subst e'
  exact PySem.P.truthy_str (by omega) ⟨H,I.tok _,q⟩
 | byt y =>
  obtain ⟨t,rfl⟩:=rx
  obtain ⟨hy,e'⟩:y.size ≤ sizeLine∧k=((y.size:Int) != 0):=e
  subst e'
  exact PySem.W.truthy_bytes (by omega) ⟨H,I.tok _,q⟩
 | ref p =>
  cases rx
  have e':(∃ xs,SqL X.K H p xs∧k = !xs.isEmpty)∨(∃ xs,SqT X.K H p xs∧k = !xs.isEmpty)∨∃ kvs,H p=some (.dK kvs)∧k = !kvs.isEmpty:=e
  rcases e' with ⟨xs,hx,e'⟩ | ⟨xs,hx,e'⟩ | ⟨kvs,hx,e'⟩
  ·subst e'
   obtain ⟨its,r,pl,hz⟩:=I.list hx
   have hlen:=r.length
   exact wpAny_truthy_list pl.isList (by simp only [List.size_toArray];omega) ⟨H,I.tok _,by rw [isEmpty_of r];exact q⟩
  ·subst e'
   obtain ⟨its,r,pl,hz⟩:=I.tuple hx
   have hlen:=r.length
   exact truthy_tuple pl (by simp only [List.size_toArray];omega) ⟨H,I.tok _,by rw [isEmpty_of r];exact q⟩
  ·subst e'
   obtain ⟨hz,hS,vs,r,m⟩:kvs.length ≤ sizeLine∧(p == sysModules)=false∧∃ vs,KV kvs vs∧s.heap.DictOf (mixKind X.prog X.w) p vs:=I.hok p _ hx
   have hlen:kvs.length=vs.length:=Paired.length r
   exact wpAny_truthy_dict hS m (by omega) ⟨H,I.tok _,by rw [isEmpty_kv r];exact q⟩
 | _=>exact (show False from e).elim
theorem vals1 {x:V} {us:List Value} (r:Vals [x] us):∃ u,us=[u]∧RelV x u:=by
 cases r with
 | cons r1 r2=>cases r2;exact ⟨_,rfl,r1⟩
theorem vals2 {x y:V} {us:List Value} (r:Vals [x,y] us):∃ u w',us=[u,w']∧RelV x u∧RelV y w':=by
 cases r with
 | cons r1 r2 =>
  cases r2 with
  | cons r3 r4=>cases r4;exact ⟨_,_,rfl,r1,r3⟩
theorem call_abs:CallR X (.builtin "abs") (fun xs H Q=>∃ i,xs=[.int i]∧Q (.int (if i < 0 then -i else i)) H):=by
 intro pins s σ H xs us Q I r h
 obtain ⟨i,rfl,q⟩:=h
 obtain ⟨u,rfl,t,rfl⟩:=vals1 r
 exact call_abs_int fun u tk=>⟨.int (if i < 0 then -i else i),H,I.tok _,⟨_,rfl⟩,q⟩
theorem call_max2 (hc:X.calm=true):CallR X (.builtin "max") (fun xs H Q=>∃ i j,xs=[.int i,.int j]∧Q (.int (if j > i then j else i)) H):=by
 intro pins s σ H xs us Q I r h
 obtain ⟨i,j,rfl,q⟩:=h
 obtain ⟨u,w',rfl,⟨t,rfl⟩,⟨t',rfl⟩⟩:=vals2 r
 refine max_two_ints (I.ok.hd hc) fun h' tk k=>⟨_,H,I.kept k,?_,q⟩
 by_cases hj:j > i
 ·rw [if_pos hj,if_pos hj];exact ⟨_,rfl⟩
 ·rw [if_neg hj,if_neg hj];exact ⟨_,rfl⟩
theorem call_min2 (hc:X.calm=true):CallR X (.builtin "min") (fun xs H Q=>∃ i j,xs=[.int i,.int j]∧Q (.int (if j < i then j else i)) H):=by
 intro pins s σ H xs us Q I r h
 obtain ⟨i,j,rfl,q⟩:=h
 obtain ⟨u,w',rfl,⟨t,rfl⟩,⟨t',rfl⟩⟩:=vals2 r
 refine min_two_ints (I.ok.hd hc) fun h' tk k=>⟨_,H,I.kept k,?_,q⟩
 by_cases hj:j < i
 ·rw [if_pos hj,if_pos hj];exact ⟨_,rfl⟩
 ·rw [if_neg hj,if_neg hj];exact ⟨_,rfl⟩
theorem call_int1:CallR X (.type "int") (fun xs H Q=>(∃ i,xs=[.int i]∧Q (.int i) H)∨∃ k,xs=[.bl k]∧Q (.int (if k then 1 else 0)) H):=by
 intro pins s σ H xs us Q I r h
 rcases h with ⟨i,rfl,q⟩ | ⟨k,rfl,q⟩
 ·obtain ⟨u,rfl,t,rfl⟩:=vals1 r
  exact call_int_int ⟨.int i,H,I,⟨_,rfl⟩,q⟩
 ·obtain ⟨u,rfl,r1⟩:=vals1 r
  cases r1
  exact call_int_bool ⟨.int (if k then 1 else 0),H,I.tok _,⟨_,rfl⟩,q⟩
end
end L2
namespace L2
open PySem PySem.Spec PyProof.Rows
structure ObjM (h:Heap) (x dx C:Addr) (mA:Str→Option Value):Prop where
 obj:h.get? x=some (PySem.W.instObj C dx)
 ns:h.Ns1 dx mA
 ne:dx ≠ x
theorem lookIn_ns {h:Heap} {dx:Addr} {mA:Str→Option Value} (n:h.Ns1 dx mA):∃ od,h.get? dx=some od∧∀ name,PySem.W.lookIn name od=some (mA name):=by
 obtain ⟨o,es,ep,ho,hd,hk,_,hm⟩:=n
 refine ⟨o,ho,fun name=>?_⟩
 have e:=hm name
 unfold nsFind findBy at e
 rw [← Array.find?_toList] at e
 unfold PySem.W.lookIn
 rw [hd]
 dsimp only
 split
 ·rename_i y q
  rw [q] at e
  exact congrArg some e
 ·rename_i q
  rw [q] at e
  have a:es.toList.any (·.refKey)=false:=by
   rw [List.any_eq_false]
   intro y hy
   obtain ⟨z,t,hkey⟩:=hk y (Array.mem_toList_iff.mp hy)
   simp [DictEntry.refKey,hkey]
  have a':¬ es.toList.any (·.refKey)=true:=by rw [a];exact Bool.false_ne_true
  rw [if_neg a']
  exact congrArg some e
theorem ObjM.look {h:Heap} {x dx C:Addr} {mA:Str→Option Value} (I:ObjM h x dx C mA):∃ od,PySem.W.InstAt h x (PySem.W.instObj C dx) C (some od)∧∀ name,PySem.W.lookIn name od=some (mA name) :=
 let ⟨od,ho,hl⟩:=lookIn_ns I.ns
 ⟨od,⟨I.obj,rfl,rfl,ho⟩,hl⟩
section
variable {prog:Program} {w:World} {A:Around} {E:Value→Shared→Prop} {s:Shared} {K:PySem.W.Frag} {x dx C f:Addr} {mA:Str→Option Value} {name:Str} {v:Value}
end
theorem RelO.some_of {v:V} {o:Option Value} (r:RelO (some v) o):∃ u,o=some u∧RelV v u:=by
 cases o with
 | none=>exact (show False from r).elim
 | some u=>exact ⟨u,rfl,r⟩
section
variable {P:Program} {w:World} {H H':Hp} {h h':Heap} {a C dx:Addr} {fs fs':List (Str × V)}
theorem ins_get (hok:HOk P w H h) (e:H a=some (.ins C dx fs)):∃ mA,ObjM h a dx C mA∧(∀ f,RelO (fs.lookup f) (mA f))∧PySem.Within mA (fs.map (·.1))∧fs.length ≤ 1000∧H dx=some (.own a):=by
 obtain ⟨d,z,ne,ob,mA,n,r,q⟩:=(show ObjOk P w H h a (.ins C dx fs) from hok a _ e)
 exact ⟨mA,⟨ob,n,ne⟩,r,q,z,d⟩
end
structure Cls (K:PySem.W.Frag) (C:Addr):Prop where
 pg:PySem.W.plainGet K C Str.empty=true
 hd:PySem.W.hasDictIn K C=true
 po:PySem.W.plainOver K C=true
 sa:PySem.W.findIn K (.ref C) "__setattr__" = some (some (.builtin "object.__setattr__"))
theorem Cls.get {K:PySem.W.Frag} {C:Addr} (c:Cls K C) (f:Str):PySem.W.plainGet K C f=true:=c.pg
structure Con (K:PySem.W.Frag) (C:Addr) (f:Str) (v:V) (u:Value):Prop where
 at_:PySem.W.findIn K (.ref C) f=some (some u)
 rel:RelV v u
 get:PySem.W.specialIn K u "__get__" = some none
 cp:PySem.W.copiedNames.contains f=false
structure Meth (K:PySem.W.Frag) (C:Addr) (m:Str) (f:Addr):Prop where
 at_:PySem.W.findIn K (.ref C) m=some (some (.ref f))
 fn:PySem.W.isFn K (.ref f)=true
 kp:PySem.W.keepIn K (.ref f)=true
section
variable {X:Cx} {pins:List (Addr × Obj)} {σ:St} {H:Hp} {s:Shared} {a C dx:Addr} {fs:List (Str × V)} {f:Str} {v:V} {A:Around} {E:Value→Shared→Prop}
end
section
variable {X:Cx} {o e value:Expr} {f:Str} {pos pos' tpos:Pos} {ta tv:TE}
end
section
variable {X:Cx} {pins:List (Addr × Obj)} {σ:St} {H:Hp} {s:Shared} {A:Around} {E:Value→Shared→Prop} {Q:Value→Shared→Prop} {c:Value} {b:Bool}
inductive TyOf (K:PySem.W.Frag) (H:Hp):V→Value→Prop where
 | non:TyOf K H .non (.type "NoneType")
 | bl (x:Bool):TyOf K H (.bl x) (.type "bool")
 | int (i:Int):TyOf K H (.int i) (.type "int")
 | str (x:Str):TyOf K H (.str x) (.type "str")
 | flt (x:UInt64):TyOf K H (.flt x) (.type "float")
 | lst {a:Addr} {xs:List V} (e:H a=some (.lst xs)):TyOf K H (.ref a) (.type "list")
 | frz {a:Addr} {o:Obj} {xs:List V} (e:H a=some (.frz o (.lst xs))):TyOf K H (.ref a) (.type "list")
 | tup {a:Addr} {xs:List V} (e:H a=some (.tup xs)):TyOf K H (.ref a) (.type "tuple")
 | dK {a:Addr} {kvs:List (Key × V)} (e:H a=some (.dK kvs)):TyOf K H (.ref a) (.type "dict")
 | dT {a:Addr} {kvs:List (List Key × V)} (e:H a=some (.dT kvs)):TyOf K H (.ref a) (.type "dict")
 | ins {a C dx:Addr} {fs:List (Str × V)} (e:H a=some (.ins C dx fs)) (cl:Cls K C) (ha:PySem.W.findIn K (.ref C) "__class__" = some (some (.builtin "object.__class__")))
   (hn:PySem.W.specialIn K (.builtin "object.__class__") "__get__" = some (some (.builtin "getset_descriptor.__get__"))) (htk:PySem.W.takesIn K (.builtin "object.__class__")=some true)
   (hm:PySem.W.mroIn K C (.type "object")=some true):TyOf K H (.ref a) (.ref C)
theorem isinst_ok {x:V} {u t:Value} (I:Inv X pins σ H s) (rx:RelV x u) (ty:TyOf X.K H x t) (e:PySem.W.kitOne X.K t c=some b) (h:∀ tk,Q (.bool b) { s with toks:=tk }) :
  wpAny (model X.prog X.w) A (call (.builtin "isinstance") [u,c]) Q E s:=by
 cases ty with
 | non=>cases (show u=Value.none from rx);exact PySem.W.kia_one PySem.W.kitx_none I.kIn True.intro e (fun z=>nomatch z) h
 | bl y=>cases (show u=Value.bool y from rx);exact PySem.W.kia_one PySem.W.kitx_bool I.kIn True.intro e (fun z=>nomatch z) h
 | int i=>obtain ⟨t,q⟩:=(show ∃ t,u=Value.int i t from rx);cases q;exact PySem.W.kia_one PySem.W.kitx_int I.kIn True.intro e (fun z=>nomatch z) h
 | str y=>obtain ⟨t,q⟩:=(show ∃ t,u=Value.str y t from rx);cases q;exact PySem.W.kia_one PySem.W.kitx_str I.kIn True.intro e (fun z=>nomatch z) h
 | flt y=>obtain ⟨t,q⟩:=(show ∃ t,u=Value.float y t from rx);cases q;exact PySem.W.kia_one PySem.W.kitx_float I.kIn True.intro e (fun z=>nomatch z) h
 | @lst a xs ea =>
  cases (show u=Value.ref a from rx)
  obtain ⟨_,_,n,_,h1⟩:=(show ObjOk X.prog X.w H s.heap a (.lst xs) from I.hok a _ ea)
  exact PySem.W.kia_one PySem.W.kitx_list I.kIn ⟨_,h1,rfl⟩ e (fun z=>nomatch z) h
 | @frz a ob xs ea =>
  cases (show u=Value.ref a from rx)
  obtain ⟨_,_,_,n,_,h1⟩:=(show ObjOk X.prog X.w H s.heap a (.frz ob (.lst xs)) from I.hok a _ ea)
  exact PySem.W.kia_one PySem.W.kitx_list I.kIn ⟨_,h1,rfl⟩ e (fun z=>nomatch z) h
 | @tup a xs ea =>
  cases (show u=Value.ref a from rx)
  obtain ⟨_,_,_,p⟩:=(show ObjOk X.prog X.w H s.heap a (.tup xs) from I.hok a _ ea)
  obtain ⟨o,h1,h2,_⟩:=p
  exact PySem.W.kia_one PySem.W.kitx_tuple I.kIn ⟨o,h1,h2⟩ e (fun z=>nomatch z) h
 | @dK a kvs ea =>
  cases (show u=Value.ref a from rx)
  obtain ⟨_,_,vs,_,p⟩:=(show ObjOk X.prog X.w H s.heap a (.dK kvs) from I.hok a _ ea)
  obtain ⟨o,es,ep,h1,h2,_⟩:=p
  exact PySem.W.kia_one PySem.W.kitx_dict I.kIn ⟨o,h1,h2.1⟩ e (fun z=>nomatch z) h
 | @dT a kvs ea =>
  cases (show u=Value.ref a from rx)
  obtain ⟨_,_,xs,_,o,es,ep,h1,h2,_⟩:=(show ObjOk X.prog X.w H s.heap a (.dT kvs) from I.hok a _ ea)
  exact PySem.W.kia_one PySem.W.kitx_dict I.kIn ⟨o,h1,h2.1⟩ e (fun z=>nomatch z) h
 | @ins a C dx fs ea cl ha hn htk hm =>
  cases (show u=Value.ref a from rx)
  obtain ⟨mA,O,_⟩:=ins_get I.hok ea
  obtain ⟨od,J,_⟩:=O.look
  exact PySem.W.kia_one (PySem.W.kitx_own (cl.get _) cl.hd ha hn htk hm) I.kIn J e (fun z=>nomatch z) h
end
end L2
namespace L2
open PySem PySem.Spec PyProof.Rows
structure Room (k:Nat) (A:Around):Prop where
 hd:A.handled=none
 dp:A.depth + 3 * k + 5 < recursionLimit
 un:A.units + 16 * k + 200 < cLine
 gd:A.guards=some []
theorem Room.mono {j k:Nat} {A:Around} (r:Room k A) (h:j ≤ k):Room j A:=⟨r.hd,by have:=r.dp;omega,by have:=r.un;omega,by first | exact r.gd | (simp [Around.under,Code.guards,Code.isGuard,guardIds];exact r.gd)⟩
theorem Room.deeper {k:Nat} {A:Around} (r:Room (k + 1) A) (env:Env):Room k (A.deeper env) :=
 ⟨r.hd,by have:=r.dp;show A.depth + 1 + 3 * k + 5 < _;omega,by have:=r.un;show A.units + 3 + 16 * k + 200 < _;omega,by first | exact r.gd | (simp [Around.under,Code.guards,Code.isGuard,guardIds];exact r.gd)⟩
theorem Room.in1 {k:Nat} {A:Around} (r:Room (k + 1) A):Room k A.in1 :=
 ⟨r.hd,by have:=r.dp;show A.depth + 3 * k + 5 < _;omega,by have:=r.un;show A.units + 1 + 16 * k + 200 < _;omega,by first | exact r.gd | (simp [Around.under,Code.guards,Code.isGuard,guardIds];exact r.gd)⟩
theorem Room.depth {k:Nat} {A:Around} (r:Room k A):A.depth < recursionLimit:=by have:=r.dp;omega
theorem Room.units {k:Nat} {A:Around} (r:Room k A):A.units + 64 < cLine:=by have:=r.un;omega
theorem Room.units0 {k:Nat} {A:Around} (r:Room k A):A.units < cLine:=by have:=r.un;omega
noncomputable def tNil:TA:=fun _ H Q=>Q [] H
noncomputable def tCons (ta:TE) (tr:TA):TA:=fun σ H Q=>ta σ H fun x H1=>tr σ H1 fun xs H2=>Q (x :: xs) H2
section
variable {X:Cx} {e:Expr} {es:List Expr} {te:TE} {t:TA} {pos:Pos}
theorem pa_nil:PA X [] tNil:=fun _ _ _ _ H Q I h=>Calls.spliced_nil ⟨[],H,I,.nil,h⟩
theorem pa_cons (ha:PE X e te) (hr:PA X es t) (hs:starEach (e :: es) X.env=(false,eval e X.env) :: starEach es X.env:=by rfl):PA X (e :: es) (tCons te t):=by
 intro pos pins s σ H Q I h
 rw [hs]
 show wpAny _ _ (spliced ((false,eval e X.env) :: backTo pos (starEach es X.env))) _ _ s
 refine Calls.spliced_cons (thn (ha pins s σ H _ I h) fun u s1 ⟨x,H1,I1,r1,q1⟩=>?_)
 exact thn (hr pos pins s1 σ H1 _ I1 q1) fun us s2 ⟨xs,H2,I2,r2,q2⟩=>⟨x :: xs,H2,I2,.cons r1 r2,q2⟩
noncomputable def tLst (t:TA):TE:=fun σ H Q=>t σ H fun xs H1=>xs.length ≤ sizeLine∧∀ p,H1 p=none→Q (.ref p) (upd H1 p (.lst xs))
theorem pe_lst (h:PA X es t):PE X (.List es pos) (tLst t):=by
 intro pins s σ H Q I hq
 refine wpAny_List_spliced (thn (h pos pins s σ H _ I hq) fun us s1 ⟨xs,H1,I1,r,z,q⟩=>⟨by rw [← r.length];exact z,?_⟩)
 have hf:H1 s1.heap.objs.size=none:=I1.hok.fresh (Nat.le_refl _)
 refine ⟨.ref s1.heap.objs.size,upd H1 s1.heap.objs.size (.lst xs),I1.laid (t':=s1.toks) (fun b u e=>Heap.get?_push_of_some _ e) (Nat.le_refl _) ?_,rfl,q _ hf⟩
 exact ⟨z,us,0,r,Heap.get?_push_size _ rfl⟩
end
noncomputable abbrev Sp:=List V→Hp→VK→XK→Prop
noncomputable abbrev CXT:=List Env→Hp→Shared→XK→Value→Shared→Prop
structure Env0 (P:Program) (w:World) (K:PySem.W.Frag) (mg:Str→Option Value) (base:Heap) (A:Around) (outer:List Env) (s:Shared) (H:Hp):Prop where
 frames:A.frames=some outer
 mod:Mod K mg base
 bs:∀ b o,base.get? b=some o→s.heap.get? b=some o∧H b=none
 bsz:base.objs.size ≤ s.heap.objs.size
 funs:s.heap.FunFrames base outer
 frf:∀ b ∈ frs outer,H b=none
 hok:HOk P w H s.heap
 bare:AllBare s.gens
noncomputable def CE (outer:List Env) (P:Program) (w:World) (H:Hp) (s:Shared) (Q:VK) (u:Value) (s':Shared):Prop :=
 ∃ v H',s'.os=s.os∧AllBare s'.gens∧Un (frs outer) [] H H' s.heap s'.heap∧HOk P w H' s'.heap∧RelV v u∧Q v H'
noncomputable def CR (CX:CXT) (outer:List Env) (P:Program) (w:World) (H:Hp) (s:Shared) (Q:VK) (E:XK) (r:Result) (s':Shared):Prop :=
 match r with
 | .ok (.ret u)=>CE outer P w H s Q u s'
 | .ok _=>False
 | .error e=>CX outer H s E e s'
structure FnOk (P:Program) (w:World) (K:PySem.W.Frag) (mg:Str→Option Value) (base:Heap) (CX:CXT) (k:Nat) (f:Addr) (fd:FuncData) (ps:List Str) (sp:Sp):Prop where
 len:∀ vs H Q E,sp vs H Q E→vs.length=ps.length
 run:∀ (A:Around) (outer:List Env) (s:Shared) (H:Hp) (args:Args) (us:List Value) (vs:List V) (Q:VK) (E:XK),Room k A→Env0 P w K mg base A outer s H→BindsTo s fd args (ps.zip us)→Vals vs us→sp vs H Q E →
  codeAny (model P w) A (.call (.ref f) args) (CR CX outer P w H s Q E) s
theorem FnOk.mono {P:Program} {w:World} {K:PySem.W.Frag} {mg:Str→Option Value} {base:Heap} {CX:CXT} {j k:Nat} {f:Addr} {fd:FuncData} {ps:List Str} {sp:Sp} (F:FnOk P w K mg base CX j f fd ps sp) (h:j ≤ k) :
  FnOk P w K mg base CX k f fd ps sp:=⟨F.len,fun A outer s H args us vs Q E hr=>F.run A outer s H args us vs Q E (hr.mono h)⟩
theorem FnOk.imp {P:Program} {w:World} {K:PySem.W.Frag} {mg:Str→Option Value} {base:Heap} {CX:CXT} {k:Nat} {f:Addr} {fd:FuncData} {ps:List Str} {sp sp':Sp} (F:FnOk P w K mg base CX k f fd ps sp)
  (h:∀ vs H Q E,sp' vs H Q E→sp vs H Q E):FnOk P w K mg base CX k f fd ps sp' :=
 ⟨fun vs H Q E q=>F.len vs H Q E (h _ _ _ _ q),fun A outer s H args us vs Q E hr he hb hv hs=>F.run A outer s H args us vs Q E hr he hb hv (h _ _ _ _ hs)⟩
theorem Env0.in1 {P:Program} {w:World} {K:PySem.W.Frag} {mg:Str→Option Value} {base:Heap} {A:Around} {outer:List Env} {s:Shared} {H:Hp} (e:Env0 P w K mg base A outer s H) :
  Env0 P w K mg base A.in1 outer s H:=⟨e.frames,e.mod,e.bs,e.bsz,e.funs,e.frf,e.hok,e.bare⟩
section
variable {X:Cx} {pins:List (Addr × Obj)} {σ:St} {H:Hp} {s s':Shared}
theorem Inv.env0 (I:Inv X pins σ H s):Env0 X.prog X.w X.K X.mg X.base X.A X.stack s H :=
 ⟨I.ok.frames,I.ok.mod,I.bs,Nat.le_trans I.ok.bsz I.sz,I.stack,I.stkFree,I.hok,I.bare⟩
theorem Inv.after {Q:VK} {u:Value} (I:Inv X pins σ H s) (h:CE X.stack X.prog X.w H s Q u s'):EP X pins σ Q u s':=by
 obtain ⟨v,H',os,bare,un,hok,r,q⟩:=h
 obtain ⟨hh,g,d,t,os'⟩:=s'
 obtain rfl:os'=s.os:=os
 exact ⟨v,H',I.call (h':=hh) (g':=g) (d':=d) (t':=t) (ch:=[]) un hok bare (fun b z=>absurd z (by simp)),r,q⟩
end
noncomputable def tCall (sp:Sp) (dvs:List V) (E:XK) (t:TA):TE:=fun σ H Q=>t σ H fun vs H1=>sp (vs ++ dvs) H1 Q E
noncomputable def Binds (K:PySem.W.Frag) (fd:FuncData) (ps:List Str) (ds:List Value):Prop :=
 ∀ (s:Shared) (us:List Value),K.In s.heap→(us ++ ds).length=ps.length→BindsTo s fd ⟨us,[]⟩ (ps.zip (us ++ ds))
theorem Binds.all {K:PySem.W.Frag} {fd:FuncData} {ps:List Str} (h:∀ us:List Value,us.length=ps.length→bindArgs fd ⟨us,[]⟩=pure (ps.zip us)):Binds K fd ps []:=fun s us _ hl=>by
 rw [List.append_nil] at hl ⊢
 exact .of_eq (h us hl)
noncomputable def Passes (CX:CXT) (X:Cx) (E:XK):Prop:=∀ (pins:List (Addr × Obj)) (σ:St) (H:Hp) (s:Shared) (e:Value) (s':Shared),Inv X pins σ H s→CX X.stack H s E e s'→X.xe e s'
section
variable {X:Cx} {CX:CXT} {k:Nat} {f C:Addr} {fd:FuncData} {ps:List Str} {sp:Sp} {dvs:List V} {ds:List Value} {E:XK} {x m:Str} {p pos apos:Pos} {e o:Expr} {es:List Expr} {ta:TE} {t:TA}
theorem run_fn {pins:List (Addr × Obj)} {σ:St} {H:Hp} {s:Shared} {Q:VK} {us:List Value} {vs:List V} (F:FnOk X.prog X.w X.K X.mg X.base CX k f fd ps sp) (hr:Room k X.A) (hb:Binds X.K fd ps ds) (hd:Vals dvs ds) (hx:Passes CX X E)
  (I:Inv X pins σ H s) (r:Vals vs us) (h:sp (vs ++ dvs) H Q E):wpAny (model X.prog X.w) X.A (call (.ref f) us) (EP X pins σ Q) X.xe s:=by
 have r2:Vals (vs ++ dvs) (us ++ ds):=r.append hd
 have hl:(us ++ ds).length=ps.length:=by rw [← r2.length];exact F.len _ _ _ _ h
 refine wpAny_call (codeAny_mono (F.run X.A X.stack s H ⟨us,[]⟩ (us ++ ds) (vs ++ dvs) Q E hr I.env0 (hb s us I.kIn hl) r2 h) fun r s' hq=>?_)
 cases r with
 | error e=>exact hx pins σ H s e s' I hq
 | ok fl =>
  cases fl with
  | ret u=>exact I.after hq
  | next=>exact False.elim hq
  | brk=>exact False.elim hq
  | cont=>exact False.elim hq
theorem pe_call (F:FnOk X.prog X.w X.K X.mg X.base CX k f fd ps sp) (hr:Room k X.A) (hg:Gl X x) (hm:X.mg x=some (.ref f)) (hk:PySem.W.keepIn X.K (.ref f)=true) (hb:Binds X.K fd ps ds) (hd:Vals dvs ds) (hx:Passes CX X E)
  (ha:PA X (e :: es) t) (hdb:(x == ("__debug__" : Str))=false:=by decide) (he:starEach (e :: es) X.env=(false,eval e X.env) :: starEach es X.env:=by rfl) (hpl:(backTo pos (starEach es X.env)).any (·.1)=false:=by rfl) :
  PE X (.Call (.Name x p) (e :: es) [] pos) (tCall sp dvs E t):=by
 intro pins s σ H Q I h
 refine wpAny_Call_Name_kw (ld_glob I hg hm ?_ hdb)
 refine PySem.W.callWith_K (h₀:=X.base) I.ok.mod.kin hk (thn (ha pos pins s σ H _ I h) fun us s1 ⟨vs,H1,I1,r,q⟩=>⟨I1.kIn,?_⟩) he hpl
 exact run_fn F hr hb hd hx I1 r q
structure Mk (K:PySem.W.Frag) (C f:Addr):Prop where
 makes:PySem.W.makesIn K C=true
 init:PySem.W.findIn K (.ref C) "__init__" = some (some (.ref f))
 fn:PySem.W.isFn K (.ref f)=true
 kp:PySem.W.keepIn K (.ref C)=true
end
noncomputable def PK (X:Cx) (kws:List Keyword) (t:TA):Prop :=
 ∀ (pos:Pos) (pins:List (Addr × Obj)) (s:Shared) (σ:St) (H:Hp) (Q:List V→Hp→Prop),Inv X pins σ H s→t σ H Q→wpAny (model X.prog X.w) X.A (evalAll ((backToKw pos (keywordEach kws X.env)).map (·.2))) (AP X pins σ Q) X.xe s
section
variable {X:Cx} {CX:CXT} {k:Nat} {f C:Addr} {fd:FuncData} {ps ks:List Str} {sp:Sp} {E:XK} {x m:Str} {p pos apos kpos:Pos} {e o:Expr} {es:List Expr} {kws:List Keyword} {te ta:TE} {t tk:TA} {nm:Option Str}
theorem pk_nil:PK X [] tNil:=fun _ _ _ _ H Q I h=>wpAny_evalAll_nil ⟨[],H,I,.nil,h⟩
theorem pk_cons (ha:PE X e te) (hr:PK X kws t):PK X (⟨nm,e,kpos⟩ :: kws) (tCons te t):=by
 intro pos pins s σ H Q I h
 show wpAny _ _ (evalAll ((do let v ← eval e X.env;standAt pos;pure v) :: (backToKw pos (keywordEach kws X.env)).map (·.2))) _ _ s
 refine wpAny_evalAll_cons (wpAny_bind (thn (ha pins s σ H _ I h) fun u s1 ⟨x,H1,I1,r1,q1⟩=>wpAny_bind (wpAny_standAt (wpAny_pure ?_))))
 exact thn (hr pos pins s1 σ H1 _ I1 q1) fun us s2 ⟨xs,H2,I2,r2,q2⟩=>⟨x :: xs,H2,I2,.cons r1 r2,q2⟩
structure KBinds (K:PySem.W.Frag) (fd:FuncData) (ps ks:List Str) (g:List Value→List Value→List Value) (gV:List V→List V→List V):Prop where
 to:∀ (s:Shared) (us ws:List Value),K.In s.heap→(g us ws).length=ps.length→BindsTo s fd ⟨us,ks.zip ws⟩ (ps.zip (g us ws))
 rel:∀ {vs:List V} {us:List Value} {zs:List V} {ws:List Value},Vals vs us→Vals zs ws→Vals (gV vs zs) (g us ws)
variable {g:List Value→List Value→List Value} {gV:List V→List V→List V}
end
structure FnScope (N P:List Str) (sc:Scope):Prop where
 kind:sc.kind = .function
 co:sc.isCoroutine=false
 gen:sc.isGenerator=false
 nd:N.Nodup
 pre:N.take P.length=P
 par:∀ x ∈ P,sc.names.lookup x=some .local∨sc.names.lookup x=some .cell
 nofree:∀ y ∈ sc.names,y.2 ≠ .free
theorem bindL_out {kindOf:Str→Option NameKind} {x:Str}:∀ {binds:List (Str × Value)} {m:Str→Option Value},(∀ v,(x,v) ∉ binds)→bindL kindOf binds m x=m x
 | [],_,_=>rfl
 | (n,v) :: r,m,h=>by
  unfold bindL
  rw [bindL_out fun w hw=>h w (List.mem_cons_of_mem _ hw)]
  split
  ·have:x ≠ n:=by rintro rfl;exact h v List.mem_cons_self
   simp [this]
  ·rfl
theorem bindC_out {kindOf:Str→Option NameKind} {x:Str}:∀ {binds:List (Str × Value)} {m:Str→Option Value},(∀ v,(x,v) ∉ binds)→bindC kindOf binds m x=m x
 | [],_,_=>rfl
 | (n,v) :: r,m,h=>by
  unfold bindC
  rw [bindC_out fun w hw=>h w (List.mem_cons_of_mem _ hw)]
  split
  ·rfl
  ·have:x ≠ n:=by rintro rfl;exact h v List.mem_cons_self
   simp [this]
theorem bindL_get {kindOf:Str→Option NameKind} {x:Str} {v:Value}:∀ {P:List Str} {vs:List Value} {i:Nat} {m:Str→Option Value},P.Nodup→P[i]? = some x→vs[i]? = some v→kindOf x=some .local →
  bindL kindOf (P.zip vs) m x=some v
 | [],_,_,_,_,h,_,_=>by simp at h
 | _ :: _,[],_,_,_,_,h,_=>by simp at h
 | p :: P,w :: vs,0,m,nd,h1,h2,hk=>by
  simp at h1 h2;subst h1;subst h2
  show bindL kindOf ((p,w) :: P.zip vs) m p=_
  unfold bindL
  rw [bindL_out fun v hv=>(List.nodup_cons.mp nd).1 (List.of_mem_zip hv).1,if_pos hk]
  simp
 | p :: P,w :: vs,i + 1,m,nd,h1,h2,hk=>by
  show bindL kindOf ((p,w) :: P.zip vs) m x=_
  unfold bindL
  exact bindL_get (i:=i) (List.nodup_cons.mp nd).2 (by simpa using h1) (by simpa using h2) hk
theorem bindC_get {kindOf:Str→Option NameKind} {x:Str} {v:Value}:∀ {P:List Str} {vs:List Value} {i:Nat} {m:Str→Option Value},P.Nodup→P[i]? = some x→vs[i]? = some v→kindOf x ≠ some .local →
  bindC kindOf (P.zip vs) m x=some v
 | [],_,_,_,_,h,_,_=>by simp at h
 | _ :: _,[],_,_,_,_,h,_=>by simp at h
 | p :: P,w :: vs,0,m,nd,h1,h2,hk=>by
  simp at h1 h2;subst h1;subst h2
  show bindC kindOf ((p,w) :: P.zip vs) m p=_
  unfold bindC
  rw [bindC_out fun v hv=>(List.nodup_cons.mp nd).1 (List.of_mem_zip hv).1,if_neg hk]
  simp
 | p :: P,w :: vs,i + 1,m,nd,h1,h2,hk=>by
  show bindC kindOf ((p,w) :: P.zip vs) m x=_
  unfold bindC
  exact bindC_get (i:=i) (List.nodup_cons.mp nd).2 (by simpa using h1) (by simpa using h2) hk
noncomputable def start (N:List Str) (vs:List V):St:=vs.map some ++ List.replicate (N.length - vs.length) none
noncomputable def cxOf (CX:CXT) (P:Program) (w:World) (K:PySem.W.Frag) (mg:Str→Option Value) (base:Heap) (N:List Str) (qual:Str) (scope:Scope) (f:Addr) (cd:Value) (A:Around) (outer:List Env) (s:Shared) (H:Hp) (E:XK):Cx where
 prog:=P
 w:=w
 K:=K
 mg:=mg
 base:=base
 A:=A.deeper (envOfC qual scope s.heap.objs.size f cd)
 N:=N
 s₀:=s
 H₀:=H
 env:=envOfC qual scope s.heap.objs.size f cd
 outer:=outer
 stack:=envOfC qual scope s.heap.objs.size f cd :: outer
 ex:=[]
 calm:=true
 fn:=fun _=>true
 pn:=[]
 xe:=fun e s'=>wpAny (model P w) (A.deeper (envOfC qual scope s.heap.objs.size f cd)) (leaving (envOfC qual scope s.heap.objs.size f cd) e) (fun _ s''=>CX outer H s E e s'') (fun e' s''=>CX outer H s E e' s'') s'
theorem cell_has {sc:Scope} {n:Nat} {x:Str} (h:sc.names.lookup x=some .cell):∃ c,(cellsFrom n sc.names []).lookup x=some c:=by
 have q:=PySem.W.cellsFrom_some sc.names n [] (.inl h)
 exact Option.isSome_iff_exists.mp q
theorem inv_start {CX:CXT} {P:Program} {w:World} {K:PySem.W.Frag} {mg:Str→Option Value} {base:Heap} {N ps:List Str} {qual:Str} {scope:Scope} {f:Addr} {cd:Value} {A:Around} {outer:List Env} {s s1:Shared} {H:Hp} {E:XK} {us:List Value} {vs:List V}
  (S:FnScope N ps scope) (hd:A.handled=none) (e0:Env0 P w K mg base A outer s H) (hl:vs.length=ps.length) (r:Vals vs us)
  (x:InCallC s s.heap.objs.size (bindL (envOfC qual scope s.heap.objs.size f cd).kindOf (ps.zip us) fun _=>none) (cellsFrom (s.heap.objs.size + 1) scope.names []) (bindC (envOfC qual scope s.heap.objs.size f cd).kindOf (ps.zip us) fun _=>none) s1) :
  Inv (cxOf CX P w K mg base N qual scope f cd A outer s H E) [] (start N vs) H s1:=by
 have hpl:ps.length ≤ N.length:=by have:=congrArg List.length S.pre;rw [List.length_take] at this;omega
 obtain ⟨h1,tk,rfl,hk⟩:=x.done
 have noA:∀ b:Addr,b ∉ (cxOf CX P w K mg base N qual scope f cd A outer s H E).ex:=fun b z=>absurd (show b ∈ ([] : List Addr) from z) (by simp)
 refine ⟨⟨e0.mod,S.kind,rfl,rfl,Nat.le_refl _,fun y z c h1 h2=>?_,fun y hy=>?_,fun y c _ h=>?_,fun _=>hd,Around.frames_deeper e0.frames,.inr ⟨rfl,rfl⟩,fun b z=>absurd z (noA b),e0.bs,e0.bsz,fun b _ _=>noA b,fun b z=>absurd z (noA b),e0.funs,e0.frf⟩,
  rfl,e0.bare,Un.kept hk,⟨_,x.toInCall.ns,fun i y v h1 h2 h3=>?_⟩,fun y c h=>⟨_,x.cell y c h⟩,e0.hok.fresh (Nat.le_refl _),fun y c h=>?_,fun p hp=>absurd (show p ∈ ([] : List (Addr × Obj)) from hp) (by simp),e0.hok.kept hk,?_⟩
 ·exact name_of_addr x.apart (PySem.mem_of_lookup h1) (PySem.mem_of_lookup h2)
 ·have hy:scope.names.lookup y=some .cell∨scope.names.lookup y=some .free:=hy
  rcases hy with hy | hy
  ·exact cell_has hy
  ·exact absurd rfl (S.nofree _ (PySem.mem_of_lookup hy))
 ·exact Nat.le_of_lt (x.above y c (PySem.mem_of_lookup h))
 ·have hi:i < vs.length:=by
   unfold start at h2
   by_cases hi:i < vs.length
   ·exact hi
   ·rw [List.getElem?_append_right (by simpa using hi)] at h2
    rw [List.getElem?_replicate] at h2
    split at h2 <;> cases h2
  have ha:vs[i]? = some v:=by
   unfold start at h2
   rw [List.getElem?_append_left (by simpa using hi),List.getElem?_map] at h2
   cases e:vs[i]? with
   | none=>rw [e] at h2;cases h2
   | some a=>rw [e] at h2;cases h2;rfl
  obtain ⟨u,hu,rv⟩:=r.get ha
  have hp:ps[i]? = some y:=by
   rw [← S.pre,List.getElem?_take_of_lt (by omega)];exact h1
  have ndP:ps.Nodup:=by rw [← S.pre];exact S.nd.sublist (List.take_sublist _ _)
  refine ⟨u,rv,?_⟩
  rcases S.par y (List.mem_of_getElem? hp) with k | k
  ·exact .inl ⟨k,bindL_get ndP hp hu k⟩
  ·obtain ⟨c,e⟩:=cell_has (n:=s.heap.objs.size + 1) k
   refine .inr ⟨.inl k,c,e,?_⟩
   have q:=x.cell y c e
   rw [bindC_get ndP hp hu (by show scope.names.lookup y ≠ _;rw [k];decide)] at q
   exact q
 ·exact e0.hok.fresh (Nat.le_of_lt (x.above y c (PySem.mem_of_lookup h)))
 ·unfold start
  show _=N.length
  rw [List.length_append,List.length_map,List.length_replicate]
  omega
theorem fn_of {CX:CXT} {P:Program} {w:World} {K:PySem.W.Frag} {mg:Str→Option Value} {base:Heap} {k:Nat} {f:Addr} {name qual:Str} {params:Arguments} {body:List Stmt} {scope:Scope} {dV kV doc pm cdv ct oc:Value} {an od:Option Addr}
  {osl:Array (Option Value)} {N ps:List Str} {sp:Sp} (lk:K.lookup f=some ⟨oc,od,.func (PySem.W.fnOf name qual params body scope dV kV doc pm an cdv ct),osl⟩) (hcd:PySem.W.codeIn K cdv qual=true) (S:FnScope N ps scope)
  (len:∀ vs H Q E,sp vs H Q E→vs.length=ps.length)
  (hbody:∀ (A:Around) (outer:List Env) (s:Shared) (H:Hp) (vs:List V) (Q:VK) (E:XK),Room k (A.deeper (envOfC qual scope s.heap.objs.size f cdv))→sp vs H Q E →
   ∃ t,PSs (cxOf CX P w K mg base N qual scope f cdv A outer s H E) body t∧t { nx:=fun _ H'=>Q .non H',rt:=Q } (start N vs) H) :
  FnOk P w K mg base CX (k + 1) f (PySem.W.fnOf name qual params body scope dV kV doc pm an cdv ct) ps sp:=by
 refine ⟨len,fun A outer s H args us vs Q E hr e0 hb r hsp=>?_⟩
 have hl:=len _ _ _ _ hsp
 have KX:K.In s.heap:=e0.mod.kin.keeps fun b o e=>(e0.bs b o e).1
 have lim:s.heap.NoLimit:=e0.mod.nolimit.keeps fun b o e=>(e0.bs b o e).1
 have hkind:∀ y ∈ ps.zip us,scope.names.lookup y.1=some .local∨(scope.names.lookup y.1=some .cell∧((cellsFrom (s.heap.objs.size + 1) scope.names []).lookup y.1).isSome=true):=fun ⟨n,v⟩ hy=>by
  rcases S.par n (List.of_mem_zip hy).1 with q | q
  ·exact .inl q
  ·exact .inr ⟨q,PySem.W.cellsFrom_some _ _ _ (.inl q)⟩
 refine codeAny_call_function hr.depth (KX _ _ lk) rfl S.co S.gen rfl (PySem.W.codeRec_of KX hcd) (hb _ _ _ _ ?_)
 refine wpAny_newFunctionEnv_cells S.kind hkind fun env he s1 x=>?_
 subst he
 refine ⟨lim.keeps x.toInCall.keep,codeAny_func ?_⟩
 obtain ⟨t,ht,hq⟩:=hbody A outer s H vs Q E (hr.deeper _) hsp
 have I:Inv (cxOf CX P w K mg base N qual scope f cdv A outer s H E) [] (start N vs) H s1:=inv_start S hr.hd e0 hl r x
 refine wpAny_mono (ht [] s1 (start N vs) H _ I hq) (fun fl s' hs=>?_) fun e s' hs=>hs
 have fin:∀ {σ':St} {H':Hp} {v:V} {u:Value},Inv (cxOf CX P w K mg base N qual scope f cdv A outer s H E) [] σ' H' s'→RelV v u→Q v H'→CE outer P w H s Q u s' :=
  fun {σ' H' v u} J rv q=>⟨v,H',J.os,J.bare,J.base,J.hok,rv,q⟩
 cases fl with
 | ret u =>
  obtain ⟨v,σ',H',J,rv,q⟩:=hs
  exact fin J rv q
 | next =>
  obtain ⟨σ',H',J,q⟩:=hs
  exact fin (v:=V.non) (u:=Value.none) J rfl q
 | brk =>
  obtain ⟨_,_,_,q⟩:=hs
  exact False.elim q
 | cont =>
  obtain ⟨_,_,_,q⟩:=hs
  exact False.elim q
end L2
namespace L2
open PySem PySem.Spec PyProof.Rows
section
variable {X:Cx} {x:Str} {p pos:Pos} {e:Expr} {es:List Expr} {t:TA} {id T:String} {r:List V→Hp→VK→Prop}
noncomputable def tCB (r:List V→Hp→VK→Prop) (t:TA):TE:=fun σ H Q=>t σ H fun vs H1=>r vs H1 Q
theorem pe_callB (hc:CallR X (.builtin id) r) (hg:Gl X x) (hm:X.mg x=none) (hv:bootBuiltins x=some (.builtin id)) (ha:PA X (e :: es) t) (hn:x ≠ "__name__" := by decide) (hdb:(x == ("__debug__" : Str))=false:=by decide)
  (he:starEach (e :: es) X.env=(false,eval e X.env) :: starEach es X.env:=by rfl) (hpl:(backTo pos (starEach es X.env)).any (·.1)=false:=by rfl):PE X (.Call (.Name x p) (e :: es) [] pos) (tCB r t):=by
 intro pins s σ H Q I h
 refine wpAny_Call_Name_kw (ld_blt I hg hm hv ?_ hn hdb)
 exact PyProof.Rows.callWith_builtin1 (thn (ha pos pins s σ H _ I h) fun us s1 ⟨vs,H1,I1,r1,q1⟩=>hc pins s1 σ H1 vs us Q I1 r1 q1) he hpl
theorem pe_callTy (hc:CallR X (.type T) r) (hg:Gl X x) (hm:X.mg x=none) (hv:bootBuiltins x=some (.type T)) (ha:PA X (e :: es) t) (hn:x ≠ "__name__" := by decide) (hdb:(x == ("__debug__" : Str))=false:=by decide)
  (he:starEach (e :: es) X.env=(false,eval e X.env) :: starEach es X.env:=by rfl) (hpl:(backTo pos (starEach es X.env)).any (·.1)=false:=by rfl):PE X (.Call (.Name x p) (e :: es) [] pos) (tCB r t):=by
 intro pins s σ H Q I h
 refine wpAny_Call_Name_kw (ld_blt I hg hm hv ?_ hn hdb)
 exact PyProof.Rows.callWith_type1 (thn (ha pos pins s σ H _ I h) fun us s1 ⟨vs,H1,I1,r1,q1⟩=>hc pins s1 σ H1 vs us Q I1 r1 q1) he hpl
end
end L2
namespace HT
open PySem PyProof.Rows
section
open PySem.SeqAt
open PySem.AutoSeq1 (wpAny_loadPart')
open PySem.MeetsSeq PySem.MeetsSeq2 PySem.MeetsSeq3
end
section
variable {prog:Program} {w:World} {A:Around} {E:Value→Shared→Prop} {s:Shared}
noncomputable def sIx (n d:Nat):Option Int→Nat
 | none=>d
 | some v=>if v < 0 then (v + (n:Int)).toNat else min v.toNat n
theorem sIx_none (n d:Nat):sIx n d none=d:=rfl
theorem sIx_nat (n d k:Nat):sIx n d (some (k:Int))=min k n:=by
 show (if (k:Int) < 0 then ((k:Int) + (n:Int)).toNat else min (k:Int).toNat n)=min k n
 rw [if_neg (by omega),Int.toNat_natCast]
theorem sIx_le (n d:Nat) (hd:d ≤ n) (o:Option Int):sIx n d o ≤ n:=by
 cases o with
 | none=>exact hd
 | some v =>
  show (if v < 0 then (v + (n:Int)).toNat else min v.toNat n) ≤ n
  by_cases hv:v < 0
  ·rw [if_pos hv];omega
  ·rw [if_neg hv];exact Nat.min_le_right _ _
theorem clip_eq (v:Int) (n d:Nat):(if v < 0 then max (v + (n:Int)) 0 else min v (n:Int))=((sIx n d (some v):Nat):Int):=by
 show (if v < 0 then max (v + (n:Int)) 0 else min v (n:Int))=(((if v < 0 then (v + (n:Int)).toNat else min v.toNat n):Nat):Int)
 by_cases hv:v < 0
 ·simp only [if_pos hv];omega
 ·simp only [if_neg hv];omega
theorem adjust_gen (lo hi:Option Int) (n:Nat):Builtin.Slice.sliceAdjust lo hi 1 (n:Int)=(((sIx n 0 lo:Nat):Int),((sIx n n hi:Nat):Int)):=by
 have h1:¬ ((1:Int) < 0):=by omega
 unfold Builtin.Slice.sliceAdjust
 simp only [h1,if_false]
 refine Prod.ext ?_ ?_
 ·cases lo with
  | none=>rfl
  | some v=>exact clip_eq v n 0
 ·cases hi with
  | none=>rfl
  | some v=>exact clip_eq v n n
theorem places_gen (i j:Nat):Builtin.Slice.slicePlaces (i:Int) (j:Int) 1=j - i:=by
 unfold Builtin.Slice.slicePlaces
 have h1:(1:Int) > 0:=by omega
 simp only [h1,if_true,Int.ediv_one]
 split <;> omega
theorem slicePart_ {v:Value} {o:Option Int} {Q:Option Int→Shared→Prop} (p:IsPart v o) (h:Q o s):wpAny (model prog w) A (Builtin.Slice.slicePartIndex v) Q E s:=by
 cases p with
 | none=>exact slicePart_none h
 | int i t=>exact slicePart_int h
theorem sliceApplied_gen {sl:Addr} {vl vu:Value} {lo hi:Option Int} {n:Nat} {Q:Int × Int × Nat→Shared→Prop} (hs:s.heap.IsSliceOf sl vl vu .none) (pl:IsPart vl lo) (pu:IsPart vu hi)
  (h:Q (((sIx n 0 lo:Nat):Int),1,sIx n n hi - sIx n 0 lo) s):wpAny (model prog w) A (Builtin.Slice.sliceApplied (.ref sl) (pure (n:Int))) Q E s:=by
 obtain ⟨os,hos,hcs,hds⟩:=id hs
 unfold Builtin.Slice.sliceApplied Builtin.Slice.sliceFields
 refine wpAny_bind (wpAny_bind (wpAny_field hos hds (x:=vl) rfl (wpAny_bind (wpAny_field hos hds (x:=vu) rfl (wpAny_bind (wpAny_field hos hds (x:=.none) rfl (wpAny_pure ?_)))))))
 refine wpAny_bind (slicePart_none ?_)
 show wpAny _ _ (if ((1:Int) == 0)=true then _ else _) _ _ s
 rw [if_neg (by decide)]
 refine wpAny_bind (slicePart_ pl (wpAny_bind (slicePart_ pu (wpAny_bind (wpAny_pure ?_)))))
 show wpAny _ _ (match Builtin.Slice.sliceAdjust lo hi 1 (n:Int) with | (lo,hi)=>pure (lo,(1:Int),Builtin.Slice.slicePlaces lo hi 1)) _ _ s
 rw [adjust_gen lo hi n]
 show wpAny _ _ (pure (((sIx n 0 lo:Nat):Int),(1:Int),Builtin.Slice.slicePlaces ((sIx n 0 lo:Nat):Int) ((sIx n n hi:Nat):Int) 1)) _ _ s
 rw [places_gen]
 exact wpAny_pure h
theorem pick_gen (xs:Array Value) (i k:Nat):((List.range k).filterMap fun (m:Nat)=>xs[((i:Int) + (m:Int) * 1).toNat]?).toArray=((xs.toList.drop i).take k).toArray:=by
 have e:(fun (m:Nat)=>xs[((i:Int) + (m:Int) * 1).toNat]?)=fun m=>xs[i + m]? := by
  funext m
  have:((i:Int) + (m:Int) * 1).toNat=i + m:=by omega
  rw [this]
 rw [e]
 have:=pick_run xs i k
 rw [List.filterMap_map] at this
 have e2:((fun x=>xs[x]?) ∘ fun x=>i + x)=fun m=>xs[i + m]? := rfl
 rw [e2] at this
 rw [this]
theorem getItem_tuple_cut {t sl:Addr} {items:Array Value} {vl vu:Value} {lo hi:Option Int} {Q:Value→Shared→Prop} (ht:IsTup s.heap t items) (hs:s.heap.IsSliceOf sl vl vu .none) (pl:IsPart vl lo) (pu:IsPart vu hi)
  (hw:¬ (sIx items.size 0 lo=0∧sIx items.size items.size hi=items.size))
  (h:Q (.ref s.heap.objs.size) { s with heap:=s.heap.push { cls:=.type "tuple",data:=.seq ((items.toList.drop (sIx items.size 0 lo)).take (sIx items.size items.size hi - sIx items.size 0 lo)).toArray } })
  (hsz:items.size ≤ sizeLine):wpAny (model prog w) A (getItem (.ref t) (.ref sl)) Q E s:=by
 have htake:sizeOk (.seq ((items.toList.drop (sIx items.size 0 lo)).take (sIx items.size items.size hi - sIx items.size 0 lo)).toArray):=by
  show ((items.toList.drop (sIx items.size 0 lo)).take (sIx items.size items.size hi - sIx items.size 0 lo)).toArray.size ≤ sizeLine
  rw [List.size_toArray,List.length_take,List.length_drop,Array.length_toList]
  omega
 have hj:sIx items.size items.size hi ≤ items.size:=sIx_le _ _ (Nat.le_refl _) hi
 obtain ⟨os,hos,hcs,hds⟩:=id hs
 have hTs:s.TypeIs (.ref sl) "slice" := ⟨os,hos,hcs⟩
 unfold getItem
 try with_reducible refine wpAny_holding ?_
 first | refine wpAny_bind (wpAny_pure ?_) | skip
 refine wpAny_bind (wpAny_sequenceKey ht.typeIs (by decide) ?_)
 refine wpAny_bind (wpAny_callSpecial?_slot (name:=Str.ofString "__getitem__") ht.typeIs PyProof.Rows.slot_tuple_getitem
  (wpAny_call_entry PyProof.Rows.slot_tuple_getitem ht.typeIs entry_tuple_getitem ?_ (args_tuple_getitem _ _)))
 show wpAny _ _ (Builtin.Tuple.tupleItemsOf (.ref t) >>= _) _ _ s
 refine wpAny_bind (tupleItemsOf_ ht ?_)
 refine wpAny_bind (wpAny_typeOf hTs ?_)
 rw [if_pos (by decide)]
 refine wpAny_bind (sliceApplied_gen hs pl pu ?_)
 have hno:¬ ((((sIx items.size 0 lo:Nat):Int) == 0 && (1:Int) == 1 && (sIx items.size items.size hi - sIx items.size 0 lo) == items.size)=true):=by
  intro q
  rw [Bool.and_eq_true,Bool.and_eq_true] at q
  have q1:((sIx items.size 0 lo:Nat):Int)=0:=eq_of_beq q.1.1
  have q2:sIx items.size items.size hi - sIx items.size 0 lo=items.size:=eq_of_beq q.2
  exact hw ⟨by omega,by omega⟩
 show wpAny _ _ (if (((sIx items.size 0 lo:Nat):Int) == 0 && (1:Int) == 1 && (sIx items.size items.size hi - sIx items.size 0 lo) == items.size)=true then _ else _) _ _ s
 rw [if_neg hno,pick_gen]
 first
  | exact wpAny_bind (m:=Builtin.Tuple.tupleExact _) (wpAny_newObj_type (wpAny_pure ⟨_,rfl,wpAny_pure h⟩) htake)
  | exact wpAny_bind (m:=Builtin.Tuple.tupleExact _) (wpAny_newObj_type (wpAny_bind (wpAny_pure (wpAny_pure ⟨_,rfl,wpAny_pure h⟩))) htake)
  | exact wpAny_bind (wpAny_bind (m:=Builtin.Tuple.tupleExact _) (wpAny_newObj_type (wpAny_pure (wpAny_pure ⟨_,rfl,wpAny_pure h⟩)) htake))
  | exact wpAny_bind (wpAny_bind (m:=Builtin.Tuple.tupleExact _) (wpAny_newObj_type (wpAny_pure ⟨_,rfl,wpAny_pure h⟩) htake))
end
end HT
namespace L2
open PySem PySem.Spec PyProof.Rows
noncomputable abbrev TO:=St→Hp→(Option Int→Hp→Prop)→Prop
noncomputable def PO (X:Cx) (e:Option Expr) (t:TO):Prop :=
 ∀ (pins:List (Addr × Obj)) (s:Shared) (σ:St) (H:Hp) (Q:Option Int→Hp→Prop),Inv X pins σ H s→t σ H Q →
  wpAny (model X.prog X.w) X.A (evalPart e X.env) (fun u s'=>∃ o H',Inv X pins σ H' s'∧IsPart u o∧Q o H') X.xe s
noncomputable def tNoPart:TO:=fun _ H Q=>Q none H
noncomputable def tPart (t:TE):TO:=fun σ H Q=>t σ H fun x H1=>∃ i,x = .int i∧Q (some i) H1
theorem intsAre_of {ns:List Int}:∀ {us:List Value},Vals (ns.map V.int) us→IntsAre us ns:=by
 induction ns with
 | nil=>intro us r;rw [List.map_nil] at r;cases r;exact .nil
 | cons n ns ih =>
  intro us r
  rw [List.map_cons] at r
  cases r with
  | cons r1 r2 =>
   obtain ⟨t,e⟩:=r1
   subst e
   exact .cons n t (ih r2)
section
variable {X:Cx} {e:Expr} {te:TE} {lo hi:Option Expr} {tl th:TO} {pos p2:Pos}
theorem po_none:PO X none tNoPart:=by
 intro pins s σ H Q I h
 rw [evalPart_none]
 exact wpAny_pure ⟨none,H,I,.none,h⟩
theorem po_some (h:PE X e te):PO X (some e) (tPart te):=by
 intro pins s σ H Q I hw
 rw [evalPart_some]
 refine thn (h pins s σ H _ I hw) fun u s1 ⟨x,H1,I1,r1,q1⟩=>?_
 obtain ⟨i,rfl,q⟩:=q1
 obtain ⟨t,rfl⟩:=r1
 exact ⟨some i,H1,I1,.int i t,q⟩
noncomputable def SlR (X:Cx) (r:V→Option Int→Option Int→Hp→VK→Prop):Prop :=
 ∀ (pins:List (Addr × Obj)) (s:Shared) (σ:St) (H:Hp) (x:V) (v vl vu:Value) (lo hi:Option Int) (sl:Addr) (Q:VK),Inv X pins σ H s→RelV x v→s.heap.IsSliceOf sl vl vu .none→IsPart vl lo→IsPart vu hi→r x lo hi H Q →
  ∃ T id,typeLookup (.type T) "__getitem__" = pure (some (.builtin id))∧s.TypeIs v T∧wpAny (model X.prog X.w) X.A (getItem v (.ref sl)) (EP X pins σ Q) X.xe s
noncomputable def tSl (r:V→Option Int→Option Int→Hp→VK→Prop) (te:TE) (tl th:TO):TE:=fun σ H Q=>te σ H fun x H1=>tl σ H1 fun l H2=>th σ H2 fun u H3=>r x l u H3 Q
theorem pe_slice {r:V→Option Int→Option Int→Hp→VK→Prop} (hr:SlR X r) (he:PE X e te) (hl:PO X lo tl) (hu:PO X hi th):PE X (.Subscript e (.Slice lo hi none p2) pos) (tSl r te tl th):=by
 intro pins s σ H Q I h
 refine Subscript_ (thn (he pins s σ H _ I h) fun v s1 ⟨x,H1,I1,r1,q1⟩=>?_)
 refine wpAny_Slice (thn (hl pins s1 σ H1 _ I1 q1) fun vl s2 ⟨l,H2,I2,pl,q2⟩=>thn (hu pins s2 σ H2 _ I2 q2) fun vu s3 ⟨u,H3,I3,pu,q3⟩=>?_)
 rw [evalPart_none]
 refine wpAny_pure ?_
 have I4:Inv X pins σ H3 { s3 with heap:=s3.heap.push { cls:=.type "slice",data:=.fields #[vl,vu,.none] } }:=I3.kept (t':=s3.toks) fun b ob q=>Heap.get?_push_of_some _ q
 obtain ⟨T,id,hT,ht,hg⟩:=hr pins { s3 with heap:=s3.heap.push { cls:=.type "slice",data:=.fields #[vl,vu,.none] } } σ H3 x v vl vu l u s3.heap.objs.size Q I4 r1 (Heap.IsSliceOf.new ..) pl pu q3
 show wpAny (model X.prog X.w) X.A (subscriptTail e (.Slice lo hi none p2) v (.ref s3.heap.objs.size)) (EP X pins σ Q) X.xe { s3 with heap:=s3.heap.push { cls:=.type "slice",data:=.fields #[vl,vu,.none] } }
 exact tail_any (ops:=[.ref s3.heap.objs.size,v]) ht hT hg (by with_unfolding_all rfl)
noncomputable def cutV (xs:List V) (lo hi:Option Int):List V:=(xs.drop (HT.sIx xs.length 0 lo)).take (HT.sIx xs.length xs.length hi - HT.sIx xs.length 0 lo)
theorem cutV_length (xs:List V) (lo hi:Option Int):(cutV xs lo hi).length ≤ xs.length:=by
 unfold cutV
 rw [List.length_take,List.length_drop]
 exact Nat.le_trans (Nat.min_le_right _ _) (Nat.sub_le _ _)
noncomputable def rSlT (K:PySem.W.Frag):V→Option Int→Option Int→Hp→VK→Prop:=fun x lo hi H Q=>∃ a xs,x = .ref a∧SqT K H a xs ∧
 ¬ (HT.sIx xs.length 0 lo=0∧HT.sIx xs.length xs.length hi=xs.length)∧∀ p,H p=none→Q (.ref p) (upd H p (.tup (cutV xs lo hi)))
theorem sl_tup:SlR X (rSlT X.K):=by
 intro pins s σ H x v vl vu lo hi sl Q I rx hs pl pu h
 obtain ⟨a,xs,rfl,hx,hw,q⟩:=h
 cases rx
 obtain ⟨its,r,ht,hz⟩:=I.tuple hx
 have hlen:its.toArray.size=xs.length:=by rw [List.size_toArray];exact r.length.symm
 refine ⟨"tuple",_,PyProof.Rows.slot_tuple_getitem.lookup,ht.typeIs,?_⟩
 refine HT.getItem_tuple_cut ht hs pl pu (by rw [hlen];exact hw) ?_ (by rw [hlen];exact hz)
 rw [hlen]
 refine ⟨.ref s.heap.objs.size,_,I.laid (t':=s.toks) (o:=.tup (cutV xs lo hi)) (fun b ob q=>Heap.get?_push_of_some _ q) (Nat.le_refl _) ?_,rfl,q _ (I.hok.fresh (Nat.le_refl _))⟩
 exact ⟨Nat.le_trans (cutV_length xs lo hi) hz,_,(r.drop (HT.sIx xs.length 0 lo)).take (HT.sIx xs.length xs.length hi - HT.sIx xs.length 0 lo),IsTup.new _ _⟩
theorem Vals.nil_iff {xs:List V} {us:List Value} (r:Vals xs us):us=[] ↔ xs=[]:=by
 cases r with
 | nil=>simp
 | cons _ _=>simp
end
end L2
namespace L2
open PySem PySem.Spec PyProof.Rows
noncomputable def ixN (n:Nat) (i:Int):Option Nat:=if 0 ≤ i then (if i < n then some i.toNat else none) else if -(n:Int) ≤ i then some (i + n).toNat else none
noncomputable def atI {α:Type} (xs:List α) (i:Int):Option α:=(ixN xs.length i).bind fun j=>xs[j]?
theorem ixN_seq {n:Nat} {i:Int} {j:Nat} (h:ixN n i=some j):seqIndex? i n=some j∧j < n∧-(n:Int) ≤ i∧i < n:=by
 unfold ixN at h
 by_cases h0:0 ≤ i
 ·rw [if_pos h0] at h
  by_cases h1:i < n
  ·rw [if_pos h1] at h
   have e:i.toNat=j:=Option.some.inj h
   exact ⟨by rw [seqIndex_of h0 h1,e],by omega,by omega,h1⟩
  ·rw [if_neg h1] at h;cases h
 ·rw [if_neg h0] at h
  by_cases h1 : -(n:Int) ≤ i
  ·rw [if_pos h1] at h
   have e:(i + n).toNat=j:=Option.some.inj h
   exact ⟨by rw [seqIndex_neg (by omega) h1,e],by omega,h1,by omega⟩
  ·rw [if_neg h1] at h;cases h
theorem atI_get {α:Type} {xs:List α} {i:Int} {v:α} (h:atI xs i=some v):∃ j,seqIndex? i xs.length=some j∧xs[j]? = some v∧j < xs.length∧-(xs.length:Int) ≤ i∧i < xs.length:=by
 unfold atI at h
 cases e:ixN xs.length i with
 | none=>rw [e] at h;cases h
 | some j =>
  rw [e] at h
  obtain ⟨h1,h2,h3,h4⟩:=ixN_seq e
  exact ⟨j,h1,h,h2,h3,h4⟩
theorem atI_nat {α:Type} {xs:List α} {j:Nat} {v:α} (h:xs[j]? = some v):atI xs (j:Int)=some v:=by
 have hj:j < xs.length:=(List.getElem?_eq_some_iff.mp h).1
 have e:ixN xs.length (j:Int)=some j:=by
  unfold ixN
  rw [if_pos (by omega),if_pos (by omega)];simp
 unfold atI;rw [e];exact h
noncomputable def PlainIx (b:Expr):Prop:=∀ o i,subscripted b false o i=operate [o,i] (getItem o i)
noncomputable def IxR (X:Cx) (r:R2):Prop :=
 ∀ (value slice:Expr) (pins:List (Addr × Obj)) (s:Shared) (σ:St) (H:Hp) (x y:V) (v u:Value) (Q:VK),Inv X pins σ H s→RelV x v→RelV y u→r x y H Q →
  subscripted slice false v u=operate [v,u] (getItem v u)→wpAny (model X.prog X.w) X.A (subscriptTail value slice v u) (EP X pins σ Q) X.xe s
noncomputable def MtR (X:Cx) (id:String) (r:V→List V→Hp→VK→Prop):Prop :=
 ∀ (pins:List (Addr × Obj)) (s:Shared) (σ:St) (H:Hp) (x:V) (xs:List V) (v:Value) (us:List Value) (Q:VK),Inv X pins σ H s→RelV x v→Vals xs us→r x xs H Q →
  wpAny (model X.prog X.w) X.A (call (.builtin id) (v :: us)) (EP X pins σ Q) X.xe s
section
variable {X:Cx} {a b:Expr} {ta tb:TE} {pos:Pos}
theorem pe_ix {r:R2} (hr:IxR X r) (ha:PE X a ta) (hb:PE X b tb) (hs:PlainIx b):PE X (.Subscript a b pos) (tOp r ta tb):=by
 intro pins s σ H Q I h
 exact Subscript_ (binT ha hb I h fun v u s2 x y H2 I2 rx ry q=>hr a b pins s2 σ H2 x y v u Q I2 rx ry q (hs _ _))
noncomputable def rIxL (K:PySem.W.Frag):R2:=fun x y H Q=>∃ p xs i v,x = .ref p∧y = .int i∧SqL K H p xs∧atI xs i=some v∧Q v H
noncomputable def rIxT (K:PySem.W.Frag):R2:=fun x y H Q=>∃ p xs i v,x = .ref p∧y = .int i∧SqT K H p xs∧atI xs i=some v∧Q v H
theorem ix_list:IxR X (rIxL X.K):=by
 intro value slice pins s σ H x y v u Q I rx ry h hs
 obtain ⟨p,xs,i,z,rfl,rfl,hq,he,q⟩:=h
 cases rx
 obtain ⟨t,rfl⟩:=ry
 obtain ⟨its,r,pl,hz⟩:=I.list hq
 obtain ⟨j,h1,h2,h3,h4,h5⟩:=atI_get he
 obtain ⟨w,ew,rw'⟩:=r.get h2
 have hl:=r.length
 have hn:=line63
 have fin:EP X pins σ Q w s:=⟨z,H,I,rw',q⟩
 by_cases h0:0 ≤ i
 ·have hj:i.toNat=j:=by
   rw [seqIndex_of h0 h5] at h1
   exact Option.some.inj h1
  exact item_listR pl.isList h0 (by omega) (by rw [hj];simpa using ew) fin hs
 ·have hj:(i + (its.toArray.size:Int)).toNat=j:=by
   rw [seqIndex_neg (by omega) h4] at h1
   rw [List.size_toArray,← hl]
   exact Option.some.inj h1
  exact subscriptTail_builtinR (x:=w) pl.isList.typeIs slot_list_getitem.lookup
   (wpAny_getItem_list_neg (Q:=fun r s'=>r=w∧EP X pins σ Q r s') pl.isList (by omega) (by rw [List.size_toArray] <;> omega) (by omega) (by rw [hj];simpa using ew) ⟨rfl,fin⟩) hs
theorem ix_tup:IxR X (rIxT X.K):=by
 intro value slice pins s σ H x y v u Q I rx ry h hs
 obtain ⟨p,xs,i,z,rfl,rfl,hq,he,q⟩:=h
 cases rx
 obtain ⟨t,rfl⟩:=ry
 obtain ⟨its,r,pl,hz⟩:=I.tuple hq
 obtain ⟨j,h1,h2,h3,h4,h5⟩:=atI_get he
 obtain ⟨w,ew,rw'⟩:=r.get h2
 have hl:=r.length
 have hn:=line63
 have fin:EP X pins σ Q w s:=⟨z,H,I,rw',q⟩
 exact subscriptTail_builtinR (x:=w) pl.typeIs slot_tuple_getitem.lookup
  (getItem_tuple (j:=j) (Q:=fun r s'=>r=w∧EP X pins σ Q r s') pl (by omega) (by omega) (by rw [List.size_toArray,← hl];exact h1) (by simpa using ew) ⟨rfl,fin⟩) hs
theorem mapSeq_set (its:List Value) (n j:Nat) (u:Value):Obj.mapSeq (·.setIfInBounds j u) { cls:=.type "list",data:=.seq its.toArray n } = { cls:=.type "list",data:=.seq (its.set j u).toArray n }:=by
 simp [Obj.mapSeq]
theorem Inv.lst {pins:List (Addr × Obj)} {σ:St} {H:Hp} {s:Shared} {p:Addr} {xs:List V} (I:Inv X pins σ H s) (h:H p=some (.lst xs)) :
  ∃ (its:List Value) (n:Nat),Vals xs its∧s.heap.get? p=some { cls:=.type "list",data:=.seq its.toArray n }∧xs.length ≤ sizeLine:=by
 obtain ⟨z,its,n,r,e⟩:=I.hok p _ h
 exact ⟨its,n,r,e,z⟩
theorem Inv.lstUpd {pins:List (Addr × Obj)} {σ:St} {H:Hp} {s:Shared} {p:Addr} {xs ys:List V} {its its':List Value} {n n':Nat} {f:Obj→Obj} (I:Inv X pins σ H s) (h:H p=some (.lst xs))
  (ho:s.heap.get? p=some { cls:=.type "list",data:=.seq its.toArray n }) (hf:f { cls:=.type "list",data:=.seq its.toArray n } = { cls:=.type "list",data:=.seq its'.toArray n' }) (r:Vals ys its') (hz:ys.length ≤ sizeLine) (t:Nat) :
  Inv X pins σ (upd H p (.lst ys)) { s with heap:=s.heap.update p f,toks:=t }:=by
 have e:(s.heap.update p f).get? p=some { cls:=.type "list",data:=.seq its'.toArray n' }:=by
  rw [Heap.get?_update_self f ho (by rw [hf] <;> rfl),hf]
 refine I.write (x:=p) (e:=p) (by rw [h];trivial) (.inl rfl) (fun b u hb q=>(Heap.get?_update_other _ _ (Ne.symm hb)).trans q) ⟨_,e⟩ ?_
 exact ⟨hz,its',n',r,e⟩
noncomputable def rSetL:V→V→V→Hp→(Hp→Prop)→Prop:=fun o i v H Q=>∃ p xs k j,o = .ref p∧i = .int k∧H p=some (.lst xs)∧ixN xs.length k=some j∧Q (upd H p (.lst (xs.set j v)))
theorem set_list:PSet X rSetL:=by
 intro pins s σ H o i v ov iv u Q I ro ri rv h
 obtain ⟨p,xs,k,j,rfl,rfl,hp,hj,q⟩:=h
 cases ro
 obtain ⟨t,rfl⟩:=ri
 obtain ⟨its,n,r,ho,hz⟩:=I.lst hp
 obtain ⟨h1,h2,h3,h4⟩:=ixN_seq hj
 have hl:=r.length
 have hn:=line63
 have I':Inv X pins σ (upd H p (.lst (xs.set j v))) { s with heap:=s.heap.update p (Obj.mapSeq (·.setIfInBounds j u)) } :=
  I.lstUpd hp ho (mapSeq_set its n j u) (r.set rv j) (by rw [List.length_set];exact hz) s.toks
 by_cases h0:0 ≤ k
 ·have hk:k.toNat=j:=by
   rw [seqIndex_of h0 h4] at h1
   exact Option.some.inj h1
  exact PySem.W.ki_setAt ho h0 (by omega) (by rw [List.size_toArray,← hl];exact h4) (by rw [hk];exact ⟨_,I',q⟩)
 ·have hk:(k + (its.toArray.size:Int)).toNat=j:=by
   rw [seqIndex_neg (by omega) h3] at h1
   rw [List.size_toArray,← hl]
   exact Option.some.inj h1
  exact PySem.W.ki_setBack ho (by omega) (by rw [List.size_toArray,← hl];exact h3) (by omega) (by rw [hk];exact ⟨_,I',q⟩)
theorem clip0 (i:Int) (n:Nat):max 0 (min (if i < 0 then i + (n:Int) else i) (n:Int))=(((if i < 0 then (i + (n:Int)).toNat else min i.toNat n):Nat):Int):=by
 by_cases h:i < 0
 ·rw [if_pos h,if_pos h,Int.min_eq_left (by omega),Int.ofNat_toNat,Int.max_comm]
 ·have z:0 ≤ i:=Int.not_lt.mp h
  obtain ⟨k,rfl⟩:=Int.eq_ofNat_of_zero_le z
  rw [if_neg h,if_neg h,Int.toNat_natCast];exact (Int.max_eq_right (Int.le_min.mpr ⟨z,Int.natCast_nonneg n⟩)).trans (by omega)
theorem slice_bounds (lo hi:Option Int) (n:Nat):(sliceBounds lo hi none n).1=((HT.sIx n 0 lo:Nat):Int)∧(sliceBounds lo hi none n).2.1=((HT.sIx n n hi:Nat):Int)∧(sliceBounds lo hi none n).2.2=1:=by
 exact ⟨by cases lo with | none=>simp [sliceBounds,HT.sIx] | some i=>exact clip0 i n,by cases hi with | none=>simp [sliceBounds,HT.sIx] | some i=>exact clip0 i n,rfl⟩
theorem slicePick_cut (its:List Value) (lo hi:Option Int):slicePick its.toArray lo hi none=((its.drop (HT.sIx its.length 0 lo)).take (HT.sIx its.length its.length hi - HT.sIx its.length 0 lo)).toArray:=by
 obtain ⟨h1,h2,h3⟩:=slice_bounds lo hi its.toArray.size
 unfold slicePick
 rw [h1,h2,h3]
 simp only [sliceRange_one,pick_run,List.size_toArray] <;> rfl
noncomputable def rSlL (K:PySem.W.Frag):V→Option Int→Option Int→Hp→VK→Prop:=fun x lo hi H Q=>∃ a xs,x = .ref a∧SqL K H a xs∧∀ p,H p=none→Q (.ref p) (upd H p (.lst (cutV xs lo hi)))
theorem sl_list:SlR X (rSlL X.K):=by
 intro pins s σ H x v vl vu lo hi sl Q I rx hs pl pu h
 obtain ⟨a,xs,rfl,hx,q⟩:=h
 cases rx
 obtain ⟨its,r,ht,hz⟩:=I.list hx
 have hlen:=r.length
 refine ⟨"list",_,slot_list_getitem.lookup,ht.isList.typeIs,?_⟩
 refine wpAny_getItem_list_slice ht.isList hs pl pu .none (by simp) ?_ (by rw [List.size_toArray] <;> omega)
 rw [slicePick_cut,← hlen]
 refine ⟨.ref s.heap.objs.size,_,I.laid (t':=s.toks) (o:=.lst (cutV xs lo hi)) (fun b ob q=>Heap.get?_push_of_some _ q) (Nat.le_refl _) ?_,rfl,q _ (I.hok.fresh (Nat.le_refl _))⟩
 exact ⟨Nat.le_trans (cutV_length xs lo hi) hz,_,0,(r.drop (HT.sIx xs.length 0 lo)).take (HT.sIx xs.length xs.length hi - HT.sIx xs.length 0 lo),Heap.get?_push_size _ rfl⟩
noncomputable def flatV:V→Bool
 | .non=>true
 | .bl _=>true
 | .int _=>true
 | .str _=>true
 | _=>false
noncomputable def eqV:V→V→Bool
 | .non,.non=>true
 | .bl a,.bl b=>a == b
 | .bl a,.int b=>(if a then 1 else 0) == b
 | .int a,.bl b=>a == (if b then 1 else 0)
 | .int a,.int b=>a == b
 | .str a,.str b=>a == b
 | _,_=>false
theorem eqAt_V {A:Around} {s:Shared} {y x:V} {u v:Value} (ry:RelV y u) (rx:RelV x v) (fy:flatV y=true) (fx:flatV x=true):SeqAt.EqAt A s u v (eqV y x):=by
 cases y with
 | non =>
  cases ry
  cases x with
  | non=>cases rx;exact SeqAt.EqAt.same _
  | bl b=>cases rx;exact SeqAt.EqAt.none_bool b
  | int b=>obtain ⟨t,rfl⟩:=rx;exact SeqAt.EqAt.none_int b t
  | str b=>obtain ⟨t,rfl⟩:=rx;exact SeqAt.EqAt.none_str b t
  | _=>exact absurd (show false=true from fx) Bool.false_ne_true
 | bl a =>
  cases ry
  cases x with
  | non=>cases rx;exact SeqAt.EqAt.bool_none a
  | bl b=>cases rx;exact SeqAt.EqAt.bool_bool a b
  | int b=>obtain ⟨t,rfl⟩:=rx;exact SeqAt.EqAt.bool_int a b t
  | str b=>obtain ⟨t,rfl⟩:=rx;exact SeqAt.EqAt.bool_str a b t
  | _=>exact absurd (show false=true from fx) Bool.false_ne_true
 | int a =>
  obtain ⟨t',rfl⟩:=ry
  cases x with
  | non=>cases rx;exact SeqAt.EqAt.int_none a t'
  | bl b=>cases rx;exact SeqAt.EqAt.int_bool a t' b
  | int b=>obtain ⟨t,rfl⟩:=rx;exact SeqAt.EqAt.int_int a t' b t
  | str b=>obtain ⟨t,rfl⟩:=rx;exact SeqAt.EqAt.int_str a t' b t
  | _=>exact absurd (show false=true from fx) Bool.false_ne_true
 | str a =>
  obtain ⟨t',rfl⟩:=ry
  cases x with
  | non=>cases rx;exact SeqAt.EqAt.str_none a t'
  | bl b=>cases rx;exact SeqAt.EqAt.str_bool a t' b
  | int b=>obtain ⟨t,rfl⟩:=rx;exact SeqAt.EqAt.str_int a t' b t
  | str b=>obtain ⟨t,rfl⟩:=rx;exact SeqAt.EqAt.str_str a t' b t
  | _=>exact absurd (show false=true from fx) Bool.false_ne_true
 | _=>exact absurd (show false=true from fy) Bool.false_ne_true
noncomputable def eqU (x:V) (u:Value):Bool:=match u with
 | .none=>eqV .non x
 | .bool b=>eqV (.bl b) x
 | .int i _=>eqV (.int i) x
 | .str z _=>eqV (.str z) x
 | _=>false
theorem eqU_of {x y:V} {u:Value} (r:RelV y u) (f:flatV y=true):eqU x u=eqV y x:=by
 cases y with
 | non=>cases r;rfl
 | bl b=>cases r;rfl
 | int i=>obtain ⟨t,rfl⟩:=r;rfl
 | str z=>obtain ⟨t,rfl⟩:=r;rfl
 | _=>exact absurd (show false=true from f) Bool.false_ne_true
theorem any_eqU {x:V}:∀ {xs:List V} {us:List Value},Vals xs us→xs.all flatV=true→us.any (eqU x)=xs.any fun y=>eqV y x
 | _,_,.nil,_=>rfl
 | y :: xs,u :: us,.cons r t,f=>by
  rw [List.all_cons,Bool.and_eq_true] at f
  rw [List.any_cons,List.any_cons,eqU_of r f.1,any_eqU t f.2]
theorem mem_eqAt {A:Around} {s:Shared} {x:V} {v:Value} (rx:RelV x v) (fx:flatV x=true):∀ {xs:List V} {us:List Value},Vals xs us→xs.all flatV=true→∀ u ∈ us,SeqAt.EqAt A s u v (eqU x u)
 | _,_,.nil,_=>fun u hu=>by cases hu
 | y :: xs,u :: us,.cons r t,f=>fun u' hu=>by
  rw [List.all_cons,Bool.and_eq_true] at f
  rcases List.mem_cons.mp hu with rfl | hu
  ·rw [eqU_of r f.1];exact eqAt_V r rx f.1 fx
  ·exact mem_eqAt rx fx t f.2 u' hu
noncomputable def inV (x:V) (xs:List V):Bool:=xs.any fun y=>eqV y x
noncomputable def rIn (K:PySem.W.Frag) (neg:Bool):R2:=fun x y H Q=>∃ p xs,y = .ref p∧(SqL K H p xs∨SqT K H p xs)∧flatV x=true∧xs.all flatV=true∧Q (.bl (if neg then !inV x xs else inV x xs)) H
theorem op_in_seq:OpR X (compareOp .In) (rIn X.K false):=by
 intro pins s σ H x y v u Q I rx ry h
 obtain ⟨p,xs,rfl,hq,fx,fs,q⟩:=h
 cases ry
 rcases hq with hq | hq
 ·obtain ⟨its,r,pl,hz⟩:=I.list hq
  refine SeqAt.in_listAt (eqU x) pl.isList (fun w hw=>mem_eqAt rx fx r fs w (by simpa using hw)) ⟨.bl _,H,I,rfl,?_⟩
  rw [show its.toArray.any (eqU x)=its.any (eqU x) by simp,any_eqU r fs]
  exact q
 ·obtain ⟨its,r,pl,hz⟩:=I.tuple hq
  refine SeqAt.in_tupleAt (eqU x) pl (fun w hw=>mem_eqAt rx fx r fs w (by simpa using hw)) ⟨.bl _,H,I,rfl,?_⟩
  rw [show its.toArray.any (eqU x)=its.any (eqU x) by simp,any_eqU r fs]
  exact q
theorem op_notIn_seq:OpR X (compareOp .NotIn) (rIn X.K true):=by
 intro pins s σ H x y v u Q I rx ry h
 obtain ⟨p,xs,rfl,hq,fx,fs,q⟩:=h
 cases ry
 rcases hq with hq | hq
 ·obtain ⟨its,r,pl,hz⟩:=I.list hq
  refine SeqAt.notIn_listAt (eqU x) pl.isList (fun w hw=>mem_eqAt rx fx r fs w (by simpa using hw)) ⟨.bl _,H,I,rfl,?_⟩
  rw [show its.toArray.any (eqU x)=its.any (eqU x) by simp,any_eqU r fs]
  exact q
 ·obtain ⟨its,r,pl,hz⟩:=I.tuple hq
  refine SeqAt.notIn_tupleAt (eqU x) pl (fun w hw=>mem_eqAt rx fx r fs w (by simpa using hw)) ⟨.bl _,H,I,rfl,?_⟩
  rw [show its.toArray.any (eqU x)=its.any (eqU x) by simp,any_eqU r fs]
  exact q
theorem call_len_seq:CallR X (.builtin "len") (fun xs H Q=>∃ p ys,xs=[.ref p]∧(SqL X.K H p ys∨SqT X.K H p ys)∧Q (.int ys.length) H):=by
 intro pins s σ H xs us Q I r h
 obtain ⟨p,ys,rfl,hq,q⟩:=h
 obtain ⟨u,rfl,rx⟩:=vals1 r
 cases rx
 have hn:=line63
 rcases hq with hq | hq
 ·obtain ⟨its,r',pl,hz⟩:=I.list hq
  have hlen:=r'.length
  exact Calls.call_len_list pl.isList (by simp only [List.size_toArray] <;> omega) ⟨.int ys.length,H,I.tok _,⟨s.toks + 1,by rw [List.size_toArray,hlen]⟩,q⟩
 ·obtain ⟨its,r',pl,hz⟩:=I.tuple hq
  have hlen:=r'.length
  exact len_tuple pl (by simp only [List.size_toArray] <;> omega) ⟨.int ys.length,H,I.tok _,⟨s.toks + 1,by rw [List.size_toArray,hlen]⟩,q⟩
theorem call_list_of:CallR X (.type "list") (fun xs H Q=>∃ p ys,xs=[.ref p]∧(SqL X.K H p ys∨SqT X.K H p ys)∧∀ l,H l=none→Q (.ref l) (upd H l (.lst ys))):=by
 intro pins s σ H xs us Q I r h
 obtain ⟨p,ys,rfl,hq,q⟩:=h
 obtain ⟨u,rfl,rx⟩:=vals1 r
 cases rx
 have fin:∀ (its:List Value),Vals ys its→ys.length ≤ sizeLine→∀ (h':Heap) (c':Nat),(∀ b o',s.heap.get? b=some o'→h'.get? b=some o') →
   h'.get? s.heap.objs.size=some { cls:=.type "list",dict:=none,data:=.seq its.toArray c',slots := #[] }→EP X pins σ Q (.ref s.heap.objs.size) { s with heap:=h' }:=fun its r' hz h' c' kp e =>
  ⟨.ref s.heap.objs.size,_,I.laid (t':=s.toks) kp (Nat.le_refl _) (show ObjOk X.prog X.w _ h' _ (.lst ys) from ⟨hz,its,c',r',e⟩),rfl,q _ (I.hok.fresh (Nat.le_refl _))⟩
 rcases hq with hq | hq
 ·obtain ⟨its,r',pl,hz⟩:=I.list hq
  have hlen:=r'.length
  obtain ⟨o,ho,hc,n,hd⟩:=pl.isList
  exact call_list_seq p (.inl rfl) ho hc hd (fun h' c' kp e=>fin its r' hz h' c' kp e) (by simp only [List.size_toArray] <;> omega)
 ·obtain ⟨its,r',pl,hz⟩:=I.tuple hq
  have hlen:=r'.length
  obtain ⟨o,ho,hc,n,hd⟩:=pl
  exact call_list_seq p (.inr rfl) ho hc hd (fun h' c' kp e=>fin its r' hz h' c' kp e) (by simp only [List.size_toArray] <;> omega)
theorem call_tuple_of:CallR X (.type "tuple") (fun xs H Q=>∃ p ys,xs=[.ref p]∧((SqL X.K H p ys∧∀ l,H l=none→Q (.ref l) (upd H l (.tup ys)))∨(SqT X.K H p ys∧Q (.ref p) H))):=by
 intro pins s σ H xs us Q I r h
 obtain ⟨p,ys,rfl,h⟩:=h
 obtain ⟨u,rfl,rx⟩:=vals1 r
 cases rx
 rcases h with ⟨hq,q⟩ | ⟨hq,q⟩
 ·obtain ⟨its,r',pl,hz⟩:=I.list hq
  have hlen:=r'.length
  refine call_tuple_list pl.isList (fun h' kp=>?_) (by simp only [List.size_toArray] <;> omega)
  have I1:Inv X pins σ H { s with heap:=h' }:=I.kept (t':=s.toks) kp
  have I2:Inv X pins σ (upd H h'.objs.size (.tup ys)) { s with heap:=h'.push { cls:=.type "tuple",data:=.seq its.toArray } } :=
   I1.laid (t':=s.toks) (fun b o e=>Heap.get?_push_of_some _ e) (Nat.le_refl _) (show ObjOk X.prog X.w _ _ _ (.tup ys) from ⟨hz,its,r',IsTup.new _ _⟩)
  exact ⟨.ref h'.objs.size,_,I2,rfl,q _ (I1.hok.fresh (Nat.le_refl _))⟩
 ·obtain ⟨its,r',pl,hz⟩:=I.tuple hq
  exact call_tuple_same pl ⟨.ref p,H,I,rfl,q⟩
noncomputable def tyV (K:PySem.W.Frag) (T:String) (x:V) (H:Hp):Prop:=match x with
 | .str _=>T = "str"
 | .int _=>T = "int"
 | .ref p=>(T = "list" ∧ ∃ xs,SqL K H p xs)∨(T = "tuple" ∧ ∃ o,K.lookup p=some o∧o.cls = .type "tuple" ∧ o.dict=none) ∨
   (T = "dict" ∧ ((∃ kvs,H p=some (.dK kvs))∨∃ kvs,H p=some (.dT kvs)))∨(T = "set" ∧ ∃ S n,H p=some (.set S n))
 | _=>False
theorem tyV_is {pins:List (Addr × Obj)} {σ:St} {H:Hp} {s:Shared} {T:String} {x:V} {v:Value} (I:Inv X pins σ H s) (r:RelV x v) (ty:tyV X.K T x H) :
  s.TypeIs v T∧∀ a,v = .ref a→∃ ob,s.heap.get? a=some ob∧ob.dict=none:=by
 cases x with
 | str z =>
  obtain ⟨t,rfl⟩:=r
  cases (show T = "str" from ty)
  exact ⟨typeIs_str s z t,fun _ e=>nomatch e⟩
 | int i =>
  obtain ⟨t,rfl⟩:=r
  cases (show T = "int" from ty)
  exact ⟨typeIs_int s i t,fun _ e=>nomatch e⟩
 | ref p =>
  cases r
  rcases ty with ⟨rfl,xs,hq⟩ | ⟨rfl,o,hk,hc,hd⟩ | ⟨rfl,hk⟩ | ⟨rfl,S,n,hk⟩
  ·obtain ⟨its,_,pl,_⟩:=I.list hq
   refine ⟨pl.isList.typeIs,fun a e=>?_⟩
   cases e
   obtain ⟨o,n,e,c,hd,_⟩:=pl
   exact ⟨o,e,hd⟩
  ·refine ⟨⟨o,I.kIn p o hk,hc⟩,fun a e=>?_⟩
   cases e
   exact ⟨o,I.kIn _ o hk,hd⟩
  ·have z:∃ o,s.heap.get? p=some o∧o.ExactDict:=by
    rcases hk with ⟨kvs,hk⟩ | ⟨kvs,hk⟩
    ·obtain ⟨_,_,_,_,o,_,_,e,ex,_⟩:=I.hok p _ hk
     exact ⟨o,e,ex⟩
    ·obtain ⟨_,_,_,_,o,_,_,e,ex,_⟩:=I.hok p _ hk
     exact ⟨o,e,ex⟩
   obtain ⟨o,e,ex⟩:=z
   refine ⟨⟨o,e,ex.1⟩,fun a e2=>?_⟩
   cases e2
   exact ⟨o,e,ex.2.1⟩
  ·obtain ⟨o,_,_,_,e,ex,_⟩:=I.hok p _ hk
   refine ⟨⟨o,e,ex.1⟩,fun a e2=>?_⟩
   cases e2
   exact ⟨o,e,ex.2.1⟩
 | _=>exact False.elim ty
noncomputable def tBM0 (K:PySem.W.Frag) (T:String) (r:V→List V→Hp→VK→Prop) (to:TE):TE:=fun σ H Q=>to σ H fun x H1=>tyV K T x H1∧r x [] H1 Q
variable {o e:Expr} {es:List Expr} {to:TE} {t:TA} {name:Str} {apos cpos:Pos} {T id:String} {r:V→List V→Hp→VK→Prop}
theorem pe_bm0 (pa:PlainAttrs T) (slot:Slot T name id) (hty:typeOf (.builtin id)=pure (.type "method_descriptor")) (hm:MtR X id r) (ho:PE X o to)
  (hbase:attributeBase o name X.env (eval o X.env)=eval o X.env:=by rfl) (hline:(apos.endLine == cpos.line)=true:=by rfl):PE X (.Call (.Attribute o name apos) [] [] cpos) (tBM0 X.K T r to):=by
 intro pins s σ H Q I h
 refine wpAny_Call_method0_late hbase hline (thn (ho pins s σ H _ I h) fun v s1 ⟨x,H1,I1,r1,ty,q1⟩=>?_)
 obtain ⟨h1,h2⟩:=tyV_is I1 r1 ty
 exact ⟨T,id,pa,slot,hty,h1,h2,Calls.callWith_builtin rfl (PySem.evalArgs_none (hm pins s1 σ H1 x [] v [] Q I1 r1 .nil q1))⟩
end
end L2
namespace L2
open PySem PySem.Spec PyProof.Rows
noncomputable def MtM (X:Cx) (id:String) (r:V→List V→Hp→VK→Prop):Prop :=
 ∀ (pins:List (Addr × Obj)) (s:Shared) (σ:St) (H:Hp) (x:V) (xs:List V) (v:Value) (us:List Value) (Q:VK),Inv X pins σ H s→RelV x v→Vals xs us→r x xs H Q →
  wpAny (model X.prog X.w) X.A (call (.builtin id) (v :: us)) (EP X pins σ Q) X.xe s
theorem Vals.one {x:V} {us:List Value} (h:Vals [x] us):∃ u,us=[u]∧RelV x u:=by
 cases h with
 | cons r t=>cases t;exact ⟨_,rfl,r⟩
theorem Vals.two {x y:V} {us:List Value} (h:Vals [x,y] us):∃ u v,us=[u,v]∧RelV x u∧RelV y v:=by
 cases h with
 | cons r t =>
  cases t with
  | cons q z=>cases z;exact ⟨_,_,rfl,r,q⟩
theorem Vals.zero:∀ {us:List Value},Vals [] us→us=[]
 | _,.nil=>rfl
theorem Vals.reverse {xs:List V} {us:List Value} (h:Vals xs us):Vals xs.reverse us.reverse:=by
 induction h with
 | nil=>exact .nil
 | cons r t ih=>rw [List.reverse_cons,List.reverse_cons];exact Vals.append ih (.cons r .nil)
theorem Vals.rep {xs:List V} {us:List Value} (h:Vals xs us):∀ k:Nat,Vals (List.replicate k xs).flatten (List.replicate k us).flatten
 | 0=>.nil
 | k + 1=>by
  rw [List.replicate_succ,List.replicate_succ,List.flatten_cons,List.flatten_cons]
  exact Vals.append h (Vals.rep h k)
theorem foldl_rep (its:List Value):∀ (k:Nat) (acc:List Value),
  List.foldl (fun x1 x2=>x1 ++ x2) acc.toArray (List.replicate k its.toArray)=(acc ++ (List.replicate k its).flatten).toArray
 | 0,acc=>by simp
 | k + 1,acc=>by
  have e:acc.toArray ++ its.toArray=(acc ++ its).toArray:=by simp
  have e2:(acc ++ its) ++ (List.replicate k its).flatten=acc ++ (List.replicate (k + 1) its).flatten:=by
   rw [List.replicate_succ,List.flatten_cons,List.append_assoc]
  rw [← e2,← foldl_rep its k (acc ++ its),← e,List.replicate_succ,List.foldl_cons]
section
variable {X:Cx} {pins:List (Addr × Obj)} {σ:St} {H:Hp} {s:Shared} {l b:Addr} {xs ys zs:List V}
theorem Inv.lset {its its':List Value} {n:Nat} {f:Array Value→Array Value} {t':Nat} (I:Inv X pins σ H s) (hH:H l=some (.lst xs))
  (e:s.heap.get? l=some { cls:=.type "list",data:=.seq its.toArray n }) (hf:f its.toArray=its'.toArray) (hv:Vals ys its') (hz:ys.length ≤ sizeLine) :
  Inv X pins σ (upd H l (.lst ys)) { s with heap:=s.heap.update l (Obj.mapSeq f),toks:=t' }:=by
 have q:=PySem.IsL.update e f
 rw [hf] at q
 refine I.write (x:=l) (e:=l) (by rw [hH];exact trivial) (.inl rfl) (fun b' u hb hu=>(Heap.get?_update_other s.heap (Obj.mapSeq f) (Ne.symm hb)).trans hu) ⟨_,q⟩ ?_
 exact ⟨hz,its',_,hv,q⟩
theorem Inv.lnew {its:List Value} {t':Nat} (I:Inv X pins σ H s) (hv:Vals ys its) (hz:ys.length ≤ sizeLine) :
  Inv X pins σ (upd H s.heap.objs.size (.lst ys)) { s with heap:=s.heap.push { cls:=.type "list",data:=.seq its.toArray },toks:=t' } :=
 I.laid (fun _ _ q=>Heap.get?_push_of_some _ q) (Nat.le_refl _) ⟨hz,its,0,hv,Heap.get?_push_size _ rfl⟩
theorem Inv.fresh (I:Inv X pins σ H s):H s.heap.objs.size=none:=I.hok.fresh (Nat.le_refl _)
theorem Inv.lstM (I:Inv X pins σ H s) (hH:H l=some (.lst xs)):xs.length ≤ sizeLine∧∃ (its:List Value) (n:Nat),Vals xs its∧xs.length=its.length∧s.heap.get? l=some { cls:=.type "list",data:=.seq its.toArray n }:=by
 obtain ⟨z,its,n,r,e⟩:=I.hok l _ hH
 exact ⟨z,its,n,r,r.length,e⟩
end
section
variable {X:Cx}
noncomputable def rAppend:V→List V→Hp→VK→Prop:=fun x vs H Q=>∃ l xs y,x = .ref l∧vs=[y]∧H l=some (.lst xs)∧xs.length < sizeLine∧Q .non (upd H l (.lst (xs ++ [y])))
theorem mt_append:MtM X "list.append" rAppend:=by
 intro pins s σ H x vs v us Q I rx rv h
 obtain ⟨l,xs,y,rfl,rfl,hH,hz,q⟩:=h
 cases rx
 obtain ⟨u,rfl,ru⟩:=rv.one
 obtain ⟨z,its,n,r,hl,e⟩:=I.lstM hH
 refine call_meets F.slot_list_append ⟨_,e,rfl⟩ F.entry_list_append (F.args_list_append_2 _ _) (PySem.list_append l its.toArray n u (by rw [List.size_toArray];omega)) ⟨e,?_⟩
 refine ⟨.non,_,I.lset (its':=its ++ [u]) hH e (by simp) (r.append (.cons ru .nil)) ?_,rfl,q⟩
 rw [List.length_append,List.length_singleton]
 omega
noncomputable def rCat:R2:=fun x y H Q=>∃ l b xs zs,x = .ref l∧y = .ref b∧H l=some (.lst xs)∧H b=some (.lst zs)∧xs.length + zs.length ≤ sizeLine∧∀ p,H p=none→Q (.ref p) (upd H p (.lst (xs ++ zs)))
theorem op_cat:OpR X (binaryOp .Add) rCat:=by
 intro pins s σ H x y v u Q I rx ry h
 obtain ⟨l,b,xs,zs,rfl,rfl,hH,hB,hz,q⟩:=h
 cases rx
 cases ry
 obtain ⟨z,its,n,r,hl,e⟩:=I.lstM hH
 obtain ⟨z2,its2,n2,r2,hl2,e2⟩:=I.lstM hB
 refine PySem.P.add_list e e2 ?_ (by rw [List.size_toArray,List.size_toArray];omega)
 have ea:its.toArray ++ its2.toArray=(its ++ its2).toArray:=by simp
 rw [ea]
 exact ⟨.ref _,_,I.lnew (t':=s.toks) (r.append r2) (by rw [List.length_append];omega),rfl,q _ I.fresh⟩
theorem len_rep {α:Type} (xs:List α) (k:Nat):(List.replicate k xs).flatten.length=k * xs.length:=by
 induction k with
 | zero=>simp
 | succ k ih=>rw [List.replicate_succ,List.flatten_cons,List.length_append,ih,Nat.succ_mul,Nat.add_comm]
end
section
variable {prog:Program} {w:World} {A:Around} {E:Value→Shared→Prop} {s:Shared}
end
section
variable {X:Cx}
end
end L2
namespace Att
open PySem PySem.W PySem.Calls PyProof.Rows
theorem ints_of_wellAll {P:Params} {h:Heap}:∀ (ns:List Int) (vs:List Value),WellAll P h vs (ns.map WData.int)→IntsAre vs ns:=by
 intro ns
 induction ns with
 | nil =>
  intro vs w
  rw [List.map_nil] at w
  cases w
  exact .nil
 | cons n ns ih =>
  intro vs w
  rw [List.map_cons] at w
  cases w with
  | cons a b =>
   cases a
   exact .cons _ _ (ih _ b)
theorem script_of {l:OpenLaw} {n:Nat} (hn:l.most=some n) {P:Params} {h:Heap} {args:List WData} {vals:List Value}
  (hpre:l.row.toRowW.claim.pre args=true) (hwl:WellAll P h vals args) :
  ∃ a vs ns,vals=[Value.ref a]∧args=[WData.list (ns.map WData.int)]∧h.get? a=some { cls:=.type "list",data:=.seq vs.toArray }∧IntsAre vs ns∧ns.length ≤ n:=by
 have hsh:WShape.hasAll [] args [.list .int] = true:=(pre_splitW hpre).1
 have hc:l.pre.holds [] { args:=args } = true:=(pre_splitW hpre).2
 obtain ⟨d,r,rfl,h1,h2⟩:=hasAllW_cons hsh
 obtain rfl:=hasAllW_nil h2
 obtain ⟨xs,rfl,h3⟩:=hasW_list h1
 obtain ⟨ns,rfl⟩:=items_int h3
 have hlen:ns.length ≤ n:=by
  unfold OpenLaw.pre at hc
  have h4:(WTm.not (.lt (.lit (.int (n:Int))) (.len (.arg 0)))).holds [] { args:=[.list (ns.map .int)] } = true:=by
   have h4:=(holds_andW hc).1
   rw [hn] at h4
   exact h4
  have h5:=condW_of h4 (w_not (w_lt w_lit (w_len_list (w_arg rfl))))
  rw [List.length_map] at h5
  refine Nat.le_of_not_lt fun q=>?_
  have q':(n:Int) < ((ns.length:Nat):Int):=by omega
  first
   | (rw [decide_eq_true q'] at h5;exact absurd h5 (by decide))
   | (simp at h5;omega)
 cases hwl with
 | cons w1 w2 =>
  cases w2
  cases w1 with
  | list ho hall=>exact ⟨_,_,ns,rfl,rfl,ho,ints_of_wellAll ns _ hall,hlen⟩
theorem post_true (l:OpenLaw) (args:List WData):l.row.toRowW.claim.post args (.bool true) args=true :=
 postW_of (r:=l.row.toRowW) (X:=(true == true))
  (show WShape.has [] (.bool true) .bool=true by first | rfl | decide | simp [WShape.has,WShape.arms,WShape.armsAll])
  (show (WTm.eq .res (.lit (.bool true))).value [] { args:=args,res:=some (.bool true),after:=args } = some (.bool (true == true)) from w_eq_bool (w_res rfl) w_lit) rfl
theorem attach_call {l:OpenLaw} {n:Nat} {q:Program} {loose:List Str} {XP:(Str→Option Value)→Heap→Prop} {YP:World→Heap→Prop} {d:DefRec}
  (hn:l.most=some n) (hdf:d.params.defaults=[])
  (call:∀ (w:World) (s₀ s₁:Shared) (mg mb:Str→Option Value) (fa:Addr) (o:Obj) (pm cd doc:Value) (a:Addr) (vs:List Value) (ns:List Int),
   Ground q loose [] XP w s₀ mg mb s₁.heap→YP w s₁.heap →
   s₁.heap.get? fa=some o→o.data = .func (docDef d.name d.params d.body d.scope pm cd doc)→s₁.heap.CodeRec cd d.name→mg d.name=some (.ref fa) →
   s₁.heap.get? a=some { cls:=.type "list",data:=.seq vs.toArray }→IntsAre vs ns→ns.length ≤ n→s₁.gens = #[] →
   codeAny (model l.prog w) callerA (.call (.ref fa) ⟨[.ref a],[]⟩) (fun r s'=>r = .ok (.ret (.bool true))∧OldK s₁.heap s'.heap∧s'.os=s₁.os∧AllBare s'.gens) s₁) :
  WalkO q loose XP YP l.row.toRowW d [] (fun f vs=>PySem.call f vs):=by
 intro w s₀ s₁ mg mb G Y fa o pm cd doc dV kV ho hd hcd hD hmg hg args vals as hpre hlay hrd hwl hlo
 obtain rfl:dV = .none:=Dflts.none hD hdf
 obtain rfl:kV = .none:=Dflts.noKw hD
 obtain ⟨a,vs,ns,rfl,rfl,hobj,hints,hlen⟩:=script_of hn hpre hwl
 refine enter_call (codeAny_mono (call w s₀ s₁ mg mb fa o pm cd doc a vs ns G Y ho (fd_plain hd) hcd hmg hobj hints hlen hg) fun r s' hq=>?_)
 obtain ⟨rfl,h2,h3,h4⟩:=hq
 exact ⟨.inl ⟨.bool true,.bool true,[],rfl,fun _=>rfl,.bool true,post_true l _,fun _=>⟨List.Pairwise.nil,fun _ hm=>(nomatch hm)⟩⟩,h2,h3,h4⟩
section
variable {prog:Program} {w:World} {A:Around} {E:Value→Shared→Prop} {s:Shared} {K:Frag}
end
end Att
namespace L2
open PySem PySem.Spec PyProof.Rows
theorem vals_ints:∀ {vs:List Value} {ns:List Int},IntsAre vs ns→Vals (ns.map V.int) vs
 | _,_,.nil=>.nil
 | _,_,.cons n t h=>.cons ⟨t,rfl⟩ (vals_ints h)
noncomputable def Only (H:Hp):Prop:=∀ b,H b=none∨∃ o xs,H b=some (.frz o (.lst xs))
theorem law_call {P:Program} {w:World} {K:PySem.W.Frag} {mg mb:Str→Option Value} {CX:CXT} {k:Nat} {fa a:Addr} {fd:FuncData} {x:Str} {sp:Sp} {s₁:Shared} {vs:List Value} {ns:List Int}
  (KX:K.In s₁.heap) (hns:s₁.heap.Ns mainGlobals mg) (hb:s₁.heap.Ns builtinsNs mb) (hbb:∀ x:Str,x ≠ "__name__" → mb x=bootBuiltins x) (hlim:s₁.heap.NoLimit) (hg:s₁.gens = #[])
  (ha:s₁.heap.get? a=some { cls:=.type "list",data:=.seq vs.toArray }) (hi:IntsAre vs ns) (hl:ns.length ≤ sizeLine) (hr:Room k callerA)
  (F:∀ base:Heap,K.In base→base.Ns mainGlobals mg→FnOk P w K mg base CX k fa fd [x] sp) (hbind:∀ (s:Shared) (u:Value),BindsTo s fd ⟨[u],[]⟩ [(x,u)])
  (hsp:∀ H:Hp,Only H→SqL K H a (ns.map V.int)→sp [.ref a] H (fun v _=>v = .bl true) fun _ _ _=>False)
  (hCX:∀ H e s',CX [] H s₁ (fun _ _ _=>False) e s'→False) :
  codeAny (model P w) callerA (.call (.ref fa) ⟨[.ref a],[]⟩) (fun r s'=>r = .ok (.ret (.bool true))∧OldK s₁.heap s'.heap∧s'.os=s₁.os∧AllBare s'.gens) s₁:=by
 have rv:=vals_ints hi
 have lenV:=hi.length
 have core:∀ H:Hp,Only H→SqL K H a (ns.map V.int)→HOk P w H s₁.heap→(∀ b,H b ≠ none→b=a)→(H a ≠ none→K.lookup a=none) →
   codeAny (model P w) callerA (.call (.ref fa) ⟨[.ref a],[]⟩) (fun r s'=>r = .ok (.ret (.bool true))∧OldK s₁.heap s'.heap∧s'.os=s₁.os∧AllBare s'.gens) s₁:=by
  intro H hO hS hok hA hK
  have base_of:∀ {b:Addr} {o:Obj},s₁.heap.get? b=some o→H b=none→(hidT s₁.heap H).get? b=some o:=fun e n=>hidT_get e n
  have noA:∀ {b:Addr} {o:Obj} {es:Array DictEntry} {ep:Nat},s₁.heap.get? b=some o→o.data = .dict es ep→H b=none:=fun {b o es ep} e d=>by
   cases q:H b with
   | none=>rfl
   | some u =>
    have e':b=a:=hA b (by rw [q];simp)
    subst e'
    rw [ha] at e;cases e
    have d':Data.seq vs.toArray _=Data.dict es ep:=d
    cases d'
  have nsK:∀ {b:Addr} {m:Str→Option Value},s₁.heap.Ns b m→(hidT s₁.heap H).Ns b m:=fun {b m} ⟨o,es,ep,e,d,r⟩=>⟨o,es,ep,base_of e (noA e d),d,r⟩
  have hKb:K.In (hidT s₁.heap H):=fun b o e=>base_of (KX b o e) (by
   cases q:H b with
   | none=>rfl
   | some u =>
    have e':b=a:=hA b (by rw [q];simp)
    subst e'
    rw [hK (by rw [q];simp)] at e;cases e)
  have hM:Mod K mg (hidT s₁.heap H):=⟨hKb,nsK hns,⟨mb,nsK hb,hbb⟩,let ⟨mc,h1,h2⟩:=hlim;⟨mc,nsK h1,h2⟩⟩
  have e0:Env0 P w K mg (hidT s₁.heap H) callerA [] s₁ H:=⟨rfl,hM,fun b o e=>of_hidT e,Nat.le_of_eq (hidT_size _ _),trivial,fun b hb=>absurd (show b ∈ ([] : List Addr) from hb) (by simp),hok,.of_eq hg⟩
  refine codeAny_mono ((F _ hKb (nsK hns)).run callerA [] s₁ H ⟨[.ref a],[]⟩ [.ref a] [.ref a] _ _ hr e0 (hbind s₁ (.ref a)) (.cons rfl .nil) (hsp H hO hS)) fun r s' h=>?_
  cases r with
  | error e=>exact (hCX H e s' h).elim
  | ok fl =>
   cases fl with
   | next=>exact False.elim h
   | brk=>exact False.elim h
   | cont=>exact False.elim h
   | ret u =>
    obtain ⟨v,H',os,bare,un,hok',r',q⟩:=h
    have q':v = .bl true:=q
    subst q'
    obtain rfl:u=Value.bool true:=r'
    refine ⟨rfl,OldK.of_keep fun b o e=>?_,os,bare⟩
    cases q:H b with
    | none=>exact un.keep b o e q (by intro z;exact absurd (show b ∈ ([] : List Addr) from z) (by simp)) (by simp)
    | some u =>
     rcases hO b with z | ⟨ob,xs,z⟩
     ·rw [q] at z;cases z
     ·have z2:=un.frzs b ob _ z
      obtain ⟨e1,_⟩:=hok b _ z
      obtain ⟨e2,_⟩:=hok' b _ z2
      rw [e] at e1;cases e1
      exact e2
 cases hk:K.lookup a with
 | some o =>
  have e:=KX a o hk
  rw [ha] at e
  cases e
  refine core (fun _=>none) (fun _=>.inl rfl) (.inr ⟨_,vs.toArray,_,hk,rfl,rfl,rfl,by rw [List.size_toArray,lenV];exact hl,by simpa using rv⟩) (fun b u z=>by have z':(none:Option HO)=some u:=z;cases z') (fun b z=>absurd rfl z) fun z=>absurd rfl z
 | none =>
  refine core (fun b=>if b=a then some (.frz { cls:=.type "list",data:=.seq vs.toArray } (.lst (ns.map V.int))) else none) (fun b=>?_) (.inl (.inr ⟨{ cls:=.type "list",data:=.seq vs.toArray },if_pos rfl⟩)) (fun b u z=>?_) (fun b z=>?_) fun _=>hk
  ·by_cases hb:b=a
   ·exact .inr ⟨_,_,if_pos hb⟩
   ·exact .inl (if_neg hb)
  ·by_cases hb:b=a
   ·have z':=(if_pos hb).symm.trans z
    cases z'
    subst hb
    exact ⟨ha,by rw [List.length_map];exact hl,vs,_,rv,ha⟩
   ·have z':=(if_neg hb).symm.trans z
    cases z'
  ·by_cases hb:b=a
   ·exact hb
   ·exact absurd (if_neg hb) z
end L2
namespace L2
open PySem PySem.Spec PyProof.Rows
theorem walk_of {l:PySem.W.OpenLaw} {n k:Nat} {q:Program} {loose:List Str} {XP:(Str→Option Value)→Heap→Prop} {YP:World→Heap→Prop} {d:DefRec} {K:Params→PySem.W.Frag} {CX:World→CXT} {sp:World→Sp} {x:Str}
  (hn:l.most=some n) (hn2:n ≤ sizeLine) (hdf:d.params.defaults=[]) (hr:Room k callerA)
  (hY:∀ (w:World) (h:Heap),YP w h→(K w.params).In h)
  (F:∀ (w:World) (mg:Str→Option Value) (fa:Addr) (h:Heap),(K w.params).In h→h.Ns mainGlobals mg→mg d.name=some (.ref fa) →
   ∃ fd:FuncData,(∀ (s:Shared) (u:Value),BindsTo s fd ⟨[u],[]⟩ [(x,u)]) ∧
    ∀ base:Heap,(K w.params).In base→base.Ns mainGlobals mg→FnOk l.prog w (K w.params) mg base (CX w) k fa fd [x] (sp w))
  (hsp:∀ (w:World) (H:Hp) (a:Addr) (ns:List Int),ns.length ≤ n→Only H→SqL (K w.params) H a (ns.map V.int)→sp w [.ref a] H (fun v _=>v = .bl true) fun _ _ _=>False)
  (hCX:∀ (w:World) (H:Hp) (s:Shared) (e:Value) (s':Shared),CX w [] H s (fun _ _ _=>False) e s'→False) :
  PySem.W.WalkO q loose XP YP l.row.toRowW d [] (fun f vs=>PySem.call f vs):=by
 refine Att.attach_call hn hdf fun w s₀ s₁ mg mb fa o pm cd doc a vs ns G Y ho hd hcd hmg hobj hints hlen hg=>?_
 have KX:=hY w _ Y
 obtain ⟨fd,hb,hF⟩:=F w mg fa _ KX G.T.g hmg
 exact law_call KX G.T.g G.T.b G.T.builtins G.T.nolimit hg hobj hints (Nat.le_trans hlen hn2) hr hF hb (fun H hO hS=>hsp w H a ns hlen hO hS) fun H e s'=>hCX w H s₁ e s'
end L2
namespace L2
open PySem PySem.Spec PyProof.Rows
noncomputable def defArgs (s:Stmt):Arguments:=match s with
 | .FunctionDef _ a _ _ _ _ _ _ _ _=>a
 | _=>{ posonlyargs:=[],args:=[],vararg:=none,kwonlyargs:=[],kw_defaults:=[],kwarg:=none,defaults:=[] }
noncomputable def defBody (s:Stmt):List Stmt:=match s with
 | .FunctionDef _ _ b _ _ _ _ _ _ _=>b
 | _=>[]
noncomputable def defScope (s:Stmt):Scope:=match s with
 | .FunctionDef _ _ _ _ _ _ sc _ _ _=>sc
 | _=>{ kind:=.function,names:=[],isGenerator:=false,isCoroutine:=false }
noncomputable abbrev CX0:CXT:=fun _ _ _ _ _ _=>False
noncomputable abbrev E0:XK:=fun _ _ _=>False
theorem pass0 {X:Cx}:Passes CX0 X E0:=fun _ _ _ _ _ _ _ h=>h.elim
structure Fun (K:PySem.W.Frag) (x qual:Str) (st:Stmt) (f:Addr) (fd:FuncData):Prop where
 ex:∃ (oc:Value) (od:Option Addr) (kV doc pm:Value) (an:Option Addr) (cdv ct:Value) (osl:Array (Option Value)),
  fd=PySem.W.fnOf x qual (defArgs st) (defBody st) (defScope st) .none kV doc pm an cdv ct∧K.lookup f=some ⟨oc,od,.func fd,osl⟩∧PySem.W.codeIn K cdv qual=true
 kp:PySem.W.keepIn K (.ref f)=true
section
variable {P:Program} {w:World} {K:PySem.W.Frag} {mg:Str→Option Value} {base:Heap}
theorem Fun.ok {x qual:Str} {st:Stmt} {f:Addr} {fd:FuncData} {N ps:List Str} {k:Nat} {sp:Sp} (F:Fun K x qual st f fd) (S:FnScope N ps (defScope st)) (len:∀ vs H Q E,sp vs H Q E→vs.length=ps.length)
  (hbody:∀ (cdv:Value) (A:Around) (outer:List Env) (s:Shared) (H:Hp) (vs:List V) (Q:VK) (E:XK),Room k (A.deeper (envOfC qual (defScope st) s.heap.objs.size f cdv))→sp vs H Q E →
   ∃ t,PSs (cxOf CX0 P w K mg base N qual (defScope st) f cdv A outer s H E).nox (defBody st) t∧t { nx:=fun _ H'=>Q .non H',rt:=Q } (start N vs) H):FnOk P w K mg base CX0 (k + 1) f fd ps sp:=by
 obtain ⟨oc,od,kV,doc,pm,an,cdv,ct,osl,rfl,lk,hcd⟩:=F.ex
 refine fn_of lk hcd S len fun A outer s H vs Q E hr hsp=>?_
 obtain ⟨t,h,q⟩:=hbody cdv A outer s H vs Q E hr hsp
 exact ⟨t,h.nox,q⟩
theorem Fun.binds {x qual:Str} {st:Stmt} {f:Addr} {fd:FuncData} {ps:List Str} (F:Fun K x qual st f fd)
  (h:∀ (kV doc pm:Value) (an:Option Addr) (cdv ct:Value) (us:List Value),us.length=ps.length→bindArgs (PySem.W.fnOf x qual (defArgs st) (defBody st) (defScope st) .none kV doc pm an cdv ct) ⟨us,[]⟩=pure (ps.zip us)):Binds K fd ps []:=by
 obtain ⟨oc,od,kV,doc,pm,an,cdv,ct,osl,rfl,lk,hcd⟩:=F.ex
 exact .all (h kV doc pm an cdv ct)
theorem fun_mk {x qual:Str} {st:Stmt} {f:Addr} {oc:Value} {od an:Option Addr} {osl:Array (Option Value)} {kV doc pm cdv ct:Value} (l:K.lookup f=some ⟨oc,od,.func (PySem.W.fnOf x qual (defArgs st) (defBody st) (defScope st) .none kV doc pm an cdv ct),osl⟩)
  (c:PySem.W.codeIn K cdv qual=true) (k:PySem.W.keepIn K (.ref f)=true):Fun K x qual st f (PySem.W.fnOf x qual (defArgs st) (defBody st) (defScope st) .none kV doc pm an cdv ct):=⟨⟨oc,od,kV,doc,pm,an,cdv,ct,osl,rfl,l,c⟩,k⟩
end
theorem small1000 {n:Nat} (h:n ≤ 1000):n < sizeLine:=Nat.lt_of_le_of_lt h (by decide)
section
variable {X:Cx}
theorem pv (i:Nat) {x:Str} {pos:Pos} (hN:X.N[i]? = some x:=by rfl) (hv:Vis X.env.scope x:=by first | exact Or.inl rfl | exact Or.inr (Or.inl rfl) | exact Or.inr (Or.inr rfl)) (hd:(x == ("__debug__" : Str))=false:=by decide)
  (hcd:(x == ("__classdict__" : Str))=false:=by decide):PE X (.Name x pos) (tVar i):=pe_var hN hv hd hcd
end
noncomputable def Same (H H':Hp):Prop:=∀ b o,H b=some o→H' b=some o
theorem Same.refl (H:Hp):Same H H:=fun _ _ h=>h
theorem Same.trans {H H1 H2:Hp} (a:Same H H1) (b:Same H1 H2):Same H H2:=fun c o h=>b c o (a c o h)
theorem Same.free {H H':Hp} (e:Same H H') {l:Addr} (h:H' l=Option.none):H l=Option.none:=by
 cases q:H l with
 | none=>rfl
 | some o =>
  rw [e l o q] at h
  cases h
theorem Same.seq {K:PySem.W.Frag} {H H':Hp} {a:Addr} {xs:List V} (e:Same H H') (h:SqL K H a xs):SqL K H' a xs:=by
 rcases h with (h | ⟨o,h⟩) | h
 ·exact .inl (.inl (e _ _ h))
 ·exact .inl (.inr ⟨o,e _ _ h⟩)
 ·exact .inr h
end L2
end
section
set_option Elab.async false
set_option linter.all false
set_option maxRecDepth 100000
namespace L2
open PySem PySem.Spec PyProof.Rows
noncomputable def clos:List (Str × NameKind)→List (Str × Addr)→List (Str × Addr)→Option (List (Str × Addr))
 | [],_,acc=>some acc
 | (n,k) :: r,cs,acc=>if k == .free then (match cs.lookup n with | some c=>clos r cs ((n,c) :: acc) | none=>none) else clos r cs acc
theorem clos_run {env:Env}:∀ (names:List (Str × NameKind)) (acc cl:List (Str × Addr)),clos names env.cells acc=some cl →
  (forIn names acc fun (x:Str × NameKind) (cs:List (Str × Addr))=>(if (x.2 == NameKind.free)=true then (do let c ← cellOf env x.1;pure (ForInStep.yield ((x.1,c) :: cs))) else pure (ForInStep.yield cs):Sem (ForInStep (List (Str × Addr)))))=(pure cl:Sem _)
 | [],acc,cl,h=>by
  have e:acc=cl:=Option.some.inj h
  subst e;rfl
 | (n,k) :: r,acc,cl,h=>by
  unfold clos at h
  rw [List.forIn_cons]
  cases hk:k == NameKind.free with
  | false =>
   rw [hk] at h
   have ih:=clos_run (env:=env) r acc cl (by simpa using h)
   simp only [hk,Bool.false_eq_true,if_false,pure_bind]
   exact ih
  | true =>
   rw [hk] at h
   simp only [if_true] at h
   cases hc:env.cells.lookup n with
   | none=>rw [hc] at h;cases h
   | some c =>
    rw [hc] at h
    have ih:=clos_run (env:=env) r ((n,c) :: acc) cl h
    have e:cellOf env n=pure c:=by unfold cellOf;rw [hc]
    simp only [hk,if_true,e,pure_bind]
    exact ih
theorem closureFor_clos {scope:Scope} {env:Env} {cl:List (Str × Addr)} (h:clos scope.names env.cells [] = some cl):closureFor scope env=pure cl:=by
 have q:=clos_run scope.names [] cl h
 unfold closureFor
 show (do let r ← _;pure r)=_
 refine Eq.trans ?_ (congrArg (fun z=>z >>= fun r=>pure r) q) |>.trans ?_
 ·rfl
 ·rfl
theorem clos_sub {cs:List (Str × Addr)}:∀ (names:List (Str × NameKind)) (acc cl:List (Str × Addr)),clos names cs acc=some cl→(∀ n c,(n,c) ∈ acc→cs.lookup n=some c)→∀ n c,(n,c) ∈ cl→cs.lookup n=some c
 | [],acc,cl,h,ha,n,c,hm=>by
  have e:acc=cl:=Option.some.inj h
  subst e;exact ha n c hm
 | (n0,k) :: r,acc,cl,h,ha,n,c,hm=>by
  unfold clos at h
  split at h
  ·split at h
   ·rename_i c0 hc
    refine clos_sub r _ cl h (fun n' c' h'=>?_) n c hm
    rcases List.mem_cons.mp h' with e | h'
    ·cases e;exact hc
    ·exact ha n' c' h'
   ·cases h
  ·exact clos_sub r acc cl h ha n c hm
theorem clos_mono {cs:List (Str × Addr)}:∀ (names:List (Str × NameKind)) (acc cl:List (Str × Addr)),clos names cs acc=some cl→∀ p ∈ acc,p ∈ cl
 | [],acc,cl,h,p,hp=>by
  have e:acc=cl:=Option.some.inj h
  subst e;exact hp
 | (n0,k) :: r,acc,cl,h,p,hp=>by
  unfold clos at h
  split at h
  ·split at h
   ·exact clos_mono r _ cl h p (List.mem_cons_of_mem _ hp)
   ·cases h
  ·exact clos_mono r acc cl h p hp
theorem clos_has {cs:List (Str × Addr)}:∀ (names:List (Str × NameKind)) (acc cl:List (Str × Addr)),clos names cs acc=some cl→∀ n,(n,NameKind.free) ∈ names→∃ c,(n,c) ∈ cl
 | (n0,k) :: r,acc,cl,h,n,hn=>by
  unfold clos at h
  rcases List.mem_cons.mp hn with e | hn
  ·cases e
   simp only [beq_self_eq_true,if_true] at h
   split at h
   ·rename_i c0 hc
    exact ⟨c0,clos_mono r _ cl h _ List.mem_cons_self⟩
   ·cases h
  ·split at h
   ·split at h
    ·exact clos_has r _ cl h n hn
    ·cases h
   ·exact clos_has r acc cl h n hn
theorem lookup_of_mem {β:Type}:∀ {l:List (Str × β)} {n:Str} {c:β},(n,c) ∈ l→∃ c',l.lookup n=some c'
 | (m,d) :: r,n,c,h=>by
  rw [List.lookup_cons]
  cases e:n == m with
  | true=>exact ⟨d,rfl⟩
  | false =>
   rcases List.mem_cons.mp h with q | q
   ·cases q;simp at e
   ·exact lookup_of_mem q
theorem clos_lookup {cs cl:List (Str × Addr)} {names:List (Str × NameKind)} (h:clos names cs [] = some cl) {x:Str} {c:Addr} (q:cl.lookup x=some c):cs.lookup x=some c :=
 clos_sub names [] cl h (fun _ _ z=>absurd z (by simp)) x c (PySem.mem_of_lookup q)
theorem relabel_free {env : Env} : ∀ {names : List (Str × NameKind)} {x : Str}, (∀ y ∈ names, y.2 ≠ NameKind.cell) →
    ((names.map fun (n, k) => if (k == NameKind.free && env.scope.kind == .function && env.kindOf n == some .cell) then (n, NameKind.cell) else (n, k)).lookup x = some .cell ∨
     (names.map fun (n, k) => if (k == NameKind.free && env.scope.kind == .function && env.kindOf n == some .cell) then (n, NameKind.cell) else (n, k)).lookup x = some .free) → (x, NameKind.free) ∈ names
  | [], x, _, h => by simp at h
  | (n, k) :: r, x, hc, h => by
    have ih := @relabel_free env r x (fun y hy => hc y (List.mem_cons_of_mem _ hy))
    rw [List.map_cons] at h
    cases hx : x == n with
    | true =>
      have e : x = n := by simpa using hx
      subst e
      by_cases hk : k = NameKind.free
      · subst hk; exact List.mem_cons_self
      · have hb : (k == NameKind.free) = false := by simpa using hk
        simp only [hb, Bool.false_and, Bool.false_eq_true, if_false, List.lookup_cons, beq_self_eq_true] at h
        rcases h with h | h
        · exact absurd (Option.some.inj h) (hc (x, k) List.mem_cons_self)
        · exact absurd (Option.some.inj h) hk
    | false =>
      refine List.mem_cons_of_mem _ (ih ?_)
      by_cases hcnd : (k == NameKind.free && env.scope.kind == .function && env.kindOf n == some .cell) = true
      · simp only [hcnd, if_true, List.lookup_cons, hx] at h; exact h
      · simp only [hcnd, if_false, List.lookup_cons, hx, Bool.false_eq_true] at h; exact h
theorem relabel_free' {sc:Scope} {env:Env} {x:Str} (hc:∀ y ∈ sc.names,y.2 ≠ NameKind.cell) (h:(relabel sc env).names.lookup x=some .cell∨(relabel sc env).names.lookup x=some .free):(x,NameKind.free) ∈ sc.names:=relabel_free hc h
noncomputable def cxc (X:Cx) (N:List Str) (sc:Scope) (cl:List (Str × Addr)) (s:Shared) (H:Hp) (ex:List Addr):Cx where
 prog:=X.prog
 w:=X.w
 K:=X.K
 mg:=X.mg
 base:=X.base
 A:=X.A
 N:=N
 s₀:=s
 H₀:=H
 env:=compEnvC sc cl s.heap.objs.size X.env
 outer:=X.stack
 stack:=X.stack
 ex:=ex
 fn:=fun _=>false
 calm:=X.calm
 pn:=[]
 xe:=fun _ _=>False
noncomputable def frS (fr:List (Option Nat)) (σ:St):St:=fr.map fun o=>o.bind fun j=>(σ[j]?).bind id
noncomputable def PIfs (X:Cx) (ifs:List Expr) (t:TT):Prop :=
 ∀ (pins:List (Addr × Obj)) (s:Shared) (σ:St) (H:Hp) (Q:Bool→Hp→Prop),Inv X pins σ H s→t σ H Q →
  wpAny (model X.prog X.w) X.A (forIn ifs true fun c r=>if r=true then do let ok ← isTrue c X.env (eval c X.env);pure (ForInStep.yield ok) else pure (ForInStep.yield r)) (TP X pins σ Q) X.xe s
noncomputable def tTrue:TT:=fun _ H Q=>Q true H
theorem pif_nil {X:Cx}:PIfs X [] tTrue:=fun _ _ _ _ _ I h=>wpAny_tests_nil ⟨_,I,h⟩
theorem pif_one {X:Cx} {c:Expr} {t:TT} (h:PT X c t):PIfs X [c] t:=fun pins s σ H Q I q=>wpAny_tests_one (h pins s σ H Q I q)
noncomputable abbrev TB:=St→Hp→(St→Hp→Prop)→Prop
noncomputable def PB (X:Cx) (body:Sem Unit) (t:TB):Prop :=
 ∀ (pins:List (Addr × Obj)) (s:Shared) (σ:St) (H:Hp) (N:St→Hp→Prop),Inv X pins σ H s→t σ H N →
  wpAny (model X.prog X.w) X.A body (fun _ s'=>∃ σ' H',Inv X pins σ' H' s'∧N σ' H') X.xe s
noncomputable def tEmit (p:Addr) (te:TE):TB:=fun σ H N=>te σ H fun y H1=>∃ ys,H1 p=some (.lst ys)∧ys.length < sizeLine∧N σ (upd H1 p (.lst (ys ++ [y])))
theorem pb_emit {X:Cx} {elt:Expr} {te:TE} {p:Addr} (h:PE X elt te):PB X (do let _ ← call (.builtin "list.append") [.ref p,← eval elt X.env]) (tEmit p te):=by
 intro pins s σ H N I q
 refine wpAny_bind (thn (h pins s σ H _ I q) fun u s1 ⟨y,H1,I1,r,ys,hp,hz,n⟩=>?_)
 refine wpAny_bind (thn (mt_append (X:=X) pins s1 σ H1 (.ref p) [y] (.ref p) [u] (fun _ H2=>N σ H2) I1 rfl (.cons r .nil) ⟨p,ys,y,rfl,rfl,hp,hz,n⟩) fun _ s2 ⟨_,H2,I2,_,n2⟩=>wpAny_pure ⟨σ,H2,I2,n2⟩)
noncomputable def tCL (J:It) (g:TG) (tc:TT) (tb:TB):(St→Hp→Prop)→St→Hp→Prop:=fun D σ H=>∃ W:Nat→Nat→St→Hp→Prop,(∃ m,W 0 m σ H)∧∀ i m σ H,W i m σ H →
 (J.stop i H∧D σ H)∨(J.go i H∧∃ N:St→Hp→Prop,(∀ σ' H',N σ' H'→∃ m',m' < m∧W (i + 1) m' σ' H')∧∀ x H',J.yld i H x H'→g x σ H' fun σ2 H2=>tc σ2 H2 fun b H3=>if b=true then tb σ2 H3 N else N σ2 H3)
theorem comp_loop {X:Cx} {e tg:Expr} {d:Nat} {ip:Pos} {ifs:List Expr} {body:Sem Unit} {acc:Value} {it:Addr} {fp:List Addr} {tn:Nat→Heap→Prop} {J:It} {g:TG} {tc:TT} {tb:TB} {D:St→Hp→Prop} {pins:List (Addr × Obj)} {σ:St} {H:Hp} {s:Shared}
  (hc:X.calm=true) (hx:X.xe=fun _ _=>False)
  (heq:compTurn e d (.ref it) acc X.env=(do
   standAt ip
   match ← pyNext (.ref it) with
   | none=>pure (.done .next)
   | some v =>
    letOwnedTupleGo tg (.ref it) v
    assign tg X.env v
    let mut ok:=true
    for c in ifs do
     if ok then ok ← isTrue c X.env (eval c X.env)
    if ok then body
    again (.compLoop e d (.ref it) acc X.env)))
  (hfrm:(Code.compLoop e d (.ref it) acc X.env).isFrame=false) (hund:X.A.under (Code.compLoop e d (.ref it) acc X.env)=X.A) (hq:(Code.compLoop e d (.ref it) acc X.env).quiet=true)
  (T:Turn X.prog X.w X.K tg J fp it tn) (hg:PG X tg g) (hi:PIfs X ifs tc) (hb:PB X body tb)
  (I:Inv X pins σ H s) (st:tn 0 s.heap) (f:∀ b ∈ fp,FpOk X pins H b) (h:tCL J g tc tb D σ H) :
  codeAny (model X.prog X.w) X.A (.compLoop e d (.ref it) acc X.env) (fun r s'=>r = .ok .next∧∃ σ' H',Inv X pins σ' H' s'∧D σ' H') s:=by
 obtain ⟨W,⟨m0,w0⟩,turn⟩:=h
 have stat:∀ {H':Hp},(∀ b ∈ fp,H' b=none)→∀ b ∈ fp,FpOk X pins H' b:=fun hn b hb=>⟨hn b hb,(f b hb).2⟩
 refine codeAny_loop hq (fun n s'=>∃ i σ' H',Inv X pins σ' H' s'∧tn i s'.heap∧(∀ b ∈ fp,H' b=none)∧W i n σ' H') ?_ m0 ⟨0,σ,H,I,st,fun b hb=>(f b hb).1,w0⟩
 rintro n s3 ⟨i,σ3,H3,I3,st3,fr3,w3⟩
 rw [hund]
 show wpAny _ X.A (if (Code.compLoop e d (.ref it) acc X.env).isFrame then _ else (compTurn e d (.ref it) acc X.env).onRaise (fun x=>do noteFrame x X.env;theTreesLotGoes x)) _ _ s3
 rw [hfrm]
 show wpAny _ X.A ((compTurn e d (.ref it) acc X.env).onRaise (fun x=>do noteFrame x X.env;theTreesLotGoes x)) _ _ s3
 refine wpAny_noted ?_
 rw [heq]
 have no:∀ {α:Type} {t:Sem α} {Q:α→Shared→Prop} {E:Value→Shared→Prop} {s:Shared},wpAny (model X.prog X.w) X.A t Q X.xe s→wpAny (model X.prog X.w) X.A t Q E s:=fun h=>wpAny_mono h (fun _ _ q=>q) fun _ _ z=>by rw [hx] at z;exact z.elim
 refine wpAny_bind (wpAny_standAt (wpAny_bind ?_))
 rcases turn i n σ3 H3 w3 with ⟨stop,qn⟩ | ⟨go,N,hN,step⟩
 ·refine thn (T.done X rfl rfl rfl hc i pins s3 σ3 H3 _ I3 (stat fr3) st3 stop) fun r s4 ⟨hr,I4⟩=>?_
  subst hr
  exact wpAny_pure ⟨rfl,σ3,H3,I4,qn⟩
 ·refine thn (T.item X rfl rfl rfl hc i pins s3 σ3 H3 _ I3 (stat fr3) st3 go) fun r s4 ⟨u,hr,h4⟩=>?_
  subst hr
  refine wpAny_bind (thn h4 fun _ s5 ⟨x,H5,I5,r5,y5,st5,fr5⟩=>?_)
  have I5':=I5.pinned (stat fr5) (T.obj _ _ st5)
  have again:∀ {s7:Shared} {σ7:St} {H7:Hp},Inv X (pins ++ pinsAt fp s5.heap) σ7 H7 s7→N σ7 H7→∃ m,m < n∧∃ i σ' H',Inv X pins σ' H' s7∧tn i s7.heap∧(∀ b ∈ fp,H' b=none)∧W i m σ' H':=fun {s7 σ7 H7} I7 n7=>by
   obtain ⟨m',hm,w7⟩:=hN σ7 H7 n7
   refine ⟨m',hm,i + 1,σ7,H7,I7.unpinned,T.keep _ _ _ st5 fun b hb o e=>(I7.pin (b,o) (List.mem_append_right _ (List.mem_append_right _ (mem_pinsAt hb e)))).1,fun b hb=>?_,w7⟩
   obtain ⟨o,e,d⟩:=T.obj _ _ st5 b hb
   exact (I7.pin (b,o) (List.mem_append_right _ (List.mem_append_right _ (mem_pinsAt hb e)))).2.1
  refine wpAny_bind (no (thn (hg _ s5 σ3 H5 x u _ I5' r5 (step x H5 y5)) fun _ s6 ⟨σ6,H6,I6,q6⟩=>?_))
  refine wpAny_bind (no (thn (hi _ s6 σ6 H6 _ I6 q6) fun ok s7 ⟨H7,I7,q7⟩=>?_))
  cases ok with
  | false=>exact wpAny_pure ⟨rfl,again I7 q7⟩
  | true =>
   refine wpAny_bind (no (thn (hb _ s7 σ6 H7 _ I7 q7) fun _ s8 ⟨σ8,H8,I8,n8⟩=>?_))
   exact wpAny_pure ⟨rfl,again I8 n8⟩
end L2
end
section
set_option Elab.async false
set_option linter.all false
set_option maxRecDepth 100000
namespace L2
open PySem PySem.Spec PyProof.Rows
theorem lookup_relabel_free {env : Env} : ∀ {names : List (Str × NameKind)} {x : Str}, names.lookup x = some .free →
    ((names.map fun (n, k) => if (k == NameKind.free && env.scope.kind == .function && env.kindOf n == some .cell) then (n, NameKind.cell) else (n, k)).lookup x = some .cell ∨
     (names.map fun (n, k) => if (k == NameKind.free && env.scope.kind == .function && env.kindOf n == some .cell) then (n, NameKind.cell) else (n, k)).lookup x = some .free)
  | [], _, h => by simp at h
  | (n, k) :: r, x, h => by
    have ih := @lookup_relabel_free env r x
    rw [List.map_cons]
    cases hx : x == n with
    | true =>
      simp only [List.lookup_cons, hx] at h
      cases h
      by_cases hc : (NameKind.free == NameKind.free && env.scope.kind == .function && env.kindOf n == some .cell) = true
      · left; simp only [hc, if_true, List.lookup_cons, hx]
      · right; simp only [hc, if_false, List.lookup_cons, hx, Bool.false_eq_true]
    | false =>
      simp only [List.lookup_cons, hx] at h
      by_cases hc : (k == NameKind.free && env.scope.kind == .function && env.kindOf n == some .cell) = true
      · simp only [hc, if_true, List.lookup_cons, hx]; exact ih h
      · simp only [hc, if_false, List.lookup_cons, hx, Bool.false_eq_true]; exact ih h
structure CScope (X:Cx) (N:List Str) (fr:List (Option Nat)) (sc:Scope):Prop where
 kind:sc.kind = .function
 nocell:∀ y ∈ sc.names,y.2 ≠ NameKind.cell
 loc:∀ y ∈ sc.names,y.2 = .local→sc.names.lookup y.1=some .local
 len:fr.length=N.length
 fr:∀ (i j:Nat),fr[i]? = some (some j)→∃ x,N[i]? = some x∧X.N[j]? = some x∧sc.names.lookup x=some .free∧(X.env.kindOf x=some .cell∨X.env.kindOf x=some .free)
noncomputable def okFr (XN:List Str) (XS names:List (Str × NameKind)):List Str→List (Option Nat)→Bool
 | [],[]=>true
 | x :: N,o :: fr=>(match o with
  | none=>true
  | some j=>XN[j]? == some x && names.lookup x == some .free && (XS.lookup x == some .cell || XS.lookup x == some .free)) && okFr XN XS names N fr
 | _,_=>false
theorem okFr_len {XN:List Str} {XS names:List (Str × NameKind)}:∀ {N:List Str} {fr:List (Option Nat)},okFr XN XS names N fr=true→fr.length=N.length
 | [],[],_=>rfl
 | x :: N,o :: fr,h=>by
  unfold okFr at h
  rw [Bool.and_eq_true] at h
  rw [List.length_cons,List.length_cons,okFr_len h.2]
 | [],_ :: _,h=>by cases h
 | _ :: _,[],h=>by cases h
theorem okFr_get {XN:List Str} {XS names:List (Str × NameKind)}:∀ {N:List Str} {fr:List (Option Nat)} {i j:Nat},okFr XN XS names N fr=true→fr[i]? = some (some j)→∃ x,N[i]? = some x∧XN[j]? = some x∧names.lookup x=some .free∧(XS.lookup x=some .cell∨XS.lookup x=some .free)
 | [],[],_,_,_,e=>by simp at e
 | x :: N,o :: fr,0,j,h,e=>by
  unfold okFr at h
  rw [Bool.and_eq_true] at h
  simp at e
  subst e
  have h1:=h.1
  simp only [Bool.and_eq_true,Bool.or_eq_true,beq_iff_eq] at h1
  exact ⟨x,rfl,h1.1.1,h1.1.2,h1.2⟩
 | x :: N,o :: fr,i + 1,j,h,e=>by
  unfold okFr at h
  rw [Bool.and_eq_true] at h
  obtain ⟨y,q⟩:=okFr_get (i:=i) (j:=j) h.2 (by simpa using e)
  exact ⟨y,by simpa using q.1,q.2⟩
 | [],_ :: _,_,_,h,_=>by cases h
 | _ :: _,[],_,_,h,_=>by cases h
noncomputable def okLoc (names:List (Str × NameKind)):Bool:=names.all fun y=>!(y.2 == .cell) && (!(y.2 == .local) || names.lookup y.1 == some .local)
theorem CScope.of {X:Cx} {N:List Str} {fr:List (Option Nat)} {sc:Scope} (h1:sc.kind = .function) (h2:okLoc sc.names=true) (h3:okFr X.N X.env.scope.names sc.names N fr=true):CScope X N fr sc:=by
 have h2':=List.all_eq_true.mp h2
 refine ⟨h1,fun y hy e=>?_,fun y hy e=>?_,okFr_len h3,fun i j e=>okFr_get h3 e⟩
 ·have q:=h2' y hy
  rw [e] at q
  simp at q
 ·have q:=h2' y hy
  rw [e] at q
  simpa using q
theorem frS_get {fr:List (Option Nat)} {σ:St} {i:Nat} {v:V} (h:(frS fr σ)[i]? = some (some v)):∃ j,fr[i]? = some (some j)∧σ[j]? = some (some v):=by
 unfold frS at h
 rw [List.getElem?_map] at h
 cases e:fr[i]? with
 | none=>rw [e] at h;cases h
 | some o =>
  rw [e] at h
  cases o with
  | none=>cases h
  | some j =>
   refine ⟨j,rfl,?_⟩
   have h':(σ[j]?).bind id=some v:=Option.some.inj h
   cases q:σ[j]? with
   | none=>rw [q] at h';cases h'
   | some o=>rw [q] at h';exact congrArg some h'
section
variable {X:Cx} {pins:List (Addr × Obj)} {σ:St} {H H':Hp} {s:Shared}
theorem Inv.block {N:List Str} {fr:List (Option Nat)} {sc:Scope} {cl:List (Str × Addr)} {ex:List Addr} {h1:Heap} {tk:Nat} (I:Inv X pins σ H s) (S:CScope X N fr sc) (hcl:clos sc.names X.env.cells [] = some cl)
  (hex:∀ b ∈ ex,FpOk X pins H b∧b < s.heap.objs.size) (hns:h1.Ns s.heap.objs.size (fun _=>none)) (hk:∀ b u,s.heap.get? b=some u→h1.get? b=some u) :
  Inv (cxc X N sc cl s H ex) [] (frS fr σ) H { s with heap:=h1,toks:=tk }:=by
 have hfree:H s.heap.objs.size=none:=I.hok.fresh (Nat.le_refl _)
 have cne:∀ x c,cl.lookup x=some c→c ≠ s.heap.objs.size:=fun x c e z=>by
  obtain ⟨v,q⟩:=I.cell x c (clos_lookup hcl e)
  exact absurd q.lt (by rw [z];exact Nat.lt_irrefl _)
 refine ⟨⟨I.ok.mod,S.kind,I.ok.glob,I.ok.blt,Nat.le_refl _,fun x y c h1 h2=>I.ok.inj x y c (clos_lookup hcl h1) (clos_lookup hcl h2),fun x hx=>?_,fun x c z=>absurd (show false=true from z) (by decide),I.ok.hd,I.ok.frames,Or.inl rfl,fun b hb=>?_,I.bs,Nat.le_trans I.ok.bsz I.sz,fun b o e hb=>?_,fun b hb hf=>?_,I.stack,I.stkFree⟩,
  rfl,I.bare,Un.kept hk,⟨_,hns,fun i x v h1 h2 h3=>?_⟩,fun x c e=>?_,hfree,fun x c e=>I.freeC x c (clos_lookup hcl e),fun p hp=>absurd (show p ∈ ([] : List (Addr × Obj)) from hp) (by simp),I.hok.kept hk,?_⟩
 ·have hx':(relabel sc X.env).names.lookup x=some .cell∨(relabel sc X.env).names.lookup x=some .free:=hx
  obtain ⟨c,hc⟩:=clos_has sc.names [] cl hcl x (relabel_free' S.nocell hx')
  exact lookup_of_mem hc
 ·obtain ⟨⟨f0,f1,f2,f3,f4,f5⟩,lt⟩:=hex b hb
  exact ⟨Nat.ne_of_lt lt,fun x c e=>f4 x c (clos_lookup hcl e)⟩
 ·obtain ⟨⟨f0,f1,f2,f3,f4,f5⟩,lt⟩:=hex b hb
  rcases f3 with f3 | f3
  ·exact I.ok.noex b o e f3
  ·exact absurd (Nat.lt_of_lt_of_le (Heap.lt_size e) I.ok.bsz) (Nat.not_lt.mpr f3)
 ·obtain ⟨⟨f0,f1,f2,f3,f4,f5⟩,lt⟩:=hex b hb
  rcases List.mem_cons.mp (I.stkSub b hf) with e | e
  ·exact f1 e
  ·exact f2 e
 ·obtain ⟨j,hj,hv⟩:=frS_get h2
  obtain ⟨x',e1,e2,e3,e4⟩:=S.fr i j hj
  have hN:N[i]? = some x:=h1
  rw [hN] at e1
  cases e1
  obtain ⟨c,hc⟩:=clos_has sc.names [] cl hcl x (PySem.mem_of_lookup e3)
  obtain ⟨c',hc'⟩:=lookup_of_mem hc
  have hcX:=clos_lookup hcl hc'
  obtain ⟨m,hn,hl⟩:=I.loc
  have kc:(relabel sc X.env).names.lookup x=some .cell∨(relabel sc X.env).names.lookup x=some .free:=lookup_relabel_free e3
  have vis:Vis X.env.scope x∧(X.env.kindOf x ≠ some .local):=by
   rcases e4 with q | q
   ·exact ⟨.inr (.inl q),by rw [q];decide⟩
   ·exact ⟨.inr (.inr q),by rw [q];decide⟩
  obtain ⟨u,r,l⟩:=hl j x v e2 hv vis.1
  refine ⟨u,r,.inr ⟨kc,c',hc',?_⟩⟩
  rcases l with ⟨q,_⟩ | ⟨_,d,hd,hcell⟩
  ·exact absurd q vis.2
  ·rw [hcX] at hd
   cases hd
   exact hcell.keeps hk
 ·obtain ⟨v,q⟩:=I.cell x c (clos_lookup hcl e)
  exact ⟨v,q.keeps hk⟩
 ·show (frS fr σ).length=N.length
  unfold frS
  rw [List.length_map];exact S.len
end
end L2
end
section
set_option Elab.async false
set_option linter.all false
set_option maxRecDepth 100000
namespace L2
open PySem PySem.Spec PyProof.Rows
section
variable {X:Cx} {pins:List (Addr × Obj)} {σ:St} {H H':Hp} {s:Shared}
theorem Inv.unblock {N:List Str} {sc:Scope} {cl:List (Str × Addr)} {ex:List Addr} {pins':List (Addr × Obj)} {σ':St} {s':Shared} {h':Heap} (I:Inv X pins σ H s) (J:Inv (cxc X N sc cl s H ex) pins' σ' H' s')
  (hex:∀ b ∈ ex,FpOk X pins H b) (sb:Heap.SameBut s.heap.objs.size s'.heap h'):Inv X pins σ H' { s' with heap:=h' }:=by
 have free:H' s.heap.objs.size=none:=J.free
 have eq:∀ b,b ≠ s.heap.objs.size→h'.get? b=s'.heap.get? b:=sb.2
 have ne:∀ b o,s.heap.get? b=some o→b ≠ s.heap.objs.size:=fun b o e=>Nat.ne_of_lt (Heap.lt_size e)
 have B:Un (frs X.stack) ex H H' s.heap s'.heap:=J.base
 refine I.call' (s':={ s' with heap:=h' }) (ch:=ex) J.os ⟨fun b o q n hb hx=>(eq b (ne b o q)).trans (B.keep b o q n hb hx),fun b o q n hb hx=>?_,B.free,fun b o q hx=>?_,B.tups,B.frzs,B.tbls⟩ (fun a o e=>?_) J.bare (fun b hb=>?_)
 ·obtain ⟨sl,e⟩:=B.slot b o q n hb hx
  exact ⟨sl,(eq b (ne b o q)).trans e⟩
 ·obtain ⟨o',e⟩:=B.there b o q hx
  exact ⟨o',(eq b (ne b o q)).trans e⟩
 ·refine (J.hok a o e).stay (fun b u hb q=>?_) (fun _ q=>q) fun _ _ q=>q
  refine (eq b ?_).trans q
  rcases hb with rfl | hb
  ·exact ne_of_none e free
  ·exact ne_of_none hb free
 ·obtain ⟨f0,f1,f2,f3,f4,f5⟩:=hex b hb
  exact ⟨f3,f1,f4,f5⟩
end
section
variable {X:Cx}
noncomputable def tLC (fr:List (Option Nat)) (wi:TI) (g:TG) (tc:TT) (te:TE):TE:=fun σ H Q=>wi σ H fun J H1=>∀ p,H1 p=none→tCL J g tc (tEmit p te) (fun _ H2=>Q (.ref p) H2) (frS fr σ) (upd H1 p (.lst []))
theorem lc_entry {N:List Str} {fr:List (Option Nat)} {e tg iter:Expr} {ifs:List Expr} {gs:List Comprehension} {sc:Scope} {ip:Pos} {cl:List (Str × Addr)} {wi:TI} {D:It→Addr→St→Hp→Prop} {pins:List (Addr × Obj)} {σ:St} {H:Hp} {s:Shared} {Q:VK}
  (he:clausesOf e=⟨tg,iter,ifs,0⟩ :: gs) (hi:PI X tg iter wi) (S:CScope X N fr sc) (hcl:clos sc.names X.env.cells [] = some cl) (I:Inv X pins σ H s)
  (h:wi σ H fun J H1=>∀ p,H1 p=none→D J p (frS fr σ) (upd H1 p (.lst [])))
  (loop:∀ (it p:Addr) (fp:List Addr) (tn:Nat→Heap→Prop) (J:It) (s1 s2:Shared) (H1:Hp) (σ1:St),Turn X.prog X.w X.K tg J fp it tn→Inv (cxc X N sc cl s1 H1 fp) [] σ1 H1 s2→tn 0 s2.heap→(∀ b ∈ fp,FpOk (cxc X N sc cl s1 H1 fp) [] H1 b)→D J p σ1 H1 →
   codeAny (model X.prog X.w) X.A (.compStart e 0 (.ref it) (.ref p) (compEnvC sc cl s1.heap.objs.size X.env)) (fun r s'=>r = .ok .next∧∃ σ' H',Inv (cxc X N sc cl s1 H1 fp) [] σ' H' s'∧Q (.ref p) H') s2)
  (hs:∀ x,foldedSetIterable iter X.env x=pure x) :
  wpAny (model X.prog X.w) X.A (comprehension e sc X.env ip (newList []) false (eval iter X.env)) (EP X pins σ Q) X.xe s:=by
 refine wpAny_comprehension_free (use:=none) he hs (closureFor_clos hcl) S.kind S.loc ?_
 refine thn (hi pins s σ H _ I h) fun v s1 h1=>thn h1 fun itv s2 ⟨it,fp,tn,J,H2,e2,I2,T,st2,f2,q⟩=>?_
 subst e2
 refine wpAny_newObj_type ?_
 have hp:H2 s2.heap.objs.size=none:=I2.hok.fresh (Nat.le_refl _)
 have I3:Inv X pins σ (upd H2 s2.heap.objs.size (.lst [])) { s2 with heap:=s2.heap.push { cls:=.type "list",data:=.seq ([] : List Value).toArray },toks:=s2.toks }:=I2.lnew (its:=[]) (ys:=[]) .nil (Nat.zero_le _)
 have lt2:∀ b ∈ fp,b < s2.heap.objs.size:=fun b hb=>let ⟨o,e,_⟩:=T.obj 0 _ st2 b hb;Heap.lt_size e
 have f3:∀ b ∈ fp,FpOk X pins (upd H2 s2.heap.objs.size (.lst [])) b:=fun b hb=>⟨by rw [upd_ne (Nat.ne_of_lt (lt2 b hb))];exact (f2 b hb).1,(f2 b hb).2⟩
 have st3:tn 0 (s2.heap.push { cls:=.type "list",data:=.seq ([] : List Value).toArray }):=T.keep _ _ _ st2 fun b _ o e=>Heap.get?_push_of_some _ e
 refine wpAny_newFunctionEnv S.nocell (by intro y hy;simp at hy) (fun h₁ hns₁ hsb₁=>?_) S.kind
 generalize hs3:({ s2 with heap:=s2.heap.push { cls:=.type "list",data:=.seq ([] : List Value).toArray } }:Shared)=s3 at hns₁ hsb₁ ⊢
 have I3':Inv X pins σ (upd H2 s2.heap.objs.size (.lst [])) s3:=by rw [← hs3];exact I3
 have st3':tn 0 s3.heap:=by rw [← hs3];exact st3
 have lt3:∀ b ∈ fp,b < s3.heap.objs.size:=fun b hb=>let ⟨o,e,_⟩:=T.obj 0 _ st3' b hb;Heap.lt_size e
 have hk:∀ b u,s3.heap.get? b=some u→h₁.get? b=some u:=fun b u e=>hsb₁.extBut b u (Nat.ne_of_lt (Heap.lt_size e)) (Heap.get?_push_of_some _ e)
 have hns:h₁.Ns s3.heap.objs.size (fun _=>none):=by simpa using hns₁
 have B:=I3'.block (N:=N) (fr:=fr) (sc:=sc) (cl:=cl) (ex:=fp) (h1:=h₁) (tk:=s3.toks + ([] : List (Str × Value)).length) S hcl (fun b hb=>⟨f3 b hb,lt3 b hb⟩) hns hk
 have stB:tn 0 h₁:=T.keep _ _ _ st3' fun b _ o e=>hk b o e
 refine codeAny_mono (loop it s2.heap.objs.size fp tn J s3 _ (upd H2 s2.heap.objs.size (.lst [])) (frS fr σ) T B stB (fun b hb=>?_) (q _ hp)) fun r s' hr=>?_
 ·obtain ⟨f0,f1,f2',f3',f4,f5⟩:=f3 b hb
  refine ⟨f0,Nat.ne_of_lt (lt3 b hb),fun z=>?_,.inl hb,fun x c e=>f4 x c (clos_lookup hcl e),fun p hp'=>absurd (show p ∈ ([] : List (Addr × Obj)) from hp') (by simp)⟩
  rcases List.mem_cons.mp (I3'.stkSub b z) with e | e
  ·exact f1 e
  ·exact f2' e
 ·obtain ⟨rfl,σ',H',J',q'⟩:=hr
  obtain ⟨m,hn,_⟩:=J'.loc
  exact ⟨m,hn,fun h' sb=>⟨.ref s2.heap.objs.size,H',I3'.unblock J' f3 sb,rfl,q'⟩⟩
theorem pe_lc {N:List Str} {fr:List (Option Nat)} {tg iter elt:Expr} {ifs:List Expr} {sc:Scope} {pos:Pos} {cl:List (Str × Addr)} {wi:TI} {g:TG} {tc:TT} {te:TE} (hc:X.calm=true) (hi:PI X tg iter wi) (S:CScope X N fr sc) (hcl:clos sc.names X.env.cells [] = some cl)
  (hb:∀ s H ex,PG (cxc X N sc cl s H ex) tg g∧PIfs (cxc X N sc cl s H ex) ifs tc∧PE (cxc X N sc cl s H ex) elt te) (hs:∀ x,foldedSetIterable iter X.env x=pure x:=by intro _;rfl) :
  PE X (.ListComp elt [⟨tg,iter,ifs,0⟩] sc pos) (tLC fr wi g tc te):=by
 intro pins s σ H Q I h
 rw [eval_ListComp]
 refine lc_entry (D:=fun J p σ H=>tCL J g tc (tEmit p te) (fun _ H2=>Q (.ref p) H2) σ H) rfl hi S hcl I h (fun it p fp tn J s1 s2 H1 σ1 T B st f d=>?_) hs
 obtain ⟨hg,hifs,helt⟩:=hb s1 H1 fp
 have L:=comp_loop (X:=cxc X N sc cl s1 H1 fp) (e:=.ListComp elt [⟨tg,iter,ifs,0⟩] sc pos) (d:=0) (acc:=.ref p) (D:=fun _ H2=>Q (.ref p) H2) (s:=s2) hc rfl (compTurn_list elt tg iter ifs sc pos (.ref it) (.ref p) _) rfl rfl rfl T hg hifs (pb_emit helt) B st f d
 exact codeAny_compStart_list L (T.self X.A 0 s2 _ _ st L)
end
end L2
end
section
set_option Elab.async false
set_option linter.all false
set_option maxRecDepth 100000
namespace L2
open PySem PySem.Spec PyProof.Rows
noncomputable def sq (H:Hp) (a:Addr):Option (List V):=match H a with
 | some (.lst xs)=>some xs
 | some (.tup xs)=>some xs
 | some (.frz _ (.lst xs))=>some xs
 | some (.frz _ (.tup xs))=>some xs
 | _=>none
theorem sq_lst {H:Hp} {a:Addr} {xs:List V} (h:H a=some (.lst xs)):sq H a=some xs:=by unfold sq;rw [h]
theorem sq_tup {H:Hp} {a:Addr} {xs:List V} (h:H a=some (.tup xs)):sq H a=some xs:=by unfold sq;rw [h]
theorem sq_updL {H:Hp} {a:Addr} {xs:List V}:sq (upd H a (.lst xs)) a=some xs:=sq_lst upd_same
theorem sq_updT {H:Hp} {a:Addr} {xs:List V}:sq (upd H a (.tup xs)) a=some xs:=sq_tup upd_same
theorem sq_rd {H:Hp} {a:Addr} {xs:List V} (h:sq H a=some xs):Rd H a (.lst xs)∨Rd H a (.tup xs):=by
 unfold sq at h
 cases e:H a with
 | none=>rw [e] at h;cases h
 | some o =>
  rw [e] at h
  cases o with
  | lst ys=>cases h;exact .inl (.inl e)
  | tup ys=>cases h;exact .inr (.inl e)
  | frz ob u =>
   cases u with
   | lst ys=>cases h;exact .inl (.inr ⟨ob,e⟩)
   | tup ys=>cases h;exact .inr (.inr ⟨ob,e⟩)
   | _=>cases h
  | _=>cases h
theorem sq_seq {K:PySem.W.Frag} {H:Hp} {a:Addr} {xs:List V} (h:sq H a=some xs):SqL K H a xs∨SqT K H a xs:=by
 rcases sq_rd h with h | h
 ·exact .inl (.inl h)
 ·exact .inr (.inl h)
section
variable {X:Cx}
noncomputable def rIx0:R2:=fun x y H Q=>∃ p xs i v,x = .ref p∧y = .int i∧sq H p=some xs∧atI xs i=some v∧Q v H
theorem ix0:IxR X rIx0:=by
 intro value slice pins s σ H x y v u Q I rx ry h hs
 obtain ⟨p,xs,i,z,e1,e2,hq,ha,q⟩:=h
 rcases sq_seq (K:=X.K) hq with k | k
 ·exact ix_list value slice pins s σ H x y v u Q I rx ry ⟨p,xs,i,z,e1,e2,k,ha,q⟩ hs
 ·exact ix_tup value slice pins s σ H x y v u Q I rx ry ⟨p,xs,i,z,e1,e2,k,ha,q⟩ hs
theorem len0:CallR X (.builtin "len") (fun xs H Q=>∃ p ys,xs=[.ref p]∧sq H p=some ys∧Q (.int ys.length) H):=by
 intro pins s σ H xs us Q I r h
 obtain ⟨p,ys,e,hq,q⟩:=h
 exact call_len_seq pins s σ H xs us Q I r ⟨p,ys,e,sq_seq hq,q⟩
theorem tupL0:CallR X (.type "tuple") (fun xs H Q=>∃ p ys,xs=[.ref p]∧H p=some (.lst ys)∧∀ l,H l=none→Q (.ref l) (upd H l (.tup ys))):=by
 intro pins s σ H xs us Q I r h
 obtain ⟨p,ys,e,hq,q⟩:=h
 exact call_tuple_of pins s σ H xs us Q I r ⟨p,ys,e,.inl ⟨SqL.of hq,q⟩⟩
theorem list0:CallR X (.type "list") (fun xs H Q=>∃ p ys,xs=[.ref p]∧sq H p=some ys∧∀ l,H l=none→Q (.ref l) (upd H l (.lst ys))):=by
 intro pins s σ H xs us Q I r h
 obtain ⟨p,ys,e,hq,q⟩:=h
 exact call_list_of pins s σ H xs us Q I r ⟨p,ys,e,sq_seq hq,q⟩
noncomputable def rIn0 (neg:Bool):R2:=fun x y H Q=>∃ p xs,y = .ref p∧sq H p=some xs∧flatV x=true∧xs.all flatV=true∧Q (.bl (if neg then !inV x xs else inV x xs)) H
theorem in0:OpR X (compareOp .In) (rIn0 false):=by
 intro pins s σ H x y v u Q I rx ry h
 obtain ⟨p,xs,e,hq,f1,f2,q⟩:=h
 exact op_in_seq pins s σ H x y v u Q I rx ry ⟨p,xs,e,sq_seq hq,f1,f2,q⟩
theorem notin0:OpR X (compareOp .NotIn) (rIn0 true):=by
 intro pins s σ H x y v u Q I rx ry h
 obtain ⟨p,xs,e,hq,f1,f2,q⟩:=h
 exact op_notIn_seq pins s σ H x y v u Q I rx ry ⟨p,xs,e,sq_seq hq,f1,f2,q⟩
noncomputable def gTup0 (n:Nat) (t:TGs):TG:=fun v σ H Q=>∃ a xs,v = .ref a∧H a=some (.tup xs)∧xs.length=n∧t xs σ H Q
theorem pg_tup0 {es:List Expr} {k:Nat} {t:TGs} {n:Nat} {pos:Pos} (hc:X.calm=true) (h:PGs X es t)
  (hn:(assignEach es X.env).length=n:=by rfl) (hst:(assignEach es X.env).findIdx? (·.1)=none:=by rfl):PG X (.Tuple es k pos) (gTup0 n t):=by
 intro pins s σ H v u Q I r hw
 obtain ⟨a,xs,e1,hq,hl,hw⟩:=hw
 exact pg_tup hc h hn hst pins s σ H v u Q I r ⟨a,xs,e1,SqT.of hq,hl,hw⟩
theorem PG.mono {tg:Expr} {g g':TG} (h:PG X tg g) (m:∀ v σ H Q,g' v σ H Q→g v σ H Q):PG X tg g':=fun pins s σ H v u Q I r q=>h pins s σ H v u Q I r (m _ _ _ _ q)
noncomputable def ItS (f:Hp→Prop) (xs:List V):It:=⟨fun i H=>f H∧i < xs.length,fun i H x H'=>H'=H∧xs[i]? = some x,fun i H=>f H∧xs.length ≤ i⟩
theorem Turn.weak {P:Program} {w:World} {K:PySem.W.Frag} {tg:Expr} {J J':It} {fp:List Addr} {it:Addr} {tn:Nat→Heap→Prop} (T:Turn P w K tg J fp it tn) (hg:∀ i H,J'.go i H→J.go i H) (hs:∀ i H,J'.stop i H→J.stop i H)
  (hy:∀ i H x H',J'.go i H→J.yld i H x H'→J'.yld i H x H'):Turn P w K tg J' fp it tn where
 mem:=T.mem
 obj:=T.obj
 keep:=T.keep
 item:=fun X h1 h2 h3 hc i pins s σ H E I f st go=>thn (T.item X h1 h2 h3 hc i pins s σ H E I f st (hg i H go)) fun r s1 ⟨u,e,q⟩=>⟨u,e,thn q fun _ s2 ⟨x,H',I2,r2,y,t,n⟩=>⟨x,H',I2,r2,hy i H x H' go y,t,n⟩⟩
 done:=fun X h1 h2 h3 hc i pins s σ H E I f st go=>T.done X h1 h2 h3 hc i pins s σ H E I f st (hs i H go)
 self:=T.self
theorem PI.weak {tg iter:Expr} {wi wi':TI} (h:PI X tg iter wi) (m:∀ σ H R,wi' σ H R→wi σ H fun J H1=>∃ J',R J' H1∧(∀ i H,J'.go i H→J.go i H)∧(∀ i H,J'.stop i H→J.stop i H)∧(∀ i H x H',J'.go i H→J.yld i H x H'→J'.yld i H x H')):PI X tg iter wi':=by
 intro pins s σ H R I q
 refine thn (h pins s σ H _ I (m σ H R q)) fun v s1 h1=>thn h1 fun itv s2 ⟨it,fp,tn,J,H',e,I2,T,st,f,J',r,a,b,c⟩=>?_
 exact ⟨it,fp,tn,J',H',e,I2,T.weak a b c,st,f,r⟩
noncomputable def iT0 (tl:TE):TI:=fun σ H R=>tl σ H fun x H1=>∃ a xs,x = .ref a∧H1 a=some (.tup xs)∧R (ItS (fun H=>H a=some (.tup xs)) xs) H1
noncomputable def iL0 (tl:TE):TI:=fun σ H R=>tl σ H fun x H1=>∃ a xs,x = .ref a∧H1 a=some (.lst xs)∧R (ItS (fun H=>H a=some (.lst xs)) xs) H1
noncomputable def Mono (t:TE):Prop:=∀ σ H Q Q',(∀ v H',Q v H'→Q' v H')→t σ H Q→t σ H Q'
theorem getlen {xs:List V} {i:Nat} (h:i < xs.length):∃ x,xs[i]? = some x:=⟨xs[i],by simp [h]⟩
theorem pi_t0 {tg l:Expr} {tl:TE} (hl:PE X l tl):PI X tg l (iT0 tl):=by
 intro pins s σ H R I h
 refine thn (hl pins s σ H _ I h) fun v s1 ⟨x,H1,I1,r1,q1⟩=>?_
 obtain ⟨a,xs,e,hq,q⟩:=q1
 subst e
 cases r1
 obtain ⟨its,rv,p,hz⟩:=I1.tuple (SqT.of hq)
 refine wpAny_pyIter_tuple (show s1.heap.IsTuple a its.toArray from p) ?_
 refine ⟨s1.heap.objs.size,[s1.heap.objs.size],_,_,H1,rfl,I1.kept (t':=s1.toks) fun b o e=>Heap.get?_push_of_some _ e,(turn_tuple a _).weak (J':=ItS (fun H=>H a=some (.tup xs)) xs) (fun i H ⟨k,hi⟩=>?_) (fun i H ⟨k,hi⟩=>⟨xs,SqT.of k,hi⟩) (fun i H x H' ⟨k,hi⟩ ⟨y1,y2⟩=>⟨y1,y2 xs (SqT.of k)⟩),⟨_,Heap.get?_push_size _ rfl,rfl,rfl⟩,fun b hb=>?_,q⟩
 ·obtain ⟨x,hx⟩:=getlen hi
  exact ⟨xs,x,SqT.of k,hx⟩
 ·have e:b=s1.heap.objs.size:=by simpa using hb
  subst e
  exact I1.fpOk (Nat.le_refl _) (I1.hok.fresh (Nat.le_refl _))
theorem pi_l0 {tg l:Expr} {tl:TE} (hl:PE X l tl):PI X tg l (iL0 tl):=by
 intro pins s σ H R I h
 refine thn (hl pins s σ H _ I h) fun v s1 ⟨x,H1,I1,r1,q1⟩=>?_
 obtain ⟨a,xs,e,hq,q⟩:=q1
 subst e
 cases r1
 obtain ⟨its,rv,p,hz⟩:=I1.list (SqL.of hq)
 refine wpAny_pyIter_list p.isList ?_
 refine ⟨s1.heap.objs.size,[s1.heap.objs.size],_,_,H1,rfl,I1.kept (t':=s1.toks) fun b o e=>Heap.get?_push_of_some _ e,(turn_list a _).weak (J':=ItS (fun H=>H a=some (.lst xs)) xs) (fun i H ⟨k,hi⟩=>?_) (fun i H ⟨k,hi⟩=>⟨xs,SqL.of k,hi⟩) (fun i H x H' ⟨k,hi⟩ ⟨y1,y2⟩=>⟨y1,y2 xs (SqL.of k)⟩),⟨_,Heap.get?_push_size _ rfl,rfl,rfl⟩,fun b hb=>?_,q⟩
 ·obtain ⟨x,hx⟩:=getlen hi
  exact ⟨xs,x,SqL.of k,hx⟩
 ·have e:b=s1.heap.objs.size:=by simpa using hb
  subst e
  exact I1.fpOk (Nat.le_refl _) (I1.hok.fresh (Nat.le_refl _))
noncomputable def Cal (P:Program) (w:World) (K:PySem.W.Frag) (mg:Str→Option Value) (base:Heap) (x:Str) (ps:List Str) (k:Nat) (sp:Sp):Prop :=
 ∃ f fd,FnOk P w K mg base CX0 k f fd ps sp∧mg x=some (.ref f)∧PySem.W.keepIn K (.ref f)=true∧Binds K fd ps []
theorem Cal.imp {P:Program} {w:World} {K:PySem.W.Frag} {mg:Str→Option Value} {base:Heap} {x:Str} {ps:List Str} {k:Nat} {sp sp':Sp} (c:Cal P w K mg base x ps k sp) (h:∀ vs H Q E,sp' vs H Q E→sp vs H Q E):Cal P w K mg base x ps k sp' :=
 let ⟨f,fd,F,r⟩:=c;⟨f,fd,F.imp h,r⟩
theorem Cal.mono {P:Program} {w:World} {K:PySem.W.Frag} {mg:Str→Option Value} {base:Heap} {x:Str} {ps:List Str} {j k:Nat} {sp:Sp} (c:Cal P w K mg base x ps j sp) (h:j ≤ k):Cal P w K mg base x ps k sp :=
 let ⟨f,fd,F,r⟩:=c;⟨f,fd,F.mono h,r⟩
noncomputable def tCal (sp:Sp) (t:TA):TE:=fun σ H Q=>t σ H fun vs H1=>sp vs H1 Q E0
theorem pe_cal {k j:Nat} {x:Str} {ps:List Str} {sp:Sp} {t:TA} {e:Expr} {es:List Expr} {p pos:Pos} (c:Cal X.prog X.w X.K X.mg X.base x ps k sp) (hr:Room j X.A) (ha:PA X (e :: es) t) (hg:Gl X x:=by rfl) (hk:k ≤ j:=by decide)
  (hdb:(x == ("__debug__" : Str))=false:=by decide) (he:starEach (e :: es) X.env=(false,eval e X.env) :: starEach es X.env:=by rfl) (hpl:(backTo pos (starEach es X.env)).any (·.1)=false:=by rfl) :
  PE X (.Call (.Name x p) (e :: es) [] pos) (tCal sp t):=by
 obtain ⟨f,fd,F,hm,kp,hb⟩:=c
 intro pins s σ H Q I h
 refine pe_call (E:=E0) (dvs:=[]) F (hr.mono hk) hg hm kp hb .nil pass0 ha hdb he hpl pins s σ H Q I ?_
 show t σ H fun vs H1=>sp (vs ++ []) H1 Q E0
 have h':t σ H fun vs H1=>sp vs H1 Q E0:=h
 simpa using h'
theorem cal_of {P:Program} {w:World} {K:PySem.W.Frag} {mg:Str→Option Value} {base:Heap} {x:Str} {st:Stmt} {f:Addr} {fd:FuncData} {N ps:List Str} {k:Nat} {sp:Sp} (F:Fun K x x st f fd) (hm:mg x=some (.ref f)) (hb:Binds K fd ps [])
  (S:FnScope N ps (defScope st)) (len:∀ vs H Q E,sp vs H Q E→vs.length=ps.length)
  (hbody:∀ (cdv:Value) (A:Around) (outer:List Env) (s:Shared) (H:Hp) (vs:List V) (Q:VK) (E:XK),Room k (A.deeper (envOfC x (defScope st) s.heap.objs.size f cdv))→sp vs H Q E →
   ∃ t,PSs (cxOf CX0 P w K mg base N x (defScope st) f cdv A outer s H E).nox (defBody st) t∧t { nx:=fun _ H'=>Q .non H',rt:=Q } (start N vs) H):Cal P w K mg base x ps (k + 1) sp :=
 ⟨f,fd,F.ok S len hbody,hm,F.kp,hb⟩
noncomputable def rBits:V→List V→Hp→VK→Prop:=fun x vs H Q=>∃ i,x = .int i∧vs=[]∧Q (.int (Builtin.Int.intBits i:Nat)) H
theorem mt_bits:MtR X "int.bit_length" rBits:=by
 intro pins s σ H x vs v us Q I rx rv h
 obtain ⟨i,rfl,rfl,q⟩:=h
 obtain ⟨t,rfl⟩:=rx
 cases rv
 exact call_int_bit_length ⟨.int (Builtin.Int.intBits i:Nat),H,I.tok _,⟨_,rfl⟩,q⟩
noncomputable def tBits (to:TE):TE:=fun σ H Q=>to σ H fun x H1=>∃ i,x = .int i∧Q (.int (Builtin.Int.intBits i:Nat)) H1
theorem pe_bits {o:Expr} {to:TE} {apos cpos:Pos} (ho:PE X o to) (hbase:attributeBase o "bit_length" X.env (eval o X.env)=eval o X.env:=by rfl) (hline:(apos.endLine == cpos.line)=true:=by rfl) (hm:Mono to):PE X (.Call (.Attribute o "bit_length" apos) [] [] cpos) (tBits to):=by
 intro pins s σ H Q I h
 refine pe_bm0 PySem.F.plainAttrs_int slot_int_bit_length type_int_bit_length mt_bits ho hbase hline pins s σ H Q I (hm σ H _ _ (fun v H' ⟨i,e,q⟩=>?_) h)
 subst e
 exact ⟨rfl,i,rfl,rfl,q⟩
theorem mono_var {i:Nat}:Mono (tVar i):=fun _ _ _ _ m ⟨v,e,q⟩=>⟨v,e,m _ _ q⟩
theorem isnot_bl:OpR X (compareOp .IsNot) (fun x y H Q=>∃ a b,x = .bl a∧y = .bl b∧Q (.bl (a != b)) H):=by
 intro pins s σ H x y v u Q I rx ry h
 obtain ⟨a,b,rfl,rfl,q⟩:=h
 cases rx
 cases ry
 exact isnot_bool ⟨.bl (a != b),H,I,rfl,q⟩
section
variable {pins:List (Addr × Obj)} {σ:St} {H:Hp} {s:Shared}
theorem Inv.walk {p:Addr} {xs:List V} {E:Value→Shared→Prop} {R:Value→Shared→Prop} (I:Inv X pins σ H s) (hc:X.calm=true) (hq:sq H p=some xs)
  (h:∀ (it:Addr) (its:List Value) (s2:Shared) (St:Nat→Heap→Prop) (fp:List Addr),Vals xs its→Walks X.prog X.w X.A.in1 it fp [it] its.length (fun i v=>its[i]? = some v) St→St 0 s2.heap→(∀ b ∈ fp,b < s2.heap.objs.size)→s2.heap.objs.size=it + 1 →
   (∀ h' tk,(∀ b o,b ∉ [it]→s2.heap.get? b=some o→h'.get? b=some o)→Inv X pins σ H { s2 with heap:=h',toks:=tk })→R (.ref it) s2) :
  wpAny (model X.prog X.w) X.A.in1 (pyIter (.ref p)) R E s:=by
 have hd:X.A.in1.handled=none:=I.ok.hd hc
 have key:∀ (ob:Obj),Inv X pins σ H { s with heap:=s.heap.push ob }∧∀ h' tk,(∀ b o,b ∉ [s.heap.objs.size]→(s.heap.push ob).get? b=some o→h'.get? b=some o)→Inv X pins σ H { s with heap:=h',toks:=tk }:=fun ob=>by
  refine ⟨I.kept (t':=s.toks) fun b o e=>Heap.get?_push_of_some _ e,fun h' tk k=>I.kept fun b o e=>k b o (fun z=>?_) (Heap.get?_push_of_some _ e)⟩
  have e':b=s.heap.objs.size:=by simpa using z
  exact Nat.lt_irrefl _ (e' ▸ Heap.lt_size e)
 rcases sq_seq (K:=X.K) hq with k | k
 ·obtain ⟨its,rv,pl,hz⟩:=I.list k
  have ne:p ≠ s.heap.objs.size:=Nat.ne_of_lt (let ⟨_,e,_⟩:=pl.isList;Heap.lt_size e)
  refine wpAny_pyIter_list pl.isList ?_
  refine h s.heap.objs.size its _ (fun i h=>h.IsListIter s.heap.objs.size p i∧h.IsList p its.toArray) [s.heap.objs.size,p] rv (by simpa using Walks.list hd s.heap.objs.size p ne its.toArray) ⟨⟨_,Heap.get?_push_size _ rfl,rfl,rfl⟩,pl.isList.at fun o e=>Heap.get?_push_of_some _ e⟩ (fun b hb=>?_) (Heap.size_push ..) (key _).2
  rw [Heap.size_push]
  rcases List.mem_cons.mp hb with rfl | hb
  ·exact Nat.lt_succ_self _
  ·have e:b=p:=by simpa using hb
   subst e
   exact Nat.lt_succ_of_lt (let ⟨_,e,_⟩:=pl.isList;Heap.lt_size e)
 ·obtain ⟨its,rv,pl,hz⟩:=I.tuple k
  have lt:p < s.heap.objs.size:=pl.lt
  have ne:p ≠ s.heap.objs.size:=Nat.ne_of_lt lt
  refine wpAny_pyIter_tuple (show s.heap.IsTuple p its.toArray from pl) ?_
  refine h s.heap.objs.size its _ (fun i h=>h.IsTupleIter s.heap.objs.size p i∧h.IsTuple p its.toArray) [s.heap.objs.size,p] rv (by simpa using Walks.tuple hd s.heap.objs.size p ne its.toArray) ⟨⟨_,Heap.get?_push_size _ rfl,rfl,rfl⟩,(show s.heap.IsTuple p its.toArray from pl).at fun o e=>Heap.get?_push_of_some _ e⟩ (fun b hb=>?_) (Heap.size_push ..) (key _).2
  rw [Heap.size_push]
  rcases List.mem_cons.mp hb with rfl | hb
  ·exact Nat.lt_succ_self _
  ·have e:b=p:=by simpa using hb
   subst e
   exact Nat.lt_succ_of_lt lt
end
theorem preSum_eq (ns:List Int):∀ n,n ≤ ns.length→preSum (fun i=>ns.getD i 0) n=(ns.take n).sum
 | 0,_=>rfl
 | n + 1,h=>by
  show preSum (fun i=>ns.getD i 0) n + ns.getD n 0=_
  rw [preSum_eq ns n (by omega),List.take_add_one,List.getElem?_eq_getElem (by omega),List.sum_append]
  simp [List.getD_eq_getElem?_getD,List.getElem?_eq_getElem (show n < ns.length by omega)]
theorem vals_int_get {ns:List Int} {its:List Value} (r:Vals (ns.map V.int) its) {i:Nat} {v:Value} (h:its[i]? = some v):∃ t,v = .int (ns.getD i 0) t:=by
 have hl:=r.length
 rw [List.length_map] at hl
 have hi:i < ns.length:=by rw [hl];exact (List.getElem?_eq_some_iff.mp h).1
 obtain ⟨u,hu,t,rfl⟩:=r.get (i:=i) (x:=V.int ns[i]) (by simp [hi])
 rw [h] at hu
 cases hu
 exact ⟨t,by simp [List.getD_eq_getElem?_getD,hi]⟩
noncomputable def sumFits (ns:List Int):Prop:=(∀ n ∈ ns,-(2 ^ 62) ≤ n∧n < 2 ^ 62)∧∀ j,j ≤ ns.length→InLong (ns.take j).sum
theorem sum0 (hc:X.calm=true):CallR X (.builtin "sum") (fun xs H Q=>∃ (p:Addr) (ns:List Int),xs=[.ref p]∧sq H p=some (ns.map V.int)∧sumFits ns∧Q (.int ns.sum) H):=by
 intro pins s σ H xs us Q I r h
 obtain ⟨p,ns,rfl,hq,fit,q⟩:=h
 obtain ⟨u,rfl,ru⟩:=r.one
 cases ru
 refine call_sum_walk (I.walk hc hq fun it its s2 St fp rv W st hfp hsz J=>?_)
 have hl:=rv.length
 rw [List.length_map] at hl
 refine ⟨it,fp,[it],its.length,_,St,fun i=>ns.getD i 0,rfl,W,st,hfp,fun i v hv=>vals_int_get rv hv,fun j hj=>⟨?_,?_⟩,fun h' tk t' k=>⟨.int ns.sum,H,J h' tk k,?_,q⟩⟩
 ·have hj':j < ns.length:=by omega
  have e:ns.getD j 0=ns[j]:=by simp [List.getD_eq_getElem?_getD,hj']
  show InLong (ns.getD j 0)
  rw [e]
  obtain ⟨a,b⟩:=fit.1 ns[j] (List.getElem_mem hj')
  exact ⟨by omega,by omega⟩
 ·rw [preSum_eq ns (j + 1) (by omega)]
  exact fit.2 (j + 1) (by omega)
 ·rw [← hl,preSum_eq ns _ (Nat.le_refl _),List.take_length]
  exact ⟨_,rfl⟩
theorem vals_bl_get {bs:List Bool} {its:List Value} (r:Vals (bs.map V.bl) its) {i:Nat} {v:Value} (h:its[i]? = some v):v = .bool (bs.getD i true):=by
 have hl:=r.length
 rw [List.length_map] at hl
 have hi:i < bs.length:=by rw [hl];exact (List.getElem?_eq_some_iff.mp h).1
 obtain ⟨u,hu,e⟩:=r.get (i:=i) (x:=V.bl bs[i]) (by simp [hi])
 rw [h] at hu
 cases hu
 rw [show v=Value.bool bs[i] from e]
 simp [List.getD_eq_getElem?_getD,hi]
theorem truth_bl {bs:List Bool} {its:List Value} (r:Vals (bs.map V.bl) its) (A:Around):TruthOf X.prog X.w A (fun i v=>its[i]? = some v) (fun i=>bs.getD i true):=fun i v s Q E h q=>by
 rw [vals_bl_get r h]
 exact wpAny_truthy_bool q
theorem range_all (bs:List Bool):(List.range bs.length).all (fun i=>bs.getD i true)=bs.all id:=by
 rw [Bool.eq_iff_iff,List.all_eq_true,List.all_eq_true]
 constructor
 ·intro h b hb
  obtain ⟨i,hi,rfl⟩:=List.mem_iff_getElem.mp hb
  have:=h i (List.mem_range.mpr hi)
  simpa [List.getD_eq_getElem?_getD,hi] using this
 ·intro h i hi
  have hi':=List.mem_range.mp hi
  have:=h bs[i] (List.getElem_mem hi')
  simpa [List.getD_eq_getElem?_getD,hi'] using this
theorem all0 (hc:X.calm=true):CallR X (.builtin "all") (fun xs H Q=>∃ (p:Addr) (bs:List Bool),xs=[.ref p]∧sq H p=some (bs.map V.bl)∧Q (.bl (bs.all id)) H):=by
 intro pins s σ H xs us Q I r h
 obtain ⟨p,bs,rfl,hq,q⟩:=h
 obtain ⟨u,rfl,ru⟩:=r.one
 cases ru
 refine call_all_walk (I.walk hc hq fun it its s2 St fp rv W st hfp hsz J=>?_)
 have hl:=rv.length
 rw [List.length_map] at hl
 refine ⟨it,fp,[it],its.length,_,St,fun i=>bs.getD i true,rfl,W,st,truth_bl rv _,fun h' tk k=>⟨.bl (bs.all id),H,J h' tk k,?_,q⟩⟩
 rw [← hl,range_all]
 exact rfl
noncomputable def tyN (H:Hp):V→Option String
 | .non=>some "NoneType"
 | .bl _=>some "bool"
 | .int _=>some "int"
 | .str _=>some "str"
 | .ref a=>match H a with
  | some (.lst _)=>some "list"
  | some (.tup _)=>some "tuple"
  | some (.dK _)=>some "dict"
  | _=>none
 | _=>none
noncomputable def subN (t T:String):Bool:=t == T || (t == "bool" && T == "int")
theorem tyN_of {K:PySem.W.Frag} {H:Hp} {x:V} {t:String} (h:tyN H x=some t):TyOf K H x (.type t)∧(t = "NoneType" ∨ t = "bool" ∨ t = "int" ∨ t = "str" ∨ t = "list" ∨ t = "tuple" ∨ t = "dict"):=by
 cases x with
 | non=>cases h;exact ⟨.non,by simp⟩
 | bl b=>cases h;exact ⟨.bl b,by simp⟩
 | int i=>cases h;exact ⟨.int i,by simp⟩
 | str i=>cases h;exact ⟨.str i,by simp⟩
 | ref a =>
  cases e:H a with
  | none=>simp [tyN,e] at h
  | some o =>
   cases o with
   | lst xs=>simp [tyN,e] at h;subst h;exact ⟨.lst e,by simp⟩
   | tup xs=>simp [tyN,e] at h;subst h;exact ⟨.tup e,by simp⟩
   | dK xs=>simp [tyN,e] at h;subst h;exact ⟨.dK e,by simp⟩
   | _=>simp [tyN,e] at h
 | _=>cases h
theorem kit_of {K:PySem.W.Frag} {t T:String} (h:t = "NoneType" ∨ t = "bool" ∨ t = "int" ∨ t = "str" ∨ t = "list" ∨ t = "tuple" ∨ t = "dict") (hT:T = "int" ∨ T = "bool" ∨ T = "tuple" ∨ T = "str" ∨ T = "list"):PySem.W.kitOne K (.type t) (.type T)=some (subN t T):=by
 rcases h with rfl | rfl | rfl | rfl | rfl | rfl | rfl <;> rcases hT with rfl | rfl | rfl | rfl | rfl <;> rfl
theorem isi0:CallR X (.builtin "isinstance") (fun xs H Q=>∃ x T t,xs=[x,.ty T]∧tyN H x=some t∧(T = "int" ∨ T = "bool" ∨ T = "tuple" ∨ T = "str" ∨ T = "list")∧Q (.bl (subN t T)) H):=by
 intro pins s σ H xs us Q I r h
 obtain ⟨x,T,t,rfl,ht,hT,q⟩:=h
 obtain ⟨u,v,rfl,ru,rv⟩:=r.two
 cases (show v=Value.type T from rv)
 obtain ⟨ty,ht'⟩:=tyN_of (K:=X.K) ht
 exact isinst_ok I ru ty (kit_of ht' hT) fun tk=>⟨.bl (subN t T),H,I.tok tk,rfl,q⟩
end
end L2
end
section
set_option Elab.async false
set_option linter.all false
set_option maxRecDepth 100000
namespace L2
open PySem PySem.Spec PyProof.Rows
theorem bt_len:bootBuiltins "len" = some (.builtin "len"):=by decide +kernel
theorem bt_sum:bootBuiltins "sum" = some (.builtin "sum"):=by decide +kernel
theorem bt_all:bootBuiltins "all" = some (.builtin "all"):=by decide +kernel
theorem bt_isinstance:bootBuiltins "isinstance" = some (.builtin "isinstance"):=by decide +kernel
theorem bt_abs:bootBuiltins "abs" = some (.builtin "abs"):=by decide +kernel
theorem bt_min:bootBuiltins "min" = some (.builtin "min"):=by decide +kernel
theorem bt_max:bootBuiltins "max" = some (.builtin "max"):=by decide +kernel
theorem bt_sorted:bootBuiltins "sorted" = some (.builtin "sorted"):=by decide +kernel
theorem bt_tuple:bootBuiltins "tuple" = some (.type "tuple"):=by decide +kernel
theorem bt_list:bootBuiltins "list" = some (.type "list"):=by decide +kernel
theorem bt_int:bootBuiltins "int" = some (.type "int"):=by decide +kernel
theorem bt_bool:bootBuiltins "bool" = some (.type "bool"):=by decide +kernel
theorem for_seq {f:Hp→Prop} {xs:List V} {g:TG} {tb:TS} {D:Ends} {σ:St} {H:Hp} (Pv:Nat→St→Hp→Prop) (h0:Pv 0 σ H) (hl:∀ i σ H,i ≤ xs.length→Pv i σ H→f H)
  (hs:∀ i x σ H,xs[i]? = some x→Pv i σ H→g x σ H fun σ2 H2=>tb { D with nx:=Pv (i + 1),ct:=Pv (i + 1),bk:=D.nx } σ2 H2) (hd:∀ σ H,Pv xs.length σ H→D.nx σ H) :
  ∃ W:Nat→Nat→St→Hp→Prop,(∃ m,W 0 m σ H)∧∀ i m σ H,W i m σ H →
   ((ItS f xs).stop i H∧D.nx σ H)∨((ItS f xs).go i H∧∃ N:St→Hp→Prop,(∀ σ' H',N σ' H'→∃ m',m' < m∧W (i + 1) m' σ' H')∧∀ x H',(ItS f xs).yld i H x H'→g x σ H' fun σ2 H2=>tb { D with nx:=N,ct:=N,bk:=D.nx } σ2 H2):=by
 refine ⟨fun i m σ H=>m=xs.length - i∧i ≤ xs.length∧Pv i σ H,⟨xs.length,by simp,Nat.zero_le _,h0⟩,?_⟩
 rintro i m σ H ⟨rfl,hi,p⟩
 have q:=hl i σ H hi p
 by_cases hlt:i < xs.length
 ·refine .inr ⟨⟨q,hlt⟩,Pv (i + 1),fun σ' H' p'=>⟨xs.length - (i + 1),by omega,rfl,hlt,p'⟩,fun x H' y=>?_⟩
  obtain ⟨e,y⟩:=y
  subst e
  exact hs i x σ _ y p
 ·have e:i=xs.length:=by omega
  subst e
  exact .inl ⟨⟨q,Nat.le_refl _⟩,hd σ H p⟩
theorem cl_seq {f:Hp→Prop} {xs:List V} {g:TG} {tc:TT} {tb:TB} {D:St→Hp→Prop} {σ:St} {H:Hp} (Pv:Nat→St→Hp→Prop) (h0:Pv 0 σ H) (hl:∀ i σ H,i ≤ xs.length→Pv i σ H→f H)
  (hs:∀ i x σ H,xs[i]? = some x→Pv i σ H→g x σ H fun σ2 H2=>tc σ2 H2 fun b H3=>if b=true then tb σ2 H3 (Pv (i + 1)) else Pv (i + 1) σ2 H3) (hd:∀ σ H,Pv xs.length σ H→D σ H):tCL (ItS f xs) g tc tb D σ H:=by
 refine ⟨fun i m σ H=>m=xs.length - i∧i ≤ xs.length∧Pv i σ H,⟨xs.length,by simp,Nat.zero_le _,h0⟩,?_⟩
 rintro i m σ H ⟨rfl,hi,p⟩
 have q:=hl i σ H hi p
 by_cases hlt:i < xs.length
 ·refine .inr ⟨⟨q,hlt⟩,Pv (i + 1),fun σ' H' p'=>⟨xs.length - (i + 1),by omega,rfl,hlt,p'⟩,fun x H' y=>?_⟩
  obtain ⟨e,y⟩:=y
  subst e
  exact hs i x σ _ y p
 ·have e:i=xs.length:=by omega
  subst e
  exact .inl ⟨⟨q,Nat.le_refl _⟩,hd σ H p⟩
theorem cl_range {lo:Int} {n:Nat} {g:TG} {tc:TT} {tb:TB} {D:St→Hp→Prop} {σ:St} {H:Hp} (Pv:Nat→St→Hp→Prop) (h0:Pv 0 σ H)
  (hs:∀ i σ H,i < n→Pv i σ H→g (.int (lo + i)) σ H fun σ2 H2=>tc σ2 H2 fun b H3=>if b=true then tb σ2 H3 (Pv (i + 1)) else Pv (i + 1) σ2 H3) (hd:∀ σ H,Pv n σ H→D σ H):tCL (Itr lo n) g tc tb D σ H:=by
 refine ⟨fun i m σ H=>m=n - i∧i ≤ n∧Pv i σ H,⟨n,by simp,Nat.zero_le _,h0⟩,?_⟩
 rintro i m σ H ⟨rfl,hi,p⟩
 by_cases hlt:i < n
 ·refine .inr ⟨hlt,Pv (i + 1),fun σ' H' p'=>⟨n - (i + 1),by omega,rfl,hlt,p'⟩,fun x H' y=>?_⟩
  obtain ⟨e,y⟩:=y
  subst e y
  exact hs i σ _ hlt p
 ·have e:i=n:=by omega
  subst e
  exact .inl ⟨Nat.le_refl _,hd σ H p⟩
noncomputable def Box (H:Hp) (p:Addr):Prop:=∃ g m c:Int,H p=some (.lst [.int g,.int m,.int c])
noncomputable def But (p:Addr) (H H':Hp):Prop:=∀ b,b ≠ p→H' b=H b
theorem But.refl {p:Addr} {H:Hp}:But p H H:=fun _ _=>rfl
theorem But.trans {p:Addr} {H H1 H2:Hp} (a:But p H H1) (b:But p H1 H2):But p H H2:=fun c h=>(b c h).trans (a c h)
theorem But.upd {p:Addr} {H:Hp} {o:HO}:But p H (upd H p o):=fun _ h=>upd_ne h
theorem But.sq {p a:Addr} {H H':Hp} (h:But p H H') (n:a ≠ p):sq H' a=sq H a:=by unfold L2.sq;rw [h a n]
noncomputable def spTake:Sp:=fun vs H Q _=>∃ (p:Addr) (many:Int),vs=[.ref p,.int many]∧Box H p∧0 < many∧many < 1073741824∧∀ (r:Int) (H':Hp),0 ≤ r→r < many→Box H' p→But p H H'→Q (.int r) H'
noncomputable def Scr (K:PySem.W.Frag) (a:Addr) (ns:List Int) (H:Hp):Prop:=SqL K H a (ns.map V.int)
noncomputable def spBox (K:PySem.W.Frag):Sp:=fun vs H Q _=>∃ (a:Addr) (k:Nat) (ns:List Int),vs=[.ref a,.int (k:Int)]∧Scr K a ns H∧k ≤ 100∧∀ (p:Addr) (H':Hp),H p=none→Box H' p→But p H H'→Q (.ref p) H'
theorem same_upd {H:Hp} {p:Addr} {o:HO} (n:H p=none):Same H (upd H p o):=fun b u e=>by rw [upd_ne (ne_of_none e n)];exact e
section
variable {X:Cx}
noncomputable def tTupA (t:TA):TE:=fun σ H Q=>t σ H fun xs H1=>xs.length ≤ sizeLine∧∀ (p:Addr) (H2:Hp),H1 p=none→Same H1 H2→H2 p=some (.tup xs)→Q (.ref p) H2
theorem pe_tupA {es:List Expr} {t:TA} {x1} {pos:Pos} (h:PA X es t):PE X (.Tuple es x1 pos) (tTupA t):=by
 intro pins s σ H Q I hq
 refine Tuple_ (thn (h pos pins s σ H _ I hq) fun us s1 ⟨xs,H1,I1,r,z,q⟩=>?_)
 have hf:H1 s1.heap.objs.size=none:=I1.hok.fresh (Nat.le_refl _)
 refine wpAny_newObj_type ?_ (by show us.toArray.size ≤ sizeLine;rw [List.size_toArray,← r.length];exact z)
 refine ⟨.ref s1.heap.objs.size,upd H1 s1.heap.objs.size (.tup xs),I1.laid (t':=s1.toks) (fun b u e=>Heap.get?_push_of_some _ e) (Nat.le_refl _) ?_,rfl,q _ _ hf (same_upd hf) upd_same⟩
 exact ⟨z,us,r,IsTup.new s1.heap _⟩
theorem tupA0:CallR X (.type "tuple") (fun xs H Q=>∃ p ys,xs=[.ref p]∧H p=some (.lst ys)∧∀ (l:Addr) (H2:Hp),H l=none→Same H H2→H2 l=some (.tup ys)→Q (.ref l) H2):=by
 intro pins s σ H xs us Q I r h
 obtain ⟨p,ys,e,hq,q⟩:=h
 exact tupL0 pins s σ H xs us Q I r ⟨p,ys,e,hq,fun l n=>q l _ n (same_upd n) upd_same⟩
theorem a_tTupA {t:TA} {σ:St} {H:Hp} {Q:VK}:tTupA t σ H Q=t σ H fun xs H1=>xs.length ≤ sizeLine∧∀ (p:Addr) (H2:Hp),H1 p=none→Same H1 H2→H2 p=some (.tup xs)→Q (.ref p) H2:=rfl
end
section
variable {D:Ends} {σ:St} {H:Hp} {Q:VK} {QB:Bool→Hp→Prop} {QA:List V→Hp→Prop} {QG:St→Hp→Prop} {R:It→Hp→Prop}
theorem a_tSeq {t u:TS}:tSeq t u D σ H=t { D with nx:=u D } σ H:=rfl
theorem a_tRet {te:TE}:tRet te D σ H=te σ H D.rt:=rfl
theorem a_tRetN:tRetN D σ H=D.rt .non H:=rfl
theorem a_tNext:tNext D σ H=D.nx σ H:=rfl
theorem a_tDrop {te:TE}:tDrop te D σ H=te σ H fun _ H1=>D.nx σ H1:=rfl
theorem a_tAsg {te:TE} {g:TG}:tAsg te g D σ H=te σ H fun x H1=>g x σ H1 D.nx:=rfl
theorem a_tIfS {c:TT} {t u:TS}:tIfS c t u D σ H=c σ H fun b H1=>if b=true then t D σ H1 else u D σ H1:=rfl
theorem a_tPar {i j:Nat} {ta:TA}:tPar i j ta D σ H=ta σ H fun vs H1=>∃ v w,vs=[v,w]∧D.nx ((σ.set i (some v)).set j (some w)) H1:=rfl
theorem a_gName {i:Nat} {v:V}:gName i v σ H QG=QG (σ.set i (some v)) H:=rfl
theorem a_gNil {vs:List V}:gNil vs σ H QG=(vs=[]∧QG σ H):=rfl
theorem a_gCons {t:TG} {u:TGs} {vs:List V}:gCons t u vs σ H QG = ∃ v r,vs=v :: r∧t v σ H fun σ' H'=>u r σ' H' QG:=rfl
theorem a_gTup0 {n:Nat} {t:TGs} {v:V}:gTup0 n t v σ H QG = ∃ a xs,v = .ref a∧H a=some (.tup xs)∧xs.length=n∧t xs σ H QG:=rfl
theorem a_gSub {to ti:TE} {t:TSet} {v:V}:gSub to ti t v σ H QG=to σ H fun o H1=>ti σ H1 fun i H2=>t o i v H2 fun H3=>QG σ H3:=rfl
theorem a_rSetL {o i v:V} {q:Hp→Prop}:rSetL o i v H q = ∃ p xs k j,o = .ref p∧i = .int k∧H p=some (.lst xs)∧ixN xs.length k=some j∧q (upd H p (.lst (xs.set j v))):=rfl
theorem a_tAnd {t u:TT}:tAnd t u σ H QB=t σ H fun c H1=>if c=true then u σ H1 QB else QB false H1:=rfl
theorem a_tOr {t u:TT}:tOr t u σ H QB=t σ H fun c H1=>if c=true then QB true H1 else u σ H1 QB:=rfl
theorem a_tNot {t:TT}:tNot t σ H QB=t σ H fun c H1=>QB (!c) H1:=rfl
theorem a_tTest {t:TE}:tTest t σ H QB=t σ H fun x H'=>∃ k,x = .bl k∧QB k H':=rfl
theorem a_tB {t:TE}:tB t σ H QB=t σ H fun x H1=>∃ c,x = .bl c∧QB c H1:=rfl
theorem a_tTrue:tTrue σ H QB=QB true H:=rfl
theorem a_tIf {t:TT} {ta tb:TE}:tIf t ta tb σ H Q=t σ H fun c H1=>if c=true then ta σ H1 Q else tb σ H1 Q:=rfl
theorem a_tAndV {ta tb:TE}:tAndV ta tb σ H Q=ta σ H fun x H1=>∃ c,x = .bl c∧if c=true then tb σ H1 Q else Q (.bl false) H1:=rfl
theorem a_tOrV {ta tb:TE}:tOrV ta tb σ H Q=ta σ H fun x H1=>∃ c,x = .bl c∧if c=true then Q (.bl true) H1 else tb σ H1 Q:=rfl
theorem a_tNotV {ta:TE}:tNotV ta σ H Q=ta σ H fun x H1=>∃ c,x = .bl c∧Q (.bl (!c)) H1:=rfl
theorem a_tOp {r:R2} {ta tb:TE}:tOp r ta tb σ H Q=ta σ H fun x H1=>tb σ H1 fun y H2=>r x y H2 Q:=rfl
theorem a_tUn {r:V→Hp→VK→Prop} {ta:TE}:tUn r ta σ H Q=ta σ H fun x H1=>r x H1 Q:=rfl
theorem a_rU {g:Int→V} {x:V}:rU g x H Q = ∃ i,x = .int i∧Q (g i) H:=rfl
theorem a_tVar {i:Nat}:tVar i σ H Q = ∃ v,σ[i]? = some (some v)∧Q v H:=rfl
theorem a_tC {v:V}:tC v σ H Q=Q v H:=rfl
theorem a_rI0 {g:Int→Int→V} {x y:V}:rI0 g x y H Q = ∃ i j,x = .int i∧y = .int j∧Q (g i j) H:=rfl
theorem a_rI {C:Int→Int→Prop} {g:Int→Int→V} {x y:V}:rI C g x y H Q = ∃ i j,x = .int i∧y = .int j∧C i j∧Q (g i j) H:=rfl
theorem a_rEq {x y:V}:rEq x y H Q=(scal x y=true∧Q (.bl (decide (x=y))) H):=rfl
theorem a_rNe {x y:V}:rNe x y H Q=(scal x y=true∧Q (.bl (!decide (x=y))) H):=rfl
theorem a_rIx0 {x y:V}:rIx0 x y H Q = ∃ p xs i v,x = .ref p∧y = .int i∧sq H p=some xs∧atI xs i=some v∧Q v H:=rfl
theorem a_rIn0 {neg:Bool} {x y:V}:rIn0 neg x y H Q = ∃ p xs,y = .ref p∧sq H p=some xs∧flatV x=true∧xs.all flatV=true∧Q (.bl (if neg then !inV x xs else inV x xs)) H:=rfl
theorem a_tCB {r:List V→Hp→VK→Prop} {t:TA}:tCB r t σ H Q=t σ H fun vs H1=>r vs H1 Q:=rfl
theorem a_tCal {sp:Sp} {t:TA}:tCal sp t σ H Q=t σ H fun vs H1=>sp vs H1 Q E0:=rfl
theorem a_tCons {ta:TE} {tr:TA}:tCons ta tr σ H QA=ta σ H fun x H1=>tr σ H1 fun xs H2=>QA (x :: xs) H2:=rfl
theorem a_tNil:tNil σ H QA=QA [] H:=rfl
theorem a_tLst {t:TA}:tLst t σ H Q=t σ H fun xs H1=>xs.length ≤ sizeLine∧∀ p,H1 p=none→Q (.ref p) (upd H1 p (.lst xs)):=rfl
theorem a_tBits {to:TE}:tBits to σ H Q=to σ H fun x H1=>∃ i,x = .int i∧Q (.int (Builtin.Int.intBits i:Nat)) H1:=rfl
theorem a_tLC {fr:List (Option Nat)} {wi:TI} {g:TG} {tc:TT} {te:TE}:tLC fr wi g tc te σ H Q=wi σ H fun J H1=>∀ p,H1 p=none→tCL J g tc (tEmit p te) (fun _ H2=>Q (.ref p) H2) (frS fr σ) (upd H1 p (.lst [])):=rfl
theorem a_iRng1 {ta:TA}:iRng1 ta σ H R=ta σ H fun vs H1=>∃ j:Int,vs=[.int j]∧-(2 ^ 62) ≤ j∧j < 2 ^ 62∧R (Itr 0 j.toNat) H1:=rfl
theorem a_iRng2 {ta:TA}:iRng2 ta σ H R=ta σ H fun vs H1=>∃ i j:Int,vs=[.int i,.int j]∧(-(2 ^ 62) ≤ i∧i < 2 ^ 62∧-(2 ^ 62) ≤ j∧j < 2 ^ 62)∧R (Itr i (j - i).toNat) H1:=rfl
theorem a_iT0 {tl:TE}:iT0 tl σ H R=tl σ H fun x H1=>∃ a xs,x = .ref a∧H1 a=some (.tup xs)∧R (ItS (fun H=>H a=some (.tup xs)) xs) H1:=rfl
theorem a_iL0 {tl:TE}:iL0 tl σ H R=tl σ H fun x H1=>∃ a xs,x = .ref a∧H1 a=some (.lst xs)∧R (ItS (fun H=>H a=some (.lst xs)) xs) H1:=rfl
theorem a_tEmit {p:Addr} {te:TE}:tEmit p te σ H QG=te σ H fun y H1=>∃ ys,H1 p=some (.lst ys)∧ys.length < sizeLine∧QG σ (upd H1 p (.lst (ys ++ [y]))):=rfl
end
noncomputable def FL (J:It) (g:TG) (tb:TS) (D:Ends) (σ:St) (H1:Hp):Prop:=∃ W:Nat→Nat→St→Hp→Prop,(∃ m,W 0 m σ H1)∧∀ i m σ H,W i m σ H →
 (J.stop i H∧D.nx σ H)∨(J.go i H∧∃ N:St→Hp→Prop,(∀ σ' H',N σ' H'→∃ m',m' < m∧W (i + 1) m' σ' H')∧∀ x H',J.yld i H x H'→g x σ H' fun σ2 H2=>tb { D with nx:=N,ct:=N,bk:=D.nx } σ2 H2)
theorem a_tFor {wi:TI} {g:TG} {tb:TS} {D:Ends} {σ:St} {H:Hp}:tFor wi g tb D σ H=wi σ H fun J H1=>FL J g tb D σ H1:=rfl
theorem fl_seq {f:Hp→Prop} {xs:List V} {g:TG} {tb:TS} {D:Ends} {σ:St} {H:Hp} (Pv:Nat→St→Hp→Prop) (h0:Pv 0 σ H) (hl:∀ i σ H,i ≤ xs.length→Pv i σ H→f H)
  (hs:∀ i x σ H,xs[i]? = some x→Pv i σ H→g x σ H fun σ2 H2=>tb { D with nx:=Pv (i + 1),ct:=Pv (i + 1),bk:=D.nx } σ2 H2) (hd:∀ σ H,Pv xs.length σ H→D.nx σ H):FL (ItS f xs) g tb D σ H:=for_seq Pv h0 hl hs hd
theorem fl_range {lo:Int} {n:Nat} {g:TG} {tb:TS} {D:Ends} {σ:St} {H:Hp} (Pv:Nat→St→Hp→Prop) (h0:Pv 0 σ H)
  (hs:∀ i σ H,i < n→Pv i σ H→g (.int (lo + i)) σ H fun σ2 H2=>tb { D with nx:=Pv (i + 1),ct:=Pv (i + 1),bk:=D.nx } σ2 H2) (hd:∀ σ H,Pv n σ H→D.nx σ H):FL (Itr lo n) g tb D σ H:=for_range Pv h0 hs hd
noncomputable def SameX (c:Addr) (H H':Hp):Prop:=∀ b o,b ≠ c→H b=some o→H' b=some o
theorem SameX.refl {c:Addr} {H:Hp}:SameX c H H:=fun _ _ _ h=>h
theorem SameX.trans {c:Addr} {H H1 H2:Hp} (a:SameX c H H1) (b:SameX c H1 H2):SameX c H H2:=fun d o n h=>b d o n (a d o n h)
theorem SameX.upd {c:Addr} {H:Hp} {o:HO}:SameX c H (upd H c o):=fun b u n h=>by rw [upd_ne n];exact h
theorem Same.x {c:Addr} {H H':Hp} (h:Same H H'):SameX c H H':=fun b o _ e=>h b o e
theorem SameX.same {c:Addr} {H H':Hp} (h:SameX c H H') (n:H c=none):Same H H':=fun b o e=>h b o (ne_of_none e n) e
theorem But.x {p:Addr} {H H':Hp} (h:But p H H'):SameX p H H':=fun b o n e=>by rw [h b n];exact e
theorem Same.sq {H H':Hp} (h:Same H H') {a:Addr} {xs:List V} (e:L2.sq H a=some xs):L2.sq H' a=some xs:=by
 unfold L2.sq at e ⊢
 cases q:H a with
 | none=>rw [q] at e;cases e
 | some o=>rw [q] at e;rw [h a o q];exact e
theorem SameX.sq {c:Addr} {H H':Hp} (h:SameX c H H') {a:Addr} {xs:List V} (n:a ≠ c) (e:L2.sq H a=some xs):L2.sq H' a=some xs:=by
 unfold L2.sq at e ⊢
 cases q:H a with
 | none=>rw [q] at e;cases e
 | some o=>rw [q] at e;rw [h a o n q];exact e
theorem Scr.keep {K:PySem.W.Frag} {a p:Addr} {ns:List Int} {H H':Hp} (h:Scr K a ns H) (n:H p=none) (s:SameX p H H'):Scr K a ns H':=Same.seq (s.same n) h
theorem a_rIxL {K:PySem.W.Frag} {x y:V} {H:Hp} {Q:VK}:rIxL K x y H Q = ∃ p xs i v,x = .ref p∧y = .int i∧SqL K H p xs∧atI xs i=some v∧Q v H:=rfl
theorem sum_bound {b:Int}:∀ {ns:List Int},(∀ n ∈ ns,-b ≤ n∧n ≤ b)→-(b * (ns.length:Int)) ≤ ns.sum∧ns.sum ≤ b * (ns.length:Int)
 | [],_=>by simp
 | n :: ns,h=>by
  have h1:=h n List.mem_cons_self
  have h2:=sum_bound (ns:=ns) fun m hm=>h m (List.mem_cons_of_mem _ hm)
  rw [List.sum_cons,List.length_cons,Int.natCast_add,Int.mul_add]
  simp only [Int.natCast_one,Int.mul_one]
  omega
theorem sumFits_of {ns:List Int} (h:∀ n ∈ ns,-(2 ^ 40) ≤ n∧n ≤ 2 ^ 40) (hl:ns.length ≤ 1000):sumFits ns:=by
 refine ⟨fun n hn=>⟨by have:=(h n hn).1;omega,by have:=(h n hn).2;omega⟩,fun j hj=>?_⟩
 have q:=sum_bound (b:=2 ^ 40) (ns:=ns.take j) fun n hn=>h n (List.mem_of_mem_take hn)
 have e:(ns.take j).length ≤ 1000:=by rw [List.length_take];omega
 have e':(2:Int) ^ 40 * ((ns.take j).length:Int) ≤ 2 ^ 40 * 1000:=Int.mul_le_mul_of_nonneg_left (by omega) (by decide)
 constructor
 ·have:(2:Int) ^ 40 * 1000 < 2 ^ 63:=by decide
  omega
 ·have:(2:Int) ^ 40 * 1000 < 2 ^ 63:=by decide
  omega
theorem ixN30:ixN 3 0=some 0:=rfl
theorem ixN31:ixN 3 1=some 1:=rfl
theorem ixN32:ixN 3 2=some 2:=rfl
theorem atI0 {α:Type} (a:α) (l:List α):atI (a :: l) 0=some a:=atI_nat (j:=0) (xs:=a :: l) rfl
theorem atI1 {α:Type} (a b:α) (l:List α):atI (a :: b :: l) 1=some b:=atI_nat (j:=1) (xs:=a :: b :: l) rfl
theorem atI2 {α:Type} (a b c:α) (l:List α):atI (a :: b :: c :: l) 2=some c:=atI_nat (j:=2) (xs:=a :: b :: c :: l) rfl
end L2
end
section
set_option Elab.async false
set_option linter.all false
set_option maxRecDepth 100000
namespace L2
open PySem PySem.Spec PyProof.Rows
noncomputable def SeqOf (h:Heap) (c:String) (l:Addr) (xs:Array Value):Prop:=(c = "list_iterator" ∧ h.IsList l xs)∨(c = "tuple_iterator" ∧ h.IsTuple l xs)
noncomputable def Src (h:Heap) (c:String) (it l:Addr) (xs:Array Value) (k:Nat):Prop:=(c = "list_iterator" ∧ h.IsListIter it l k∧h.IsList l xs)∨(c = "tuple_iterator" ∧ h.IsTupleIter it l k∧h.IsTuple l xs)
theorem SeqOf.at {h h':Heap} {c:String} {l:Addr} {xs:Array Value} (x:SeqOf h c l xs) (k:∀ o,h.get? l=some o→h'.get? l=some o):SeqOf h' c l xs:=by
 rcases x with ⟨e,x⟩ | ⟨e,x⟩
 ·exact .inl ⟨e,x.at k⟩
 ·exact .inr ⟨e,x.at k⟩
theorem SeqOf.lt {h:Heap} {c:String} {l:Addr} {xs:Array Value} (x:SeqOf h c l xs):l < h.objs.size:=by
 rcases x with ⟨_,o,e,_⟩ | ⟨_,o,e,_⟩ <;> exact Heap.lt_size e
theorem Src.at {h h':Heap} {c:String} {it l:Addr} {xs:Array Value} {k:Nat} (x:Src h c it l xs k) (k1:∀ o,h.get? it=some o→h'.get? it=some o) (k2:∀ o,h.get? l=some o→h'.get? l=some o):Src h' c it l xs k:=by
 rcases x with ⟨e,⟨o,a,r⟩,y⟩ | ⟨e,⟨o,a,r⟩,y⟩
 ·exact .inl ⟨e,⟨o,k1 o a,r⟩,y.at k2⟩
 ·exact .inr ⟨e,⟨o,k1 o a,r⟩,y.at k2⟩
theorem Src.ext {h h':Heap} {c:String} {it l b:Addr} {xs:Array Value} {k:Nat} (x:Src h c it l xs k) (hs:Heap.SameBut b h h') (n1:it ≠ b) (n2:l ≠ b):Src h' c it l xs k :=
 x.at (fun o e=>hs.extBut _ _ n1 e) fun o e=>hs.extBut _ _ n2 e
section
variable {prog:Program} {w:World} {A:Around} {E:Value→Shared→Prop} {s:Shared}
theorem iter_any {c:String} {l:Addr} {xs:Array Value} {Q:Value→Shared→Prop} (x:SeqOf s.heap c l xs) (h:Q (.ref s.heap.objs.size) { s with heap:=s.heap.push { cls:=.type c,data:=.fields #[.ref l,.int 0 0] } }):wpAny (model prog w) A (pyIter (.ref l)) Q E s:=by
 rcases x with ⟨rfl,x⟩ | ⟨rfl,x⟩
 ·exact wpAny_pyIter_list x h
 ·exact wpAny_pyIter_tuple x h
theorem nextOf_tup {it l:Addr} {i:Nat} {items:Array Value} {x:Value} {Q:Value→Shared→Prop} (hit:s.heap.IsTupleIter it l i) (ht:s.heap.IsTuple l items) (hx:items[i]? = some x)
  (hQ:∀ h',h'.IsTupleIter it l (i + 1)→Heap.SameBut it s.heap h'→Q x { s with heap:=h' }):wpAny (model prog w) A (Builtin.SmallTypes.nextOf (.ref it)) Q E s:=by
 obtain ⟨o,ho,hc,hd⟩:=id hit
 obtain ⟨ot,hot,_,nt,hdt⟩:=ht
 unfold Builtin.SmallTypes.nextOf
 refine wpAny_bind (wpAny_callSpecial?_slot (name:=Str.ofString "__next__") hit.typeIs F.slot_tuple_iterator_next (wpAny_call_entry F.slot_tuple_iterator_next hit.typeIs F.entry_tuple_iterator_next ?_ (F.args_tuple_iterator_next_1 _)))
 refine wpAny_bind (m:=field (.ref it) 0) (wpAny_field ho hd (x:=.ref l) rfl ?_)
 rw [if_neg (show ¬ ((Value.ref l == Value.none)=true) from Bool.false_ne_true)]
 refine wpAny_bind (m:=field (.ref it) 1) (wpAny_field ho hd (x:=.int i 0) rfl ?_)
 refine wpAny_bind (m:=seqItems? (.ref l)) (wpAny_seqItems hot hdt ?_)
 simp only [Int.toNat_natCast,hx]
 refine wpAny_bind (wpAny_setField ho hd (by simp) (wpAny_pure ⟨x,rfl,wpAny_pure (hQ _ ?_ (Heap.SameBut.update ..))⟩))
 refine ⟨_,Heap.get?_update_self _ ho (Obj.isFreed_of_fields (Obj.data_mapFields hd _)),(Obj.cls_mapFields ..).trans hc,?_⟩
 rw [Obj.data_mapFields hd];simp [rawInt]
theorem nx_item {c:String} {it l:Addr} {xs:Array Value} {k:Nat} {x:Value} {Q:Value→Shared→Prop} (S:Src s.heap c it l xs k) (ne:l ≠ it) (hx:xs[k]? = some x)
  (hQ:∀ h',Src h' c it l xs (k + 1)→Heap.SameBut it s.heap h'→Q x { s with heap:=h' }):wpAny (model prog w) A (Builtin.SmallTypes.nextOf (.ref it)) Q E s:=by
 rcases S with ⟨e,a,b⟩ | ⟨e,a,b⟩
 ·exact wpAny_nextOf_list_item a b hx fun h' a' sb=>hQ h' (.inl ⟨e,a',b.extBut sb.extBut ne⟩) sb
 ·exact nextOf_tup a b hx fun h' a' sb=>hQ h' (.inr ⟨e,a',b.at fun o q=>sb.extBut _ _ ne q⟩) sb
theorem nextOf_tup_end {it l:Addr} {i:Nat} {items:Array Value} {Q:Value→Shared→Prop} (hh:A.handled=none) (hit:s.heap.IsTupleIter it l i) (ht:s.heap.IsTuple l items) (hx:items[i]? = none)
  (hE:∀ h' e,Heap.ExtBut it s.heap h'→(∃ o,h'.get? e=some o∧o.cls = .type "StopIteration")→E (.ref e) { s with heap:=h' }):wpAny (model prog w) A (Builtin.SmallTypes.nextOf (.ref it)) Q E s:=by
 obtain ⟨o,ho,hc,hd⟩:=id hit
 obtain ⟨ot,hot,_,nt,hdt⟩:=ht
 unfold Builtin.SmallTypes.nextOf
 refine wpAny_bind (wpAny_callSpecial?_slot (name:=Str.ofString "__next__") hit.typeIs F.slot_tuple_iterator_next (wpAny_call_entry F.slot_tuple_iterator_next hit.typeIs F.entry_tuple_iterator_next ?_ (F.args_tuple_iterator_next_1 _)))
 refine wpAny_bind (m:=field (.ref it) 0) (wpAny_field ho hd (x:=.ref l) rfl ?_)
 rw [if_neg (show ¬ ((Value.ref l == Value.none)=true) from Bool.false_ne_true)]
 refine wpAny_bind (m:=field (.ref it) 1) (wpAny_field ho hd (x:=.int i 0) rfl ?_)
 refine wpAny_bind (m:=seqItems? (.ref l)) (wpAny_seqItems hot hdt ?_)
 simp only [Int.toNat_natCast,hx]
 refine wpAny_bind (wpAny_rule (wpAny_bind (wpAny_setField ho hd (by simp) ?_)))
 refine wpAny_bind (m:=newExc (.type "StopIteration") []) ?_
 simp only [newExc,newTuple]
 refine wpAny_bind (wpAny_newObj_type ?_ (by size_fits))
 refine wpAny_bind (m:=firstArgMember _ _) (wpAny_of_eq (a:=Value.none) (by first | rfl | (simp only [firstArgMember];rfl)) ?_)
 refine wpAny_newObj_type ?_ (by size_fits)
 simp only [raiseNew]
 refine wpAny_bind (wpAny_handled ?_)
 first | rw [show A.in1.handled=none from hh] | rw [hh]
 refine wpAny_bind (wpAny_pure (wpAny_throw ?_))
 exact hE _ _ (((Heap.SameBut.update ..).extBut.push _).push _) ⟨_,Heap.get?_push_size _ rfl,rfl⟩
theorem nx_end {c:String} {it l:Addr} {xs:Array Value} {k:Nat} {Q:Value→Shared→Prop} (hh:A.handled=none) (S:Src s.heap c it l xs k) (hx:xs[k]? = none)
  (hE:∀ h' e,Heap.ExtBut it s.heap h'→(∃ o,h'.get? e=some o∧o.cls = .type "StopIteration")→E (.ref e) { s with heap:=h' }):wpAny (model prog w) A (Builtin.SmallTypes.nextOf (.ref it)) Q E s:=by
 rcases S with ⟨e,a,b⟩ | ⟨e,a,b⟩
 ·exact wpAny_nextOf_list_end hh a b hx hE
 ·exact nextOf_tup_end hh a b hx hE
structure Zs (h:Heap) (z TI TO i1 i2:Addr) (c1 c2:String) (l1 l2:Addr) (xs ys:Array Value) (k:Nat):Prop where
 zip:IsZip h z TI TO .none
 ti:IsPair h TI (.ref i1) (.ref i2)
 to:∃ a b,IsPair h TO a b
 s1:Src h c1 i1 l1 xs k
 s2:Src h c2 i2 l2 ys k
theorem zs_item {z TI TO i1 i2 l1 l2:Addr} {c1 c2:String} {k:Nat} {xs ys:Array Value} {x y:Value} {Q:Option Value→Shared→Prop} (D:ZipApart z TI TO i1 i2 l1 l2) (Z:Zs s.heap z TI TO i1 i2 c1 c2 l1 l2 xs ys k) (hx:xs[k]? = some x) (hy:ys[k]? = some y)
  (hQ:∀ h',IsZip h' z TI TO (rawInt s.heap.objs.size)→IsPair h' TI (.ref i1) (.ref i2)→IsPair h' TO x y→Src h' c1 i1 l1 xs (k + 1)→Src h' c2 i2 l2 ys (k + 1)→IsPair h' s.heap.objs.size x y→h'.objs.size=s.heap.objs.size + 1 →
   (∀ c o,c ∉ [z,TO,i1,i2]→s.heap.get? c=some o→h'.get? c=some o)→Q (some (.ref s.heap.objs.size)) { s with heap:=h' }):wpAny (model prog w) A (pyNext (.ref z)) Q E s:=by
 obtain ⟨hz,hTI,⟨a,b,hTO⟩,h1,h2⟩:=Z
 have hT:s.TypeIs (.ref z) "zip" := ⟨_,hz,rfl⟩
 unfold pyNext
 refine wpAny_bind (wpAny_attempt (wpAny_callSpecial?_slot (name:=Str.ofString "__next__") hT F.slot_zip_next (wpAny_call_entry F.slot_zip_next hT F.entry_zip_next ?_ (F.args_zip_next_1 _))))
 refine wpAny_bind (m:=field (.ref z) 2) (wpAny_field hz rfl (x:=.bool false) rfl ?_)
 refine wpAny_bind (m:=field (.ref z) 3) (wpAny_field hz rfl (x:=.ref TI) rfl ?_)
 refine wpAny_bind (wpAny_seqItems hTI rfl ?_)
 refine wpAny_bind (m:=Builtin.SmallTypes.ownedTupleIsFree (.ref z)) ?_
 unfold Builtin.SmallTypes.ownedTupleIsFree
 refine wpAny_bind (wpAny_field hz rfl (x:=.none) rfl (wpAny_pure ?_))
 simp only [if_true]
 refine wpAny_bind (wpAny_rule ?_)
 refine wpAny_bind (wpAny_field hz rfl (x:=.ref TO) rfl ?_)
 refine wpAny_bind (wpAny_setField_rec hz (by simp) fun ha hza hsa=>?_)
 replace hza:IsZip ha z TI TO .ellipsis:=hza
 refine wpAny_bind ?_
 simp only [List.zipIdx_cons,List.zipIdx_nil,List.forIn_cons,List.forIn_nil]
 refine wpAny_bind (wpAny_bind (wpAny_onRaise ?_))
 refine wpAny_bind (m:=Builtin.SmallTypes.nextOf (.ref i1)) (nx_item (s:={ s with heap:=ha }) (h1.ext hsa D.i1z D.l1z) D.l1i1 hx fun hb h1b hsb=>wpAny_pure ?_)
 have hTOb:IsPair hb TO a b:=hsb.extBut _ _ D.TOi1 (hsa.extBut _ _ D.TOz hTO)
 refine wpAny_bind (wpAny_seqItems hTOb rfl ?_)
 refine wpAny_bind (wpAny_updateSeq_pair hTOb fun hc hTOc hsc=>?_)
 replace hTOc:IsPair hc TO x b:=hTOc
 refine wpAny_bind (wpAny_letGo (wpAny_pure ?_))
 refine wpAny_bind (wpAny_bind (wpAny_onRaise ?_))
 refine wpAny_bind (m:=Builtin.SmallTypes.nextOf (.ref i2)) (nx_item (s:={ s with heap:=hc }) (((h2.ext hsa D.i2z D.l2z).ext hsb D.i12.symm D.l2i1).ext hsc D.TOi2.symm D.l2TO) D.l2i2 hy fun hd h2d hsd=>wpAny_pure ?_)
 have hTOd:IsPair hd TO x b:=hsd.extBut _ _ D.TOi2 hTOc
 refine wpAny_bind (wpAny_seqItems hTOd rfl ?_)
 refine wpAny_bind (wpAny_updateSeq_pair hTOd fun he hTOe hse=>?_)
 replace hTOe:IsPair he TO x y:=hTOe
 refine wpAny_bind (wpAny_letGo (wpAny_pure (wpAny_pure ?_)))
 refine wpAny_bind (wpAny_seqItems hTOe rfl ?_)
 refine wpAny_bind (wpAny_newTuple ?_)
 have sz:he.objs.size=s.heap.objs.size:=by rw [hse.1,hsd.1,hsc.1,hsb.1,hsa.1]
 have ze:IsZip he z TI TO .ellipsis:=hse.extBut _ _ D.TOz.symm (hsd.extBut _ _ D.i2z.symm (hsc.extBut _ _ D.TOz.symm (hsb.extBut _ _ D.i1z.symm hza)))
 have ke:∀ c o,c ≠ z→c ≠ TO→c ≠ i1→c ≠ i2→s.heap.get? c=some o→he.get? c=some o:=fun c o n1 n2 n3 n4 e=>hse.extBut _ _ n2 (hsd.extBut _ _ n4 (hsc.extBut _ _ n2 (hsb.extBut _ _ n3 (hsa.extBut _ _ n1 e))))
 have h1e:Src he c1 i1 l1 xs (k + 1):=((h1b.ext hsc D.TOi1.symm D.l1TO).ext hsd D.i12 D.l1i2).ext hse D.TOi1.symm D.l1TO
 have h2e:Src he c2 i2 l2 ys (k + 1):=h2d.ext hse D.TOi2.symm D.l2TO
 have zlt:z < he.objs.size:=Heap.lt_size ze
 refine wpAny_bind (m:=Builtin.SmallTypes.ownedTupleHandOut (.ref z) (.ref he.objs.size)) ?_
 unfold Builtin.SmallTypes.ownedTupleHandOut
 refine wpAny_bind (wpAny_setField_rec (show IsZip (he.push { cls:=.type "tuple",data:=.seq #[x,y] }) z TI TO .ellipsis from Heap.get?_push_of_some _ ze) (by simp) fun hf hzf hsf=>?_)
 replace hzf:IsZip hf z TI TO (rawInt he.objs.size):=hzf
 refine wpAny_setField_rec hzf (by simp) fun hg hzg hsg=>?_
 replace hzg:IsZip hg z TI TO (rawInt he.objs.size):=hzg
 have up:∀ c o,c ≠ z→he.get? c=some o→hg.get? c=some o:=fun c o n e=>hsg.extBut _ _ n (hsf.extBut _ _ n (Heap.get?_push_of_some _ e))
 have new:IsPair hg he.objs.size x y:=hsg.extBut _ _ (Nat.ne_of_gt zlt) (hsf.extBut _ _ (Nat.ne_of_gt zlt) (Heap.get?_push_size _ rfl))
 have szg:hg.objs.size=he.objs.size + 1:=by rw [hsg.1,hsf.1,Heap.size_push]
 refine wpAny_pure ⟨_,rfl,wpAny_pure ?_⟩
 rw [sz] at hzg new szg ⊢
 refine hQ hg hzg (up _ _ D.TIz (ke _ _ D.TIz D.TITO D.TIi1 D.TIi2 hTI)) (up _ _ D.TOz hTOe) (h1e.at (fun o e=>up _ o D.i1z e) fun o e=>up _ o D.l1z e) (h2e.at (fun o e=>up _ o D.i2z e) fun o e=>up _ o D.l2z e) new szg fun c o hc' e=>?_
 have n1:c ≠ z:=fun q=>hc' (by simp [q])
 exact up c o n1 (ke c o n1 (fun q=>hc' (by simp [q])) (fun q=>hc' (by simp [q])) (fun q=>hc' (by simp [q])) e)
end
end L2
end
section
set_option Elab.async false
set_option linter.all false
set_option maxRecDepth 100000
namespace L2
open PySem PySem.Spec PyProof.Rows
section
variable {prog:Program} {w:World} {A:Around} {E:Value→Shared→Prop} {s:Shared}
theorem zs_end {z TI TO i1 i2 l1 l2:Addr} {c1 c2:String} {k:Nat} {xs ys:Array Value} {Q:Option Value→Shared→Prop} (hh:A.handled=none) (D:ZipApart z TI TO i1 i2 l1 l2) (Z:Zs s.heap z TI TO i1 i2 c1 c2 l1 l2 xs ys k) (hend:xs[k]? = none∨ys[k]? = none)
  (hQ:∀ h',(∀ c o,c ∉ [z,TO,i1,i2]→s.heap.get? c=some o→h'.get? c=some o)→Q none { s with heap:=h' }):wpAny (model prog w) A (pyNext (.ref z)) Q E s:=by
 obtain ⟨hz,hTI,⟨a,b,hTO⟩,h1,h2⟩:=Z
 have hT:s.TypeIs (.ref z) "zip" := ⟨_,hz,rfl⟩
 unfold pyNext
 have fin:∀ h' e,(∀ c o,c ≠ z→c ≠ TO→c ≠ i1→c ≠ i2→s.heap.get? c=some o→h'.get? c=some o)→(∃ o,h'.get? e=some o∧o.cls = .type "StopIteration") →
   wpAny (model prog w) A (isInstance (.ref e) (.type "StopIteration") >>= fun y=>if y=true then pure none else throw (.ref e)) Q E { s with heap:=h' }:=fun h' e k ⟨o,ho,hc⟩=>by
  refine wpAny_bind (wpAny_isInstance (T := "StopIteration") (b:=true) ⟨o,ho,hc⟩ isSubtype_stop ?_)
  exact wpAny_pure (hQ _ fun c o hc' x=>k c o (fun q=>hc' (by simp [q])) (fun q=>hc' (by simp [q])) (fun q=>hc' (by simp [q])) (fun q=>hc' (by simp [q])) x)
 refine wpAny_bind (wpAny_attempt (wpAny_callSpecial?_slot (name:=Str.ofString "__next__") hT F.slot_zip_next (wpAny_call_entry F.slot_zip_next hT F.entry_zip_next ?_ (F.args_zip_next_1 _))))
 refine wpAny_bind (m:=field (.ref z) 2) (wpAny_field hz rfl (x:=.bool false) rfl ?_)
 refine wpAny_bind (m:=field (.ref z) 3) (wpAny_field hz rfl (x:=.ref TI) rfl ?_)
 refine wpAny_bind (wpAny_seqItems hTI rfl ?_)
 refine wpAny_bind (m:=Builtin.SmallTypes.ownedTupleIsFree (.ref z)) ?_
 unfold Builtin.SmallTypes.ownedTupleIsFree
 refine wpAny_bind (wpAny_field hz rfl (x:=.none) rfl (wpAny_pure ?_))
 simp only [if_true]
 refine wpAny_bind (wpAny_rule ?_)
 refine wpAny_bind (wpAny_field hz rfl (x:=.ref TO) rfl ?_)
 refine wpAny_bind (wpAny_setField_rec hz (by simp) fun ha hza hsa=>?_)
 replace hza:IsZip ha z TI TO .ellipsis:=hza
 refine wpAny_bind ?_
 simp only [List.zipIdx_cons,List.zipIdx_nil,List.forIn_cons,List.forIn_nil]
 refine wpAny_bind (wpAny_bind (wpAny_onRaise ?_))
 cases hx:xs[k]? with
 | none =>
  refine wpAny_bind (m:=Builtin.SmallTypes.nextOf (.ref i1)) (nx_end (s:={ s with heap:=ha }) hh (h1.ext hsa D.i1z D.l1z) hx fun hb e hsb he=>?_)
  obtain ⟨oe,hoe,hce⟩:=he
  have hzb:IsZip hb z TI TO .ellipsis:=hsb _ _ D.i1z.symm hza
  have hez:e ≠ z:=fun q=>by subst q;rw [hzb] at hoe;cases hoe;simp at hce
  refine wpAny_setField_rec hzb (by simp) fun hc _ hsc=>fin hc e (fun c o n1 _ n3 _ q=>hsc.extBut _ _ n1 (hsb _ _ n3 (hsa.extBut _ _ n1 q))) ⟨oe,hsc.extBut _ _ hez hoe,hce⟩
 | some x =>
  have hy:ys[k]? = none:=by rcases hend with h | h;rw [hx] at h;cases h;exact h
  refine wpAny_bind (m:=Builtin.SmallTypes.nextOf (.ref i1)) (nx_item (s:={ s with heap:=ha }) (h1.ext hsa D.i1z D.l1z) D.l1i1 hx fun hb h1b hsb=>wpAny_pure ?_)
  have hTOb:IsPair hb TO a b:=hsb.extBut _ _ D.TOi1 (hsa.extBut _ _ D.TOz hTO)
  refine wpAny_bind (wpAny_seqItems hTOb rfl ?_)
  refine wpAny_bind (wpAny_updateSeq_pair hTOb fun hc hTOc hsc=>?_)
  refine wpAny_bind (wpAny_letGo (wpAny_pure ?_))
  refine wpAny_bind (wpAny_bind (wpAny_onRaise ?_))
  refine wpAny_bind (m:=Builtin.SmallTypes.nextOf (.ref i2)) (nx_end (s:={ s with heap:=hc }) hh (((h2.ext hsa D.i2z D.l2z).ext hsb D.i12.symm D.l2i1).ext hsc D.TOi2.symm D.l2TO) hy fun hd e hsd he=>?_)
  obtain ⟨oe,hoe,hce⟩:=he
  have hzd:IsZip hd z TI TO .ellipsis:=hsd _ _ D.i2z.symm (hsc.extBut _ _ D.TOz.symm (hsb.extBut _ _ D.i1z.symm hza))
  have hez:e ≠ z:=fun q=>by subst q;rw [hzd] at hoe;cases hoe;simp at hce
  refine wpAny_setField_rec hzd (by simp) fun he _ hse=>fin he e (fun c o n1 n2 n3 n4 q=>hse.extBut _ _ n1 (hsd _ _ n4 (hsc.extBut _ _ n2 (hsb.extBut _ _ n3 (hsa.extBut _ _ n1 q))))) ⟨oe,hse.extBut _ _ hez hoe,hce⟩
noncomputable abbrev zH1 (h:Heap) (c1:String) (l1:Addr):Heap:=h.push { cls:=.type c1,data:=.fields #[.ref l1,.int 0 0] }
noncomputable abbrev zH2 (h:Heap) (c1 c2:String) (l1 l2:Addr):Heap:=(zH1 h c1 l1).push { cls:=.type c2,data:=.fields #[.ref l2,.int 0 0] }
noncomputable abbrev zH3 (h:Heap) (c1 c2:String) (l1 l2:Addr):Heap:=(zH2 h c1 c2 l1 l2).push { cls:=.type "tuple",data:=.seq #[.ref h.objs.size,.ref (zH1 h c1 l1).objs.size] }
noncomputable abbrev zH4 (h:Heap) (c1 c2:String) (l1 l2:Addr):Heap:=(zH3 h c1 c2 l1 l2).push { cls:=.type "tuple",data:=.seq #[.none,.none] }
noncomputable abbrev zH5 (h:Heap) (c1 c2:String) (l1 l2:Addr):Heap:=(zH4 h c1 c2 l1 l2).push { cls:=.type "zip",data:=.fields #[.none,.bool false,.bool false,.ref (zH2 h c1 c2 l1 l2).objs.size,.ref (zH3 h c1 c2 l1 l2).objs.size] }
theorem meets_zip (c1 c2:String) (l1 l2:Addr) (xs ys:Array Value) :
  Meets (Builtin.«zip.__new__» ⟨[.type "zip",.ref l1,.ref l2],[]⟩) (fun _ R s=>SeqOf s.heap c1 l1 xs∧SeqOf s.heap c2 l2 ys∧R (.ok (.ret (.ref (zH4 s.heap c1 c2 l1 l2).objs.size))) { s with heap:=zH5 s.heap c1 c2 l1 l2 }) :=
 .of_wp fun prog w A R s h=>by
  obtain ⟨hp,g,d,tk,os⟩:=s
  obtain ⟨hl1,hl2,h⟩:=h
  have hsub:=PySem.sub_zip
  have hL1:SeqOf (Shared.heap ⟨hp,g,d,tk,os⟩) c1 l1 xs:=hl1
  have hL2:SeqOf (Shared.heap ⟨hp.push { cls:=.type c1,data:=.fields #[.ref l1,.int 0 0] },g,d,tk,os⟩) c2 l2 ys:=hl2.at fun o e=>Heap.get?_push_of_some _ e
  wp_walk using iter_any hL1,iter_any hL2
  exact ⟨_,rfl,h⟩
theorem call_zip {c1 c2:String} {l1 l2:Addr} {xs ys:Array Value} {Q:Value→Shared→Prop} (hl1:SeqOf s.heap c1 l1 xs) (hl2:SeqOf s.heap c2 l2 ys)
  (h:∀ h',Zs h' (s.heap.objs.size + 4) (s.heap.objs.size + 2) (s.heap.objs.size + 3) s.heap.objs.size (s.heap.objs.size + 1) c1 c2 l1 l2 xs ys 0→h'.objs.size=s.heap.objs.size + 5 →
   (∀ c o,s.heap.get? c=some o→h'.get? c=some o)→Q (.ref (s.heap.objs.size + 4)) { s with heap:=h' }):wpAny (model prog w) A (call (.type "zip") [.ref l1,.ref l2]) Q E s:=by
 refine callType_new F.called_zip (by decide) (F.typeCall_zip_2 _ _) (F.newCall_zip_2 _ _) (fun obj=>F.args_object_init_3 obj _ _) F.entry_zip_new (meets_zip c1 c2 l1 l2 xs ys) ⟨hl1,hl2,?_⟩
 have z1:(zH1 s.heap c1 l1).objs.size=s.heap.objs.size + 1:=Heap.size_push ..
 have z2:(zH2 s.heap c1 c2 l1 l2).objs.size=s.heap.objs.size + 2:=by rw [Heap.size_push,z1]
 have z3:(zH3 s.heap c1 c2 l1 l2).objs.size=s.heap.objs.size + 3:=by rw [Heap.size_push,z2]
 have z4:(zH4 s.heap c1 c2 l1 l2).objs.size=s.heap.objs.size + 4:=by rw [Heap.size_push,z3]
 have z5:(zH5 s.heap c1 c2 l1 l2).objs.size=s.heap.objs.size + 5:=by rw [Heap.size_push,z4]
 have g5:(zH5 s.heap c1 c2 l1 l2).get? (zH4 s.heap c1 c2 l1 l2).objs.size=some _:=Heap.get?_push_size _ rfl
 have g4:(zH5 s.heap c1 c2 l1 l2).get? (zH3 s.heap c1 c2 l1 l2).objs.size=some _:=Heap.get?_push_of_some _ (Heap.get?_push_size _ rfl)
 have g3:(zH5 s.heap c1 c2 l1 l2).get? (zH2 s.heap c1 c2 l1 l2).objs.size=some _:=Heap.get?_push_of_some _ (Heap.get?_push_of_some _ (Heap.get?_push_size _ rfl))
 have g2:(zH5 s.heap c1 c2 l1 l2).get? (zH1 s.heap c1 l1).objs.size=some _:=Heap.get?_push_of_some _ (Heap.get?_push_of_some _ (Heap.get?_push_of_some _ (Heap.get?_push_size _ rfl)))
 have g1:(zH5 s.heap c1 c2 l1 l2).get? s.heap.objs.size=some _:=Heap.get?_push_of_some _ (Heap.get?_push_of_some _ (Heap.get?_push_of_some _ (Heap.get?_push_of_some _ (Heap.get?_push_size _ rfl))))
 show _∧_
 rw [z2,z3,z4] at g5
 rw [z1,z2] at g3
 rw [z3] at g4
 rw [z1] at g2
 rw [z4]
 have old:∀ c o,s.heap.get? c=some o→(zH5 s.heap c1 c2 l1 l2).get? c=some o:=fun c o x=>Heap.get?_push_of_some _ (Heap.get?_push_of_some _ (Heap.get?_push_of_some _ (Heap.get?_push_of_some _ (Heap.get?_push_of_some _ x))))
 refine ⟨⟨_,g5,rfl⟩,h _ ⟨g5,g3,⟨_,_,g4⟩,?_,?_⟩ z5 old⟩
 ·rcases hl1 with ⟨rfl,x⟩ | ⟨rfl,x⟩
  ·exact .inl ⟨rfl,⟨_,g1,rfl,rfl⟩,x.at fun o e=>old _ o e⟩
  ·exact .inr ⟨rfl,⟨_,g1,rfl,rfl⟩,x.at fun o e=>old _ o e⟩
 ·rcases hl2 with ⟨rfl,x⟩ | ⟨rfl,x⟩
  ·exact .inl ⟨rfl,⟨_,g2,rfl,rfl⟩,x.at fun o e=>old _ o e⟩
  ·exact .inr ⟨rfl,⟨_,g2,rfl,rfl⟩,x.at fun o e=>old _ o e⟩
end
end L2
end
section
set_option Elab.async false
set_option linter.all false
set_option maxRecDepth 100000
namespace L2
open PySem PySem.Spec PyProof.Rows
theorem Inv.turnedT {X:Cx} {pins:List (Addr × Obj)} {σ:St} {H:Hp} {s:Shared} {fp:List Addr} {h':Heap} {T:Addr} {xs:List V} {us:List Value} {t':Nat} (I:Inv X pins σ H s) (f:∀ b ∈ fp,FpOk X pins H b)
  (k:∀ c o,c ∉ fp→s.heap.get? c=some o→h'.get? c=some o) (hT:s.heap.objs.size ≤ T) (hz:xs.length ≤ sizeLine) (r:Vals xs us) (hp:IsTup h' T us.toArray) (hTf:T ∉ fp) :
  Inv X pins σ (upd H T (.tup xs)) { s with heap:=h',toks:=t' }:=by
 have hn:H T=none:=I.hok.fresh hT
 have nfp:∀ a o,H a=some o→a ∉ fp:=fun a o e hb=>by have:=(f a hb).1;rw [e] at this;cases this
 have hTn:∀ b o,s.heap.get? b=some o→b ≠ T:=fun b o e=>Nat.ne_of_lt (Nat.lt_of_lt_of_le (Heap.lt_size e) hT)
 refine I.call' (s':={ s with heap:=h',toks:=t' }) (ch:=fp) rfl ⟨fun b o q n _ hx=>k b o hx q,fun b o q n _ hx=>⟨o.slots,k b o hx q⟩,fun b o q n _=>by rw [upd_ne (hTn b o q)];exact n,fun b o q hx=>⟨o,k b o hx q⟩,
  fun b ys q=>by rw [upd_ne (ne_of_none q hn)];exact q,fun b o ys q=>by rw [upd_ne (ne_of_none q hn)];exact q,fun b ps q=>⟨#[],by rw [upd_ne (ne_of_none q hn),q];simp⟩⟩ (fun a o e=>?_) I.bare (fun b hb=>?_)
 ·by_cases ha:a=T
  ·subst ha
   rw [upd_same] at e
   cases e
   exact ⟨hz,us,r,hp⟩
  ·rw [upd_ne ha] at e
   refine (I.hok a o e).stay (fun b u hb q=>k b u ?_ q) (fun b q=>by rw [upd_ne (ne_of_none q hn)];exact q) fun b ys q=>by rw [upd_ne (ne_of_none q hn)];exact q
   rcases hb with rfl | hb
   ·exact nfp b o e
   ·exact nfp b _ hb
 ·obtain ⟨f0,f1,f2,f3,f4,f5⟩:=f b hb
  exact ⟨f3,f1,f4,f5⟩
theorem Inv.turnedN {X:Cx} {pins:List (Addr × Obj)} {σ:St} {H:Hp} {s:Shared} {fp:List Addr} {h':Heap} {t':Nat} (I:Inv X pins σ H s) (f:∀ b ∈ fp,FpOk X pins H b)
  (k:∀ c o,c ∉ fp→s.heap.get? c=some o→h'.get? c=some o):Inv X pins σ H { s with heap:=h',toks:=t' }:=by
 have nfp:∀ a o,H a=some o→a ∉ fp:=fun a o e hb=>by have:=(f a hb).1;rw [e] at this;cases this
 refine I.call' (s':={ s with heap:=h',toks:=t' }) (ch:=fp) rfl ⟨fun b o q n _ hx=>k b o hx q,fun b o q n _ hx=>⟨o.slots,k b o hx q⟩,fun b o q n _=>n,fun b o q hx=>⟨o,k b o hx q⟩,fun b ys q=>q,fun b o ys q=>q,fun b ps q=>⟨#[],by rw [q];simp⟩⟩ (fun a o e=>?_) I.bare (fun b hb=>?_)
 ·refine (I.hok a o e).stay (fun b u hb q=>k b u ?_ q) (fun b q=>q) fun b ys q=>q
  rcases hb with rfl | hb
  ·exact nfp b o e
  ·exact nfp b _ hb
 ·obtain ⟨f0,f1,f2,f3,f4,f5⟩:=f b hb
  exact ⟨f3,f1,f4,f5⟩
noncomputable def SqC (H:Hp) (c:String) (a:Addr) (xs:List V):Prop:=(c = "list_iterator" ∧ H a=some (.lst xs))∨(c = "tuple_iterator" ∧ H a=some (.tup xs))
theorem Inv.seqOf {X:Cx} {pins:List (Addr × Obj)} {σ:St} {H:Hp} {s:Shared} {c:String} {a:Addr} {xs:List V} (I:Inv X pins σ H s) (h:SqC H c a xs):∃ its:List Value,Vals xs its∧SeqOf s.heap c a its.toArray:=by
 rcases h with ⟨rfl,h⟩ | ⟨rfl,h⟩
 ·obtain ⟨its,r,p,_⟩:=I.list (SqL.of h)
  exact ⟨its,r,.inl ⟨rfl,p.isList⟩⟩
 ·obtain ⟨its,r,p,_⟩:=I.tuple (SqT.of h)
  exact ⟨its,r,.inr ⟨rfl,p⟩⟩
noncomputable def Itz (c1 c2:String) (a b:Addr) (xs ys:List V):It :=
 ⟨fun i H=>SqC H c1 a xs∧SqC H c2 b ys∧i < xs.length∧i < ys.length,fun i H x H'=>∃ T u v,x = .ref T∧H T=none∧H'=upd H T (.tup [u,v])∧xs[i]? = some u∧ys[i]? = some v,fun i H=>SqC H c1 a xs∧SqC H c2 b ys∧(xs.length ≤ i∨ys.length ≤ i)⟩
structure Zt (h:Heap) (z TI TO i1 i2:Addr) (c1 c2:String) (l1 l2:Addr) (k:Nat):Prop where
 zip:IsZip h z TI TO .none
 ti:IsPair h TI (.ref i1) (.ref i2)
 to:∃ a b,IsPair h TO a b
 s1:(c1 = "list_iterator" ∧ h.IsListIter i1 l1 k)∨(c1 = "tuple_iterator" ∧ h.IsTupleIter i1 l1 k)
 s2:(c2 = "list_iterator" ∧ h.IsListIter i2 l2 k)∨(c2 = "tuple_iterator" ∧ h.IsTupleIter i2 l2 k)
theorem src_of {h:Heap} {c:String} {it l:Addr} {xs:Array Value} {k:Nat} (a:(c = "list_iterator" ∧ h.IsListIter it l k)∨(c = "tuple_iterator" ∧ h.IsTupleIter it l k)) (b:SeqOf h c l xs):Src h c it l xs k:=by
 rcases a with ⟨rfl,a⟩ | ⟨rfl,a⟩ <;> rcases b with ⟨e,b⟩ | ⟨e,b⟩
 ·exact .inl ⟨rfl,a,b⟩
 ·exact absurd e (by decide)
 ·exact absurd e (by decide)
 ·exact .inr ⟨rfl,a,b⟩
theorem of_src {h:Heap} {c:String} {it l:Addr} {xs:Array Value} {k:Nat} (a:Src h c it l xs k):(c = "list_iterator" ∧ h.IsListIter it l k)∨(c = "tuple_iterator" ∧ h.IsTupleIter it l k):=by
 rcases a with ⟨e,a,_⟩ | ⟨e,a,_⟩
 ·exact .inl ⟨e,a⟩
 ·exact .inr ⟨e,a⟩
theorem it_at {h h':Heap} {c:String} {it l:Addr} {k:Nat} (a:(c = "list_iterator" ∧ h.IsListIter it l k)∨(c = "tuple_iterator" ∧ h.IsTupleIter it l k)) (q:∀ o,h.get? it=some o→h'.get? it=some o):(c = "list_iterator" ∧ h'.IsListIter it l k)∨(c = "tuple_iterator" ∧ h'.IsTupleIter it l k):=by
 rcases a with ⟨e,o,a,r⟩ | ⟨e,o,a,r⟩
 ·exact .inl ⟨e,o,q o a,r⟩
 ·exact .inr ⟨e,o,q o a,r⟩
theorem it_obj {h:Heap} {c:String} {it l:Addr} {k:Nat} (a:(c = "list_iterator" ∧ h.IsListIter it l k)∨(c = "tuple_iterator" ∧ h.IsTupleIter it l k)):∃ o,h.get? it=some o∧∀ v,o.data ≠ .cell v:=by
 rcases a with ⟨_,o,e,_,d⟩ | ⟨_,o,e,_,d⟩ <;> exact ⟨o,e,fun v z=>by rw [d] at z;cases z⟩
theorem mm1 {α:Type} {a b:α} {l:List α}:b ∈ a :: b :: l:=.tail _ (.head _)
theorem mm2 {α:Type} {a b c:α} {l:List α}:c ∈ a :: b :: c :: l:=.tail _ mm1
theorem mm3 {α:Type} {a b c d:α} {l:List α}:d ∈ a :: b :: c :: d :: l:=.tail _ mm2
theorem mm4 {α:Type} {a b c d e:α} {l:List α}:e ∈ a :: b :: c :: d :: e :: l:=.tail _ mm3
theorem mm45 {α:Type} {c z t:α} {l:List α} (h:c ∈ z :: l):c ∈ z :: t :: l:=by
 cases h with
 | head=>exact .head _
 | tail _ h=>exact .tail _ (.tail _ h)
theorem arr_none {α:Type} {l:List α} {n i:Nat} (e:n=l.length) (q:n ≤ i):l.toArray[i]? = none:=by subst e;simp;omega
theorem dat_f {v:Option Value} {xs:Array Value}:Data.fields xs ≠ Data.cell v:=fun q=>by cases q
theorem zt_obj {h:Heap} {z TI TO i1 i2 l1 l2:Addr} {c1 c2:String} {i:Nat} (st:Zt h z TI TO i1 i2 c1 c2 l1 l2 i):∀ b ∈ [z,TI,TO,i1,i2],∃ o,h.get? b=some o∧∀ v,o.data ≠ .cell v:=by
 obtain ⟨hz,hti,⟨a,c,hto⟩,h1,h2⟩:=st
 exact List.forall_mem_cons.2 ⟨⟨_,hz,fun _=>dat_f⟩,List.forall_mem_cons.2 ⟨⟨_,hti,fun v q=>by cases (show Data.seq _ _=Data.cell v from q)⟩,List.forall_mem_cons.2 ⟨⟨_,hto,fun v q=>by cases (show Data.seq _ _=Data.cell v from q)⟩,List.forall_mem_cons.2 ⟨it_obj h1,List.forall_mem_cons.2 ⟨it_obj h2,fun _ q=>nomatch q⟩⟩⟩⟩⟩
theorem ob_lt {h:Heap} {fp:List Addr} (k:∀ b ∈ fp,∃ o,h.get? b=some o∧∀ v,o.data ≠ .cell v):∀ b ∈ fp,b < h.objs.size:=fun b hb=>let ⟨_,e,_⟩:=k b hb;Heap.lt_size e
theorem turn_zip {P:Program} {w:World} {K:PySem.W.Frag} {es:List Expr} {tk:_} {tp:Pos} (z TI TO i1 i2 l1 l2:Addr) (c1 c2:String) (xs ys:List V) (D:ZipApart z TI TO i1 i2 l1 l2) :
  Turn P w K (.Tuple es tk tp) (Itz c1 c2 l1 l2 xs ys) [z,TI,TO,i1,i2] z (fun i h=>Zt h z TI TO i1 i2 c1 c2 l1 l2 i) where
 mem:=.head _
 obj:=fun i h st=>zt_obj st
 keep:=fun i h h' st k=>by
  obtain ⟨hz,hti,⟨a,c,hto⟩,h1,h2⟩:=st
  exact ⟨k z (.head _) _ hz,k TI mm1 _ hti,⟨a,c,k TO mm2 _ hto⟩,it_at h1 fun o e=>k i1 mm3 o e,it_at h2 fun o e=>k i2 mm4 o e⟩
 item:=by
  intro X hP hw hK hc i pins s σ H E I hf st hg
  subst hP hw hK
  obtain ⟨q1,q2,hi1,hi2⟩:=hg
  obtain ⟨its1,r1,e1⟩:=I.seqOf q1
  obtain ⟨its2,r2,e2⟩:=I.seqOf q2
  obtain ⟨x,hx⟩:=getlen hi1
  obtain ⟨y,hy⟩:=getlen hi2
  obtain ⟨u,hu,ru⟩:=r1.get hx
  obtain ⟨v,hv,rv⟩:=r2.get hy
  obtain ⟨hz,hti,hto,h1,h2⟩:=id st
  refine zs_item D ⟨hz,hti,hto,src_of h1 e1,src_of h2 e2⟩ (by simpa using hu) (by simpa using hv) fun h' z' ti' to' s1' s2' new szn k=>?_
  have kk:∀ c o,c ∉ [z,TI,TO,i1,i2]→s.heap.get? c=some o→h'.get? c=some o:=fun c o hc e=>k c o (fun q=>hc (mm45 q)) e
  have lt:=ob_lt (zt_obj st)
  refine ⟨_,rfl,wpAny_letOwnedTupleGo_zip z' fun h'' z'' sb=>?_⟩
  have nT:s.heap.objs.size ∉ [z,TI,TO,i1,i2]:=fun hb=>Nat.lt_irrefl _ (lt _ hb)
  have nTz:s.heap.objs.size ≠ z:=fun q=>nT (q ▸ .head _)
  have J:=I.turnedT (fp:=[z,TI,TO,i1,i2]) (h':=h'') (T:=s.heap.objs.size) (xs:=[x,y]) (us:=[u,v]) (t':=s.toks) hf (fun c o hc e=>sb.extBut _ _ (fun q=>hc (q ▸ .head _)) (kk c o hc e)) (Nat.le_refl _) (by show 2 ≤ sizeLine;decide) (.cons ru (.cons rv .nil))
   ⟨_,sb.extBut _ _ nTz new,rfl,_,rfl⟩ nT
  refine ⟨.ref s.heap.objs.size,_,J,rfl,⟨_,x,y,rfl,I.hok.fresh (Nat.le_refl _),rfl,hx,hy⟩,⟨z'',sb.extBut _ _ D.TIz ti',⟨_,_,sb.extBut _ _ D.TOz to'⟩,it_at (of_src s1') fun o e=>sb.extBut _ _ D.i1z e,it_at (of_src s2') fun o e=>sb.extBut _ _ D.i2z e⟩,fun b hb=>?_⟩
  rw [upd_ne (Nat.ne_of_lt (lt b hb))]
  exact (hf b hb).1
 done:=by
  intro X hP hw hK hc i pins s σ H E I hf st hg
  subst hP hw hK
  obtain ⟨q1,q2,hend⟩:=hg
  obtain ⟨its1,r1,e1⟩:=I.seqOf q1
  obtain ⟨its2,r2,e2⟩:=I.seqOf q2
  obtain ⟨hz,hti,hto,h1,h2⟩:=id st
  refine zs_end (I.ok.hd hc) D ⟨hz,hti,hto,src_of h1 e1,src_of h2 e2⟩ (hend.imp (arr_none r1.length) (arr_none r2.length)) fun h' k=>?_
  exact ⟨rfl,I.turnedN (fp:=[z,TI,TO,i1,i2]) hf fun c o hc e=>k c o (fun q=>hc (mm45 q)) e⟩
 self:=fun A i s Q E st h=>wpAny_pyIter_zip st.zip h
end L2
end
section
set_option Elab.async false
set_option linter.all false
set_option maxRecDepth 100000
namespace L2
open PySem PySem.Spec PyProof.Rows
theorem bt_zip:bootBuiltins "zip" = some (.type "zip"):=by decide +kernel
section
variable {X:Cx}
noncomputable def iZip (ta:TA):TI:=fun σ H R=>ta σ H fun vs H1=>∃ a b c1 c2 xs ys,vs=[.ref a,.ref b]∧SqC H1 c1 a xs∧SqC H1 c2 b ys∧R (Itz c1 c2 a b xs ys) H1
theorem pi_zip {es:List Expr} {kk:_} {tp:Pos} {a b:Expr} {ta:TA} {p pos:Pos} (hg:Gl X "zip") (hm:X.mg "zip" = none) (ha:PA X [a,b] ta) (hs:starEach [a,b] X.env=[(false,eval a X.env),(false,eval b X.env)]:=by rfl) (hs2:starEach [b] X.env=[(false,eval b X.env)]:=by rfl) :
  PI X (.Tuple es kk tp) (.Call (.Name "zip" p) [a,b] [] pos) (iZip ta):=by
 intro pins s σ H R I h
 refine Call_ (ld_blt I hg hm bt_zip (PyProof.Rows.callWith_type1 (thn (ha pos pins s σ H _ I h) fun us s1 ⟨vs,H1,I1,r1,q1⟩=>?_) (by rw [hs,hs2]) (by rw [hs2];rfl)))
 obtain ⟨l1,l2,c1,c2,xs,ys,e,k1,k2,q⟩:=q1
 subst e
 obtain ⟨u1,u2,rfl,e1,e2⟩:=r1.two
 cases e1
 cases e2
 obtain ⟨its1,v1,o1⟩:=I1.seqOf k1
 obtain ⟨its2,v2,o2⟩:=I1.seqOf k2
 have lt1:(l1:Nat) < (s1.heap.objs.size:Nat):=o1.lt
 have lt2:(l2:Nat) < (s1.heap.objs.size:Nat):=o2.lt
 refine call_zip o1 o2 fun h' Z sz old=>wpAny_pyIter_zip Z.zip ?_
 have D:ZipApart (s1.heap.objs.size + 4) (s1.heap.objs.size + 2) (s1.heap.objs.size + 3) s1.heap.objs.size (s1.heap.objs.size + 1) l1 l2:=PySem.W.ktu_apart _ _ _ o1.lt o2.lt
 have J:Inv X pins σ H1 { s1 with heap:=h' }:=I1.kept (t':=s1.toks) old
 refine ⟨s1.heap.objs.size + 4,_,_,_,H1,rfl,J,turn_zip _ _ _ _ _ l1 l2 c1 c2 xs ys D,⟨Z.zip,Z.ti,Z.to,of_src Z.s1,of_src Z.s2⟩,fun b hb=>?_,q⟩
 have hb':s1.heap.objs.size ≤ b:=by
  simp only [List.mem_cons,List.not_mem_nil,or_false] at hb
  rcases hb with rfl | rfl | rfl | rfl | rfl <;> omega
 exact I1.fpOk hb' (I1.hok.fresh hb')
theorem a_iZip {ta:TA} {σ:St} {H:Hp} {R:It→Hp→Prop}:iZip ta σ H R=ta σ H fun vs H1=>∃ a b c1 c2 xs ys,vs=[.ref a,.ref b]∧SqC H1 c1 a xs∧SqC H1 c2 b ys∧R (Itz c1 c2 a b xs ys) H1:=rfl
end
theorem cl_zip {c1 c2:String} {a b:Addr} {xs ys:List V} {g:TG} {tc:TT} {tb:TB} {D:St→Hp→Prop} {σ:St} {H:Hp} (Pv:Nat→St→Hp→Prop) (h0:Pv 0 σ H) (hl:∀ i σ H,Pv i σ H→SqC H c1 a xs∧SqC H c2 b ys)
  (hs:∀ (i:Nat) u v (T:Addr) σ H H',xs[i]? = some u→ys[i]? = some v→Pv i σ H→H T=none→Same H H'→H' T=some (.tup [u,v])→g (.ref T) σ H' fun σ2 H2=>tc σ2 H2 fun b H3=>if b=true then tb σ2 H3 (Pv (i + 1)) else Pv (i + 1) σ2 H3)
  (hd:∀ σ H,Pv (min xs.length ys.length) σ H→D σ H):tCL (Itz c1 c2 a b xs ys) g tc tb D σ H:=by
 refine ⟨fun i m σ H=>m=min xs.length ys.length - i∧i ≤ min xs.length ys.length∧Pv i σ H,⟨min xs.length ys.length,by simp,Nat.zero_le _,h0⟩,?_⟩
 rintro i m σ H ⟨rfl,hi,p⟩
 obtain ⟨q1,q2⟩:=hl i σ H p
 by_cases hlt:i < min xs.length ys.length
 ·refine .inr ⟨⟨q1,q2,by omega,by omega⟩,Pv (i + 1),fun σ' H' p'=>⟨min xs.length ys.length - (i + 1),by omega,rfl,hlt,p'⟩,fun x H' y=>?_⟩
  obtain ⟨T,u,v,rfl,n,rfl,e1,e2⟩:=y
  exact hs i u v T σ H _ e1 e2 p n (same_upd n) upd_same
 ·have e:i=min xs.length ys.length:=by omega
  subst e
  exact .inl ⟨⟨q1,q2,by omega⟩,hd σ H p⟩
section
variable {X:Cx}
noncomputable def tSortR (ta:TA) (tk:TA):TE:=fun σ H Q=>ta σ H fun vs H1=>tk σ H1 fun zs H2=>∃ (p:Addr) (ns:List Int) (b:Bool),vs=[.ref p]∧zs=[.bl b]∧H2 p=some (.lst (ns.map V.int))∧ns.length < 64 ∧
 ∀ (l:Addr) (ms:List Int),H2 l=none→ms.Perm ns→Ordered b ms→Q (.ref l) (upd H2 l (.lst (ms.map V.int)))
theorem pe_sortR {e kv:Expr} {ta tk:TA} {p pos kpos:Pos} (hg:Gl X "sorted") (hm:X.mg "sorted" = none) (ha:PA X [e] ta) (hk:PK X [⟨some "reverse",kv,kpos⟩] tk)
  (hb1:backTo pos (starEach [e] X.env)=(false,eval e X.env) :: backTo pos (starEach [] X.env):=by rfl) (hb2:(backTo pos (starEach [e] X.env)).any (·.1)=false:=by rfl):PE X (.Call (.Name "sorted" p) [e] [⟨some "reverse",kv,kpos⟩] pos) (tSortR ta tk):=by
 intro pins s σ H Q I h
 refine wpAny_Call_Name_kw (ld_blt I hg hm bt_sorted ?_)
 refine callWith_kw (thn (ha pos pins s σ H _ I h) fun us s1 ⟨vs,H1,I1,r1,q1⟩=>?_) hb1 hb2 (by rfl) (by rfl)
 refine thn (hk pos pins s1 σ H1 _ I1 q1) fun ws s2 ⟨zs,H2,I2,r2,q2⟩=>?_
 obtain ⟨l,ns,b,rfl,rfl,hl,h64,q⟩:=q2
 obtain ⟨u,rfl,ru⟩:=r1.one
 cases ru
 obtain ⟨v,rfl,rv⟩:=r2.one
 cases (show v=Value.bool b from rv)
 obtain ⟨its,vi,pl,hz⟩:=I2.list (SqL.of hl)
 have hlen:=vi.length
 rw [List.length_map] at hlen
 refine sorted_ints_rev (vs:=its) (ns:=ns) (b:=b) pl.isList (intsAre_of vi) (by omega) fun out ms h1 h2 h3=>?_
 have hf:H2 (s2.heap.objs.size + 1)=none:=I2.hok.fresh (Nat.le_succ _)
 obtain ⟨e',he'⟩:=sortedAll_at s2.heap its out
 have hml:ms.length=ns.length:=h2.length_eq
 refine ⟨.ref (s2.heap.objs.size + 1),_,I2.laid (o:=.lst (ms.map V.int)) (t':=s2.toks) (fun b u e=>sortedAll_old e) (Nat.le_succ _) ?_,rfl,q _ ms hf h2 h3⟩
 exact ⟨by rw [List.length_map,hml];rw [List.length_map] at hz;exact hz,out.toList,e',vals_ints h1,by simpa [seqObj] using he'⟩
theorem a_tSortR {ta tk:TA} {σ:St} {H:Hp} {Q:VK}:tSortR ta tk σ H Q=ta σ H fun vs H1=>tk σ H1 fun zs H2=>∃ (p:Addr) (ns:List Int) (b:Bool),vs=[.ref p]∧zs=[.bl b]∧H2 p=some (.lst (ns.map V.int))∧ns.length < 64 ∧
 ∀ (l:Addr) (ms:List Int),H2 l=none→ms.Perm ns→Ordered b ms→Q (.ref l) (upd H2 l (.lst (ms.map V.int))):=rfl
noncomputable def rSlL0:V→Option Int→Option Int→Hp→VK→Prop:=fun x lo hi H Q=>∃ a xs,x = .ref a∧H a=some (.lst xs)∧∀ p,H p=none→Q (.ref p) (upd H p (.lst (cutV xs lo hi)))
theorem slL0:SlR X rSlL0:=fun pins s σ H x v vl vu lo hi sl Q I rx hs pl pu h=>by
 obtain ⟨a,xs,e,k,q⟩:=h
 exact sl_list pins s σ H x v vl vu lo hi sl Q I rx hs pl pu ⟨a,xs,e,SqL.of k,q⟩
theorem a_tSl {r:V→Option Int→Option Int→Hp→VK→Prop} {te:TE} {tl th:TO} {σ:St} {H:Hp} {Q:VK}:tSl r te tl th σ H Q=te σ H fun x H1=>tl σ H1 fun l H2=>th σ H2 fun u H3=>r x l u H3 Q:=rfl
theorem a_rSlL0 {x:V} {lo hi:Option Int} {H:Hp} {Q:VK}:rSlL0 x lo hi H Q = ∃ a xs,x = .ref a∧H a=some (.lst xs)∧∀ p,H p=none→Q (.ref p) (upd H p (.lst (cutV xs lo hi))):=rfl
theorem a_tNoPart {σ:St} {H:Hp} {q:Option Int→Hp→Prop}:tNoPart σ H q=q none H:=rfl
theorem a_tPart {t:TE} {σ:St} {H:Hp} {q:Option Int→Hp→Prop}:tPart t σ H q=t σ H fun x H1=>∃ i,x = .int i∧q (some i) H1:=rfl
noncomputable def tApp (to:TE) (t:TA):TE:=fun σ H Q=>to σ H fun x H1=>∃ l xs0,x = .ref l∧H1 l=some (.lst xs0)∧t σ H1 fun vs H2=>∃ xs y,vs=[y]∧H2 l=some (.lst xs)∧xs.length < sizeLine∧Q .non (upd H2 l (.lst (xs ++ [y])))
theorem pe_append {o e:Expr} {to:TE} {t:TA} {apos cpos:Pos} (ho:PE X o to) (ha:PA X [e] t) (hbase:attributeBase o "append" X.env (eval o X.env)=eval o X.env:=by rfl)
  (hfew:((backTo cpos (starEach [e] X.env)).all (fun x=>!x.1) && (backToKw cpos (keywordEach [] X.env)).all (fun x=>x.1.isSome) && decide ([e].length + ([] : List Keyword).length + (if ([] : List Keyword).isEmpty then 0 else 1) < 30))=true:=by rfl)
  (hline:(apos.endLine == cpos.line)=true:=by rfl) (hs:starEach [e] X.env=(false,eval e X.env) :: starEach [] X.env:=by rfl):PE X (.Call (.Attribute o "append" apos) [e] [] cpos) (tApp to t):=by
 intro pins s σ H Q I h
 refine wpAny_Call_method_late hbase hfew hline rfl (thn (ho pins s σ H _ I h) fun v s1 ⟨x,H1,I1,r1,q1⟩=>?_)
 obtain ⟨l,xs0,rfl,hl,q1⟩:=q1
 have ty:tyV X.K "list" (.ref l) H1:=.inl ⟨rfl,_,SqL.of hl⟩
 obtain ⟨h1,h2⟩:=tyV_is I1 r1 ty
 refine ⟨"list", "list.append",PySem.F.plainAttrs_list,PySem.F.slot_list_append,PySem.F.type_list_append,h1,h2,?_⟩
 have hA:=ha cpos pins s1 σ H1 _ I1 q1
 rw [hs] at hA ⊢
 refine Calls.callWith_builtin (by rfl) (Calls.evalArgs_plain ?_)
 exact thn hA fun us s2 ⟨vs,H2,I2,r2,xs,y,e,k,z,q⟩=>mt_append pins s2 σ H2 (.ref l) vs v us Q I2 r1 r2 ⟨l,xs,y,rfl,e,k,z,q⟩
theorem a_tApp {to:TE} {t:TA} {σ:St} {H:Hp} {Q:VK}:tApp to t σ H Q=to σ H fun x H1=>∃ l xs0,x = .ref l∧H1 l=some (.lst xs0)∧t σ H1 fun vs H2=>∃ xs y,vs=[y]∧H2 l=some (.lst xs)∧xs.length < sizeLine∧Q .non (upd H2 l (.lst (xs ++ [y]))):=rfl
end
end L2
end
section
set_option Elab.async false
set_option linter.all false
set_option maxRecDepth 100000
namespace L2
open PySem PySem.Spec PyProof.Rows
section
variable {X:Cx}
noncomputable def insV (xs:List V) (i:Nat) (y:V):List V:=xs.take i ++ y :: xs.drop i
theorem insV_len (xs:List V) (i:Nat) (y:V):(insV xs i y).length=xs.length + 1:=by
 unfold insV
 rw [List.length_append,List.length_cons,List.length_take,List.length_drop]
 omega
noncomputable def rIns:V→List V→Hp→VK→Prop:=fun x vs H Q=>∃ l xs y,∃ i:Nat,x = .ref l∧vs=[.int (i:Int),y]∧H l=some (.lst xs)∧i ≤ xs.length∧xs.length < sizeLine∧Q .non (upd H l (.lst (insV xs i y)))
theorem ins_arr (its:List Value) (i:Nat) (u:Value) (hi:i ≤ its.length) :
  (fun xs:Array Value=>have k:=if ((i:Int)) < 0 then ((i:Int) + ((xs.size:Nat):Int)).toNat else min (i:Int).toNat xs.size;(xs.extract 0 k).push u ++ xs.extract k) its.toArray=(its.take i ++ u :: its.drop i).toArray:=by
 have e:(if ((i:Int)) < 0 then ((i:Int) + ((its.toArray.size:Nat):Int)).toNat else min (i:Int).toNat its.toArray.size)=i:=by
  rw [if_neg (by omega),Int.toNat_natCast,List.size_toArray]
  omega
 show (its.toArray.extract 0 (if ((i:Int)) < 0 then ((i:Int) + ((its.toArray.size:Nat):Int)).toNat else min (i:Int).toNat its.toArray.size)).push u ++ its.toArray.extract (if ((i:Int)) < 0 then ((i:Int) + ((its.toArray.size:Nat):Int)).toNat else min (i:Int).toNat its.toArray.size)=_
 rw [e]
 apply Array.toList_inj.mp
 simp
 rw [List.take_of_length_le]
 rw [List.length_drop]
 omega
theorem mt_ins:MtM X "list.insert" rIns:=by
 intro pins s σ H x vs v us Q I rx rv h
 obtain ⟨l,xs,y,i,rfl,rfl,hH,hi,hz,q⟩:=h
 cases rx
 obtain ⟨a,b,rfl,ra,rb⟩:=rv.two
 obtain ⟨t,rfl⟩:=ra
 obtain ⟨z,its,n,r,hl,e⟩:=I.lstM hH
 have hlt:(i:Int) < 2 ^ 63:=by
  have:(sizeLine:Nat) < 2 ^ 62:=by rw [sizeLine_eq];decide
  omega
 have h0 : -2 ^ 63 ≤ (i:Int):=by
  have:(0:Int) ≤ i:=Int.natCast_nonneg i
  omega
 have hfit:Builtin.List.listFitsIndex (i:Int)=true:=fitsIndex_both h0 hlt
 have ia:=ins_arr its i b (by omega)
 generalize (i:Int)=x at hfit ia ⊢
 have hf:¬ (!Builtin.List.listFitsIndex x)=true:=by rw [hfit];exact Bool.false_ne_true
 refine call_meets F.slot_list_insert ⟨_,e,rfl⟩ F.entry_list_insert (F.args_list_insert_3 _ _ _) (AutoSeq1.list_insert_list_int_val_1 l its.toArray n x t b hf (by rw [List.size_toArray];omega)) ⟨e,?_⟩
 refine ⟨.non,_,I.lset (its':=its.take i ++ b :: its.drop i) (ys:=insV xs i y) hH e ia ((r.take i).append (.cons rb (r.drop i))) ?_,rfl,q⟩
 rw [insV_len]
 omega
noncomputable def tIns (to:TE) (t:TA):TE:=fun σ H Q=>to σ H fun x H1=>∃ l xs0,x = .ref l∧H1 l=some (.lst xs0)∧t σ H1 fun vs H2=>∃ xs y,∃ i:Nat,vs=[.int (i:Int),y]∧H2 l=some (.lst xs)∧i ≤ xs.length∧xs.length < sizeLine∧Q .non (upd H2 l (.lst (insV xs i y)))
theorem pe_insert {o e e':Expr} {to:TE} {t:TA} {apos cpos:Pos} (ho:PE X o to) (ha:PA X [e,e'] t) (hbase:attributeBase o "insert" X.env (eval o X.env)=eval o X.env:=by rfl)
  (hfew:((backTo cpos (starEach [e,e'] X.env)).all (fun x=>!x.1) && (backToKw cpos (keywordEach [] X.env)).all (fun x=>x.1.isSome) && decide ([e,e'].length + ([] : List Keyword).length + (if ([] : List Keyword).isEmpty then 0 else 1) < 30))=true:=by rfl)
  (hline:(apos.endLine == cpos.line)=true:=by rfl) (hs:starEach [e,e'] X.env=(false,eval e X.env) :: starEach [e'] X.env:=by rfl) (hp:(backTo cpos (starEach [e'] X.env)).any (·.1)=false:=by rfl):PE X (.Call (.Attribute o "insert" apos) [e,e'] [] cpos) (tIns to t):=by
 intro pins s σ H Q I h
 refine wpAny_Call_method_late hbase hfew hline rfl (thn (ho pins s σ H _ I h) fun v s1 ⟨x,H1,I1,r1,q1⟩=>?_)
 obtain ⟨l,xs0,rfl,hl,q1⟩:=q1
 have ty:tyV X.K "list" (.ref l) H1:=.inl ⟨rfl,_,SqL.of hl⟩
 obtain ⟨h1,h2⟩:=tyV_is I1 r1 ty
 refine ⟨"list", "list.insert",PySem.F.plainAttrs_list,PySem.F.slot_list_insert,PySem.F.type_list_insert,h1,h2,?_⟩
 have hA:=ha cpos pins s1 σ H1 _ I1 q1
 rw [hs] at hA ⊢
 refine Calls.callWith_builtin (by show (false || (backTo cpos (starEach [e'] X.env)).any (·.1))=false;rw [hp];rfl) (Calls.evalArgs_plain ?_)
 exact thn hA fun us s2 ⟨vs,H2,I2,r2,xs,y,i,e,k,hi,z,q⟩=>mt_ins pins s2 σ H2 (.ref l) vs v us Q I2 r1 r2 ⟨l,xs,y,i,rfl,e,k,hi,z,q⟩
theorem a_tIns {to:TE} {t:TA} {σ:St} {H:Hp} {Q:VK}:tIns to t σ H Q=to σ H fun x H1=>∃ l xs0,x = .ref l∧H1 l=some (.lst xs0)∧t σ H1 fun vs H2=>∃ xs y,∃ i:Nat,vs=[.int (i:Int),y]∧H2 l=some (.lst xs)∧i ≤ xs.length∧xs.length < sizeLine∧Q .non (upd H2 l (.lst (insV xs i y))):=rfl
theorem max_gen (hc:X.calm=true) {pins:List (Addr × Obj)} {σ:St} {H:Hp} {s:Shared} {p:Addr} {ns:List Int} {Q:VK} (I:Inv X pins σ H s) (hq:sq H p=some (ns.map V.int)) (hne:ns ≠ [])
  (q:∀ m,m ∈ ns→(∀ x ∈ ns,x ≤ m)→Q (.int m) H):wpAny (model X.prog X.w) X.A (call (.builtin "max") [.ref p]) (EP X pins σ Q) X.xe s:=by
 have hp:0 < ns.length:=List.length_pos_iff.mpr hne
 refine call_max_walk (I.walk hc hq fun it its s2 St fp rv W st hfp hsz J=>?_)
 have hl:=rv.length
 rw [List.length_map] at hl
 refine ⟨it,fp,[it],its.length,_,St,_,rfl,W,st,hfp,by omega,CmpOf.ints_gt (fun i=>ns.getD i 0) fun i v hv=>vals_int_get rv hv,fun v h' tk hv k=>?_⟩
 obtain ⟨a1,a2⟩:=argBest_gt (fun i=>ns.getD i 0) (its.length - 1)
 obtain ⟨t,rfl⟩:=vals_int_get rv hv
 generalize argBest (fun i j=>decide (ns.getD i 0 > ns.getD j 0)) (its.length - 1)=j at a1 a2 hv ⊢
 have hj:j < ns.length:=by omega
 have e:ns.getD j 0=ns[j]:=by simp [List.getD_eq_getElem?_getD,hj]
 refine ⟨.int ns[j],H,J h' tk k,⟨t,by rw [e]⟩,q _ (List.getElem_mem hj) fun x hx=>?_⟩
 obtain ⟨i,hi,rfl⟩:=List.mem_iff_getElem.mp hx
 have:=a2 i (by omega)
 simp only [List.getD_eq_getElem?_getD,List.getElem?_eq_getElem hi,List.getElem?_eq_getElem hj,Option.getD_some] at this
 exact this
theorem max0 (hc:X.calm=true):CallR X (.builtin "max") (fun xs H Q=>∃ (p:Addr) (ns:List Int),xs=[.ref p]∧sq H p=some (ns.map V.int)∧ns ≠ []∧∀ m,m ∈ ns→(∀ x ∈ ns,x ≤ m)→Q (.int m) H):=by
 intro pins s σ H xs us Q I r h
 obtain ⟨p,ns,rfl,hq,hne,q⟩:=h
 obtain ⟨u,rfl,ru⟩:=r.one
 cases ru
 exact max_gen hc I hq hne q
noncomputable def rCatA:R2:=fun x y H Q=>∃ a b xs ys,x = .ref a∧y = .ref b∧H a=some (.tup xs)∧H b=some (.tup ys)∧xs.length + ys.length ≤ sizeLine∧∀ (p:Addr) (H':Hp),Same H H'→H' p=some (.tup (xs ++ ys))→Q (.ref p) H'
theorem a_rCatA {x y:V} {H:Hp} {Q:VK}:rCatA x y H Q = ∃ a b xs ys,x = .ref a∧y = .ref b∧H a=some (.tup xs)∧H b=some (.tup ys)∧xs.length + ys.length ≤ sizeLine∧∀ (p:Addr) (H':Hp),Same H H'→H' p=some (.tup (xs ++ ys))→Q (.ref p) H':=rfl
noncomputable def rCatL:R2:=fun x y H Q=>∃ l b xs zs,x = .ref l∧y = .ref b∧H l=some (.lst xs)∧H b=some (.lst zs)∧xs.length + zs.length ≤ sizeLine∧∀ (p:Addr) (H':Hp),H p=none→Same H H'→H' p=some (.lst (xs ++ zs))→Q (.ref p) H'
theorem catL0:OpR X (binaryOp .Add) rCatL:=fun pins s σ H x y v u Q I rx ry h=>by
 obtain ⟨l,b,xs,zs,e1,e2,h1,h2,hz,q⟩:=h
 exact op_cat pins s σ H x y v u Q I rx ry ⟨l,b,xs,zs,e1,e2,h1,h2,hz,fun p np=>q p _ np (same_upd np) upd_same⟩
theorem a_rCatL {x y:V} {H:Hp} {Q:VK}:rCatL x y H Q = ∃ l b xs zs,x = .ref l∧y = .ref b∧H l=some (.lst xs)∧H b=some (.lst zs)∧xs.length + zs.length ≤ sizeLine∧∀ (p:Addr) (H':Hp),H p=none→Same H H'→H' p=some (.lst (xs ++ zs))→Q (.ref p) H':=rfl
end
end L2
end
section
set_option Elab.async false
set_option linter.all false
set_option maxRecDepth 100000
namespace L2
open PySem PySem.Spec PyProof.Rows
section
variable {prog:Program} {w:World} {A:Around} {E:Value→Shared→Prop} {s:Shared}
theorem tup_whole {t sl:Addr} {items:Array Value} {vl vu:Value} {lo hi:Option Int} {Q:Value→Shared→Prop} (ht:IsTup s.heap t items) (hs:s.heap.IsSliceOf sl vl vu .none) (pl:IsPart vl lo) (pu:IsPart vu hi)
  (hw:HT.sIx items.size 0 lo=0∧HT.sIx items.size items.size hi=items.size) (h:Q (.ref t) s):wpAny (model prog w) A (getItem (.ref t) (.ref sl)) Q E s:=by
 obtain ⟨os,hos,hcs,hds⟩:=id hs
 have kind:s.TypeIs (.ref sl) "slice" := ⟨os,hos,hcs⟩
 unfold getItem
 try with_reducible refine wpAny_holding ?_
 first | refine wpAny_bind (wpAny_pure ?_) | skip
 refine wpAny_bind (wpAny_sequenceKey ht.typeIs (by decide) ?_)
 refine wpAny_bind (wpAny_callSpecial?_slot (name:=Str.ofString "__getitem__") ht.typeIs slot_tuple_getitem (wpAny_call_entry slot_tuple_getitem ht.typeIs entry_tuple_getitem ?_ (args_tuple_getitem _ _)))
 show wpAny _ _ (Builtin.Tuple.tupleItemsOf (.ref t) >>= _) _ _ s
 refine wpAny_bind (tupleItemsOf_ ht (wpAny_bind (wpAny_typeOf kind ?_)))
 rw [if_pos (by decide)]
 refine wpAny_bind (HT.sliceApplied_gen hs pl pu ?_)
 rw [hw.1,hw.2]
 have yes:((((0:Nat):Int) == 0 && (1:Int) == 1 && (items.size - 0) == items.size)=true):=by simp
 show wpAny _ _ (if ((((0:Nat):Int) == 0 && (1:Int) == 1 && (items.size - 0) == items.size)=true) then _ else _) _ _ s
 rw [if_pos yes]
 unfold Builtin.Tuple.tupleIsExact
 refine wpAny_bind (wpAny_bind (wpAny_typeOf ht.typeIs (wpAny_pure ?_)))
 rw [if_pos (by decide)]
 exact wpAny_bind (wpAny_rule (wpAny_pure ⟨_,rfl,wpAny_pure h⟩))
end
section
variable {X:Cx}
noncomputable def rSlA:V→Option Int→Option Int→Hp→VK→Prop:=fun x lo hi H Q=>∃ a xs,x = .ref a∧H a=some (.tup xs)∧∀ (p:Addr) (H':Hp),Same H H'→H' p=some (.tup (cutV xs lo hi))→Q (.ref p) H'
theorem cut_whole {xs:List V} {lo hi:Option Int} (h:HT.sIx xs.length 0 lo=0∧HT.sIx xs.length xs.length hi=xs.length):cutV xs lo hi=xs:=by
 unfold cutV
 rw [h.1,h.2,List.drop_zero,Nat.sub_zero,List.take_length]
theorem slA0:SlR X rSlA:=by
 intro pins s σ H x v vl vu lo hi sl Q I rx hs pl pu h
 obtain ⟨a,xs,rfl,hx,q⟩:=h
 by_cases hw:HT.sIx xs.length 0 lo=0∧HT.sIx xs.length xs.length hi=xs.length
 ·cases rx
  obtain ⟨its,r,ht,hz⟩:=I.tuple (SqT.of hx)
  have hlen:its.toArray.size=xs.length:=by rw [List.size_toArray];exact r.length.symm
  refine ⟨"tuple",_,slot_tuple_getitem.lookup,ht.typeIs,tup_whole ht hs pl pu (by rw [hlen];exact hw) ?_⟩
  exact ⟨.ref a,H,I,rfl,q a H (Same.refl H) (by rw [cut_whole hw];exact hx)⟩
 ·exact sl_tup pins s σ H (.ref a) v vl vu lo hi sl Q I rx hs pl pu ⟨a,xs,rfl,SqT.of hx,hw,fun p np=>q p _ (same_upd np) upd_same⟩
theorem a_rSlA {x:V} {lo hi:Option Int} {H:Hp} {Q:VK}:rSlA x lo hi H Q = ∃ a xs,x = .ref a∧H a=some (.tup xs)∧∀ (p:Addr) (H':Hp),Same H H'→H' p=some (.tup (cutV xs lo hi))→Q (.ref p) H':=rfl
noncomputable def tRev (te:TE):TE:=fun σ H Q=>te σ H fun x H1=>∃ a xs,x = .ref a∧H1 a=some (.tup xs)∧∀ (p:Addr) (H':Hp),H1 p=none→Same H1 H'→H' p=some (.tup xs.reverse)→Q (.ref p) H'
theorem a_tRev {te:TE} {σ:St} {H:Hp} {Q:VK}:tRev te σ H Q=te σ H fun x H1=>∃ a xs,x = .ref a∧H1 a=some (.tup xs)∧∀ (p:Addr) (H':Hp),H1 p=none→Same H1 H'→H' p=some (.tup xs.reverse)→Q (.ref p) H':=rfl
end
end L2
end
section
set_option Elab.async false
set_option linter.all false
set_option maxRecDepth 100000
namespace L2
open PySem PySem.Spec PyProof.Rows
noncomputable def innerBody (e iter:Expr) (d:Nat) (acc:Value) (env:Env):Sem Unit:=do
 let x ← eval iter env
 standAt iter.pos
 let x ← foldedSetIterable iter env x
 let _ ← runOwn (.compStart e d (← holding [x] (pyIter x)) acc env) env
theorem turn_outer (elt tg iter tg2 iter2:Expr) (ifs ifs2:List Expr) (rest:List Comprehension) (sc:Scope) (pos:Pos) (it acc:Value) (env:Env) :
  compTurn (.ListComp elt (⟨tg,iter,ifs,0⟩ :: ⟨tg2,iter2,ifs2,0⟩ :: rest) sc pos) 0 it acc env=(do
   standAt iter.pos
   match ← pyNext it with
   | none=>pure (.done .next)
   | some v =>
    letOwnedTupleGo tg it v
    assign tg env v
    let mut ok:=true
    for c in ifs do
     if ok then ok ← isTrue c env (eval c env)
    if ok then innerBody (.ListComp elt (⟨tg,iter,ifs,0⟩ :: ⟨tg2,iter2,ifs2,0⟩ :: rest) sc pos) iter2 1 acc env
    again (.compLoop (.ListComp elt (⟨tg,iter,ifs,0⟩ :: ⟨tg2,iter2,ifs2,0⟩ :: rest) sc pos) 0 it acc env)):=by
 unfold innerBody
 simp only [bind_assoc,pure_bind]
 rfl
theorem turn_last2 (elt tg iter tg2 iter2:Expr) (ifs ifs2:List Expr) (sc:Scope) (pos:Pos) (it acc:Value) (env:Env) :
  compTurn (.ListComp elt [⟨tg,iter,ifs,0⟩,⟨tg2,iter2,ifs2,0⟩] sc pos) 1 it acc env=(do
   standAt iter2.pos
   match ← pyNext it with
   | none=>pure (.done .next)
   | some v =>
    letOwnedTupleGo tg2 it v
    assign tg2 env v
    let mut ok:=true
    for c in ifs2 do
     if ok then ok ← isTrue c env (eval c env)
    if ok then (do let _ ← call (.builtin "list.append") [acc,← eval elt env])
    again (.compLoop (.ListComp elt [⟨tg,iter,ifs,0⟩,⟨tg2,iter2,ifs2,0⟩] sc pos) 1 it acc env)):=by rfl
theorem turn_mid3 (elt tg iter tg2 iter2 tg3 iter3:Expr) (ifs ifs2 ifs3:List Expr) (sc:Scope) (pos:Pos) (it acc:Value) (env:Env) :
  compTurn (.ListComp elt [⟨tg,iter,ifs,0⟩,⟨tg2,iter2,ifs2,0⟩,⟨tg3,iter3,ifs3,0⟩] sc pos) 1 it acc env=(do
   standAt iter2.pos
   match ← pyNext it with
   | none=>pure (.done .next)
   | some v =>
    letOwnedTupleGo tg2 it v
    assign tg2 env v
    let mut ok:=true
    for c in ifs2 do
     if ok then ok ← isTrue c env (eval c env)
    if ok then innerBody (.ListComp elt [⟨tg,iter,ifs,0⟩,⟨tg2,iter2,ifs2,0⟩,⟨tg3,iter3,ifs3,0⟩] sc pos) iter3 2 acc env
    again (.compLoop (.ListComp elt [⟨tg,iter,ifs,0⟩,⟨tg2,iter2,ifs2,0⟩,⟨tg3,iter3,ifs3,0⟩] sc pos) 1 it acc env)):=by
 unfold innerBody
 simp only [bind_assoc,pure_bind]
 rfl
theorem turn_last3 (elt tg iter tg2 iter2 tg3 iter3:Expr) (ifs ifs2 ifs3:List Expr) (sc:Scope) (pos:Pos) (it acc:Value) (env:Env) :
  compTurn (.ListComp elt [⟨tg,iter,ifs,0⟩,⟨tg2,iter2,ifs2,0⟩,⟨tg3,iter3,ifs3,0⟩] sc pos) 2 it acc env=(do
   standAt iter3.pos
   match ← pyNext it with
   | none=>pure (.done .next)
   | some v =>
    letOwnedTupleGo tg3 it v
    assign tg3 env v
    let mut ok:=true
    for c in ifs3 do
     if ok then ok ← isTrue c env (eval c env)
    if ok then (do let _ ← call (.builtin "list.append") [acc,← eval elt env])
    again (.compLoop (.ListComp elt [⟨tg,iter,ifs,0⟩,⟨tg2,iter2,ifs2,0⟩,⟨tg3,iter3,ifs3,0⟩] sc pos) 2 it acc env)):=by rfl
section
variable {prog:Program} {w:World} {A:Around} {R:Result→Shared→Prop} {s:Shared}
theorem start_inner {elt:Expr} {gs:List Comprehension} {sc:Scope} {pos:Pos} {d:Nat} {g:Comprehension} {it acc:Value} {env:Env} (hg:gs[d]? = some g) (ha:g.is_async=0)
  (h0:codeAny (model prog w) A (.compLoop (.ListComp elt gs sc pos) d it acc env) R s)
  (h:wpAny (model prog w) A (pyIter it) (fun it' s'=>codeAny (model prog w) A (.compLoop (.ListComp elt gs sc pos) d it' acc env) R s') (notedBy (model prog w) A env fun x s'=>R (.error x) s') s) :
  codeAny (model prog w) A (.compStart (.ListComp elt gs sc pos) d it acc env) R s:=by
 refine codeAny_of_tree (show wpAny _ _ ((compStart (.ListComp elt gs sc pos) d it acc env).onRaise (fun x=>do noteFrame x env;standAt theWindowsPlace)) _ _ s from wpAny_notedAt ?_)
 unfold compStart
 have e:(clausesOf (.ListComp elt gs sc pos))[d]? = some g:=hg
 rw [e]
 have ea:(some g).elim false (fun x:Comprehension=>x.is_async != 0)=false:=by show (g.is_async != 0)=false;rw [ha];rfl
 rw [ea]
 refine wpAny_bind (wpAny_askSetting (wpAny_ite ?_))
 split
 ·first
   | exact wpAny_pure ⟨rfl,h0⟩
   | exact wpAny_bind (wpAny_pure (wpAny_pure ⟨rfl,h0⟩))
 ·exact wpAny_bind (wpAny_rule (wpAny_bind (wpAny_standAt (wpAny_bind (wpAny_mono h (fun it' s' h'=>wpAny_pure ⟨rfl,h'⟩) fun _ _ x=>x)))))
end
noncomputable def tInner (wi:TI) (g:TG) (tc:TT) (tb:TB):TB:=fun σ H N=>wi σ H fun J H1=>tCL J g tc tb N σ H1
theorem pb_inner {X:Cx} {elt tg iter:Expr} {ifs:List Expr} {gs:List Comprehension} {sc:Scope} {pos:Pos} {d:Nat} {acc:Value} {wi:TI} {g:TG} {tc:TT} {tb:TB} {body:Sem Unit} (hc:X.calm=true) (hx:X.xe=fun _ _=>False) (hgs:gs[d]? = some ⟨tg,iter,ifs,0⟩)
  (hi:PI X tg iter wi) (hg:PG X tg g) (hifs:PIfs X ifs tc) (hb:PB X body tb)
  (heq:∀ it:Addr,compTurn (.ListComp elt gs sc pos) d (.ref it) acc X.env=(do
   standAt iter.pos
   match ← pyNext (.ref it) with
   | none=>pure (.done .next)
   | some v =>
    letOwnedTupleGo tg (.ref it) v
    assign tg X.env v
    let mut ok:=true
    for c in ifs do
     if ok then ok ← isTrue c X.env (eval c X.env)
    if ok then body
    again (.compLoop (.ListComp elt gs sc pos) d (.ref it) acc X.env)))
  (hs:∀ x,foldedSetIterable iter X.env x=pure x):PB X (innerBody (.ListComp elt gs sc pos) iter d acc X.env) (tInner wi g tc tb):=by
 intro pins s σ H N I q
 unfold innerBody
 refine wpAny_bind (thn (hi pins s σ H _ I q) fun v s1 h1=>?_)
 refine wpAny_bind (wpAny_standAt (wpAny_bind (wpAny_of_eq (hs v) (wpAny_bind (wpAny_holding (thn h1 fun itv s2 h2=>?_))))))
 obtain ⟨it,fp,tn,J,H2,e2,I2,T,st2,f2,q2⟩:=h2
 subst e2
 have L:=comp_loop (X:=X) (e:=.ListComp elt gs sc pos) (d:=d) (acc:=acc) (D:=N) (s:=s2) hc hx (heq it) rfl rfl rfl T hg hifs hb I2 st2 f2 q2
 refine wpAny_bind (wpAny_runOwn (start_inner hgs rfl ?_ ?_))
 ·refine codeAny_mono L fun r s' hr=>?_
  obtain ⟨rfl,σ',H',J',n'⟩:=hr
  exact wpAny_pure ⟨σ',H',J',n'⟩
 ·refine T.self X.A 0 s2 _ _ st2 ?_
  refine codeAny_mono L fun r s' hr=>?_
  obtain ⟨rfl,σ',H',J',n'⟩:=hr
  exact wpAny_pure ⟨σ',H',J',n'⟩
section
variable {X:Cx}
noncomputable def tLC2 (fr:List (Option Nat)) (wi:TI) (g:TG) (tc:TT) (wi2:TI) (g2:TG) (tc2:TT) (te:TE):TE:=fun σ H Q=>wi σ H fun J H1=>∀ p,H1 p=none→tCL J g tc (tInner wi2 g2 tc2 (tEmit p te)) (fun _ H2=>Q (.ref p) H2) (frS fr σ) (upd H1 p (.lst []))
theorem pe_lc2 {N:List Str} {fr:List (Option Nat)} {tg iter tg2 iter2 elt:Expr} {ifs ifs2:List Expr} {sc:Scope} {pos:Pos} {cl:List (Str × Addr)} {wi wi2:TI} {g g2:TG} {tc tc2:TT} {te:TE} (hc:X.calm=true) (hi:PI X tg iter wi) (S:CScope X N fr sc) (hcl:clos sc.names X.env.cells [] = some cl)
  (hb:∀ s H ex,PG (cxc X N sc cl s H ex) tg g∧PIfs (cxc X N sc cl s H ex) ifs tc∧PI (cxc X N sc cl s H ex) tg2 iter2 wi2∧PG (cxc X N sc cl s H ex) tg2 g2∧PIfs (cxc X N sc cl s H ex) ifs2 tc2∧PE (cxc X N sc cl s H ex) elt te) (hs:∀ x,foldedSetIterable iter X.env x=pure x:=by intro _;rfl) (hs2:∀ env x,foldedSetIterable iter2 env x=pure x:=by intro _ _;rfl) :
  PE X (.ListComp elt [⟨tg,iter,ifs,0⟩,⟨tg2,iter2,ifs2,0⟩] sc pos) (tLC2 fr wi g tc wi2 g2 tc2 te):=by
 intro pins s σ H Q I h
 rw [eval_ListComp]
 refine lc_entry (D:=fun J p σ H=>tCL J g tc (tInner wi2 g2 tc2 (tEmit p te)) (fun _ H2=>Q (.ref p) H2) σ H) rfl hi S hcl I h (fun it p fp tn J s1 s2 H1 σ1 T B st f d=>?_) hs
 obtain ⟨hg,hifs,hi2,hg2,hifs2,helt⟩:=hb s1 H1 fp
 have inn:=pb_inner (X:=cxc X N sc cl s1 H1 fp) (elt:=elt) (gs:=[⟨tg,iter,ifs,0⟩,⟨tg2,iter2,ifs2,0⟩]) (sc:=sc) (pos:=pos) (d:=1) (acc:=.ref p) hc rfl rfl hi2 hg2 hifs2 (pb_emit (p:=p) helt) (fun it=>turn_last2 elt tg iter tg2 iter2 ifs ifs2 sc pos (.ref it) (.ref p) _) (hs2 _)
 have L:=comp_loop (X:=cxc X N sc cl s1 H1 fp) (e:=.ListComp elt [⟨tg,iter,ifs,0⟩,⟨tg2,iter2,ifs2,0⟩] sc pos) (d:=0) (acc:=.ref p) (D:=fun _ H2=>Q (.ref p) H2) (s:=s2) hc rfl (turn_outer elt tg iter tg2 iter2 ifs ifs2 [] sc pos (.ref it) (.ref p) _) rfl rfl rfl T hg hifs inn B st f d
 exact codeAny_compStart_list L (T.self X.A 0 s2 _ _ st L)
noncomputable def tLC3 (fr:List (Option Nat)) (wi:TI) (g:TG) (tc:TT) (wi2:TI) (g2:TG) (tc2:TT) (wi3:TI) (g3:TG) (tc3:TT) (te:TE):TE:=fun σ H Q=>wi σ H fun J H1=>∀ p,H1 p=none→tCL J g tc (tInner wi2 g2 tc2 (tInner wi3 g3 tc3 (tEmit p te))) (fun _ H2=>Q (.ref p) H2) (frS fr σ) (upd H1 p (.lst []))
theorem pe_lc3 {N:List Str} {fr:List (Option Nat)} {tg iter tg2 iter2 tg3 iter3 elt:Expr} {ifs ifs2 ifs3:List Expr} {sc:Scope} {pos:Pos} {cl:List (Str × Addr)} {wi wi2 wi3:TI} {g g2 g3:TG} {tc tc2 tc3:TT} {te:TE} (hc:X.calm=true) (hi:PI X tg iter wi) (S:CScope X N fr sc) (hcl:clos sc.names X.env.cells [] = some cl)
  (hb:∀ s H ex,PG (cxc X N sc cl s H ex) tg g∧PIfs (cxc X N sc cl s H ex) ifs tc∧PI (cxc X N sc cl s H ex) tg2 iter2 wi2∧PG (cxc X N sc cl s H ex) tg2 g2∧PIfs (cxc X N sc cl s H ex) ifs2 tc2∧PI (cxc X N sc cl s H ex) tg3 iter3 wi3∧PG (cxc X N sc cl s H ex) tg3 g3∧PIfs (cxc X N sc cl s H ex) ifs3 tc3∧PE (cxc X N sc cl s H ex) elt te) (hs:∀ x,foldedSetIterable iter X.env x=pure x:=by intro _;rfl) (hs2:∀ env x,foldedSetIterable iter2 env x=pure x:=by intro _ _;rfl) (hs3:∀ env x,foldedSetIterable iter3 env x=pure x:=by intro _ _;rfl) :
  PE X (.ListComp elt [⟨tg,iter,ifs,0⟩,⟨tg2,iter2,ifs2,0⟩,⟨tg3,iter3,ifs3,0⟩] sc pos) (tLC3 fr wi g tc wi2 g2 tc2 wi3 g3 tc3 te):=by
 intro pins s σ H Q I h
 rw [eval_ListComp]
 refine lc_entry (D:=fun J p σ H=>tCL J g tc (tInner wi2 g2 tc2 (tInner wi3 g3 tc3 (tEmit p te))) (fun _ H2=>Q (.ref p) H2) σ H) rfl hi S hcl I h (fun it p fp tn J s1 s2 H1 σ1 T B st f d=>?_) hs
 obtain ⟨hg,hifs,hi2,hg2,hifs2,hi3,hg3,hifs3,helt⟩:=hb s1 H1 fp
 have inn:=pb_inner (X:=cxc X N sc cl s1 H1 fp) (elt:=elt) (gs:=[⟨tg,iter,ifs,0⟩,⟨tg2,iter2,ifs2,0⟩,⟨tg3,iter3,ifs3,0⟩]) (sc:=sc) (pos:=pos) (d:=2) (acc:=.ref p) hc rfl rfl hi3 hg3 hifs3 (pb_emit (p:=p) helt) (fun it=>turn_last3 elt tg iter tg2 iter2 tg3 iter3 ifs ifs2 ifs3 sc pos (.ref it) (.ref p) _) (hs3 _)
 have inn2:=pb_inner (X:=cxc X N sc cl s1 H1 fp) (elt:=elt) (gs:=[⟨tg,iter,ifs,0⟩,⟨tg2,iter2,ifs2,0⟩,⟨tg3,iter3,ifs3,0⟩]) (sc:=sc) (pos:=pos) (d:=1) (acc:=.ref p) hc rfl rfl hi2 hg2 hifs2 inn (fun it=>turn_mid3 elt tg iter tg2 iter2 tg3 iter3 ifs ifs2 ifs3 sc pos (.ref it) (.ref p) _) (hs2 _)
 have L:=comp_loop (X:=cxc X N sc cl s1 H1 fp) (e:=.ListComp elt [⟨tg,iter,ifs,0⟩,⟨tg2,iter2,ifs2,0⟩,⟨tg3,iter3,ifs3,0⟩] sc pos) (d:=0) (acc:=.ref p) (D:=fun _ H2=>Q (.ref p) H2) (s:=s2) hc rfl (turn_outer elt tg iter tg2 iter2 ifs ifs2 _ sc pos (.ref it) (.ref p) _) rfl rfl rfl T hg hifs inn2 B st f d
 exact codeAny_compStart_list L (T.self X.A 0 s2 _ _ st L)
theorem a_tLC2 {fr:List (Option Nat)} {wi wi2:TI} {g g2:TG} {tc tc2:TT} {te:TE} {σ:St} {H:Hp} {Q:VK}:tLC2 fr wi g tc wi2 g2 tc2 te σ H Q=wi σ H fun J H1=>∀ p,H1 p=none→tCL J g tc (tInner wi2 g2 tc2 (tEmit p te)) (fun _ H2=>Q (.ref p) H2) (frS fr σ) (upd H1 p (.lst [])):=rfl
theorem a_tLC3 {fr:List (Option Nat)} {wi wi2 wi3:TI} {g g2 g3:TG} {tc tc2 tc3:TT} {te:TE} {σ:St} {H:Hp} {Q:VK}:tLC3 fr wi g tc wi2 g2 tc2 wi3 g3 tc3 te σ H Q=wi σ H fun J H1=>∀ p,H1 p=none→tCL J g tc (tInner wi2 g2 tc2 (tInner wi3 g3 tc3 (tEmit p te))) (fun _ H2=>Q (.ref p) H2) (frS fr σ) (upd H1 p (.lst [])):=rfl
theorem a_tInner {wi:TI} {g:TG} {tc:TT} {tb:TB} {σ:St} {H:Hp} {N:St→Hp→Prop}:tInner wi g tc tb σ H N=wi σ H fun J H1=>tCL J g tc tb N σ H1:=rfl
end
end L2
end
section
set_option Elab.async false
set_option linter.all false
set_option maxRecDepth 100000
namespace L2
open PySem PySem.Spec PyProof.Rows
theorem ints_all:∀ (ns ms:List Int),((List.range (min ns.length ms.length)).all (fun j=>decide (ns.getD j 0=ms.getD j 0)) && ns.length == ms.length)=decide (ns=ms):=fun ns ms=>by
 rw [Bool.eq_iff_iff,Bool.and_eq_true,List.all_eq_true,decide_eq_true_eq,beq_iff_eq]
 constructor
 ·rintro ⟨h1,h2⟩
  apply List.ext_getElem h2
  intro i q1 q2
  have:=h1 i (List.mem_range.mpr (by omega))
  simpa [List.getD_eq_getElem?_getD,q1,q2] using this
 ·rintro rfl
  exact ⟨fun j _=>by simp,rfl⟩
section
variable {X:Cx}
theorem tup_eqs {pins:List (Addr × Obj)} {σ:St} {H:Hp} {s:Shared} {a b:Addr} {ns ms:List Int} (I:Inv X pins σ H s) (ha:H a=some (.tup (ns.map V.int))) (hb:H b=some (.tup (ms.map V.int))) :
  ∃ its its2:List Value,IsTup s.heap a its.toArray∧IsTup s.heap b its2.toArray∧its.length=ns.length∧its2.length=ms.length∧∀ (A:Around) (j:Nat) (h1:j < its.toArray.size) (h2:j < its2.toArray.size),SeqAt.EqAt A s its.toArray[j] its2.toArray[j] (decide (ns.getD j 0=ms.getD j 0)):=by
 obtain ⟨its,r1,p1,_⟩:=I.tuple (SqT.of ha)
 obtain ⟨its2,r2,p2,_⟩:=I.tuple (SqT.of hb)
 have l1:=r1.length
 have l2:=r2.length
 rw [List.length_map] at l1 l2
 refine ⟨its,its2,p1,p2,l1.symm,l2.symm,fun A j h1 h2=>?_⟩
 have h1':j < its.length:=by simpa using h1
 have h2':j < its2.length:=by simpa using h2
 obtain ⟨t,e1⟩:=vals_int_get r1 (i:=j) (v:=its[j]) (by simp [h1'])
 obtain ⟨u,e2⟩:=vals_int_get r2 (i:=j) (v:=its2[j]) (by simp [h2'])
 have key:SeqAt.EqAt A s its[j] its2[j] (eqV (.int (ns.getD j 0)) (.int (ms.getD j 0))):=eqAt_V ⟨t,e1⟩ ⟨u,e2⟩ rfl rfl
 have e:eqV (.int (ns.getD j 0)) (.int (ms.getD j 0))=decide (ns.getD j 0=ms.getD j 0):=by
  show (ns.getD j 0 == ms.getD j 0)=_
  rfl
 rw [e] at key
 simpa using key
noncomputable def rEqT (neg:Bool):R2:=fun x y H Q=>∃ (a b:Addr) (ns ms:List Int),x = .ref a∧y = .ref b∧H a=some (.tup (ns.map V.int))∧H b=some (.tup (ms.map V.int))∧Q (.bl (if neg then !decide (ns=ms) else decide (ns=ms))) H
theorem eqT0 (hu:X.A.units < cLine):OpR X (compareOp .Eq) (rEqT false):=by
 intro pins s σ H x y v u Q I rx ry h
 obtain ⟨a,b,ns,ms,rfl,rfl,ha,hb,q⟩:=h
 cases rx
 cases ry
 obtain ⟨its,its2,p1,p2,l1,l2,he⟩:=tup_eqs I ha hb
 refine SeqAt.eq_tupleAt (show s.heap.IsTuple a its.toArray from p1) (show s.heap.IsTuple b its2.toArray from p2) hu (fun j h1 h2=>he _ j h1 h2) ?_
 refine ⟨.bl (decide (ns=ms)),H,I,?_,q⟩
 rw [List.size_toArray,List.size_toArray,l1,l2,ints_all]
 rfl
theorem a_rEqT {neg:Bool} {x y:V} {H:Hp} {Q:VK}:rEqT neg x y H Q = ∃ (a b:Addr) (ns ms:List Int),x = .ref a∧y = .ref b∧H a=some (.tup (ns.map V.int))∧H b=some (.tup (ms.map V.int))∧Q (.bl (if neg then !decide (ns=ms) else decide (ns=ms))) H:=rfl
end
end L2
end
section
set_option Elab.async false
set_option linter.all false
set_option maxRecDepth 100000
namespace L2
open PySem PySem.Spec PyProof.Rows
theorem rmul_tup (a:Int) (t:Tok) (l:Addr) (items:Array Value) (n:Nat) (dd:Option Addr) (sl:Array (Option Value)) :
  Meets (Builtin.«int.__rmul__» ⟨[.int a t,.ref l],[]⟩) (fun _ R s=>s.heap.get? l=some { cls:=.type "tuple",dict:=dd,data:=.seq items n,slots:=sl }∧R (.ok (.ret Value.notImplemented)) s) :=
 .of_wp fun prog w A R s h=>by
  obtain ⟨hp,g,d,tk,os⟩:=s
  obtain ⟨hl,h⟩:=h
  wp_walk
  exact ⟨_,rfl,h⟩
theorem noFill_tup_mul:fillsNumberSlot (.type "tuple") "mul" = pure false :=
 PySem.fillsNumberSlot_seq (id := "tuple.__mul__") (r:=some (.builtin "tuple.__rmul__")) F.slot_tuple_mul.lookup (by decide +kernel) F.slot_tuple_rmul.lookup (by decide +kernel)
theorem repeat_tup:seqRepeat? (.type "tuple")=pure (some (.builtin "tuple.__mul__")):=by
 unfold seqRepeat?
 rw [PySem.seqSlot_of (T := "tuple") (name := "__mul__") (id := "tuple.__mul__") F.slot_tuple_mul.lookup (by decide +kernel),PySem.seqSlot_of (T := "tuple") (name := "__rmul__") (id := "tuple.__rmul__") F.slot_tuple_rmul.lookup (by decide +kernel)]
 rfl
theorem mul_one (t:Addr) (items:Array Value) (n:Nat) (dd:Option Addr) (sl:Array (Option Value)) (k:Int) (u:Tok) (h1:¬ (decide (k < -(2 ^ 63)) || decide (k ≥ 2 ^ 63))=true) (hc:(items.isEmpty || k == 1)=true) :
  Meets (Builtin.«tuple.__mul__» ⟨[.ref t,.int k u],[]⟩) (fun _ R s=>s.heap.get? t=some { cls:=.type "tuple",dict:=dd,data:=.seq items n,slots:=sl }∧R (.ok (.ret (.ref t))) s) :=
 .of_wp fun prog w A R s h=>by
  obtain ⟨hp,g,d,tk,os⟩:=s
  obtain ⟨hl,h⟩:=h
  wp_walk
  refine wpAny_ite_split (fun q=>absurd q h1) fun _=>?_
  wp_walk
  exact ⟨_,rfl,h⟩
theorem mul_nil (t:Addr) (items:Array Value) (n:Nat) (dd:Option Addr) (sl:Array (Option Value)) (k:Int) (u:Tok) (h1:¬ (decide (k < -(2 ^ 63)) || decide (k ≥ 2 ^ 63))=true) (hc:¬ (items.isEmpty || k == 1)=true) (hn:(decide (k ≤ 0) || items.isEmpty)=true) :
  Meets (Builtin.«tuple.__mul__» ⟨[.ref t,.int k u],[]⟩) (fun _ R s=>s.heap.get? t=some { cls:=.type "tuple",dict:=dd,data:=.seq items n,slots:=sl }∧R (.ok (.ret (.ref s.heap.objs.size))) { s with heap:=s.heap.push { cls:=.type "tuple",data:=.seq #[] } }) :=
 .of_wp fun prog w A R s h=>by
  obtain ⟨hp,g,d,tk,os⟩:=s
  obtain ⟨hl,h⟩:=h
  wp_walk
  refine wpAny_ite_split (fun q=>absurd q h1) fun _=>?_
  wp_walk
  exact ⟨_,rfl,h⟩
theorem mul_more (t:Addr) (items:Array Value) (n:Nat) (dd:Option Addr) (sl:Array (Option Value)) (k:Int) (u:Tok) (h1:¬ (decide (k < -(2 ^ 63)) || decide (k ≥ 2 ^ 63))=true) (hc:¬ (items.isEmpty || k == 1)=true) (hn:¬ (decide (k ≤ 0) || items.isEmpty)=true)
  (hm:¬ (items.size * k > (2 ^ 63 - 1) / 8)) (hl':¬ Builtin.Tuple.tupleTooMany (items.size * k)=true) (hsz:((List.replicate k.toNat items).foldl (· ++ ·) #[]).size ≤ sizeLine) :
  Meets (Builtin.«tuple.__mul__» ⟨[.ref t,.int k u],[]⟩) (fun _ R s=>s.heap.get? t=some { cls:=.type "tuple",dict:=dd,data:=.seq items n,slots:=sl }∧R (.ok (.ret (.ref s.heap.objs.size))) { s with heap:=s.heap.push { cls:=.type "tuple",data:=.seq ((List.replicate k.toNat items).foldl (· ++ ·) #[]) } }) :=
 .of_wp fun prog w A R s h=>by
  obtain ⟨hp,g,d,tk,os⟩:=s
  obtain ⟨hl,h⟩:=h
  wp_walk
  refine wpAny_ite_split (fun q=>absurd q h1) fun _=>?_
  wp_walk
  refine wpAny_ite_split (fun q=>absurd q hm) fun _=>?_
  wp_walk
  exact ⟨_,rfl,h⟩
section
variable {X:Cx}
noncomputable def rMulT:R2:=fun x y H Q=>∃ (a:Addr) (k:Nat) (xs:List V),x = .ref a∧y = .int (k:Int)∧H a=some (.tup xs)∧xs.length * k ≤ 1000∧k ≤ 1000∧∀ (p:Addr) (H':Hp),Same H H'→H' p=some (.tup (List.replicate k xs).flatten)→Q (.ref p) H'
theorem mulT0:OpR X (binaryOp .Mult) rMulT:=by
 intro pins s σ H x y v u Q I rx ry h
 obtain ⟨a,k,xs,rfl,rfl,ha,hz,hk,q⟩:=h
 cases rx
 obtain ⟨t,rfl⟩:=ry
 obtain ⟨its,r,p1,_⟩:=I.tuple (SqT.of ha)
 have hlen:=r.length
 obtain ⟨⟨c1,d1,da1,sl1⟩,e,k1,n1,g1⟩:=id p1
 simp only at k1 g1
 subst k1 g1
 have h1:¬ (decide ((k:Int) < -(2 ^ 63)) || decide ((k:Int) ≥ 2 ^ 63))=true:=by
  rw [Bool.or_eq_true,decide_eq_true_eq,decide_eq_true_eq]
  omega
 refine wpAny_binaryOp_repeat_ref (T := "tuple") (U := "int") (by decide) ⟨_,e,rfl⟩ (fun s'=>typeIs_int s' (k:Int) t) noFill_tup_mul F.fills_int_mul F.slot_int_rmul repeat_tup F.slot_int_index.lookup
  (call_meets F.slot_int_rmul (typeIs_int s (k:Int) t) F.entry_int_rmul (F.args_int_rmul_2 _ _) (rmul_tup (k:Int) t a its.toArray n1 d1 sl1) ⟨e,rfl,⟨_,e,rfl⟩,?_⟩)
 by_cases hc:(its.toArray.isEmpty || (k:Int) == 1)=true
 ·refine call_meets F.slot_tuple_mul ⟨_,e,rfl⟩ F.entry_tuple_mul (F.args_tuple_mul_2 _ _) (mul_one a its.toArray n1 d1 sl1 (k:Int) t h1 hc) ⟨e,⟨.ref a,H,I,rfl,q a H (Same.refl H) ?_⟩⟩
  rw [ha]
  congr 2
  rw [Bool.or_eq_true] at hc
  rcases hc with hc | hc
  ·have:its=[]:=by simpa using hc
   have:xs=[]:=r.nil_iff.mp this
   subst this
   induction k with
   | zero=>simp
   | succ k ih=>simp
  ·have:k=1:=by have:=eq_of_beq hc;omega
   subst this
   simp
 ·have ne:¬ its.toArray.isEmpty=true:=fun z=>hc (by rw [z];rfl)
  by_cases hk0:k=0
  ·subst hk0
   refine call_meets F.slot_tuple_mul ⟨_,e,rfl⟩ F.entry_tuple_mul (F.args_tuple_mul_2 _ _) (mul_nil a its.toArray n1 d1 sl1 ((0:Nat):Int) t h1 hc (by simp)) ⟨e,?_⟩
   have hf:=I.hok.fresh (Nat.le_refl s.heap.objs.size)
   refine ⟨.ref s.heap.objs.size,upd H s.heap.objs.size (.tup []),I.laid (t':=s.toks) (fun b o z=>Heap.get?_push_of_some _ z) (Nat.le_refl _) ⟨Nat.zero_le _,[],.nil,IsTup.new _ _⟩,rfl,q _ _ (same_upd hf) ?_⟩
   rw [upd_same]
   simp
  ·have fl:(List.replicate (k:Int).toNat its.toArray).foldl (· ++ ·) #[] = (List.replicate k its).flatten.toArray:=by
    have:=foldl_rep its k []
    rw [List.nil_append] at this
    rw [Int.toNat_natCast]
    exact this
   have lr:(List.replicate k its).flatten.length=k * its.length:=len_rep its k
   have lx:(List.replicate k xs).flatten.length=k * xs.length:=len_rep xs k
   have hsm:k * its.length ≤ 1000:=by rw [← hlen,Nat.mul_comm];exact hz
   have cast:((its.toArray.size:Nat):Int) * (k:Int)=((its.length * k:Nat):Int):=by rw [List.size_toArray];norm_cast
   have hsm2:its.length * k ≤ 1000:=by rw [Nat.mul_comm];exact hsm
   refine call_meets F.slot_tuple_mul ⟨_,e,rfl⟩ F.entry_tuple_mul (F.args_tuple_mul_2 _ _) (mul_more a its.toArray n1 d1 sl1 (k:Int) t h1 hc ?_ ?_ ?_ ?_) ⟨e,?_⟩
   ·rw [Bool.or_eq_true,decide_eq_true_eq]
    rintro (z | z)
    ·omega
    ·exact ne z
   ·rw [cast];omega
   ·unfold Builtin.Tuple.tupleTooMany
    rw [cast,sizeLine_eq,decide_eq_true_eq]
    omega
   ·rw [fl,List.size_toArray,lr,sizeLine_eq]
    omega
   ·rw [fl]
    have hf:=I.hok.fresh (Nat.le_refl s.heap.objs.size)
    refine ⟨.ref s.heap.objs.size,upd H s.heap.objs.size (.tup (List.replicate k xs).flatten),I.laid (t':=s.toks) (fun b o z=>Heap.get?_push_of_some _ z) (Nat.le_refl _) ⟨?_,(List.replicate k its).flatten,?_,IsTup.new _ _⟩,rfl,q _ _ (same_upd hf) upd_same⟩
    ·rw [lx,hlen,sizeLine_eq];omega
    ·exact r.rep k
theorem a_rMulT {x y:V} {H:Hp} {Q:VK}:rMulT x y H Q = ∃ (a:Addr) (k:Nat) (xs:List V),x = .ref a∧y = .int (k:Int)∧H a=some (.tup xs)∧xs.length * k ≤ 1000∧k ≤ 1000∧∀ (p:Addr) (H':Hp),Same H H'→H' p=some (.tup (List.replicate k xs).flatten)→Q (.ref p) H':=rfl
end
end L2
end
section
set_option Elab.async false
set_option linter.all false
set_option maxRecDepth 100000
namespace L2
open PySem PySem.Spec PyProof.Rows
theorem Box.ne {H:Hp} {p c:Addr} (bx:Box H p) (n:H c=none):p ≠ c:=by
 rintro rfl
 obtain ⟨_,_,_,e⟩:=bx
 rw [n] at e
 cases e
theorem Box.upd {H:Hp} {p c:Addr} {o:HO} (bx:Box H p) (n:p ≠ c):Box (L2.upd H c o) p:=by
 obtain ⟨g,m,z,e⟩:=bx
 exact ⟨g,m,z,by rw [upd_ne n];exact e⟩
theorem Box.same {H H':Hp} {p:Addr} (bx:Box H p) (s:Same H H'):Box H' p:=by
 obtain ⟨g,m,z,e⟩:=bx
 exact ⟨g,m,z,s _ _ e⟩
end L2
end
section
set_option Elab.async false
set_option linter.all false
set_option maxRecDepth 100000
namespace L2
open PySem PySem.Spec PyProof.Rows
section
variable {X:Cx}
noncomputable def plainE:Expr→Bool
 | .Starred _ _=>false
 | _=>true
theorem star_cons {e:Expr} {es:List Expr} {env:Env} (h:plainE e=true):starEach (e :: es) env=(false,eval e env) :: starEach es env:=by
 cases e <;> first | rfl | cases h
theorem pa_cns {e:Expr} {es:List Expr} {te:TE} {t:TA} (ha:PE X e te) (hr:PA X es t) (hp:plainE e=true:=by rfl):PA X (e :: es) (tCons te t):=pa_cons ha hr (star_cons hp)
noncomputable def tDict:TE:=fun _ H Q=>∀ (p:Addr) (H':Hp),H p=none→Same H H'→H' p=some (.dK [])→Q (.ref p) H'
theorem a_tChain {r r':R2} {ta tb tc:TE} {σ:St} {H:Hp} {Q:VK}:tChain r r' ta tb tc σ H Q=ta σ H fun x H1=>tb σ H1 fun y H2=>r x y H2 fun z H3=>∃ k,z = .bl k∧(if k=true then tc σ H3 fun w' H4=>r' y w' H4 Q else Q (.bl false) H3):=rfl
theorem a_tDict {σ:St} {H:Hp} {Q:VK}:tDict σ H Q = ∀ (p:Addr) (H':Hp),H p=none→Same H H'→H' p=some (.dK [])→Q (.ref p) H':=rfl
noncomputable def tLstA (t:TA):TE:=fun σ H Q=>t σ H fun xs H1=>xs.length ≤ sizeLine∧∀ (p:Addr) (H2:Hp),H1 p=none→Same H1 H2→H2 p=some (.lst xs)→Q (.ref p) H2
theorem a_tLstA {t:TA} {σ:St} {H:Hp} {Q:VK}:tLstA t σ H Q=t σ H fun xs H1=>xs.length ≤ sizeLine∧∀ (p:Addr) (H2:Hp),H1 p=none→Same H1 H2→H2 p=some (.lst xs)→Q (.ref p) H2:=rfl
end
end L2
end
section
set_option Elab.async false
set_option linter.all false
set_option maxRecDepth 100000
namespace L2
open PySem PySem.Spec PyProof.Rows
noncomputable def tSeqL (t u:TS):TS:=tSeq t u
theorem pss_consL {X:Cx} {st:Stmt} {sts:List Stmt} {t u:TS} (h:PS X st t) (hs:PSs X sts u):PSs X (st :: sts) (tSeqL t u):=pss_cons h hs
end L2
end
section
set_option Elab.async false
set_option linter.all false
set_option maxRecDepth 100000
namespace L2
open PySem PySem.Spec PyProof.Rows
section
variable {X:Cx}
end
end L2
end
section
set_option Elab.async false
set_option linter.all false
set_option maxRecDepth 100000
namespace L2
open PySem PySem.Spec PyProof.Rows
section
variable {X:Cx}
noncomputable def rEqNil:R2:=fun x y H Q=>∃ (l b:Addr) (xs:List V),x = .ref l∧y = .ref b∧H l=some (.lst xs)∧H b=some (.lst [])∧Q (.bl xs.isEmpty) H
theorem a_rEqNil {x y:V} {H:Hp} {Q:VK}:rEqNil x y H Q = ∃ (l b:Addr) (xs:List V),x = .ref l∧y = .ref b∧H l=some (.lst xs)∧H b=some (.lst [])∧Q (.bl xs.isEmpty) H:=rfl
noncomputable def tTruL (ta:TE):TT:=fun σ H Q=>ta σ H fun x H'=>∃ (l:Addr) (xs:List V),x = .ref l∧H' l=some (.lst xs)∧Q (!xs.isEmpty) H'
theorem pt_lst {a:Expr} {ta:TE} (ha:PE X a ta) (he:∀ whole,isTrue a X.env whole=(do let v ← whole;standAt a.pos;holding [v] (truthy v)):=by intro _;rfl):PT X a (tTruL ta):=by
 intro pins s σ H Q I h
 refine isTrue_plain (thn (ha pins s σ H _ I h) fun v s1 ⟨x,H1,I1,r1,q1⟩=>?_) (he _)
 obtain ⟨l,xs,rfl,hl,q⟩:=q1
 exact tru_ok pins s1 σ H1 _ v Q I1 r1 ⟨_,.inl ⟨xs,SqL.of hl,rfl⟩,q⟩
theorem a_tTruL {ta:TE} {σ:St} {H:Hp} {Q:_}:tTruL ta σ H Q=ta σ H fun x H'=>∃ (l:Addr) (xs:List V),x = .ref l∧H' l=some (.lst xs)∧Q (!xs.isEmpty) H':=rfl
end
end L2
end
section
set_option Elab.async false
set_option linter.all false
namespace L2
open PySem
section
variable {D:Ends} {σ:St} {H:Hp} {Q:VK} {QB:Bool→Hp→Prop} {QA:List V→Hp→Prop}
end
end L2
namespace L2
theorem us0 {P:List PySem.Value→Prop} (h:P []):∀ us:List PySem.Value,us.length=0→P us:=fun us e=>by
 cases us with
 | nil=>exact h
 | cons _ _=>cases e
theorem us1 {P:List PySem.Value→Prop} (h:∀ a,P [a]):∀ us:List PySem.Value,us.length=1→P us:=fun us e=>by
 cases us with
 | nil=>cases e
 | cons a t=>exact us0 (P:=fun t=>P (a :: t)) (h a) t (Nat.succ.inj e)
theorem us2 {P:List PySem.Value→Prop} (h:∀ a b,P [a,b]):∀ us:List PySem.Value,us.length=2→P us:=fun us e=>by
 cases us with
 | nil=>cases e
 | cons a t=>exact us1 (P:=fun t=>P (a :: t)) (h a) t (Nat.succ.inj e)
theorem us3 {P:List PySem.Value→Prop} (h:∀ a b c,P [a,b,c]):∀ us:List PySem.Value,us.length=3→P us:=fun us e=>by
 cases us with
 | nil=>cases e
 | cons a t=>exact us2 (P:=fun t=>P (a :: t)) (h a) t (Nat.succ.inj e)
theorem us4 {P:List PySem.Value→Prop} (h:∀ a b c d,P [a,b,c,d]):∀ us:List PySem.Value,us.length=4→P us:=fun us e=>by
 cases us with
 | nil=>cases e
 | cons a t=>exact us3 (P:=fun t=>P (a :: t)) (h a) t (Nat.succ.inj e)
theorem us5 {P:List PySem.Value→Prop} (h:∀ a b c d f,P [a,b,c,d,f]):∀ us:List PySem.Value,us.length=5→P us:=fun us e=>by
 cases us with
 | nil=>cases e
 | cons a t=>exact us4 (P:=fun t=>P (a :: t)) (h a) t (Nat.succ.inj e)
end L2
end
section
set_option Elab.async false
set_option linter.all false
set_option maxRecDepth 100000
namespace L2
open PySem PySem.Spec PyProof.Rows
section
variable {D:Ends} {σ:St} {H:Hp} {Q:VK} {QB:Bool→Hp→Prop} {QA:List V→Hp→Prop} {QG:St→Hp→Prop}
theorem e_var {i:Nat} {v:V} (h:σ[i]? = some (some v)):tVar i σ H Q=Q v H:=propext ⟨fun ⟨_,e,q⟩=>by cases h.symm.trans e;exact q,fun q=>⟨v,h,q⟩⟩
theorem e_var0 {v:V}:tVar 0 (some v :: σ) H Q=Q v H:=e_var rfl
theorem e_var1 {v:V} {b0:Option V}:tVar 1 (b0 :: some v :: σ) H Q=Q v H:=e_var rfl
theorem e_var2 {v:V} {b0 b1:Option V}:tVar 2 (b0 :: b1 :: some v :: σ) H Q=Q v H:=e_var rfl
theorem e_var3 {v:V} {b0 b1 b2:Option V}:tVar 3 (b0 :: b1 :: b2 :: some v :: σ) H Q=Q v H:=e_var rfl
theorem e_var4 {v:V} {b0 b1 b2 b3:Option V}:tVar 4 (b0 :: b1 :: b2 :: b3 :: some v :: σ) H Q=Q v H:=e_var rfl
theorem e_var5 {v:V} {b0 b1 b2 b3 b4:Option V}:tVar 5 (b0 :: b1 :: b2 :: b3 :: b4 :: some v :: σ) H Q=Q v H:=e_var rfl
theorem e_var6 {v:V} {b0 b1 b2 b3 b4 b5:Option V}:tVar 6 (b0 :: b1 :: b2 :: b3 :: b4 :: b5 :: some v :: σ) H Q=Q v H:=e_var rfl
theorem e_var7 {v:V} {b0 b1 b2 b3 b4 b5 b6:Option V}:tVar 7 (b0 :: b1 :: b2 :: b3 :: b4 :: b5 :: b6 :: some v :: σ) H Q=Q v H:=e_var rfl
theorem e_var8 {v:V} {b0 b1 b2 b3 b4 b5 b6 b7:Option V}:tVar 8 (b0 :: b1 :: b2 :: b3 :: b4 :: b5 :: b6 :: b7 :: some v :: σ) H Q=Q v H:=e_var rfl
theorem e_var9 {v:V} {b0 b1 b2 b3 b4 b5 b6 b7 b8:Option V}:tVar 9 (b0 :: b1 :: b2 :: b3 :: b4 :: b5 :: b6 :: b7 :: b8 :: some v :: σ) H Q=Q v H:=e_var rfl
theorem e_var10 {v:V} {b0 b1 b2 b3 b4 b5 b6 b7 b8 b9:Option V}:tVar 10 (b0 :: b1 :: b2 :: b3 :: b4 :: b5 :: b6 :: b7 :: b8 :: b9 :: some v :: σ) H Q=Q v H:=e_var rfl
theorem e_nam0 {v:V} {b0:Option V}:gName 0 v (b0 :: σ) H QG=QG (some v :: σ) H:=rfl
theorem e_nam1 {v:V} {b0 b1:Option V}:gName 1 v (b0 :: b1 :: σ) H QG=QG (b0 :: some v :: σ) H:=rfl
theorem e_nam2 {v:V} {b0 b1 b2:Option V}:gName 2 v (b0 :: b1 :: b2 :: σ) H QG=QG (b0 :: b1 :: some v :: σ) H:=rfl
theorem e_nam3 {v:V} {b0 b1 b2 b3:Option V}:gName 3 v (b0 :: b1 :: b2 :: b3 :: σ) H QG=QG (b0 :: b1 :: b2 :: some v :: σ) H:=rfl
theorem e_nam4 {v:V} {b0 b1 b2 b3 b4:Option V}:gName 4 v (b0 :: b1 :: b2 :: b3 :: b4 :: σ) H QG=QG (b0 :: b1 :: b2 :: b3 :: some v :: σ) H:=rfl
theorem e_nam5 {v:V} {b0 b1 b2 b3 b4 b5:Option V}:gName 5 v (b0 :: b1 :: b2 :: b3 :: b4 :: b5 :: σ) H QG=QG (b0 :: b1 :: b2 :: b3 :: b4 :: some v :: σ) H:=rfl
theorem e_nam6 {v:V} {b0 b1 b2 b3 b4 b5 b6:Option V}:gName 6 v (b0 :: b1 :: b2 :: b3 :: b4 :: b5 :: b6 :: σ) H QG=QG (b0 :: b1 :: b2 :: b3 :: b4 :: b5 :: some v :: σ) H:=rfl
theorem e_nam7 {v:V} {b0 b1 b2 b3 b4 b5 b6 b7:Option V}:gName 7 v (b0 :: b1 :: b2 :: b3 :: b4 :: b5 :: b6 :: b7 :: σ) H QG=QG (b0 :: b1 :: b2 :: b3 :: b4 :: b5 :: b6 :: some v :: σ) H:=rfl
theorem e_nam8 {v:V} {b0 b1 b2 b3 b4 b5 b6 b7 b8:Option V}:gName 8 v (b0 :: b1 :: b2 :: b3 :: b4 :: b5 :: b6 :: b7 :: b8 :: σ) H QG=QG (b0 :: b1 :: b2 :: b3 :: b4 :: b5 :: b6 :: b7 :: some v :: σ) H:=rfl
theorem e_nam9 {v:V} {b0 b1 b2 b3 b4 b5 b6 b7 b8 b9:Option V}:gName 9 v (b0 :: b1 :: b2 :: b3 :: b4 :: b5 :: b6 :: b7 :: b8 :: b9 :: σ) H QG=QG (b0 :: b1 :: b2 :: b3 :: b4 :: b5 :: b6 :: b7 :: b8 :: some v :: σ) H:=rfl
theorem e_nam10 {v:V} {b0 b1 b2 b3 b4 b5 b6 b7 b8 b9 b10:Option V}:gName 10 v (b0 :: b1 :: b2 :: b3 :: b4 :: b5 :: b6 :: b7 :: b8 :: b9 :: b10 :: σ) H QG=QG (b0 :: b1 :: b2 :: b3 :: b4 :: b5 :: b6 :: b7 :: b8 :: b9 :: some v :: σ) H:=rfl
theorem e_par {i j:Nat} {ta:TA}:tPar i j ta D σ H=ta σ H fun vs H1=>∃ v w,vs=[v,w]∧gName i v σ H1 fun σ1 H2=>gName j w σ1 H2 D.nx:=rfl
theorem e_ex2 {x y:V} {P:V→V→Prop}:(∃ v w,[x,y] = [v,w]∧P v w)=P x y:=propext ⟨fun ⟨_,_,e,q⟩=>by cases e;exact q,fun q=>⟨_,_,rfl,q⟩⟩
theorem e_gN:gNil [] σ H QG=QG σ H:=propext ⟨fun h=>h.2,fun h=>⟨rfl,h⟩⟩
theorem e_gC {t:TG} {u:TGs} {v:V} {r:List V}:gCons t u (v :: r) σ H QG=t v σ H fun σ' H'=>u r σ' H' QG:=propext ⟨fun ⟨_,_,e,q⟩=>by cases e;exact q,fun q=>⟨_,_,rfl,q⟩⟩
theorem e_rI0 {g:Int→Int→V} {i j:Int}:rI0 g (.int i) (.int j) H Q=Q (g i j) H:=propext ⟨fun ⟨_,_,e,e',q⟩=>by cases e;cases e';exact q,fun q=>⟨_,_,rfl,rfl,q⟩⟩
theorem e_rI {C:Int→Int→Prop} {g:Int→Int→V} {i j:Int}:rI C g (.int i) (.int j) H Q=(C i j∧Q (g i j) H):=propext ⟨fun ⟨_,_,e,e',q⟩=>by cases e;cases e';exact q,fun q=>⟨_,_,rfl,rfl,q⟩⟩
theorem e_rU {g:Int→V} {i:Int}:rU g (.int i) H Q=Q (g i) H:=propext ⟨fun ⟨_,e,q⟩=>by cases e;exact q,fun q=>⟨_,rfl,q⟩⟩
theorem e_xB {b:Bool} {P:Bool→Prop}:(∃ k,V.bl b=V.bl k∧P k)=P b:=propext ⟨fun ⟨_,e,q⟩=>by cases e;exact q,fun q=>⟨_,rfl,q⟩⟩
theorem e_xI {b:Int} {P:Int→Prop}:(∃ k,V.int b=V.int k∧P k)=P b:=propext ⟨fun ⟨_,e,q⟩=>by cases e;exact q,fun q=>⟨_,rfl,q⟩⟩
theorem e_xJ {b:Int} {P:Int→Prop}:(∃ k,[V.int b] = [V.int k]∧P k)=P b:=propext ⟨fun ⟨_,e,q⟩=>by cases e;exact q,fun q=>⟨_,rfl,q⟩⟩
theorem e_xJ2 {a b:Int} {P:Int→Int→Prop}:(∃ j k,[V.int a,V.int b] = [V.int j,V.int k]∧P j k)=P a b:=propext ⟨fun ⟨_,_,e,q⟩=>by cases e;exact q,fun q=>⟨_,_,rfl,q⟩⟩
theorem e_rEq {a b:Int}:rEq (.int a) (.int b) H Q=Q (.bl (decide (a=b))) H:=by
 show (scal (.int a) (.int b)=true∧_)=_
 rw [show (decide (V.int a=V.int b))=decide (a=b) from decide_eq_decide.mpr ⟨fun e=>V.int.inj e,fun e=>by rw [e]⟩]
 exact propext ⟨fun h=>h.2,fun h=>⟨rfl,h⟩⟩
theorem e_rNe {a b:Int}:rNe (.int a) (.int b) H Q=Q (.bl (!decide (a=b))) H:=by
 show (scal (.int a) (.int b)=true∧_)=_
 rw [show (decide (V.int a=V.int b))=decide (a=b) from decide_eq_decide.mpr ⟨fun e=>V.int.inj e,fun e=>by rw [e]⟩]
 exact propext ⟨fun h=>h.2,fun h=>⟨rfl,h⟩⟩
theorem e_itT {a b:Prop}:(if true=true then a else b)=a:=rfl
theorem e_itF {a b:Prop}:(if false=true then a else b)=b:=rfl
theorem e_itD {p:Prop} [Decidable p] {a b:Prop}:(if decide p=true then a else b)=if p then a else b:=by by_cases h:p <;> simp [h]
end
class CtP (α:Type) where
 p:α→Prop
noncomputable def OS {α:Type} (o:Option α) [c:CtP α] : Prop:=∃ x,o=some x∧c.p x
noncomputable def OL (o:Option HO) [c:CtP (List V)] : Prop:=∃ x,o=some (.lst x)∧c.p x
noncomputable def OT (o:Option HO) [c:CtP (List V)] : Prop:=∃ x,o=some (.tup x)∧c.p x
theorem e_os {α:Type} {x:α} {P:α→Prop} : @OS α (some x) ⟨P⟩=P x:=propext ⟨fun ⟨_,e,q⟩=>by cases e;exact q,fun q=>⟨x,rfl,q⟩⟩
theorem e_ol {x:List V} {P:List V→Prop} : @OL (some (.lst x)) ⟨P⟩=P x:=propext ⟨fun ⟨_,e,q⟩=>by cases e;exact q,fun q=>⟨x,rfl,q⟩⟩
theorem e_ot {x:List V} {P:List V→Prop} : @OT (some (.tup x)) ⟨P⟩=P x:=propext ⟨fun ⟨_,e,q⟩=>by cases e;exact q,fun q=>⟨x,rfl,q⟩⟩
theorem u_os {α:Type} {o:Option α} {P:α→Prop} : @OS α o ⟨P⟩ = ∃ x,o=some x∧P x:=rfl
theorem u_ol {o:Option HO} {P:List V→Prop} : @OL o ⟨P⟩ = ∃ x,o=some (.lst x)∧P x:=rfl
theorem u_ot {o:Option HO} {P:List V→Prop} : @OT o ⟨P⟩ = ∃ x,o=some (.tup x)∧P x:=rfl
section
variable {D:Ends} {σ:St} {H:Hp} {Q:VK} {QG:St→Hp→Prop} {a:Addr} {n k:Int}
theorem e_ix:rIx0 (.ref a) (.int n) H Q = @OS _ (sq H a) ⟨fun xs=>@OS _ (atI xs n) ⟨fun v=>Q v H⟩⟩:=propext ⟨fun ⟨_,xs,_,v,e,e',h,h',q⟩=>by cases e;cases e';exact ⟨xs,h,v,h',q⟩,fun ⟨xs,h,v,h',q⟩=>⟨_,xs,_,v,rfl,rfl,h,h',q⟩⟩
theorem e_setL {v:V} {q:Hp→Prop}:rSetL (.ref a) (.int k) v H q = @OL (H a) ⟨fun xs=>@OS _ (ixN xs.length k) ⟨fun j=>q (upd H a (.lst (xs.set j v)))⟩⟩:=propext ⟨fun ⟨_,xs,_,v,e,e',h,h',q⟩=>by cases e;cases e';exact ⟨xs,h,v,h',q⟩,fun ⟨xs,h,v,h',q⟩=>⟨_,xs,_,v,rfl,rfl,h,h',q⟩⟩
theorem e_emit {p:Addr} {te:TE}:tEmit p te σ H QG=te σ H fun y H1=>@OL (H1 p) ⟨fun ys=>ys.length < sizeLine∧QG σ (upd H1 p (.lst (ys ++ [y])))⟩:=rfl
theorem e_f1 {α:Type} {f:Addr→Option α} {P:Addr→α→Prop}:(∃ p ys,[V.ref a] = [V.ref p]∧f p=some ys∧P p ys) = @OS _ (f a) ⟨fun ys=>P a ys⟩:=propext ⟨fun ⟨_,y,e,h,q⟩=>by cases e;exact ⟨y,h,q⟩,fun ⟨y,h,q⟩=>⟨_,y,rfl,h,q⟩⟩
theorem e_f2 {P:Addr→List V→Prop}:(∃ p ys,[V.ref a] = [V.ref p]∧H p=some (.lst ys)∧P p ys) = @OL (H a) ⟨fun ys=>P a ys⟩:=propext ⟨fun ⟨_,y,e,h,q⟩=>by cases e;exact ⟨y,h,q⟩,fun ⟨y,h,q⟩=>⟨_,y,rfl,h,q⟩⟩
theorem e_f3 {P:Addr→List V→Prop}:(∃ p ys,V.ref a=V.ref p∧H p=some (.lst ys)∧P p ys) = @OL (H a) ⟨fun ys=>P a ys⟩:=propext ⟨fun ⟨_,y,e,h,q⟩=>by cases e;exact ⟨y,h,q⟩,fun ⟨y,h,q⟩=>⟨_,y,rfl,h,q⟩⟩
theorem e_f4 {P:Addr→List V→Prop}:(∃ p ys,V.ref a=V.ref p∧H p=some (.tup ys)∧P p ys) = @OT (H a) ⟨fun ys=>P a ys⟩:=propext ⟨fun ⟨_,y,e,h,q⟩=>by cases e;exact ⟨y,h,q⟩,fun ⟨y,h,q⟩=>⟨_,y,rfl,h,q⟩⟩
theorem e_f5 {z:V} {P:List V→V→Prop}:(∃ ys y,[z] = [y]∧H a=some (.lst ys)∧P ys y) = @OL (H a) ⟨fun ys=>P ys z⟩:=propext ⟨fun ⟨y,_,e,h,q⟩=>by cases e;exact ⟨y,h,q⟩,fun ⟨y,h,q⟩=>⟨y,_,rfl,h,q⟩⟩
end
theorem e_g1 {a:Addr} {P:Addr→Prop}:(∃ p,[V.ref a] = [V.ref p]∧P p)=P a:=propext ⟨fun ⟨_,e,q⟩=>by cases e;exact q,fun q=>⟨_,rfl,q⟩⟩
theorem e_g2 {a:Addr} {P:Addr→Prop}:(∃ p,V.ref a=V.ref p∧P p)=P a:=propext ⟨fun ⟨_,e,q⟩=>by cases e;exact q,fun q=>⟨_,rfl,q⟩⟩
theorem e_g3 {H:Hp} {a:Addr} {P:List V→Prop}:(∃ x,sq H a=some x∧P x) = @OS _ (sq H a) ⟨P⟩:=rfl
theorem e_g4 {H:Hp} {a:Addr} {P:List V→Prop}:(∃ x,H a=some (.lst x)∧P x) = @OL (H a) ⟨P⟩:=rfl
theorem e_g5 {H:Hp} {a:Addr} {P:List V→Prop}:(∃ x,H a=some (.tup x)∧P x) = @OT (H a) ⟨P⟩:=rfl
theorem e_g7 {xs:List V} {n:Int} {P:V→Prop}:(∃ x,atI xs n=some x∧P x) = @OS _ (atI xs n) ⟨P⟩:=rfl
class CtS where
 f:St→Hp→Prop
noncomputable def LaterH [c:CtS] : St→Hp→Prop:=c.f
theorem a_laterH {f:St→Hp→Prop} {σ:St} {H:Hp} : @LaterH ⟨f⟩ σ H=f σ H:=rfl
theorem e_seqL {t u:TS} {D:Ends} {σ:St} {H:Hp}:tSeqL t u D σ H=t { D with nx:=@LaterH ⟨u D⟩ } σ H:=rfl
theorem sc_ii {a b:Int}:scal (.int a) (.int b)=true:=rfl
theorem sc_bb {a b:Bool}:scal (.bl a) (.bl b)=true:=rfl
theorem sc_ss {a b:Str}:scal (.str a) (.str b)=true:=rfl
theorem sc_nn:scal .non .non=true:=rfl
theorem sc_in {a:Int}:scal (.int a) .non=true:=rfl
theorem sc_ni {a:Int}:scal .non (.int a)=true:=rfl
theorem sc_bn {a:Bool}:scal (.bl a) .non=true:=rfl
theorem sc_nb {a:Bool}:scal .non (.bl a)=true:=rfl
theorem sc_sn {a:Str}:scal (.str a) .non=true:=rfl
theorem sc_ns {a:Str}:scal .non (.str a)=true:=rfl
theorem sc_is {a:Int} {b:Str}:scal (.int a) (.str b)=true:=rfl
theorem sc_si {a:Int} {b:Str}:scal (.str b) (.int a)=true:=rfl
theorem sc_bs {a:Bool} {b:Str}:scal (.bl a) (.str b)=true:=rfl
theorem sc_sb {a:Bool} {b:Str}:scal (.str b) (.bl a)=true:=rfl
end L2
end
section
set_option maxRecDepth 1000000
section
open PySem L2
set_option hygiene false in
local macro_rules | `(tactic| push_cast [$as,*]) => `(tactic| (try simp only [↓e_var0, ↓e_var1, ↓e_var2, ↓e_var3, ↓e_var4, ↓e_var5, ↓e_var6, ↓e_var7, ↓e_var8, ↓e_var9, ↓e_var10, ↓e_nam0, ↓e_nam1, ↓e_nam2, ↓e_nam3, ↓e_nam4, ↓e_nam5, ↓e_nam6, ↓e_nam7, ↓e_nam8, ↓e_nam9, ↓e_nam10, ↓e_par, ↓e_ex2, ↓e_gN, ↓e_gC, ↓e_rI0, ↓e_rI, ↓e_rU, ↓e_xB, ↓e_xI, ↓e_xJ, ↓e_xJ2, ↓e_rEq, ↓e_rNe, ↓e_itT, ↓e_itF, ↓e_itD, ↓e_ix, ↓e_setL, ↓e_emit, ↓e_f1, ↓e_f2, ↓e_f3, ↓e_f4, ↓e_f5, ↓e_seqL, ↓e_g1, ↓e_g2, e_os, e_ol, e_ot, HO.dT.injEq, V.str.injEq, HO.dK.injEq, ↓a_rEqNil, ↓a_tTruL, ↓a_tChain, ↓a_tDict, ↓a_tLstA, ↓a_rMulT, ↓a_rEqT, ↓a_tLC2, ↓a_tLC3, ↓a_tInner, ↓a_tIns, ↓a_tRev, ↓a_rSlA, ↓a_rCatA, ↓a_rCatL, ↓a_tSeq, ↓a_tFor, ↓a_rIxL, ↓a_iZip, ↓a_tSortR, ↓a_tSl, ↓a_rSlL0, ↓a_tNoPart, ↓a_tPart, ↓a_tApp, ↓a_tRet, ↓a_tRetN, ↓a_tNext, ↓a_tDrop, ↓a_tAsg, ↓a_gSub, a_gName, a_gNil, a_gCons, ↓a_gTup0, a_rSetL, ↓a_tIfS, ↓a_tAnd, ↓a_tOr, ↓a_tNot, ↓a_tTest, ↓a_tB, ↓a_tTrue, ↓a_tIf, ↓a_tAndV, ↓a_tOrV, ↓a_tNotV, ↓a_tOp, ↓a_tUn, a_rU, a_tVar, ↓a_tC, a_rI0, a_rI, a_rEq, a_rNe, a_rIx0, ↓a_rIn0, ↓a_tCB, ↓a_tCal, ↓a_tCons, ↓a_tNil, ↓a_tTupA, ↓a_tLst, a_tPar, ↓a_tBits, ↓a_tLC, ↓a_iRng1, ↓a_iRng2, ↓a_iT0, ↓a_iL0, a_tEmit, frS, sc_ii, sc_bb, sc_ss, sc_nn, sc_in, sc_ni, sc_bn, sc_nb, sc_sn, sc_ns, sc_is, sc_si, sc_bs, sc_sb, V.ty.injEq, tyN, subN, String.reduceEq, String.reduceBEq, Bool.true_or, Bool.false_or, Bool.or_false, Bool.true_and, Bool.false_and, Bool.and_false, or_true, true_or, beq_self_eq_true, decide_true, decide_false, List.map_cons, List.map_nil, List.length_cons, List.length_nil, List.getElem?_cons_zero, List.getElem?_cons_succ, List.getElem?_nil, List.set_cons_zero, List.set_cons_succ, Option.some.injEq, Option.bind_some, Option.bind_none, id, exists_eq_left', exists_eq_left, exists_and_left, exists_eq_right, V.int.injEq, V.bl.injEq, V.ref.injEq, List.cons.injEq, and_true, true_and, and_assoc, exists_const, atI0, atI1, atI2, ixN30, ixN31, ixN32, upd_same, upd_upd, sq_updL, sq_updT, Nat.zero_add, Nat.reduceAdd, reduceCtorEq, false_and, and_false, exists_false, false_or, or_false, List.length_map, HO.lst.injEq, HO.tup.injEq, Bool.false_eq_true, if_false, if_true, decide_eq_true_eq, ite_true, ite_false, reduceIte, Int.reduceLT, Int.reduceLE, Nat.reduceLT, Int.zero_add, Bool.not_true, Bool.not_false, $as,*]))
set_option hygiene false in
local macro_rules | `(tactic| push_cast only [$as,*]) => `(tactic| ((push_cast [↓e_g3, ↓e_g4, ↓e_g5, ↓e_g7, $as,*]); (push_cast [u_os, u_ol, u_ot, $as,*])))
set_option hygiene false in
local macro_rules | `(tactic| omega) => `(tactic| first | (with_reducible first | assumption | (refine Nat.lt_of_lt_of_le ?_ (show 2 ^ _ ≤ 32 from p32); assumption) | (refine Nat.lt_of_lt_of_le ?_ p32.1; assumption) | (refine Nat.lt_of_lt_of_le ?_ m5; assumption) | (refine Nat.lt_of_lt_of_le ?_ p5; assumption)) | lia)
section
set_option Elab.async false
set_option linter.all false
set_option maxRecDepth 100000
set_option maxHeartbeats 8000000
namespace K96
open PySem L2
noncomputable def top (i:Nat):Stmt:=PySem.Challenge.pw_wantprices_k96_whole_made_wants_of_their.main.body.getD i (.Pass ⟨0,0,0,0⟩)
noncomputable abbrev s_has:Stmt:=top 1
noncomputable abbrev s_put_in:Stmt:=top 2
noncomputable abbrev s_taken_out:Stmt:=top 3
noncomputable abbrev s_less:Stmt:=top 4
noncomputable abbrev s_things_in:Stmt:=top 5
noncomputable abbrev s_heap_of:Stmt:=top 6
noncomputable abbrev s_is_within:Stmt:=top 7
noncomputable abbrev s_heap_of_side:Stmt:=top 8
noncomputable abbrev s_alone:Stmt:=top 10
noncomputable abbrev s_some_of:Stmt:=top 11
noncomputable abbrev s_joined:Stmt:=top 12
noncomputable abbrev s_most_parted:Stmt:=top 13
noncomputable abbrev s_paired:Stmt:=top 14
noncomputable abbrev s_with_pair:Stmt:=top 15
noncomputable abbrev s_turned:Stmt:=top 17
noncomputable abbrev s_breaking:Stmt:=top 18
noncomputable abbrev s_first_pair:Stmt:=top 19
noncomputable abbrev s_first_three:Stmt:=top 20
noncomputable abbrev s_things_beside:Stmt:=top 21
noncomputable abbrev s_pairs_beside:Stmt:=top 22
noncomputable abbrev s_pair_breaks:Stmt:=top 23
noncomputable abbrev s_three_break:Stmt:=top 24
noncomputable abbrev s_parted:Stmt:=top 25
noncomputable abbrev s_exchanges:Stmt:=top 27
noncomputable abbrev s_exchange_places:Stmt:=top 28
noncomputable abbrev s_exchanges_at:Stmt:=top 29
noncomputable abbrev s_is_exchange:Stmt:=top 30
noncomputable abbrev s_is_whole:Stmt:=top 32
noncomputable abbrev s_are_wholes:Stmt:=top 33
noncomputable abbrev s_shows_exchanges:Stmt:=top 35
noncomputable abbrev s_shows_exchange:Stmt:=top 36
noncomputable abbrev s_price_break:Stmt:=top 38
noncomputable abbrev s_far_prices:Stmt:=top 39
noncomputable abbrev s_pair_prices:Stmt:=top 40
noncomputable abbrev s_three_prices:Stmt:=top 41
noncomputable abbrev s_with_signs:Stmt:=top 42
noncomputable abbrev s_lessened:Stmt:=top 44
noncomputable abbrev s__law_box:Stmt:=top 46
noncomputable abbrev s__law_take:Stmt:=top 47
noncomputable abbrev s__law_many:Stmt:=top 48
noncomputable abbrev s__law_worths:Stmt:=top 49
noncomputable abbrev s__law_rows:Stmt:=top 50
noncomputable abbrev s__law_first:Stmt:=top 51
noncomputable abbrev s__law_made:Stmt:=top 52
noncomputable abbrev s__law_planted:Stmt:=top 53
noncomputable abbrev s_law:Stmt:=top 54
structure Txt (mg:Str→Option Value):Prop where
 len_:mg "len" = none
 sum_:mg "sum" = none
 all_:mg "all" = none
 isinstance_:mg "isinstance" = none
 abs_:mg "abs" = none
 min_:mg "min" = none
 max_:mg "max" = none
 range_:mg "range" = none
 tuple_:mg "tuple" = none
 list_:mg "list" = none
 int_:mg "int" = none
 bool_:mg "bool" = none
 zip_:mg "zip" = none
 sorted_:mg "sorted" = none
section
variable {P:Program} {w:World} {K:PySem.W.Frag} {mg:Str→Option Value} {base:Heap} {f:Addr} {fd:FuncData}
theorem sc__law_take:FnScope ["_law_box_here", "_law_many_here", "_law_digit"] ["_law_box_here", "_law_many_here"] (defScope s__law_take):=⟨rfl,rfl,rfl,by decide +kernel,rfl,by decide +kernel,by decide +kernel⟩
theorem ok_take (F:Fun K "_law_take" "_law_take" s__law_take f fd) (hm:mg "_law_take" = some (.ref f)) (hb:Binds K fd ["_law_box_here", "_law_many_here"] []) (T:Txt mg):Cal P w K mg base "_law_take" ["_law_box_here", "_law_many_here"] 1 spTake:=by
 refine cal_of F hm hb sc__law_take (fun vs H Q E h=>?_) (fun cdv A outer s H vs Q E hr h=>?_)
 ·obtain ⟨_,_,rfl,_⟩:=h;rfl
 ·obtain ⟨p,many,rfl,⟨g,m,c,hp⟩,h1,h2,q⟩:=h
  have sc:=sc__law_take
  refine ⟨_,pss_cons (ps_asg (pe_op op_add (pe_ix ix0 (pv 0) pe_int (fun _ _=>rfl)) pe_int) (pg_sub (pv 0) pe_int set_list))
   (pss_cons (ps_if (PW.pt (pw_and (pt_cmpR op_gt (pe_ix ix0 (pv 0) pe_int (fun _ _=>rfl)) pe_int (nomark _)) (pw_and1 (pt_cmpR op_le (pe_ix ix0 (pv 0) pe_int (fun _ _=>rfl)) pe_int (nomark _))))) (pss_cons (ps_set (i:=2) sc.nd rfl (Or.inl rfl) (pe_op op_mod (pe_ix ix0 (pv 0) pe_int (fun _ _=>rfl)) (pv 1)))
   (pss_cons (ps_asg (pe_op op_fdiv (pe_ix ix0 (pv 0) pe_int (fun _ _=>rfl)) (pv 1)) (pg_sub (pv 0) pe_int set_list))
   (pss_one (ps_ret (pv 2))))) pss_nil)
   (pss_cons (ps_asg (pe_op op_mod (pe_op op_add (pe_op op_add (pe_op op_mul (pe_ix ix0 (pv 0) pe_int (fun _ _=>rfl)) pe_int) pe_int) (pe_ix ix0 (pv 0) pe_int (fun _ _=>rfl))) pe_int) (pg_sub (pv 0) pe_int set_list))
   (pss_one (ps_ret (pe_op op_mod (pe_op op_fdiv (pe_op op_mod (pe_op op_mul (pe_ix ix0 (pv 0) pe_int (fun _ _=>rfl)) (pe_op op_add (pe_op op_mod (pe_ix ix0 (pv 0) pe_int (fun _ _=>rfl)) pe_int) pe_int)) pe_int) pe_int) (pv 1)))))),?_⟩
  have hq:=sq_lst hp
  rw [show L2.start ["_law_box_here", "_law_many_here", "_law_digit"] [.ref p,.int many] = [some (.ref p),some (.int many),none] from rfl]
  (push_cast only [hq,hp])
  have fin:∀ (z g' m' c':Int),Q (V.int (z % many)) (upd H p (.lst [.int g',.int m',.int c'])):=fun z g' m' c'=>q _ _ (Int.emod_nonneg _ (by omega)) (Int.emod_lt_of_pos _ h1) ⟨g',m',c',upd_same⟩ But.upd
  have cm:∀ a b:Int,CMul a (b % 40009 + 3):=fun a b=>.inr ⟨by omega,by omega⟩
  split
  ·split
   ·exact ⟨h1,⟨h1,h2⟩,fin _ _ _ _⟩
   ·exact ⟨.inr ⟨by decide,by decide⟩,cm _ _,⟨by decide,by decide⟩,h1,fin _ _ _ _⟩
  ·exact ⟨.inr ⟨by decide,by decide⟩,cm _ _,⟨by decide,by decide⟩,h1,fin _ _ _ _⟩
theorem sc__law_box:FnScope ["_law_script", "_law_k", "_law_cell", "_law_great"] ["_law_script", "_law_k"] (defScope s__law_box):=⟨rfl,rfl,rfl,by decide +kernel,rfl,by decide +kernel,by decide +kernel⟩
theorem ok_box (F:Fun K "_law_box" "_law_box" s__law_box f fd) (hm:mg "_law_box" = some (.ref f)) (hb:Binds K fd ["_law_script", "_law_k"] []) (T:Txt mg):Cal P w K mg base "_law_box" ["_law_script", "_law_k"] 1 (spBox K):=by
 refine cal_of F hm hb sc__law_box (fun vs H Q E h=>?_) (fun cdv A outer s H vs Q E hr h=>?_)
 ·obtain ⟨_,_,_,rfl,_⟩:=h;rfl
 ·obtain ⟨a,k,ns,rfl,hq,hk,q⟩:=h
  have sc:=sc__law_box
  refine ⟨_,pss_cons (ps_set (i:=2) sc.nd rfl (Or.inl rfl) (pe_ifExp (pt_cmpR op_lt (pv 1) (pe_callB call_len_seq rfl T.len_ bt_len (pa_cons (pv 0) pa_nil)) (nomark _)) (pe_ix ix_list (pv 0) (pv 1) (fun _ _=>rfl)) pe_int))
   (pss_cons (ps_set (i:=3) sc.nd rfl (Or.inl rfl) (pe_op op_mul (pe_callB call_abs rfl T.abs_ bt_abs (pa_cns (pv 2) pa_nil)) (pe_callTy call_int1 rfl T.int_ bt_int (pa_cns (pe_cmpR op_ge (pe_callB call_abs rfl T.abs_ bt_abs (pa_cns (pv 2) pa_nil)) (pe_op op_pow pe_int pe_int) (nomark _)) pa_nil))))
   (pss_one (ps_ret (pe_lst (pa_cns (pv 3) (pa_cns (pe_op op_mod (pe_op op_mul (pe_op op_add (pe_op op_add (pe_op op_mod (pv 2) pe_int) (pe_op op_mul (pe_op op_mul pe_int (pv 1)) (pv 1))) pe_int) pe_int) pe_int) (pa_cns pe_int pa_nil))))))),?_⟩
  rw [show L2.start ["_law_script", "_law_k", "_law_cell", "_law_great"] [.ref a,.int (k:Int)] = [some (.ref a),some (.int (k:Int)),none,none] from rfl]
  have cm:∀ (z:Int) (c:Prop) [Decidable c],CMul z (if c then 1 else 0):=fun z c _=>.inr (by split <;> exact ⟨by decide,by decide⟩)
  have fin:∀ x y z:Int,CPow 10 18∧((CMul 7919 (k:Int)∧CMul (7919 * (k:Int)) (k:Int)∧CMul x 48271∧3 ≤ sizeLine)∧∀ p:Addr,H p=none→Q (V.ref p) (upd H p (.lst [.int y,.int z,.int 0]))):=fun x y z =>
   ⟨⟨by decide,by decide,by decide⟩,⟨.inl ⟨by decide,by decide⟩,.inr ⟨by omega,by omega⟩,.inr ⟨by decide,by decide⟩,by decide⟩,fun p hp=>q p _ hp ⟨y,z,0,upd_same⟩ But.upd⟩
  (push_cast only [])
  refine ⟨_,.inl hq,?_⟩
  by_cases hlt:k < ns.length
  ·have ha:atI (ns.map V.int) (k:Int)=some (V.int ns[k]):=atI_nat (by simp [hlt])
   rw [if_pos (by simp;omega)]
   refine ⟨_,hq,_,ha,?_⟩
   (push_cast only [])
   obtain ⟨f1,⟨f2,f3,f4,f5⟩,f6⟩:=fin (ns[k] % 2147483629 + 7919 * (k:Int) * (k:Int) + 11) ((if ns[k] < 0 then -ns[k] else ns[k]) * if 10 ^ Int.toNat 18 ≤ if ns[k] < 0 then -ns[k] else ns[k] then 1 else 0) ((ns[k] % 2147483629 + 7919 * (k:Int) * (k:Int) + 11) * 48271 % 2147483647)
   exact ⟨f1,cm _ _,f2,f3,f4,f5,f6⟩
  ·rw [if_neg (by simp;omega)]
   (push_cast only [])
   obtain ⟨f1,⟨f2,f3,f4,f5⟩,f6⟩:=fin (0 % 2147483629 + 7919 * (k:Int) * (k:Int) + 11) (0 * if 10 ^ Int.toNat 18 ≤ 0 then 1 else 0) ((0 % 2147483629 + 7919 * (k:Int) * (k:Int) + 11) * 48271 % 2147483647)
   exact ⟨f1,cm _ _,f2,f3,f4,f5,f6⟩
noncomputable def sp_many:Sp:=fun vs H Q _=>∃ p:Addr,vs=[.ref p]∧Box H p∧∀ (m:Nat) (H':Hp),1 ≤ m→m ≤ 5→Box H' p→SameX p H H'→Q (.int (m:Int)) H'
theorem sc__law_many:FnScope ["_law_box_here"] ["_law_box_here"] (defScope s__law_many):=⟨rfl,rfl,rfl,by decide +kernel,rfl,by decide +kernel,by decide +kernel⟩
theorem ok_many (F:Fun K "_law_many" "_law_many" s__law_many f fd) (hm:mg "_law_many" = some (.ref f)) (hb:Binds K fd ["_law_box_here"] []) (T:Txt mg) (c__law_take:Cal P w K mg base "_law_take" ["_law_box_here", "_law_many_here"] 1 spTake):Cal P w K mg base "_law_many" ["_law_box_here"] 2 sp_many:=by
 refine cal_of F hm hb sc__law_many (fun vs H Q E h=>?_) (fun cdv A outer s H vs Q E hr h=>?_)
 ·obtain ⟨_,rfl,_⟩:=h;rfl
 ·obtain ⟨p,rfl,bx,q⟩:=h
  have sc:=sc__law_many
  refine ⟨_,pss_one (ps_ret (pe_ifExp (pt_cmpR op_eq (pe_cal c__law_take hr (pa_cns (pv 0) (pa_cns pe_int pa_nil))) pe_int (nomark _)) pe_int (pe_op op_add pe_int (pe_cal c__law_take hr (pa_cns (pv 0) (pa_cns pe_int pa_nil)))))),?_⟩
  rw [show L2.start ["_law_box_here"] [.ref p] = [some (.ref p)] from rfl]
  (push_cast only [])
  refine ⟨p,8,rfl,bx,by decide,by decide,fun r H1 r0 r1 bx1 bt1=>?_⟩
  (push_cast only [])
  split
  ·exact q 5 H1 (by decide) (by decide) bx1 bt1.x
  ·refine ⟨p,4,rfl,bx1,by decide,by decide,fun r' H2 r0' r1' bx2 bt2=>?_⟩
   (push_cast only [])
   obtain ⟨n,rfl⟩:=Int.eq_ofNat_of_zero_le r0'
   have:=q (1 + n) H2 (by omega) (by omega) bx2 (bt1.x.trans bt2.x)
   rw [Int.natCast_add] at this
   exact this
structure Ws (ws:List Int):Prop where
 one:1 ≤ ws.length
 five:ws.length ≤ 5
 bd:∀ x ∈ ws,0 ≤ x∧x ≤ 100000
theorem pow32 {m:Nat} (h:m ≤ 5):2 ^ m ≤ 32∧0 < 2 ^ m:=⟨Nat.le_trans (Nat.pow_le_pow_right (by decide) h) (by decide),Nat.two_pow_pos m⟩
noncomputable def sp_worths:Sp:=fun vs H Q _=>∃ (p:Addr) (m:Nat),vs=[.ref p,.int (m:Int)]∧Box H p∧1 ≤ m∧m ≤ 5∧∀ (t:Addr) (ws:List Int) (H':Hp),H t=none→ws.length=m→Ws ws→Box H' p→SameX p H H'→H' t=some (.tup (ws.map V.int))→Q (.ref t) H'
noncomputable def L3 (p c:Addr) (most:Int) (G:Hp) (i:Nat) (σ:St) (H:Hp):Prop:=∃ (v:Option V) (ws:List Int),σ=[v,some (.ref p),some (.int most)]∧ws.length=i∧(∀ x ∈ ws,0 ≤ x∧x ≤ 100000)∧Box H p∧(∀ b o,b ≠ p→b ≠ c→G b=some o→H b=some o)∧H c=some (.lst (ws.map V.int))
theorem sc__law_worths:FnScope ["_law_box_here", "_law_many_here", "_law_most"] ["_law_box_here", "_law_many_here"] (defScope s__law_worths):=⟨rfl,rfl,rfl,by decide +kernel,rfl,by decide +kernel,by decide +kernel⟩
theorem ok_worths (F:Fun K "_law_worths" "_law_worths" s__law_worths f fd) (hm:mg "_law_worths" = some (.ref f)) (hb:Binds K fd ["_law_box_here", "_law_many_here"] []) (T:Txt mg) (c__law_take:Cal P w K mg base "_law_take" ["_law_box_here", "_law_many_here"] 1 spTake):Cal P w K mg base "_law_worths" ["_law_box_here", "_law_many_here"] 2 sp_worths:=by
 refine cal_of F hm hb sc__law_worths (fun vs H Q E h=>?_) (fun cdv A outer s H vs Q E hr h=>?_)
 ·obtain ⟨_,_,rfl,_⟩:=h;rfl
 ·obtain ⟨p,m,rfl,bx,m1,m5,q⟩:=h
  have sc:=sc__law_worths
  refine ⟨_,pss_cons (ps_set (i:=2) sc.nd rfl (Or.inr rfl) (pe_ix ix0 (pe_lst (pa_cns pe_int (pa_cns pe_int (pa_cns pe_int (pa_cns pe_int pa_nil))))) (pe_cal c__law_take hr (pa_cns (pv 0) (pa_cns pe_int pa_nil))) (fun _ _=>rfl)))
   (pss_one (ps_ret (pe_callTy tupA0 rfl T.tuple_ bt_tuple (pa_cns (pe_lc (N:=["_law_t", "_law_box_here", "_law_most"]) (fr:=[none,some 0,some 2]) rfl (pi_range1 rfl T.range_ (pa_cns (pv 1) pa_nil)) (CScope.of rfl rfl rfl) rfl (fun _ _ _=>⟨pg_name (i:=0) (show List.Nodup (α:=Str) ["_law_t", "_law_box_here", "_law_most"] by decide +kernel) rfl (Or.inl rfl),pif_nil,pe_cal c__law_take hr (pa_cns (pv 1) (pa_cns (pv 2) pa_nil))⟩)) pa_nil)))),?_⟩
  rw [show L2.start ["_law_box_here", "_law_many_here", "_law_most"] [.ref p,.int (m:Int)] = [some (.ref p),some (.int (m:Int)),none] from rfl]
  (push_cast only [])
  refine ⟨by decide,fun d nd=>?_⟩
  have ndp:p ≠ d:=by rintro rfl;obtain ⟨_,_,_,e⟩:=bx;rw [nd] at e;cases e
  refine ⟨p,4,rfl,let ⟨g,m,c,e⟩:=bx;⟨g,m,c,by rw [upd_ne ndp];exact e⟩,by decide,by decide,fun r H1 r0 r1 bx1 bt1=>?_⟩
  have hd1:H1 d=some (.lst [.int 2,.int 4,.int 10,.int 1001]):=by rw [bt1 d ndp.symm];exact upd_same
  have hsd:=sq_lst hd1
  have s1:SameX p H H1:=(same_upd nd).x.trans bt1.x
  obtain ⟨most,hat,mo0,mo1⟩:∃ most:Int,atI [V.int 2,V.int 4,V.int 10,V.int 1001] r=some (.int most)∧0 < most∧most ≤ 1001:=by
   have h4:r=0∨r=1∨r=2∨r=3:=by omega
   rcases h4 with rfl | rfl | rfl | rfl
   ·exact ⟨2,rfl,by decide,by decide⟩
   ·exact ⟨4,rfl,by decide,by decide⟩
   ·exact ⟨10,rfl,by decide,by decide⟩
   ·exact ⟨1001,rfl,by decide,by decide⟩
  (push_cast only [hsd,hat])
  refine ⟨by omega,by omega,fun c nc=>?_⟩
  have ncp:p ≠ c:=by rintro rfl;obtain ⟨_,_,_,e⟩:=bx1;rw [nc] at e;cases e
  refine cl_range (L3 p c most H1) ⟨none,[],rfl,rfl,fun _ z=>absurd z (by simp),let ⟨g,m,z,e⟩:=bx1;⟨g,m,z,by rw [upd_ne ncp];exact e⟩,fun b o _ n e=>by rw [upd_ne n];exact e,upd_same⟩ ?_ ?_
  ·rintro i σ H2 hi ⟨v,ws,rfl,hl,hbd,bx2,k2,e2⟩
   rw [Int.toNat_natCast] at hi
   (push_cast only [])
   refine ⟨p,most,rfl,bx2,mo0,by omega,fun r2 H3 r0 r1 bx3 bt3=>?_⟩
   have e3:H3 c=some (.lst (ws.map V.int)):=by rw [bt3 c ncp.symm];exact e2
   (push_cast only [e3])
   refine ⟨small1000 (by omega),⟨_,ws ++ [r2],rfl,by rw [List.length_append,hl];rfl,fun x hx=>?_,let ⟨g,m,z,e⟩:=bx3;⟨g,m,z,by rw [upd_ne ncp];exact e⟩,fun b o n1 n2 e=>by rw [upd_ne n2,bt3 b n1];exact k2 b o n1 n2 e,by rw [upd_same];simp⟩⟩
   rcases List.mem_append.mp hx with z | z
   ·exact hbd x z
   ·have:x=r2:=by simpa using z
    omega
  ·rintro σ H2 ⟨v,ws,rfl,hl,hbd,bx2,k2,e2⟩
   rw [Int.toNat_natCast] at hl
   refine ⟨_,e2,fun l H3 nl s3 e3=>?_⟩
   refine q l ws H3 ?_ hl ⟨by omega,by omega,hbd⟩ (let ⟨g,m,z,e⟩:=bx2;⟨g,m,z,s3 _ _ e⟩) ?_ e3
   ·cases e:H l with
    | none=>rfl
    | some o =>
     have nlp:l ≠ p:=by rintro rfl;obtain ⟨_,_,_,z⟩:=bx2;rw [nl] at z;cases z
     have e1:=s1 _ _ nlp e
     rw [k2 l o nlp (ne_of_none e1 nc) e1] at nl
     cases nl
   ·intro b o n e
    have e1:=s1 _ _ n e
    exact s3 _ _ (k2 b o n (ne_of_none e1 nc) e1)
end
end K96
end
section
set_option Elab.async false
set_option linter.all false
set_option maxRecDepth 100000
set_option maxHeartbeats 8000000
namespace K96
open PySem L2
section
variable {P:Program} {w:World} {K:PySem.W.Frag} {mg:Str→Option Value} {base:Heap} {f:Addr} {fd:FuncData}
noncomputable def bitOn (h t:Nat):Bool:=decide (h / 2 ^ t % 2=1)
noncomputable def out (h t:Nat):Nat:=if h / 2 ^ t % 2=1 then h - 2 ^ t else h
theorem bit_on {h t:Nat} (hh:h < 32) (ht:t < 5):decide (Builtin.bitAnd ((h:Int) / 2 ^ (t:Int).toNat) 1=1)=bitOn h t∧(bitOn h t=true→(h:Int) - 1 * 2 ^ (t:Int).toNat=(out h t:Int)∧out h t < h)∧(bitOn h t=false→out h t=h):=by
 have key:∀ (a:_root_.Fin 32) (b:_root_.Fin 5),decide (Builtin.bitAnd ((a.val:Int) / 2 ^ (b.val:Int).toNat) 1=1)=bitOn a.val b.val∧(bitOn a.val b.val=true→(a.val:Int) - 1 * 2 ^ (b.val:Int).toNat=(out a.val b.val:Int)∧out a.val b.val < a.val)∧(bitOn a.val b.val=false→out a.val b.val=a.val):=by decide +kernel
 exact key ⟨h,hh⟩ ⟨t,ht⟩
noncomputable def natI (ps:List Nat):List V:=ps.map fun p:Nat=>V.int (p:Int)
theorem at_int {ns:List Int} {n:Nat} (h:n < ns.length):atI (ns.map V.int) (n:Int)=some (V.int (ns.getD n 0)):=atI_nat (by simp [h,List.getD_eq_getElem?_getD])
noncomputable abbrev Edge:=Nat × Nat × Int
noncomputable def minus (A:Nat→Prop) (i:Nat):Nat→Prop:=fun v=>A v∧v ≠ i
noncomputable def plus (A:Nat→Prop) (i:Nat):Nat→Prop:=fun v=>A v∨v=i
noncomputable def wtM (M:List Edge):Int:=(M.map fun e=>e.2.2).sum
theorem wt_cons (e:Edge) (M:List Edge):wtM (e :: M)=e.2.2 + wtM M:=by unfold wtM;rw [List.map_cons,List.sum_cons]
theorem wt_app (M N:List Edge):wtM (M ++ N)=wtM M + wtM N:=by unfold wtM;rw [List.map_append,List.sum_append]
theorem wt_perm {M N:List Edge} (h:M.Perm N):wtM M=wtM N:=by
 induction h with
 | nil=>rfl
 | cons x _ ih=>rw [wt_cons,wt_cons,ih]
 | swap x y l=>rw [wt_cons,wt_cons,wt_cons,wt_cons];omega
 | trans _ _ h1 h2=>exact h1.trans h2
structure Mat (Ed:Edge→Prop) (p q:Edge→Nat) (A:Nat→Prop) (M:List Edge):Prop where
 ed:∀ e ∈ M,Ed e
 np:(M.map p).Nodup
 nq:(M.map q).Nodup
 ap:∀ e ∈ M,A (p e)
 aq:∀ e ∈ M,A (q e)
section
variable {Ed:Edge→Prop} {p q:Edge→Nat}
theorem Mat.nil {A:Nat→Prop}:Mat Ed p q A []:=⟨(fun _ z=>by cases z),List.nodup_nil,List.nodup_nil,(fun _ z=>by cases z),(fun _ z=>by cases z)⟩
theorem Mat.flip {A:Nat→Prop} {M:List Edge} (h:Mat Ed p q A M):Mat Ed q p A M:=⟨h.ed,h.nq,h.np,h.aq,h.ap⟩
theorem Mat.imp {A B:Nat→Prop} {M:List Edge} (h:Mat Ed p q A M) (k:∀ v,A v→B v):Mat Ed p q B M:=⟨h.ed,h.np,h.nq,fun e he=>k _ (h.ap e he),fun e he=>k _ (h.aq e he)⟩
theorem Mat.cons {A B:Nat→Prop} {M:List Edge} {e:Edge} (h:Mat Ed p q A M) (he:Ed e) (n1:¬ A (p e)) (n2:¬ A (q e)) (k:∀ v,A v→B v) (b1:B (p e)) (b2:B (q e)):Mat Ed p q B (e :: M):=by
 refine ⟨fun x hx=>?_,?_,?_,fun x hx=>?_,fun x hx=>?_⟩
 ·rcases List.mem_cons.mp hx with rfl | z
  ·exact he
  ·exact h.ed x z
 ·rw [List.map_cons,List.nodup_cons]
  refine ⟨fun z=>?_,h.np⟩
  obtain ⟨x,hx,ex⟩:=List.mem_map.mp z
  exact n1 (ex ▸ h.ap x hx)
 ·rw [List.map_cons,List.nodup_cons]
  refine ⟨fun z=>?_,h.nq⟩
  obtain ⟨x,hx,ex⟩:=List.mem_map.mp z
  exact n2 (ex ▸ h.aq x hx)
 ·rcases List.mem_cons.mp hx with rfl | z
  ·exact b1
  ·exact k _ (h.ap x z)
 ·rcases List.mem_cons.mp hx with rfl | z
  ·exact b2
  ·exact k _ (h.aq x z)
theorem Mat.take {S:Nat→Bool} (hS:∀ e,Ed e→S (p e)=true∧S (q e)=false) {A:Nat→Prop} {M:List Edge} {e:Edge} (h:Mat Ed p q A M) (he:e ∈ M):∃ M1,M.Perm (e :: M1)∧M1.length + 1=M.length∧Mat Ed p q (minus (minus A (p e)) (q e)) M1:=by
 have pm:=List.perm_cons_erase he
 refine ⟨M.erase e,pm,?_,?_⟩
 ·have:=pm.length_eq
  rw [List.length_cons] at this
  omega
 have n1:=(pm.map p).nodup_iff.mp h.np
 have n2:=(pm.map q).nodup_iff.mp h.nq
 rw [List.map_cons,List.nodup_cons] at n1 n2
 have mm:∀ x ∈ M.erase e,x ∈ M:=fun x hx=>List.mem_of_mem_erase hx
 have se:=hS e (h.ed e he)
 refine ⟨fun x hx=>h.ed x (mm x hx),n1.2,n2.2,fun x hx=>?_,fun x hx=>?_⟩
 ·refine ⟨⟨h.ap x (mm x hx),fun z=>n1.1 (z ▸ List.mem_map_of_mem hx)⟩,fun z=>?_⟩
  have:=(hS x (h.ed x (mm x hx))).1
  rw [z,se.2] at this
  cases this
 ·refine ⟨⟨h.aq x (mm x hx),fun z=>?_⟩,fun z=>n2.1 (z ▸ List.mem_map_of_mem hx)⟩
  have:=(hS x (h.ed x (mm x hx))).2
  rw [z,se.1] at this
  cases this
noncomputable def Swap (Ed : Edge → Prop) (p q : Edge → Nat) (S : Nat → Bool) (A B : Nat → Prop) (i : Nat) (W : Int) : Prop := ∃ M N : List Edge, wtM M + wtM N = W ∧
  ((Mat Ed p q (minus A i) M ∧ Mat Ed p q (plus B i) N) ∨
   (∃ j, S j = false ∧ A j ∧ ¬ B j ∧ Mat Ed p q (minus (minus A i) j) M ∧ Mat Ed p q (plus (plus B i) j) N) ∨
   (∃ j, S j = true ∧ B j ∧ ¬ A j ∧ Mat Ed p q (plus (minus A i) j) M ∧ Mat Ed p q (minus (plus B i) j) N))
theorem swap_it {S:Nat→Bool} (hS:∀ e,Ed e→S (p e)=true∧S (q e)=false):∀ (n:Nat) (M N:List Edge) (A B:Nat→Prop) (i:Nat),M.length ≤ n→Mat Ed p q A M→Mat Ed p q B N→A i→¬ B i→S i=true→Swap Ed p q S A B i (wtM M + wtM N):=by
 intro n
 induction n with
 | zero =>
  intro M N A B i hl hM hN ai bi si
  have:M=[]:=List.eq_nil_of_length_eq_zero (by omega)
  subst this
  exact ⟨[],N,rfl,.inl ⟨Mat.nil,hN.imp fun v h=>.inl h⟩⟩
 | succ n ih =>
  intro M N A B i hl hM hN ai bi si
  have sep:∀ {u v:Nat},S u=true→S v=false→u ≠ v:=fun h1 h2 z=>by rw [z,h2] at h1;cases h1
  by_cases hi:∃ e ∈ M,p e=i
  ·obtain ⟨e,he,rfl⟩:=hi
   have ee:=hM.ed e he
   obtain ⟨s1,s2⟩:=hS e ee
   obtain ⟨M1,pm,l1,hM1⟩:=hM.take hS he
   have av:=hM.aq e he
   by_cases hv:∃ e' ∈ N,q e'=q e
   ·obtain ⟨e',he',ev⟩:=hv
    have ee':=hN.ed e' he'
    obtain ⟨t1,t2⟩:=hS e' ee'
    obtain ⟨N1,pn,l2,hN1⟩:=hN.take hS he'
    have bu:=hN.ap e' he'
    have bv:=hN.aq e' he'
    rw [ev] at hN1 bv t2
    have ui:p e' ≠ p e:=fun z=>bi (z ▸ bu)
    have uv:p e' ≠ q e:=sep t1 s2
    have iv:p e ≠ q e:=sep s1 s2
    have hW:wtM M + wtM N=e.2.2 + e'.2.2 + (wtM M1 + wtM N1):=by
     rw [wt_perm pm,wt_perm pn,wt_cons,wt_cons]
     omega
    rw [hW]
    by_cases au:A (p e')
    ·obtain ⟨M2,N2,w2,alt⟩:=ih M1 N1 (minus (minus A (p e)) (q e)) (minus (minus B (p e')) (q e)) (p e') (by omega) hM1 hN1 ⟨⟨au,ui⟩,uv⟩ (fun z=>z.1.2 rfl) t1
     refine ⟨e' :: M2,e :: N2,by rw [wt_cons,wt_cons];omega,?_⟩
     rcases alt with ⟨m1,m2⟩ | ⟨j,sj,aj,bj,m1,m2⟩ | ⟨j,sj,bj,aj,m1,m2⟩
     ·refine .inl ⟨?_,?_⟩
      ·refine m1.cons ee' (fun z=>z.2 rfl) (fun z=>z.1.2 ev) (fun v z=>z.1.1) ⟨au,ui⟩ ?_
       rw [ev]
       exact ⟨av,fun z=>iv z.symm⟩
      ·refine m2.cons ee (fun z=>?_) (fun z=>?_) (fun v z=>?_) (.inr rfl) (.inl bv)
       ·rcases z with z | z
        ·exact bi z.1.1
        ·exact ui z.symm
       ·rcases z with z | z
        ·exact z.2 rfl
        ·exact uv z.symm
       ·rcases z with z | z
        ·exact .inl z.1.1
        ·exact .inl (z ▸ bu)
     ·have ju:p e' ≠ j:=sep t1 sj
      have ji:p e ≠ j:=sep s1 sj
      have jv:j ≠ q e:=aj.2
      have bj':¬ B j:=fun z=>bj ⟨⟨z,fun y=>ju y.symm⟩,jv⟩
      refine .inr (.inl ⟨j,sj,aj.1.1,bj',?_,?_⟩)
      ·refine m1.cons ee' (fun z=>z.1.2 rfl) (fun z=>z.1.1.2 ev) (fun v z=>⟨z.1.1.1,z.2⟩) ⟨⟨au,ui⟩,ju⟩ ?_
       rw [ev]
       exact ⟨⟨av,fun z=>iv z.symm⟩,fun z=>jv z.symm⟩
      ·refine m2.cons ee (fun z=>?_) (fun z=>?_) (fun v z=>?_) (.inl (.inr rfl)) (.inl (.inl bv))
       ·rcases z with (z | z) | z
        ·exact bi z.1.1
        ·exact ui z.symm
        ·exact ji z
       ·rcases z with (z | z) | z
        ·exact z.2 rfl
        ·exact uv z.symm
        ·exact jv z.symm
       ·rcases z with (z | z) | z
        ·exact .inl (.inl z.1.1)
        ·exact .inl (.inl (z ▸ bu))
        ·exact .inr z
     ·have jv:j ≠ q e:=bj.2
      have ju:j ≠ p e':=bj.1.2
      have ji:j ≠ p e:=fun z=>bi (z ▸ bj.1.1)
      have aj':¬ A j:=fun z=>aj ⟨⟨z,ji⟩,jv⟩
      refine .inr (.inr ⟨j,sj,bj.1.1,aj',?_,?_⟩)
      ·refine m1.cons ee' (fun z=>?_) (fun z=>?_) (fun v z=>?_) (.inl ⟨au,ui⟩) (.inl ?_)
       ·rcases z with z | z
        ·exact z.2 rfl
        ·exact ju z.symm
       ·rw [ev] at z
        rcases z with z | z
        ·exact z.1.2 rfl
        ·exact jv z.symm
       ·rcases z with z | z
        ·exact .inl z.1.1
        ·exact .inr z
       ·rw [ev]
        exact ⟨av,fun z=>iv z.symm⟩
      ·refine m2.cons ee (fun z=>?_) (fun z=>?_) (fun v z=>?_) ⟨.inr rfl,fun z=>ji z.symm⟩ ⟨.inl bv,fun z=>jv z.symm⟩
       ·rcases z.1 with y | y
        ·exact bi y.1.1
        ·exact ui y.symm
       ·rcases z.1 with y | y
        ·exact y.2 rfl
        ·exact uv y.symm
       ·refine ⟨?_,z.2⟩
        rcases z.1 with y | y
        ·exact .inl y.1.1
        ·exact .inl (y ▸ bu)
    ·refine ⟨e' :: M1,e :: N1,by rw [wt_cons,wt_cons];omega,.inr (.inr ⟨p e',t1,bu,au,?_,?_⟩)⟩
     ·refine hM1.cons ee' (fun z=>au z.1.1) (fun z=>z.2 ev) (fun v z=>.inl z.1) (.inr rfl) (.inl ?_)
      rw [ev]
      exact ⟨av,fun z=>iv z.symm⟩
     ·exact hN1.cons ee (fun z=>bi z.1.1) (fun z=>z.2 rfl) (fun v z=>⟨.inl z.1.1,z.1.2⟩) ⟨.inr rfl,fun z=>ui z.symm⟩ ⟨.inl bv,fun z=>uv z.symm⟩
   ·have hW:wtM M + wtM N=wtM M1 + wtM (e :: N):=by
     rw [wt_perm pm,wt_cons,wt_cons]
     omega
    rw [hW]
    have fresh:Mat Ed p q (minus B (q e)) N:=⟨hN.ed,hN.np,hN.nq,fun x hx=>⟨hN.ap x hx,sep (hS x (hN.ed x hx)).1 s2⟩,fun x hx=>⟨hN.aq x hx,fun z=>hv ⟨x,hx,z⟩⟩⟩
    by_cases bv:B (q e)
    ·exact ⟨M1,e :: N,rfl,.inl ⟨hM1.imp fun v z=>z.1,fresh.cons ee (fun z=>bi z.1) (fun z=>z.2 rfl) (fun v z=>.inl z.1) (.inr rfl) (.inl bv)⟩⟩
    ·exact ⟨M1,e :: N,rfl,.inr (.inl ⟨q e,s2,av,bv,hM1,fresh.cons ee (fun z=>bi z.1) (fun z=>z.2 rfl) (fun v z=>.inl (.inl z.1)) (.inl (.inr rfl)) (.inr rfl)⟩)⟩
  ·refine ⟨M,N,rfl,.inl ⟨⟨hM.ed,hM.np,hM.nq,fun x hx=>⟨hM.ap x hx,fun z=>hi ⟨x,hx,z⟩⟩,fun x hx=>⟨hM.aq x hx,fun z=>?_⟩⟩,hN.imp fun v h=>.inl h⟩⟩
   exact sep si (hS x (hM.ed x hx)).2 z.symm
end
theorem bx_facts {h i v:Nat} (hh:h < 32) (hi:i < 5) (hv:v < 5):bitOn (h ^^^ 2 ^ i) v=(bitOn h v != decide (v=i))∧h ^^^ 2 ^ i < 32:=by
 have key:∀ (h:_root_.Fin 32) (i v:_root_.Fin 5),bitOn (h.val ^^^ 2 ^ i.val) v.val=(bitOn h.val v.val != decide (v.val=i.val))∧h.val ^^^ 2 ^ i.val < 32:=by decide +kernel
 exact key ⟨h,hh⟩ ⟨i,hi⟩ ⟨v,hv⟩
noncomputable def avail (sl:Nat→Prop) (h:Nat):Nat→Prop:=fun v=>(10 ≤ v∧sl v)∨(v < 5∧bitOn h v=true)
theorem av_minus {sl:Nat→Prop} {h i:Nat} (hh:h < 32) (hi:i < 5) (b:bitOn h i=true):∀ v,minus (avail sl h) i v→avail sl (h ^^^ 2 ^ i) v:=fun v ⟨a,n⟩=>by
 rcases a with a | ⟨v5,bv⟩
 ·exact .inl a
 ·refine .inr ⟨v5,?_⟩
  rw [(bx_facts hh hi v5).1,bv,decide_eq_false n]
  rfl
theorem av_plus {sl:Nat→Prop} {h i:Nat} (hh:h < 32) (hi:i < 5) (b:bitOn h i=false):∀ v,plus (avail sl h) i v→avail sl (h ^^^ 2 ^ i) v:=fun v a=>by
 rcases a with (a | ⟨v5,bv⟩) | rfl
 ·exact .inl a
 ·refine .inr ⟨v5,?_⟩
  have n:v ≠ i:=fun z=>by rw [z,b] at bv;cases bv
  rw [(bx_facts hh hi v5).1,bv,decide_eq_false n]
  rfl
 ·refine .inr ⟨hi,?_⟩
  rw [(bx_facts hh hi hi).1,b,decide_eq_true rfl]
  rfl
theorem minus_mono {A B:Nat→Prop} (k:∀ v,A v→B v) (i:Nat):∀ v,minus A i v→minus B i v:=fun v z=>⟨k v z.1,z.2⟩
theorem plus_mono {A B:Nat→Prop} (k:∀ v,A v→B v) (i:Nat):∀ v,plus A i v→plus B i v:=fun v z=>z.elim (fun y=>.inl (k v y)) .inr
noncomputable def pL (e:Edge):Nat:=e.1
noncomputable def pR (e:Edge):Nat:=e.2.1
structure Val (Ed:Edge→Prop) (sl:Nat→Prop) (m:Nat) (ws:List Int):Prop where
 at':∀ h,h < 2 ^ m→∃ M,Mat Ed pL pR (avail sl h) M∧wtM M=ws.getD h 0
 ge:∀ h,h < 2 ^ m→∀ M,Mat Ed pL pR (avail sl h) M→wtM M ≤ ws.getD h 0
noncomputable def sideL (F v:Nat):Bool:=if v < 10 then !bitOn F v else bitOn F (v % 10)
noncomputable def sideR (F v:Nat):Bool:=!sideL F v
noncomputable def Sided (F:Nat) (Ed:Edge→Prop):Prop:=∀ e,Ed e→sideL F (pL e)=true∧sideL F (pR e)=false
theorem lt_bit {m h j:Nat} (m5:m ≤ 5) (hh:h < 2 ^ m) (j5:j < 5) (b:bitOn h j=true):j < m:=by
 have key:∀ (m:_root_.Fin 6) (h:_root_.Fin 32) (j:_root_.Fin 5),h.val < 2 ^ m.val→bitOn h.val j.val=true→j.val < m.val:=by decide +kernel
 have:2 ^ m ≤ 2 ^ 5:=Nat.pow_le_pow_right (by decide) m5
 exact key ⟨m,by omega⟩ ⟨h,by omega⟩ ⟨j,j5⟩ hh b
theorem xor_lt {m h j:Nat} (m5:m ≤ 5) (hh:h < 2 ^ m) (hj:j < m):h ^^^ 2 ^ j < 2 ^ m:=Nat.xor_lt_two_pow hh (Nat.pow_lt_pow_right (by decide) hj)
theorem val_swap {Ed:Edge→Prop} {sl:Nat→Prop} {m:Nat} {ws:List Int} {F:Nat} (m5:m ≤ 5) (V:Val Ed sl m ws) (sd:Sided F Ed) {X Y i:Nat} (hX:X < 2 ^ m) (hY:Y < 2 ^ m) (hi:i < m) (ai:bitOn X i=true) (bi:bitOn Y i=false) (p q:Edge→Nat) (S:Nat→Bool) (fl:∀ {A:Nat→Prop} {M:List Edge},Mat Ed pL pR A M ↔ Mat Ed p q A M) (hS:∀ e,Ed e→S (p e)=true∧S (q e)=false) (si:S i=true) :
  ws.getD X 0 + ws.getD Y 0 ≤ ws.getD (X ^^^ 2 ^ i) 0 + ws.getD (Y ^^^ 2 ^ i) 0∨∃ j,j < m∧((S j=false∧bitOn X j=true∧bitOn Y j=false)∨(S j=true∧bitOn X j=false∧bitOn Y j=true))∧ws.getD X 0 + ws.getD Y 0 ≤ ws.getD (X ^^^ 2 ^ i ^^^ 2 ^ j) 0 + ws.getD (Y ^^^ 2 ^ i ^^^ 2 ^ j) 0:=by
 have p32:2 ^ m ≤ 2 ^ 5:=Nat.pow_le_pow_right (by decide) m5
 obtain ⟨M,hM,eM⟩:=V.at' X hX
 obtain ⟨N,hN,eN⟩:=V.at' Y hY
 have i5:i < 5:=by omega
 have x1:=bx_facts (show X < 32 by omega) i5 i5
 have y1:=bx_facts (show Y < 32 by omega) i5 i5
 have hX1:=xor_lt m5 hX hi
 have hY1:=xor_lt m5 hY hi
 obtain ⟨M',N',e,alt⟩:=swap_it hS M.length M N (avail sl X) (avail sl Y) i (Nat.le_refl _) (fl.mp hM) (fl.mp hN) (.inr ⟨i5,ai⟩) (fun z=>by
  rcases z with z | z
  ·omega
  ·rw [bi] at z;cases z.2) si
 have thing:∀ {Z Z' j:Nat},avail sl Z j→¬ avail sl Z' j→j < 5∧bitOn Z j=true∧bitOn Z' j=false:=fun {Z Z' j} a n=>by
  rcases a with a | ⟨j5,b⟩
  ·exact absurd (.inl a) n
  ·refine ⟨j5,b,?_⟩
   cases c:bitOn Z' j with
   | false=>rfl
   | true=>exact absurd (.inr ⟨j5,c⟩) n
 rcases alt with ⟨m1,m2⟩ | ⟨j,sj,aj,bj,m1,m2⟩ | ⟨j,sj,bj,aj,m1,m2⟩
 ·have g1:=V.ge _ hX1 M' (fl.mpr (m1.imp (av_minus (by omega) i5 ai)))
  have g2:=V.ge _ hY1 N' (fl.mpr (m2.imp (av_plus (by omega) i5 bi)))
  exact .inl (by omega)
 ·obtain ⟨j5,b1,b2⟩:=thing aj bj
  have jm:=lt_bit m5 hX j5 b1
  have ne:j ≠ i:=fun z=>by rw [z,si] at sj;cases sj
  have f1:bitOn (X ^^^ 2 ^ i) j=true:=by rw [(bx_facts (show X < 32 by omega) i5 j5).1,b1,decide_eq_false ne];rfl
  have f2:bitOn (Y ^^^ 2 ^ i) j=false:=by rw [(bx_facts (show Y < 32 by omega) i5 j5).1,b2,decide_eq_false ne];rfl
  have g1:=V.ge _ (xor_lt m5 hX1 jm) M' (fl.mpr (m1.imp fun v z=>av_minus (by omega) j5 f1 v (minus_mono (av_minus (by omega) i5 ai) j v z)))
  have g2:=V.ge _ (xor_lt m5 hY1 jm) N' (fl.mpr (m2.imp fun v z=>av_plus (by omega) j5 f2 v (plus_mono (av_plus (by omega) i5 bi) j v z)))
  exact .inr ⟨j,jm,.inl ⟨sj,b1,b2⟩,by omega⟩
 ·obtain ⟨j5,b2,b1⟩:=thing bj aj
  have jm:=lt_bit m5 hY j5 b2
  have ne:j ≠ i:=fun z=>by rw [z,bi] at b2;cases b2
  have f1:bitOn (X ^^^ 2 ^ i) j=false:=by rw [(bx_facts (show X < 32 by omega) i5 j5).1,b1,decide_eq_false ne];rfl
  have f2:bitOn (Y ^^^ 2 ^ i) j=true:=by rw [(bx_facts (show Y < 32 by omega) i5 j5).1,b2,decide_eq_false ne];rfl
  have g1:=V.ge _ (xor_lt m5 hX1 jm) M' (fl.mpr (m1.imp fun v z=>av_plus (by omega) j5 f1 v (plus_mono (av_minus (by omega) i5 ai) j v z)))
  have g2:=V.ge _ (xor_lt m5 hY1 jm) N' (fl.mpr (m2.imp fun v z=>av_minus (by omega) j5 f2 v (minus_mono (av_plus (by omega) i5 bi) j v z)))
  exact .inr ⟨j,jm,.inr ⟨sj,b1,b2⟩,by omega⟩
theorem Mat.tail {Ed:Edge→Prop} {F:Nat} (sd:Sided F Ed) {A:Nat→Prop} {e:Edge} {M:List Edge} (h:Mat Ed pL pR A (e :: M)):Mat Ed pL pR (minus (minus A (pL e)) (pR e)) M:=by
 have n1:=h.np
 have n2:=h.nq
 rw [List.map_cons,List.nodup_cons] at n1 n2
 have mm:∀ x ∈ M,x ∈ e :: M:=fun x hx=>List.mem_cons_of_mem _ hx
 have se:=sd e (h.ed e List.mem_cons_self)
 refine ⟨fun x hx=>h.ed x (mm x hx),n1.2,n2.2,fun x hx=>?_,fun x hx=>?_⟩
 ·refine ⟨⟨h.ap x (mm x hx),fun z=>n1.1 (z ▸ List.mem_map_of_mem hx)⟩,fun z=>?_⟩
  have:=(sd x (h.ed x (mm x hx))).1
  rw [z,se.2] at this
  cases this
 ·refine ⟨⟨h.aq x (mm x hx),fun z=>?_⟩,fun z=>n2.1 (z ▸ List.mem_map_of_mem hx)⟩
  have:=(sd x (h.ed x (mm x hx))).2
  rw [z,se.1] at this
  cases this
theorem ge_steps {Ed:Edge→Prop} {sl:Nat→Prop} {F m:Nat} {f:Nat→Int} (sd:Sided F Ed) (h0:∀ h,h < 2 ^ m→0 ≤ f h) (step:∀ e h,Ed e→h < 2 ^ m→avail sl h (pL e)→avail sl h (pR e)→∃ h',h' < 2 ^ m∧e.2.2 + f h' ≤ f h∧∀ v,minus (minus (avail sl h) (pL e)) (pR e) v→avail sl h' v):∀ (M:List Edge) (h:Nat),h < 2 ^ m→Mat Ed pL pR (avail sl h) M→wtM M ≤ f h
 | [],h,hh,_=>h0 h hh
 | e :: M,h,hh,hM=>by
  have ee:=hM.ed e List.mem_cons_self
  obtain ⟨h',l,le,k⟩:=step e h ee hh (hM.ap e List.mem_cons_self) (hM.aq e List.mem_cons_self)
  have:=ge_steps sd h0 step M h' l ((hM.tail sd).imp k)
  rw [wt_cons]
  omega
theorem a_bit {h m:Nat} (m5:m ≤ 5) (hh:h < 2 ^ m) (n:h ≠ 0):∃ t,t < m∧bitOn h t=true:=by
 have key:∀ (m:_root_.Fin 6) (h:_root_.Fin 32),h.val < 2 ^ m.val→h.val ≠ 0→∃ t:_root_.Fin 5,t.val < m.val∧bitOn h.val t.val=true:=by decide +kernel
 have:2 ^ m ≤ 2 ^ 5:=Nat.pow_le_pow_right (by decide) m5
 obtain ⟨t,h1,h2⟩:=key ⟨m,by omega⟩ ⟨h,by omega⟩ hh n
 exact ⟨t.val,h1,h2⟩
structure MatTab (rows:List Edge) (F m:Nat) (ns:List Int):Prop where
 rw':∀ e ∈ rows,e.1 < m∧e.2.1 < m∧bitOn F e.1=false∧bitOn F e.2.1=true
 z:ns.getD 0 0=0
 up:∀ h t,h < 2 ^ m→t < m→bitOn h t=true→ns.getD (h ^^^ 2 ^ t) 0 ≤ ns.getD h 0
 row:∀ h,h < 2 ^ m→∀ e ∈ rows,bitOn h e.1=true→bitOn h e.2.1=true→ns.getD (h ^^^ 2 ^ e.1 ^^^ 2 ^ e.2.1) 0 + e.2.2 ≤ ns.getD h 0
 att:∀ h,h < 2 ^ m→h ≠ 0→(∃ t,t < m∧bitOn h t=true∧ns.getD h 0=ns.getD (h ^^^ 2 ^ t) 0)∨∃ e ∈ rows,bitOn h e.1=true∧bitOn h e.2.1=true∧ns.getD h 0=ns.getD (h ^^^ 2 ^ e.1 ^^^ 2 ^ e.2.1) 0 + e.2.2
theorem av_back {sl:Nat→Prop} {h t:Nat} (hh:h < 32) (ht:t < 5) (b:bitOn h t=true) {v:Nat} (a:avail sl (h ^^^ 2 ^ t) v):minus (avail sl h) t v:=by
 rcases a with a | ⟨v5,bv⟩
 ·exact ⟨.inl a,by omega⟩
 ·rw [(bx_facts hh ht v5).1] at bv
  refine ⟨.inr ⟨v5,?_⟩,fun z=>?_⟩
  ·cases c:bitOn h v with
   | true=>rfl
   | false =>
    rw [c] at bv
    have:v=t:=by simpa using bv
    rw [this,b] at c
    cases c
  ·rw [z,b,decide_eq_true rfl] at bv
   cases bv
noncomputable def addS (ws:List Int) (h:Nat):Nat→Int
 | 0=>0
 | n + 1=>addS ws h n + if bitOn h n=true then ws.getD n 0 else 0
noncomputable def edAdd (o F:Nat) (ws:List Int) (m:Nat) (e:Edge):Prop:=∃ t,t < m∧((bitOn F t=false∧e=(t,o + t,ws.getD t 0))∨(bitOn F t=true∧e=(o + t,t,ws.getD t 0)))
noncomputable def slotA (o:Nat) (v:Nat):Prop:=o ≤ v∧v < o + 10
theorem add_sided {o F m:Nat} {ws:List Int} (m5:m ≤ 5) (ho:o=10∨o=30∨o=50∨o=70):Sided F (edAdd o F ws m):=fun e ⟨t,tm,h⟩=>by
 have om:(o + t) % 10=t:=by omega
 rcases h with ⟨b,rfl⟩ | ⟨b,rfl⟩
 ·unfold sideL pL pR
  show (if t < 10 then !bitOn F t else bitOn F (t % 10))=true∧(if o + t < 10 then !bitOn F (o + t) else bitOn F ((o + t) % 10))=false
  rw [if_pos (by omega),if_neg (by omega),om,b]
  exact ⟨rfl,rfl⟩
 ·unfold sideL pL pR
  show (if o + t < 10 then !bitOn F (o + t) else bitOn F ((o + t) % 10))=true∧(if t < 10 then !bitOn F t else bitOn F (t % 10))=false
  rw [if_neg (by omega),if_pos (by omega),om,b]
  exact ⟨rfl,rfl⟩
theorem add_out {ws:List Int} {h t:Nat} (hh:h < 32) (ht:t < 5) (b:bitOn h t=true):∀ n,n ≤ 5→addS ws (h ^^^ 2 ^ t) n=addS ws h n - if t < n then ws.getD t 0 else 0
 | 0,_=>by simp [addS]
 | n + 1,hn=>by
  have ih:=add_out (ws:=ws) hh ht b n (by omega)
  have x:=(bx_facts hh ht (show n < 5 by omega)).1
  show addS ws (h ^^^ 2 ^ t) n + (if bitOn (h ^^^ 2 ^ t) n=true then ws.getD n 0 else 0)=addS ws h n + (if bitOn h n=true then ws.getD n 0 else 0) - if t < n + 1 then ws.getD t 0 else 0
  by_cases e:n=t
  ·subst e
   rw [if_neg (Nat.lt_irrefl n)] at ih
   rw [ih,x,b,decide_eq_true rfl]
   simp only [Nat.lt_succ_self,if_true,bne_self_eq_false,Bool.false_eq_true,if_false]
   omega
  ·rw [decide_eq_false e,show (bitOn h n != false)=bitOn h n by cases bitOn h n <;> rfl] at x
   rw [ih,x]
   have c:(if t < n + 1 then ws.getD t 0 else 0)=if t < n then ws.getD t 0 else 0:=by
    by_cases z:t < n
    ·rw [if_pos z,if_pos (by omega)]
    ·rw [if_neg z,if_neg (by omega)]
   rw [c]
   omega
theorem add_nn {ws:List Int} (w0:∀ t,0 ≤ ws.getD t 0) (h:Nat):∀ n,0 ≤ addS ws h n
 | 0=>Int.le_refl _
 | n + 1=>by
  have:=add_nn w0 h n
  have:=w0 n
  show 0 ≤ addS ws h n + if bitOn h n=true then ws.getD n 0 else 0
  split <;> omega
theorem add_val {o F m:Nat} {ws ns:List Int} (m5:m ≤ 5) (ho:o=10∨o=30∨o=50∨o=70) (w0:∀ t,0 ≤ ws.getD t 0) (hn:∀ h,h < 2 ^ m→ns.getD h 0=addS ws h m):Val (edAdd o F ws m) (slotA o) m ns:=by
 have p32:2 ^ m ≤ 2 ^ 5:=Nat.pow_le_pow_right (by decide) m5
 refine ⟨fun h hh=>?_,fun h hh M hM=>?_⟩
 ·rw [hn h hh]
  have go:∀ n,n ≤ m→∃ M,Mat (edAdd o F ws m) pL pR (fun v=>(v < n∧bitOn h v=true)∨(o ≤ v∧v < o + n)) M∧wtM M=addS ws h n:=by
   intro n
   induction n with
   | zero=>exact fun _=>⟨[],Mat.nil,rfl⟩
   | succ n ih =>
    intro hnm
    have on:n < o:=by omega
    obtain ⟨M,hM,w⟩:=ih (by omega)
    have mono:∀ v,((v < n∧bitOn h v=true)∨(o ≤ v∧v < o + n))→((v < n + 1∧bitOn h v=true)∨(o ≤ v∧v < o + (n + 1))):=fun v z=>z.elim (fun y=>.inl ⟨by omega,y.2⟩) (fun y=>.inr ⟨y.1,by omega⟩)
    show ∃ M,Mat _ pL pR _ M∧wtM M=addS ws h n + if bitOn h n=true then ws.getD n 0 else 0
    cases b:bitOn h n with
    | false=>exact ⟨M,hM.imp mono,by rw [w,if_neg (by decide)];omega⟩
    | true =>
     cases c:bitOn F n with
     | false =>
      refine ⟨(n,o + n,ws.getD n 0) :: M,hM.cons ⟨n,by omega,.inl ⟨c,rfl⟩⟩ (fun z=>?_) (fun z=>?_) mono (.inl ⟨Nat.lt_succ_self n,b⟩) (.inr ⟨Nat.le_add_right o n,Nat.lt_succ_self _⟩),by rw [wt_cons,w,if_pos rfl];show ws.getD n 0 + addS ws h n=addS ws h n + ws.getD n 0;omega⟩
      ·have z':(n < n∧bitOn h n=true)∨(o ≤ n∧n < o + n):=z
       exact z'.elim (fun y=>Nat.lt_irrefl _ y.1) (fun y=>absurd y.1 (Nat.not_le.mpr on))
      ·have z':(o + n < n∧bitOn h (o + n)=true)∨(o ≤ o + n∧o + n < o + n):=z
       exact z'.elim (fun y=>Nat.not_lt.mpr (Nat.le_add_left n o) y.1) (fun y=>Nat.lt_irrefl _ y.2)
     | true =>
      refine ⟨(o + n,n,ws.getD n 0) :: M,hM.cons ⟨n,by omega,.inr ⟨c,rfl⟩⟩ (fun z=>?_) (fun z=>?_) mono (.inr ⟨Nat.le_add_right o n,Nat.lt_succ_self _⟩) (.inl ⟨Nat.lt_succ_self n,b⟩),by rw [wt_cons,w,if_pos rfl];show ws.getD n 0 + addS ws h n=addS ws h n + ws.getD n 0;omega⟩
      ·have z':(o + n < n∧bitOn h (o + n)=true)∨(o ≤ o + n∧o + n < o + n):=z
       exact z'.elim (fun y=>Nat.not_lt.mpr (Nat.le_add_left n o) y.1) (fun y=>Nat.lt_irrefl _ y.2)
      ·have z':(n < n∧bitOn h n=true)∨(o ≤ n∧n < o + n):=z
       exact z'.elim (fun y=>Nat.lt_irrefl _ y.1) (fun y=>absurd y.1 (Nat.not_le.mpr on))
  obtain ⟨M,hM,w⟩:=go m (Nat.le_refl _)
  exact ⟨M,hM.imp fun v z=>z.elim (fun y=>.inr ⟨by omega,y.2⟩) (fun y=>.inl ⟨by omega,y.1,by omega⟩),w⟩
 ·rw [hn h hh]
  refine ge_steps (F:=F) (f:=fun h=>addS ws h m) (add_sided m5 ho) (fun h _=>add_nn w0 h m) (fun e h he hh a1 a2=>?_) M h hh hM
  obtain ⟨t,tm,he⟩:=he
  have b:bitOn h t=true:=by
   rcases he with ⟨_,rfl⟩ | ⟨_,rfl⟩
   ·rcases a1 with z | z
    ·have:10 ≤ t:=z.1
     omega
    ·exact z.2
   ·rcases a2 with z | z
    ·have:10 ≤ t:=z.1
     omega
    ·exact z.2
  have ao:=add_out (ws:=ws) (show h < 32 by omega) (show t < 5 by omega) b m m5
  rw [if_pos tm] at ao
  refine ⟨h ^^^ 2 ^ t,xor_lt m5 hh tm,?_,fun v z=>av_minus (by omega) (by omega) b v ⟨z.1.1,?_⟩⟩
  ·rcases he with ⟨_,rfl⟩ | ⟨_,rfl⟩
   ·show ws.getD t 0 + addS ws (h ^^^ 2 ^ t) m ≤ addS ws h m
    omega
   ·show ws.getD t 0 + addS ws (h ^^^ 2 ^ t) m ≤ addS ws h m
    omega
  ·rcases he with ⟨_,rfl⟩ | ⟨_,rfl⟩
   ·exact z.1.2
   ·exact z.2
noncomputable def topS:Nat→List Int→Int
 | _,[]=>0
 | 0,_ :: _=>0
 | k + 1,y :: l=>max (topS (k + 1) l) (y + topS k l)
theorem top_0 (l:List Int):topS 0 l=0:=by cases l <;> rfl
theorem top_up (x:Int) (h:0 ≤ x):∀ (k:Nat) (A B:List Int),topS k (A ++ B) ≤ topS k (A ++ x :: B)
 | 0,A,B=>by rw [top_0,top_0];exact Int.le_refl _
 | k + 1,[],B=>by
  show topS (k + 1) B ≤ max (topS (k + 1) B) (x + topS k B)
  exact Int.le_max_left _ _
 | k + 1,a :: A,B=>by
  have h1:=top_up x h (k + 1) A B
  have h2:=top_up x h k A B
  show max (topS (k + 1) (A ++ B)) (a + topS k (A ++ B)) ≤ max (topS (k + 1) (A ++ x :: B)) (a + topS k (A ++ x :: B))
  omega
theorem add_max2 (x a b:Int):x + max a b=max (x + a) (x + b):=by
 rcases Int.le_total a b with h | h
 ·rw [Int.max_eq_right h,Int.max_eq_right (Int.add_le_add_left h x)]
 ·rw [Int.max_eq_left h,Int.max_eq_left (Int.add_le_add_left h x)]
theorem max4 (a b c d:Int):max (max a b) (max c d)=max (max a c) (max b d):=by rw [Int.max_assoc,Int.max_assoc,← Int.max_assoc b c d,Int.max_comm b c,Int.max_assoc c b d]
theorem top_perm {l l':List Int} (p:l.Perm l'):∀ k,topS k l=topS k l':=by
 induction p with
 | nil=>exact fun _=>rfl
 | cons x _ ih =>
  intro k
  cases k with
  | zero=>rw [top_0,top_0]
  | succ k=>show max _ _=max _ _;rw [ih,ih]
 | swap x y l =>
  intro k
  match k with
  | 0=>rw [top_0,top_0]
  | 1 =>
   show max (max (topS 1 l) (x + topS 0 l)) (y + topS 0 (x :: l))=max (max (topS 1 l) (y + topS 0 l)) (x + topS 0 (y :: l))
   rw [top_0,top_0,top_0,Int.max_assoc,Int.max_comm (x + 0),← Int.max_assoc]
  | k + 2 =>
   show max (max (topS (k + 2) l) (x + topS (k + 1) l)) (y + max (topS (k + 1) l) (x + topS k l))=max (max (topS (k + 2) l) (y + topS (k + 1) l)) (x + max (topS (k + 1) l) (y + topS k l))
   rw [add_max2,add_max2,max4,show y + (x + topS k l)=x + (y + topS k l) by omega]
 | trans _ _ ih1 ih2=>exact fun k=>(ih1 k).trans (ih2 k)
theorem top_next {d:Int} (d0:0 ≤ d):∀ (l:List Int),(∀ x ∈ l,x ≤ d∧0 ≤ x)→∀ k,topS (k + 1) l ≤ d + topS k l
 | [],_,k=>by
  have:topS k [] = 0:=by cases k <;> rfl
  show (0:Int) ≤ d + topS k []
  omega
 | e :: l,h,k=>by
  have he:=h e List.mem_cons_self
  have ih:=top_next d0 l fun x hx=>h x (List.mem_cons_of_mem _ hx)
  have up:=top_up e he.2 k [] l
  have i1:=ih k
  show max (topS (k + 1) l) (e + topS k l) ≤ d + topS k (e :: l)
  have up':topS k l ≤ topS k (e :: l):=up
  omega
theorem top_take:∀ (l:List Int),l.Pairwise (fun a b=>b ≤ a)→(∀ x ∈ l,0 ≤ x)→∀ k,(l.take k).sum=topS k l
 | [],_,_,k=>by rw [List.take_nil];cases k <;> rfl
 | d :: l,hp,h0,0=>by rw [List.take_zero];rfl
 | d :: l,hp,h0,k + 1=>by
  rw [List.pairwise_cons] at hp
  rw [List.take_succ_cons,List.sum_cons,top_take l hp.2 (fun x hx=>h0 x (List.mem_cons_of_mem _ hx)) k]
  have:=top_next (h0 d List.mem_cons_self) l (fun x hx=>⟨hp.1 x hx,h0 x (List.mem_cons_of_mem _ hx)⟩) k
  show d + topS k l=max (topS (k + 1) l) (d + topS k l)
  omega
noncomputable def inO (ws:List Int) (h n:Nat):List Int:=((List.range n).filter (bitOn h)).map fun t=>ws.getD t 0
theorem inO_succ (ws:List Int) (h k:Nat):inO ws h (k + 1)=inO ws h k ++ if bitOn h k=true then [ws.getD k 0] else []:=by
 unfold inO
 rw [List.range_succ,List.filter_append,List.map_append]
 congr 1
 cases e:bitOn h k <;> simp [List.filter,e]
theorem inO_low {ws:List Int} {h t:Nat} (hh:h < 32) (ht:t < 5):∀ k,k ≤ t→inO ws (h ^^^ 2 ^ t) k=inO ws h k
 | 0,_=>rfl
 | k + 1,hk=>by
  have b:=(bx_facts hh ht (show k < 5 by omega)).1
  rw [decide_eq_false (show ¬ k=t by omega),show (bitOn h k != false)=bitOn h k by cases bitOn h k <;> rfl] at b
  rw [inO_succ,inO_succ,inO_low hh ht k (by omega),b]
theorem inO_cut {ws:List Int} {h t:Nat} (hh:h < 32) (ht:t < 5) (e:bitOn h t=true):∀ n,t < n→n ≤ 5→∃ B,inO ws h n=inO ws h t ++ ws.getD t 0 :: B∧inO ws (h ^^^ 2 ^ t) n=inO ws h t ++ B
 | 0,h0,_=>absurd h0 (Nat.not_lt_zero _)
 | n + 1,hn,h5=>by
  have b:=(bx_facts hh ht (show n < 5 by omega)).1
  rcases Nat.lt_or_ge t n with z | z
  ·obtain ⟨B,e1,e2⟩:=inO_cut hh ht e n z (by omega)
   rw [decide_eq_false (show ¬ n=t by omega),show (bitOn h n != false)=bitOn h n by cases bitOn h n <;> rfl] at b
   rw [inO_succ,inO_succ,e1,e2,b]
   exact ⟨B ++ if bitOn h n=true then [ws.getD n 0] else [],by simp,by simp⟩
  ·have:n=t:=by omega
   subst this
   rw [inO_succ,inO_succ,if_pos e,b,e,decide_eq_true rfl,inO_low hh ht n (Nat.le_refl _)]
   exact ⟨[],rfl,by simp⟩
noncomputable def edTop (o k:Nat) (ws:List Int) (m:Nat) (e:Edge):Prop:=∃ t s,t < m∧s < k∧e=(t,o + s,ws.getD t 0)
theorem top_sided {o k m:Nat} {ws:List Int} (m5:m ≤ 5) (ho:o=10∨o=30∨o=50∨o=70):Sided 0 (edTop o k ws m):=fun e ⟨t,s,tm,sk,h⟩=>by
 subst h
 have z:∀ v,bitOn 0 v=false:=fun v=>by unfold bitOn;simp
 unfold sideL pL pR
 show (if t < 10 then !bitOn 0 t else bitOn 0 (t % 10))=true∧(if o + s < 10 then !bitOn 0 (o + s) else bitOn 0 ((o + s) % 10))=false
 rw [if_pos (by omega),if_neg (by omega),z,z]
 exact ⟨rfl,rfl⟩
theorem top_kmono:∀ (l:List Int) (k:Nat),topS k l ≤ topS (k + 1) l
 | [],k=>by cases k <;> exact Int.le_refl _
 | y :: l,0=>by
  have h1:topS 0 l ≤ topS 1 l:=top_kmono l 0
  rw [top_0] at h1 ⊢
  show 0 ≤ max (topS 1 l) (y + topS 0 l)
  omega
 | y :: l,k + 1=>by
  have h1:topS (k + 1) l ≤ topS (k + 2) l:=top_kmono l (k + 1)
  have h2:=top_kmono l k
  show max (topS (k + 1) l) (y + topS k l) ≤ max (topS (k + 2) l) (y + topS (k + 1) l)
  omega
theorem top_kle (l:List Int) {j:Nat}:∀ {k:Nat},j ≤ k→topS j l ≤ topS k l
 | 0,h=>by rw [show j=0 by omega];exact Int.le_refl _
 | k + 1,h=>by
  rcases Nat.lt_or_ge j (k + 1) with z | z
  ·exact Int.le_trans (top_kle l (show j ≤ k by omega)) (top_kmono l k)
  ·rw [show j=k + 1 by omega];exact Int.le_refl _
theorem nodup_few {o:Nat}:∀ (k:Nat) (l:List Nat),l.Nodup→(∀ x ∈ l,o ≤ x∧x < o + k)→l.length ≤ k
 | 0,l,_,h=>by
  cases l with
  | nil=>exact Nat.le_refl _
  | cons a r=>have:=h a List.mem_cons_self;omega
 | k + 1,l,nd,h=>by
  by_cases c:o + k ∈ l
  ·have pm:=List.perm_cons_erase c
   have n2:=pm.nodup_iff.mp nd
   rw [List.nodup_cons] at n2
   have:=nodup_few (o:=o) k (l.erase (o + k)) n2.2 fun x hx=>by
    have a:=h x (List.mem_of_mem_erase hx)
    have:x ≠ o + k:=fun z=>n2.1 (z ▸ hx)
    omega
   have:=pm.length_eq
   rw [List.length_cons] at this
   omega
  ·have:=nodup_few (o:=o) k l nd fun x hx=>by
    have a:=h x hx
    have:x ≠ o + k:=fun z=>c (z ▸ hx)
    omega
   omega
theorem top_val {o k m:Nat} {ws ns:List Int} (m5:m ≤ 5) (k5:k ≤ 5) (ho:o=10∨o=30∨o=50∨o=70) (hn:∀ h,h < 2 ^ m→ns.getD h 0=topS k (inO ws h m)):Val (edTop o k ws m) (slotA o) m ns:=by
 have p32:2 ^ m ≤ 2 ^ 5:=Nat.pow_le_pow_right (by decide) m5
 refine ⟨fun h hh=>?_,fun h hh M hM=>?_⟩
 ·rw [hn h hh]
  have go:∀ n,n ≤ m→∀ j,j ≤ k→∃ M,Mat (edTop o k ws m) pL pR (fun v=>(v < n∧bitOn h v=true)∨(o ≤ v∧v < o + j)) M∧wtM M=topS j (inO ws h n):=by
   intro n
   induction n with
   | zero=>exact fun _ j _=>⟨[],Mat.nil,by show (0:Int)=topS j [];cases j <;> rfl⟩
   | succ n ih =>
    intro hnm j hj
    have on:n < o:=by omega
    have mono:∀ j',j' ≤ j→∀ v,((v < n∧bitOn h v=true)∨(o ≤ v∧v < o + j'))→((v < n + 1∧bitOn h v=true)∨(o ≤ v∧v < o + j)):=fun j' hj' v z=>z.elim (fun y=>.inl ⟨by omega,y.2⟩) (fun y=>.inr ⟨y.1,by omega⟩)
    cases b:bitOn h n with
    | false =>
     obtain ⟨M,hM,w⟩:=ih (by omega) j hj
     refine ⟨M,hM.imp (mono j (Nat.le_refl _)),?_⟩
     rw [w,inO_succ,b]
     simp
    | true =>
     have e:topS j (inO ws h (n + 1))=topS j (ws.getD n 0 :: inO ws h n):=by
      rw [inO_succ,b,if_pos rfl]
      exact top_perm List.perm_append_comm j
     rw [e]
     cases j with
     | zero=>exact ⟨[],Mat.nil,by rw [top_0];rfl⟩
     | succ j =>
      obtain ⟨M,hM,w⟩:=ih (by omega) (j + 1) hj
      obtain ⟨M',hM',w'⟩:=ih (by omega) j (by omega)
      show ∃ M,Mat _ pL pR _ M∧wtM M=max (topS (j + 1) (inO ws h n)) (ws.getD n 0 + topS j (inO ws h n))
      rcases Int.le_total (ws.getD n 0 + topS j (inO ws h n)) (topS (j + 1) (inO ws h n)) with c | c
      ·exact ⟨M,hM.imp (mono (j + 1) (Nat.le_refl _)),by rw [w];omega⟩
      ·refine ⟨(n,o + j,ws.getD n 0) :: M',hM'.cons ⟨n,j,by omega,by omega,rfl⟩ (fun z=>?_) (fun z=>?_) (mono j (by omega)) (.inl ⟨Nat.lt_succ_self n,b⟩) (.inr ⟨Nat.le_add_right o j,Nat.lt_succ_self _⟩),by rw [wt_cons,w'];show ws.getD n 0 + topS j (inO ws h n)=_;omega⟩
       ·have z':(n < n∧bitOn h n=true)∨(o ≤ n∧n < o + j):=z
        exact z'.elim (fun y=>Nat.lt_irrefl _ y.1) (fun y=>absurd y.1 (Nat.not_le.mpr on))
       ·have z':(o + j < n∧bitOn h (o + j)=true)∨(o ≤ o + j∧o + j < o + j):=z
        exact z'.elim (fun y=>absurd (Nat.lt_of_le_of_lt (Nat.le_add_right o j) y.1) (Nat.not_lt.mpr (Nat.le_of_lt on))) (fun y=>Nat.lt_irrefl _ y.2)
  obtain ⟨M,hM,w⟩:=go m (Nat.le_refl _) k (Nat.le_refl _)
  exact ⟨M,hM.imp fun v z=>z.elim (fun y=>.inr ⟨by omega,y.2⟩) (fun y=>.inl ⟨by omega,y.1,by omega⟩),w⟩
 ·rw [hn h hh]
  have few:M.length ≤ k:=by
   have:=nodup_few (o:=o) k (M.map pR) hM.nq fun x hx=>by
    obtain ⟨e,he,rfl⟩:=List.mem_map.mp hx
    obtain ⟨t,s,_,sk,rfl⟩:=hM.ed e he
    exact ⟨Nat.le_add_right o s,Nat.add_lt_add_left sk o⟩
   rwa [List.length_map] at this
  refine Int.le_trans ?_ (top_kle _ few)
  have go:∀ (M:List Edge) (h:Nat),h < 2 ^ m→Mat (edTop o k ws m) pL pR (avail (slotA o) h) M→wtM M ≤ topS M.length (inO ws h m):=by
   intro M
   induction M with
   | nil=>intro h _ _;rw [show ([] : List Edge).length=0 from rfl,top_0];exact Int.le_refl _
   | cons e M ih =>
    intro h hh hM
    obtain ⟨t,s,tm,sk,rfl⟩:=hM.ed e List.mem_cons_self
    have b:bitOn h t=true:=by
     rcases hM.ap _ List.mem_cons_self with z | z
     ·have:10 ≤ t:=z.1
      omega
     ·exact z.2
    have ih':=ih (h ^^^ 2 ^ t) (xor_lt m5 hh tm) ((hM.tail (top_sided m5 ho)).imp fun v z=>av_minus (by omega) (by omega) b v z.1)
    obtain ⟨B,e1,e2⟩:=inO_cut (ws:=ws) (show h < 32 by omega) (show t < 5 by omega) b m tm m5
    rw [e2] at ih'
    rw [wt_cons,e1,top_perm List.perm_middle]
    show ws.getD t 0 + wtM M ≤ max (topS (M.length + 1) (inO ws h t ++ B)) (ws.getD t 0 + topS M.length (inO ws h t ++ B))
    omega
  exact go M h hh hM
noncomputable def mask5 (a b c d e:Bool):Nat:=(if a then 1 else 0) + (if b then 2 else 0) + (if c then 4 else 0) + (if d then 8 else 0) + (if e then 16 else 0)
theorem mask_facts (a b c d e:Bool):mask5 a b c d e < 32∧bitOn (mask5 a b c d e) 0=a∧bitOn (mask5 a b c d e) 1=b∧bitOn (mask5 a b c d e) 2=c∧bitOn (mask5 a b c d e) 3=d∧bitOn (mask5 a b c d e) 4=e:=by
 revert a b c d e
 decide +kernel
theorem mask_ex (P:Nat→Bool):∃ a,a < 32∧∀ t,t < 5→bitOn a t=P t:=by
 obtain ⟨h0,h1,h2,h3,h4,h5⟩:=mask_facts (P 0) (P 1) (P 2) (P 3) (P 4)
 refine ⟨_,h0,fun t ht=>?_⟩
 have:=(show ∀ t,t < 5→t=0∨t=1∨t=2∨t=3∨t=4 by decide) t ht
 rcases this with rfl | rfl | rfl | rfl | rfl <;> assumption
theorem sub_facts {a h:Nat} (ha:a < 32) (hh:h < 32) (k:∀ t,t < 5→bitOn a t=true→bitOn h t=true):a ≤ h∧a &&& h=a:=by
 have key:∀ a h:_root_.Fin 32,(∀ t:_root_.Fin 5,bitOn a.val t.val=true→bitOn h.val t.val=true)→a.val ≤ h.val∧a.val &&& h.val=a.val:=by decide +kernel
 exact key ⟨a,ha⟩ ⟨h,hh⟩ fun t=>k t.val t.isLt
theorem rest_facts {a h t:Nat} (hh:h < 32) (al:a ≤ h) (s:a &&& h=a) (ht:t < 5):bitOn (h - a) t=(bitOn h t && !bitOn a t)∧(bitOn a t=true→bitOn h t=true):=by
 have key:∀ (a h:_root_.Fin 32) (t:_root_.Fin 5),a.val ≤ h.val→a.val &&& h.val=a.val→bitOn (h.val - a.val) t.val=(bitOn h.val t.val && !bitOn a.val t.val)∧(bitOn a.val t.val=true→bitOn h.val t.val=true):=by decide +kernel
 exact key ⟨a,by omega⟩ ⟨h,hh⟩ ⟨t,ht⟩ al s
noncomputable def Own (Ed:Edge→Prop) (sl:Nat→Prop):Prop:=∀ e,Ed e→(pL e < 5∨(10 ≤ pL e∧sl (pL e)))∧(pR e < 5∨(10 ≤ pR e∧sl (pR e)))
structure JoinTab (m:Nat) (f g ns:List Int):Prop where
 ge:∀ h a,h < 2 ^ m→a ≤ h→a &&& h=a→f.getD a 0 + g.getD (h - a) 0 ≤ ns.getD h 0
 att:∀ h,h < 2 ^ m→∃ a,a ≤ h∧a &&& h=a∧ns.getD h 0=f.getD a 0 + g.getD (h - a) 0
theorem join_val {E1 E2:Edge→Prop} {s1 s2:Nat→Prop} {m F:Nat} {f g ns:List Int} (m5:m ≤ 5) (V1:Val E1 s1 m f) (V2:Val E2 s2 m g) (o1:Own E1 s1) (o2:Own E2 s2) (dj:∀ v,s1 v→¬ s2 v) (sd1:Sided F E1) (sd2:Sided F E2) (J:JoinTab m f g ns):Val (fun e=>E1 e∨E2 e) (fun v=>s1 v∨s2 v) m ns:=by
 have p32:2 ^ m ≤ 2 ^ 5:=Nat.pow_le_pow_right (by decide) m5
 refine ⟨fun h hh=>?_,fun h hh M hM=>?_⟩
 ·obtain ⟨a,al,as,e⟩:=J.att h hh
  obtain ⟨M,hM,w⟩:=V1.at' a (by omega)
  obtain ⟨N,hN,w'⟩:=V2.at' (h - a) (by omega)
  have rf:=fun t ht=>rest_facts (t:=t) (show h < 32 by omega) al as ht
  have apart:∀ v,avail s1 a v→avail s2 (h - a) v→False:=fun v z1 z2=>by
   rcases z1 with ⟨v10,y1⟩ | ⟨v5,b1⟩
   ·rcases z2 with ⟨_,y2⟩ | ⟨v5,_⟩
    ·exact dj v y1 y2
    ·omega
   ·rcases z2 with ⟨v10,_⟩ | ⟨_,b2⟩
    ·omega
    ·rw [(rf v v5).1,b1] at b2
     simp at b2
  have in1:∀ v,avail s1 a v→avail (fun v=>s1 v∨s2 v) h v:=fun v z=>by
   rcases z with ⟨v10,y1⟩ | ⟨v5,b1⟩
   ·exact .inl ⟨v10,.inl y1⟩
   ·exact .inr ⟨v5,(rf v v5).2 b1⟩
  have in2:∀ v,avail s2 (h - a) v→avail (fun v=>s1 v∨s2 v) h v:=fun v z=>by
   rcases z with ⟨v10,y1⟩ | ⟨v5,b1⟩
   ·exact .inl ⟨v10,.inr y1⟩
   ·refine .inr ⟨v5,?_⟩
    rw [(rf v v5).1,Bool.and_eq_true] at b1
    exact b1.1
  refine ⟨M ++ N,⟨fun x hx=>?_,?_,?_,fun x hx=>?_,fun x hx=>?_⟩,by rw [wt_app,w,w',e]⟩
  ·rcases List.mem_append.mp hx with z | z
   ·exact .inl (hM.ed x z)
   ·exact .inr (hN.ed x z)
  ·rw [List.map_append,List.nodup_append]
   refine ⟨hM.np,hN.np,fun u hu v hv z=>?_⟩
   obtain ⟨x,hx,rfl⟩:=List.mem_map.mp hu
   obtain ⟨y,hy,rfl⟩:=List.mem_map.mp hv
   exact apart _ (hM.ap x hx) (z ▸ hN.ap y hy)
  ·rw [List.map_append,List.nodup_append]
   refine ⟨hM.nq,hN.nq,fun u hu v hv z=>?_⟩
   obtain ⟨x,hx,rfl⟩:=List.mem_map.mp hu
   obtain ⟨y,hy,rfl⟩:=List.mem_map.mp hv
   exact apart _ (hM.aq x hx) (z ▸ hN.aq y hy)
  ·rcases List.mem_append.mp hx with z | z
   ·exact in1 _ (hM.ap x z)
   ·exact in2 _ (hN.ap x z)
  ·rcases List.mem_append.mp hx with z | z
   ·exact in1 _ (hM.aq x z)
   ·exact in2 _ (hN.aq x z)
 ·have split:∀ M:List Edge,(∀ e ∈ M,E1 e∨E2 e)→∃ M1 M2,M.Perm (M1 ++ M2)∧(∀ e ∈ M1,E1 e)∧∀ e ∈ M2,E2 e:=by
   intro M
   induction M with
   | nil=>exact fun _=>⟨[],[],List.Perm.nil,(fun _ z=>by cases z),(fun _ z=>by cases z)⟩
   | cons e M ih =>
    intro hE
    obtain ⟨M1,M2,pm,h1,h2⟩:=ih fun x hx=>hE x (List.mem_cons_of_mem _ hx)
    rcases hE e List.mem_cons_self with z | z
    ·refine ⟨e :: M1,M2,pm.cons e,fun x hx=>?_,h2⟩
     rcases List.mem_cons.mp hx with rfl | y
     ·exact z
     ·exact h1 x y
    ·refine ⟨M1,e :: M2,(pm.cons e).trans List.perm_middle.symm,h1,fun x hx=>?_⟩
     rcases List.mem_cons.mp hx with rfl | y
     ·exact z
     ·exact h2 x y
  obtain ⟨M1,M2,pm,h1,h2⟩:=split M hM.ed
  have n1:=(pm.map pL).nodup_iff.mp hM.np
  have n2:=(pm.map pR).nodup_iff.mp hM.nq
  rw [List.map_append,List.nodup_append] at n1 n2
  have mem1:∀ e ∈ M1,e ∈ M:=fun e he=>pm.mem_iff.mpr (List.mem_append_left _ he)
  have mem2:∀ e ∈ M2,e ∈ M:=fun e he=>pm.mem_iff.mpr (List.mem_append_right _ he)
  obtain ⟨a,a32,ab⟩:=mask_ex fun t=>M1.any fun e=>decide (pL e=t) || decide (pR e=t)
  have abit:∀ t,t < 5→(bitOn a t=true ↔ ∃ e ∈ M1,pL e=t∨pR e=t):=fun t ht=>by
   rw [ab t ht,List.any_eq_true]
   simp
  have thing:∀ {v:Nat},avail (fun v=>s1 v∨s2 v) h v→v < 5→bitOn h v=true:=fun {v} z v5=>by
   rcases z with z | z
   ·omega
   ·exact z.2
  have sub:=sub_facts a32 (show h < 32 by omega) fun t ht b=>by
   obtain ⟨e,he,z⟩:=(abit t ht).mp b
   rcases z with rfl | rfl
   ·exact thing (hM.ap e (mem1 e he)) ht
   ·exact thing (hM.aq e (mem1 e he)) ht
  have rf:=fun t ht=>rest_facts (t:=t) (show h < 32 by omega) sub.1 sub.2 ht
  have g1:=V1.ge a (by omega) M1 ⟨h1,n1.1,n2.1,fun e he=>by
   rcases (o1 e (h1 e he)).1 with z | z
   ·exact .inr ⟨z,(abit _ z).mpr ⟨e,he,.inl rfl⟩⟩
   ·exact .inl z,fun e he=>by
   rcases (o1 e (h1 e he)).2 with z | z
   ·exact .inr ⟨z,(abit _ z).mpr ⟨e,he,.inr rfl⟩⟩
   ·exact .inl z⟩
  have cross:∀ e ∈ M1,∀ e' ∈ M2,pL e ≠ pR e'∧pR e ≠ pL e':=fun e he e' he'=>by
   have a1:=sd1 e (h1 e he)
   have a2:=sd2 e' (h2 e' he')
   refine ⟨fun z=>?_,fun z=>?_⟩
   ·rw [z,a2.2] at a1
    cases a1.1
   ·rw [z,a2.1] at a1
    cases a1.2
  have g2:=V2.ge (h - a) (by omega) M2 ⟨h2,n1.2.1,n2.2.1,fun e he=>by
   rcases (o2 e (h2 e he)).1 with z | z
   ·refine .inr ⟨z,?_⟩
    rw [(rf _ z).1,thing (hM.ap e (mem2 e he)) z]
    cases c:bitOn a (pL e) with
    | false=>rfl
    | true =>
     obtain ⟨e',he',y⟩:=(abit _ z).mp c
     rcases y with y | y
     ·exact absurd y (n1.2.2 _ (List.mem_map_of_mem he') _ (List.mem_map_of_mem he))
     ·exact absurd y (cross e' he' e he).2
   ·exact .inl z,fun e he=>by
   rcases (o2 e (h2 e he)).2 with z | z
   ·refine .inr ⟨z,?_⟩
    rw [(rf _ z).1,thing (hM.aq e (mem2 e he)) z]
    cases c:bitOn a (pR e) with
    | false=>rfl
    | true =>
     obtain ⟨e',he',y⟩:=(abit _ z).mp c
     rcases y with y | y
     ·exact absurd y (cross e' he' e he).1
     ·exact absurd y (n2.2.2 _ (List.mem_map_of_mem he') _ (List.mem_map_of_mem he))
   ·exact .inl z⟩
  have:=J.ge h a hh sub.1 sub.2
  rw [wt_perm pm,wt_app]
  omega
theorem val_zero {m:Nat} {sl:Nat→Prop} {ns:List Int} (z:∀ h,ns.getD h 0=0):Val (· ∈ ([] : List Edge)) sl m ns :=
 ⟨fun h _=>⟨[],Mat.nil,(z h).symm⟩,fun h _ M hM=>by
  cases M with
  | nil=>rw [z];exact Int.le_refl _
  | cons e M=>exact absurd (hM.ed e List.mem_cons_self) (by simp)⟩
theorem out_bits {h t v:Nat} (hh:h < 32) (ht:t < 5) (hv:v < 5):bitOn (out h t) v=(bitOn h v && !decide (v=t))∧out h t ≤ h:=by
 have key:∀ (a:_root_.Fin 32) (t v:_root_.Fin 5),bitOn (out a.val t.val) v.val=(bitOn a.val v.val && !decide (v.val=t.val))∧out a.val t.val ≤ a.val:=by decide +kernel
 exact key ⟨h,hh⟩ ⟨t,ht⟩ ⟨v,hv⟩
theorem val_less {Ed:Edge→Prop} {sl:Nat→Prop} {m t:Nat} {ns ls:List Int} (m5:m ≤ 5) (ht:t < 5) (V:Val Ed sl m ns) (hl:∀ h,h < 2 ^ m→ls.getD h 0=ns.getD (out h t) 0):Val (fun e=>Ed e∧pL e ≠ t∧pR e ≠ t) sl m ls:=by
 have p32:=pow32 m5
 have to:∀ h,h < 2 ^ m→∀ v,avail sl (out h t) v→avail sl h v∧v ≠ t:=fun h hh v z=>by
  rcases z with z | ⟨v5,b⟩
  ·exact ⟨.inl z,by omega⟩
  ·rw [(out_bits (show h < 32 by omega) ht v5).1,Bool.and_eq_true] at b
   exact ⟨.inr ⟨v5,b.1⟩,by simpa using b.2⟩
 have fro:∀ h,h < 2 ^ m→∀ v,avail sl h v→v ≠ t→avail sl (out h t) v:=fun h hh v z n=>by
  rcases z with z | ⟨v5,b⟩
  ·exact .inl z
  ·exact .inr ⟨v5,by rw [(out_bits (show h < 32 by omega) ht v5).1,b,decide_eq_false n];rfl⟩
 have lt:∀ h,h < 2 ^ m→out h t < 2 ^ m:=fun h hh=>Nat.lt_of_le_of_lt (out_bits (v:=0) (show h < 32 by omega) ht (by decide)).2 hh
 refine ⟨fun h hh=>?_,fun h hh M hM=>?_⟩
 ·obtain ⟨M,hM,e⟩:=V.at' (out h t) (lt h hh)
  exact ⟨M,⟨fun x hx=>⟨hM.ed x hx,(to h hh _ (hM.ap x hx)).2,(to h hh _ (hM.aq x hx)).2⟩,hM.np,hM.nq,fun x hx=>(to h hh _ (hM.ap x hx)).1,fun x hx=>(to h hh _ (hM.aq x hx)).1⟩,by rw [e,hl h hh]⟩
 ·rw [hl h hh]
  exact V.ge (out h t) (lt h hh) M ⟨fun x hx=>(hM.ed x hx).1,hM.np,hM.nq,fun x hx=>fro h hh _ (hM.ap x hx) (hM.ed x hx).2.1,fun x hx=>fro h hh _ (hM.aq x hx) (hM.ed x hx).2.2⟩
theorem pair_sub {h i j:Nat} (hh:h < 32) (hi:i < 5) (hj:j < 5) (ij:i ≠ j):((2 ^ i + 2 ^ j) &&& h=2 ^ i + 2 ^ j ↔ bitOn h i=true∧bitOn h j=true)∧(bitOn h i=true→bitOn h j=true→h - (2 ^ i + 2 ^ j)=h ^^^ 2 ^ i ^^^ 2 ^ j∧bitOn (h ^^^ 2 ^ i) j=true)∧2 ^ i + 2 ^ j < 32:=by
 have key:∀ (h:_root_.Fin 32) (i j:_root_.Fin 5),i.val ≠ j.val→((2 ^ i.val + 2 ^ j.val) &&& h.val=2 ^ i.val + 2 ^ j.val ↔ bitOn h.val i.val=true∧bitOn h.val j.val=true)∧(bitOn h.val i.val=true→bitOn h.val j.val=true→h.val - (2 ^ i.val + 2 ^ j.val)=h.val ^^^ 2 ^ i.val ^^^ 2 ^ j.val∧bitOn (h.val ^^^ 2 ^ i.val) j.val=true)∧2 ^ i.val + 2 ^ j.val < 32:=by decide +kernel
 exact key ⟨h,hh⟩ ⟨i,hi⟩ ⟨j,hj⟩ ij
noncomputable def pairAt (ns:List Int) (pr:Nat) (wt:Int) (h:Nat):Int:=if pr &&& h=pr then max (ns.getD h 0) (ns.getD (h - pr) 0 + wt) else ns.getD h 0
theorem val_pair {es:List Edge} {sl:Nat→Prop} {F m i j:Nat} {wt:Int} {ns ls:List Int} (m5:m ≤ 5) (hi:i < m) (hj:j < m) (bi:bitOn F i=false) (bj:bitOn F j=true) (sd:Sided F (· ∈ es)) (V:Val (· ∈ es) sl m ns) (hl:∀ h,h < 2 ^ m→ls.getD h 0=pairAt ns (2 ^ i + 2 ^ j) wt h):Val (· ∈ es ++ [(i,j,wt)]) sl m ls∧Sided F (· ∈ es ++ [(i,j,wt)]):=by
 have p32:=pow32 m5
 have ij:i ≠ j:=fun z=>by rw [z,bj] at bi;cases bi
 have se:sideL F i=true∧sideL F j=false:=by
  unfold sideL
  rw [if_pos (by omega),if_pos (by omega),bi,bj]
  exact ⟨rfl,rfl⟩
 have sd':Sided F (· ∈ es ++ [(i,j,wt)]):=fun e he=>by
  rcases List.mem_append.mp he with z | z
  ·exact sd e z
  ·rw [List.mem_singleton.mp z];exact se
 refine ⟨⟨fun h hh=>?_,fun h hh M hM=>?_⟩,sd'⟩
 ·obtain ⟨f1,f2,_⟩:=pair_sub (show h < 32 by omega) (show i < 5 by omega) (show j < 5 by omega) ij
  obtain ⟨M,hM,e⟩:=V.at' h hh
  have up:∀ {A:Nat→Prop} {M:List Edge},Mat (· ∈ es) pL pR A M→Mat (· ∈ es ++ [(i,j,wt)]) pL pR A M:=fun h=>⟨fun x hx=>List.mem_append_left _ (h.ed x hx),h.np,h.nq,h.ap,h.aq⟩
  rw [hl h hh]
  unfold pairAt
  by_cases c:(2 ^ i + 2 ^ j) &&& h=2 ^ i + 2 ^ j
  ·rw [if_pos c]
   obtain ⟨b1,b2⟩:=f1.mp c
   obtain ⟨g1,g2⟩:=f2 b1 b2
   rcases Int.le_total (ns.getD (h - (2 ^ i + 2 ^ j)) 0 + wt) (ns.getD h 0) with z | z
   ·exact ⟨M,up hM,by rw [e];omega⟩
   ·obtain ⟨N,hN,e'⟩:=V.at' (h - (2 ^ i + 2 ^ j)) (Nat.lt_of_le_of_lt (Nat.sub_le _ _) hh)
    rw [g1] at hN
    have x1:=bx_facts (show h < 32 by omega) (show i < 5 by omega) (show i < 5 by omega)
    refine ⟨(i,j,wt) :: N,(up hN).cons (List.mem_append_right _ List.mem_cons_self) (fun y=>?_) (fun y=>?_) (fun v y=>(av_back (by omega) (by omega) b1 (av_back x1.2 (by omega) g2 y).1).1) (.inr ⟨show i < 5 by omega,b1⟩) (.inr ⟨show j < 5 by omega,b2⟩),by rw [wt_cons,e'];show wt + _=_;omega⟩
    ·exact (av_back (by omega) (by omega) b1 (av_back x1.2 (by omega) g2 y).1).2 rfl
    ·exact (av_back x1.2 (by omega) g2 y).2 rfl
  ·rw [if_neg c]
   exact ⟨M,up hM,e⟩
 ·obtain ⟨f1,f2,_⟩:=pair_sub (show h < 32 by omega) (show i < 5 by omega) (show j < 5 by omega) ij
  rw [hl h hh]
  have low:ns.getD h 0 ≤ pairAt ns (2 ^ i + 2 ^ j) wt h:=by
   unfold pairAt
   split <;> omega
  by_cases hx:(i,j,wt) ∈ M
  ·have thing:∀ {v:Nat},v < 5→avail sl h v→bitOn h v=true:=fun v5 z=>by
    rcases z with z | z
    ·omega
    ·exact z.2
   have b1:=thing (show i < 5 by omega) (hM.ap _ hx)
   have b2:=thing (show j < 5 by omega) (hM.aq _ hx)
   obtain ⟨g1,g2⟩:=f2 b1 b2
   have pm:=List.perm_cons_erase hx
   have tl:=Mat.tail (F:=F) sd' (M:=M.erase (i,j,wt)) (e:=(i,j,wt)) ⟨fun x y=>hM.ed x (pm.mem_iff.mpr y),(pm.map pL).nodup_iff.mp hM.np,(pm.map pR).nodup_iff.mp hM.nq,fun x y=>hM.ap x (pm.mem_iff.mpr y),fun x y=>hM.aq x (pm.mem_iff.mpr y)⟩
   have x1:=bx_facts (show h < 32 by omega) (show i < 5 by omega) (show i < 5 by omega)
   have tl':Mat (· ∈ es) pL pR (avail sl (h ^^^ 2 ^ i ^^^ 2 ^ j)) (M.erase (i,j,wt)):=by
    refine ⟨fun x y=>?_,tl.np,tl.nq,fun x y=>av_minus x1.2 (by omega) g2 _ (minus_mono (av_minus (by omega) (by omega) b1) _ _ (tl.ap x y)),fun x y=>av_minus x1.2 (by omega) g2 _ (minus_mono (av_minus (by omega) (by omega) b1) _ _ (tl.aq x y))⟩
    rcases List.mem_append.mp (tl.ed x y) with z | z
    ·exact z
    ·exact absurd (show pL x=i by rw [List.mem_singleton.mp z];rfl) (tl.ap x y).1.2
   rw [← g1] at tl'
   have:=V.ge (h - (2 ^ i + 2 ^ j)) (Nat.lt_of_le_of_lt (Nat.sub_le _ _) hh) _ tl'
   rw [wt_perm pm,wt_cons]
   unfold pairAt
   rw [if_pos (f1.mpr ⟨b1,b2⟩)]
   show wt + wtM (M.erase (i,j,wt)) ≤ _
   omega
  ·refine Int.le_trans (V.ge h hh M ⟨fun x y=>?_,hM.np,hM.nq,hM.ap,hM.aq⟩) low
   rcases List.mem_append.mp (hM.ed x y) with z | z
   ·exact z
   ·exact absurd (List.mem_singleton.mp z ▸ y) hx
noncomputable def One (o F m:Nat) (ns:List Int):Prop:=∃ Ed,Val Ed (slotA o) m ns∧Sided F Ed∧Own Ed (slotA o)
noncomputable def Good (F m:Nat) (ns:List Int):Prop:=∃ Ed sl,Val Ed sl m ns∧Sided F Ed
noncomputable def Gd (j F m:Nat) (ns:List Int):Prop:=∃ Ed sl,Val Ed sl m ns∧Sided F Ed∧Own Ed sl∧∀ v,sl v→v < 20 * j + 20
theorem Gd.good {j F m:Nat} {ns:List Int} (g:Gd j F m ns):Good F m ns:=let ⟨_,_,V,s,_⟩:=g;⟨_,_,V,s⟩
theorem One.gd {F m:Nat} {ns:List Int} (g:One 10 F m ns):Gd 0 F m ns:=by
 obtain ⟨Ed,V,s,o⟩:=g
 refine ⟨Ed,_,V,s,o,fun v h=>?_⟩
 unfold slotA at h
 omega
theorem Gd.less {j F m t:Nat} {ns ls:List Int} (m5:m ≤ 5) (ht:t < 5) (g:Gd j F m ns) (hl:∀ h,h < 2 ^ m→ls.getD h 0=ns.getD (out h t) 0):Gd (j + 1) F m ls:=by
 obtain ⟨Ed,sl,V,s,o,b⟩:=g
 refine ⟨_,sl,val_less m5 ht V hl,fun e he=>s e he.1,fun e he=>o e he.1,fun v h=>?_⟩
 have:=b v h
 omega
theorem Gd.join {j F m:Nat} {f g ns:List Int} (m5:m ≤ 5) (a:Gd j F m f) (b:One (20 * j + 30) F m g) (J:JoinTab m f g ns):Gd (j + 1) F m ns:=by
 obtain ⟨E1,s1,V1,d1,o1,b1⟩:=a
 obtain ⟨E2,V2,d2,o2⟩:=b
 refine ⟨_,_,join_val m5 V1 V2 o1 o2 (fun v h1 h2=>?_) d1 d2 J,fun e he=>he.elim (d1 e) (d2 e),fun e he=>?_,fun v h=>?_⟩
 ·have:=b1 v h1
  unfold slotA at h2
  omega
 ·rcases he with he | he
  ·obtain ⟨x,y⟩:=o1 e he
   exact ⟨x.imp id fun z=>⟨z.1,.inl z.2⟩,y.imp id fun z=>⟨z.1,.inl z.2⟩⟩
  ·obtain ⟨x,y⟩:=o2 e he
   exact ⟨x.imp id fun z=>⟨z.1,.inr z.2⟩,y.imp id fun z=>⟨z.1,.inr z.2⟩⟩
 ·rcases h with h | h
  ·have:=b1 v h
   omega
  ·unfold slotA at h
   omega
theorem slot_own (o:Nat) (ho:o=10∨o=30∨o=50∨o=70) {s:Nat} (hs:s < 10):10 ≤ o + s∧slotA o (o + s):=by
 unfold slotA
 omega
theorem one_top {o m k:Nat} {ws ns:List Int} (m5:m ≤ 5) (k5:k ≤ 5) (ho:o=10∨o=30∨o=50∨o=70) (hn:∀ h,h < 2 ^ m→ns.getD h 0=topS k (inO ws h m)):One o 0 m ns :=
 ⟨_,top_val m5 k5 ho hn,top_sided m5 ho,fun e ⟨t,s,tm,sk,h⟩=>by subst h;exact ⟨.inl (show t < 5 by omega),.inr (slot_own o ho (show s < 10 by omega))⟩⟩
theorem inO_len (ws:List Int) (h m:Nat):(inO ws h m).length ≤ m:=by
 unfold inO
 rw [List.length_map]
 exact Nat.le_trans (List.length_filter_le _ _) (by simp)
theorem top_all {l:List Int}:∀ {k:Nat},(∀ x ∈ l,0 ≤ x)→l.length ≤ k→topS k l=l.sum:=by
 induction l with
 | nil=>intro k _ _;cases k <;> rfl
 | cons y l ih =>
  intro k h hl
  rw [List.length_cons] at hl
  cases k with
  | zero=>omega
  | succ k =>
   have h':∀ x ∈ l,0 ≤ x:=fun x hx=>h x (List.mem_cons_of_mem _ hx)
   have y0:=h y List.mem_cons_self
   show max (topS (k + 1) l) (y + topS k l)=(y :: l).sum
   rw [ih h' (by omega),ih h' (by omega),List.sum_cons]
   omega
theorem inO_sum (ws:List Int) (h:Nat):∀ m,(inO ws h m).sum=addS ws h m
 | 0=>rfl
 | m + 1=>by
  rw [inO_succ,List.sum_append,inO_sum ws h m]
  show addS ws h m + _=addS ws h m + _
  congr 1
  cases bitOn h m <;> simp
theorem inO_mem {ws:List Int} {h m:Nat} (w0:∀ t,0 ≤ ws.getD t 0):∀ x ∈ inO ws h m,0 ≤ x:=fun x hx=>by
 unfold inO at hx
 obtain ⟨t,_,rfl⟩:=List.mem_map.mp hx
 exact w0 t
theorem top_add {ws:List Int} (w0:∀ t,0 ≤ ws.getD t 0) (h m:Nat):topS m (inO ws h m)=addS ws h m:=by rw [top_all (inO_mem w0) (inO_len ws h m),inO_sum]
theorem one_add {o F m:Nat} {ws ns:List Int} (m5:m ≤ 5) (ho:o=10∨o=30∨o=50∨o=70) (w0:∀ t,0 ≤ ws.getD t 0) (hn:∀ h,h < 2 ^ m→ns.getD h 0=topS m (inO ws h m)):One o F m ns :=
 ⟨_,add_val (F:=F) m5 ho w0 (fun h hh=>by rw [hn h hh,top_add w0]),add_sided m5 ho,fun e ⟨t,tm,h⟩=>by
  rcases h with ⟨_,rfl⟩ | ⟨_,rfl⟩
  ·exact ⟨.inl (show t < 5 by omega),.inr (slot_own o ho (show t < 10 by omega))⟩
  ·exact ⟨.inr (slot_own o ho (show t < 10 by omega)),.inl (show t < 5 by omega)⟩⟩
theorem Good.zero {m:Nat} {F G:Nat} {ws ns:List Int} (m5:m ≤ 5) (w0:∀ t,0 ≤ ws.getD t 0) (hn:∀ h,h < 2 ^ m→ns.getD h 0=topS m (inO ws h m)):Good F m ns:=(one_add (o:=10) m5 (.inl rfl) w0 hn).gd.good
theorem one_rows {o F m:Nat} {es:List Edge} {ns:List Int} (m5:m ≤ 5) (rl:∀ e ∈ es,e.1 < m∧e.2.1 < m) (V:Val (· ∈ es) (slotA o) m ns) (s:Sided F (· ∈ es)):One o F m ns :=
 ⟨_,V,s,fun e he=>⟨.inl (by have:=(rl e he).1;show e.1 < 5;omega),.inl (by have:=(rl e he).2;show e.2.1 < 5;omega)⟩⟩
end
end K96
end
section
set_option Elab.async false
set_option linter.all false
set_option maxRecDepth 100000
set_option maxHeartbeats 8000000
namespace K96
open PySem L2
section
variable {P:Program} {w:World} {K:PySem.W.Frag} {mg:Str→Option Value} {base:Heap} {f:Addr} {fd:FuncData}
structure Sd (ss:List Int):Prop where
 one:1 ≤ ss.length
 five:ss.length ≤ 5
 bd:∀ x ∈ ss,x=0∨x=1
noncomputable def bitsL (F m:Nat):List Int:=(List.range m).map fun t=>if bitOn F t=true then 1 else 0
theorem bits_len (F m:Nat):(bitsL F m).length=m:=by unfold bitsL;simp
theorem bits_at {F m t:Nat} (ht:t < m):(bitsL F m).getD t 0=if bitOn F t=true then 1 else 0:=by
 unfold bitsL
 simp [List.getD_eq_getElem?_getD,ht]
noncomputable def onesN (F n:Nat):List Nat:=(List.range n).filter (bitOn F)
theorem ones_succ (F i:Nat):onesN F (i + 1)=onesN F i ++ if bitOn F i=true then [i] else []:=by
 unfold onesN
 rw [List.range_succ,List.filter_append]
 congr 1
 cases e:bitOn F i <;> simp [List.filter,e]
theorem ones_sum {F m:Nat} (hm:m ≤ 5) (hF:F < 2 ^ m):((onesN F m).map fun t:Nat=>(2:Int) ^ t).sum=(F:Int):=by
 have key:∀ (a:_root_.Fin 6) (b:_root_.Fin 32),b.val < 2 ^ a.val→((onesN b.val a.val).map fun t:Nat=>(2:Int) ^ t).sum=(b.val:Int):=by decide +kernel
 have:=pow32 hm
 exact key ⟨m,by omega⟩ ⟨F,by omega⟩ hF
noncomputable def sp_heap:Sp:=fun vs H Q _=>∃ (a:Addr) (ts:List Nat),vs=[.ref a]∧H a=some (.lst (natI ts))∧ts.length ≤ 5∧(∀ t ∈ ts,t < 5)∧∀ H',Same H H'→Q (.int ((ts.map fun t:Nat=>(2:Int) ^ t).sum)) H'
noncomputable def LH (c:Addr) (ts:List Nat) (G:Hp) (i:Nat) (σ:St) (H:Hp):Prop:=∃ v,σ=[v]∧SameX c G H∧H c=some (.lst (((ts.take i).map fun t:Nat=>(2:Int) ^ t).map V.int))
theorem two_le {t:Nat} (h:t < 5):(0:Int) ≤ 2 ^ t∧(2:Int) ^ t ≤ 16:=(show ∀ t,t < 5→(0:Int) ≤ 2 ^ t∧(2:Int) ^ t ≤ 16 by decide) t h
theorem sc_heap_of:FnScope ["things"] ["things"] (defScope s_heap_of):=⟨rfl,rfl,rfl,by decide +kernel,rfl,by decide +kernel,by decide +kernel⟩
theorem ok_heap (F:Fun K "heap_of" "heap_of" s_heap_of f fd) (hm:mg "heap_of" = some (.ref f)) (hb:Binds K fd ["things"] []) (T:Txt mg):Cal P w K mg base "heap_of" ["things"] 1 sp_heap:=by
 refine cal_of F hm hb sc_heap_of (fun vs H Q E h=>?_) (fun cdv A outer s H vs Q E hr h=>?_)
 ·obtain ⟨_,_,rfl,_⟩:=h;rfl
 ·obtain ⟨a,ts,rfl,ha,hlen,hlt,q⟩:=h
  have sc:=sc_heap_of
  refine ⟨_,pss_one (ps_ret (pe_callB (sum0 rfl) rfl T.sum_ bt_sum (pa_cns (pe_lc (N:=["thing"]) (fr:=[none]) rfl (pi_l0 (pv 0)) (CScope.of rfl rfl rfl) rfl (fun _ _ _=>⟨pg_name (i:=0) (show List.Nodup (α:=Str) ["thing"] by decide +kernel) rfl (Or.inl rfl),pif_nil,pe_op op_shl pe_int (pv 0)⟩)) pa_nil))),?_⟩
  rw [show L2.start ["things"] [.ref a] = [some (.ref a)] from rfl]
  (push_cast only [ha])
  intro c nc
  have nac:a ≠ c:=ne_of_none ha nc
  refine cl_seq (LH c ts H) ⟨none,rfl,SameX.upd,upd_same⟩ (fun j σ H' _ ⟨_,_,s,_⟩=>s _ _ nac ha) ?_ ?_
  ·rintro i x σ H1 hx ⟨v,rfl,s1,e1⟩
   unfold natI at hx
   rw [List.getElem?_map] at hx
   obtain ⟨t,ht,rfl⟩:=Option.map_eq_some_iff.mp hx
   have hi:i < ts.length:=(List.getElem?_eq_some_iff.mp ht).1
   have t5:=hlt t (List.mem_of_getElem? ht)
   (push_cast only [e1])
   refine ⟨⟨by omega,by omega,by decide⟩,small1000 (by rw [List.length_take];omega),⟨_,rfl,s1.trans SameX.upd,?_⟩⟩
   rw [upd_same,List.take_add_one,ht]
   simp
  ·rintro σ H1 ⟨v,rfl,s1,e1⟩
   rw [show (natI ts).length=ts.length by unfold natI;rw [List.length_map],List.take_length] at e1
   refine ⟨_,sq_lst e1,sumFits_of (fun n hn=>?_) (by rw [List.length_map];omega),q H1 (s1.same nc)⟩
   obtain ⟨t,ht,rfl⟩:=List.mem_map.mp hn
   have:=two_le (hlt t ht)
   omega
noncomputable def sp_side:Sp:=fun vs H Q _=>∃ (a:Addr) (F m:Nat),vs=[.ref a,.int 1]∧H a=some (.tup ((bitsL F m).map V.int))∧m ≤ 5∧F < 2 ^ m∧∀ H',Same H H'→Q (.int (F:Int)) H'
noncomputable def LS2 (a c:Addr) (F:Nat) (G:Hp) (i:Nat) (σ:St) (H:Hp):Prop:=∃ v,σ=[v,some (.ref a),some (.int 1)]∧SameX c G H∧H c=some (.lst (natI (onesN F i)))
theorem sc_heap_of_side:FnScope ["sides", "side"] ["sides", "side"] (defScope s_heap_of_side):=⟨rfl,rfl,rfl,by decide +kernel,rfl,by decide +kernel,by decide +kernel⟩
theorem ok_side (F:Fun K "heap_of_side" "heap_of_side" s_heap_of_side f fd) (hm:mg "heap_of_side" = some (.ref f)) (hb:Binds K fd ["sides", "side"] []) (T:Txt mg) (c_heap_of:Cal P w K mg base "heap_of" ["things"] 1 sp_heap):Cal P w K mg base "heap_of_side" ["sides", "side"] 2 sp_side:=by
 refine cal_of F hm hb sc_heap_of_side (fun vs H Q E h=>?_) (fun cdv A outer s H vs Q E hr h=>?_)
 ·obtain ⟨_,_,_,rfl,_⟩:=h;rfl
 ·obtain ⟨a,F0,m,rfl,ha,m5,hF,q⟩:=h
  have sc:=sc_heap_of_side
  refine ⟨_,pss_one (ps_ret (pe_cal c_heap_of hr (pa_cns (pe_lc (N:=["thing", "sides", "side"]) (fr:=[none,some 0,some 1]) rfl (pi_range1 rfl T.range_ (pa_cns (pe_callB len0 rfl T.len_ bt_len (pa_cns (pv 0) pa_nil)) pa_nil)) (CScope.of rfl rfl rfl) rfl (fun _ _ _=>⟨pg_name (i:=0) (show List.Nodup (α:=Str) ["thing", "sides", "side"] by decide +kernel) rfl (Or.inl rfl),pif_one (pt_cmpR op_eq (pe_ix ix0 (pv 1) (pv 0) (fun _ _=>rfl)) (pv 2) (nomark _)),pv 0⟩)) pa_nil))),?_⟩
  rw [show L2.start ["sides", "side"] [.ref a,.int 1] = [some (.ref a),some (.int 1)] from rfl]
  have hsa:=sq_tup ha
  (push_cast only [hsa])
  rw [bits_len]
  refine ⟨by omega,by omega,fun c nc=>?_⟩
  have nac:a ≠ c:=ne_of_none ha nc
  have ol:∀ n,(onesN F0 n).length ≤ n:=fun n=>by unfold onesN;exact Nat.le_trans (List.length_filter_le _ _) (by simp)
  refine cl_range (LS2 a c F0 H) ⟨none,rfl,SameX.upd,upd_same⟩ ?_ ?_
  ·rintro i σ H1 hi ⟨v,rfl,s1,e1⟩
   rw [Int.toNat_natCast] at hi
   have hsa1:=sq_tup (s1 _ _ nac ha)
   have hat:=at_int (ns:=bitsL F0 m) (n:=i) (by rw [bits_len];exact hi)
   rw [bits_at hi] at hat
   have oli:=ol i
   (push_cast only [hsa1,hat])
   cases hb:bitOn F0 i with
   | true =>
    rw [if_pos (by simp [hb])]
    refine ⟨_,e1,small1000 (by unfold natI;rw [List.length_map];omega),⟨_,rfl,s1.trans SameX.upd,?_⟩⟩
    rw [upd_same,ones_succ,if_pos hb]
    unfold natI
    simp
   | false =>
    rw [if_neg (by simp [hb])]
    refine ⟨_,rfl,s1,?_⟩
    rw [e1,ones_succ,if_neg (by rw [hb];decide),List.append_nil]
  ·rintro σ H1 ⟨v,rfl,s1,e1⟩
   rw [Int.toNat_natCast] at e1
   have olm:=ol m
   refine ⟨c,onesN F0 m,rfl,e1,by omega,fun t ht=>?_,fun H2 s2=>?_⟩
   ·unfold onesN at ht
    have:=List.mem_range.mp (List.mem_filter.mp ht).1
    omega
   ·rw [ones_sum m5 hF]
    exact q H2 ((s1.same nc).trans s2)
theorem lt_of_bits {a m:Nat} (ha:a < 32) (m5:m ≤ 5) (h:∀ t,m ≤ t→t < 5→bitOn a t=false):a < 2 ^ m:=by
 have key:∀ (a:_root_.Fin 32) (m:_root_.Fin 6),(∀ t:_root_.Fin 5,m.val ≤ t.val→bitOn a.val t.val=false)→a.val < 2 ^ m.val:=by decide +kernel
 exact key ⟨a,ha⟩ ⟨m,by omega⟩ fun t ht=>h t.val ht t.isLt
theorem sd_bits (ss:List Int) (W:Sd ss):∃ F,F < 2 ^ ss.length∧ss=bitsL F ss.length:=by
 obtain ⟨a,a1,a2⟩:=mask_ex fun t=>decide (ss.getD t 0=1)
 have h5:=W.five
 refine ⟨a,lt_of_bits a1 h5 fun t h1 h2=>?_,List.ext_getElem? fun i=>?_⟩
 ·rw [a2 t h2,List.getD_eq_getElem?_getD,List.getElem?_eq_none h1]
  rfl
 ·unfold bitsL
  rw [List.getElem?_map]
  rcases Nat.lt_or_ge i ss.length with z | z
  ·rw [List.getElem?_range z,List.getElem?_eq_getElem z,Option.map_some,a2 i (by omega),List.getD_eq_getElem?_getD,List.getElem?_eq_getElem z]
   rcases W.bd ss[i] (List.getElem_mem z) with e | e <;> simp [e]
  ·rw [List.getElem?_eq_none z,List.getElem?_eq_none (by simpa using z)]
   rfl
theorem xor_int {h F m:Nat} (hm:m ≤ 5) (hh:h < 2 ^ m) (hF:F < 2 ^ m):Builtin.bitXor (h:Int) (F:Int)=((h ^^^ F:Nat):Int)∧h ^^^ F < 2 ^ m∧(h ^^^ F) ^^^ F=h:=by
 have key:∀ (a:_root_.Fin 6) (b c:_root_.Fin 32),b.val < 2 ^ a.val→c.val < 2 ^ a.val→Builtin.bitXor (b.val:Int) (c.val:Int)=((b.val ^^^ c.val:Nat):Int)∧b.val ^^^ c.val < 2 ^ a.val∧(b.val ^^^ c.val) ^^^ c.val=b.val:=by decide +kernel
 have:=pow32 hm
 exact key ⟨m,by omega⟩ ⟨h,by omega⟩ ⟨F,by omega⟩ hh hF
noncomputable def turnN (ns:List Int) (F:Nat):List Int:=(List.range ns.length).map fun h=>ns.getD (h ^^^ F) 0
theorem turn_len (ns:List Int) (F:Nat):(turnN ns F).length=ns.length:=by unfold turnN;simp
theorem turn_at {ns:List Int} {F h:Nat} (hh:h < ns.length):(turnN ns F).getD h 0=ns.getD (h ^^^ F) 0:=by
 unfold turnN
 simp [List.getD_eq_getElem?_getD,hh]
noncomputable def sp_turned:Sp:=fun vs H Q _=>∃ (a b:Addr) (ns:List Int) (F m:Nat),vs=[.ref a,.ref b]∧H a=some (.tup (ns.map V.int))∧H b=some (.tup ((bitsL F m).map V.int))∧m ≤ 5∧F < 2 ^ m∧ns.length=2 ^ m∧∀ (l:Addr) (H':Hp),Same H H'→H' l=some (.tup ((turnN ns F).map V.int))→Q (.ref l) H'
noncomputable def LX1 (a c:Addr) (ns:List Int) (F:Nat) (G:Hp) (i:Nat) (σ:St) (H:Hp):Prop:=∃ v,σ=[v,some (.ref a),some (.int (F:Int))]∧SameX c G H∧H c=some (.lst (((List.range i).map fun h=>ns.getD (h ^^^ F) 0).map V.int))
theorem sc_turned:FnScope ["want", "sides", "flips"] ["want", "sides"] (defScope s_turned):=⟨rfl,rfl,rfl,by decide +kernel,rfl,by decide +kernel,by decide +kernel⟩
theorem ok_turned (F:Fun K "turned" "turned" s_turned f fd) (hm:mg "turned" = some (.ref f)) (hb:Binds K fd ["want", "sides"] []) (T:Txt mg) (c_heap_of_side:Cal P w K mg base "heap_of_side" ["sides", "side"] 2 sp_side):Cal P w K mg base "turned" ["want", "sides"] 3 sp_turned:=by
 refine cal_of F hm hb sc_turned (fun vs H Q E h=>?_) (fun cdv A outer s H vs Q E hr h=>?_)
 ·obtain ⟨_,_,_,_,_,rfl,_⟩:=h;rfl
 ·obtain ⟨a,b,ns,F0,m,rfl,ha,hb',m5,hF,hl,q⟩:=h
  have sc:=sc_turned
  have hp:=pow32 m5
  refine ⟨_,pss_cons (ps_set (i:=2) sc.nd rfl (Or.inr rfl) (pe_cal c_heap_of_side hr (pa_cns (pv 1) (pa_cns pe_int pa_nil))))
   (pss_one (ps_ret (pe_callTy tupA0 rfl T.tuple_ bt_tuple (pa_cns (pe_lc (N:=["heap", "want", "flips"]) (fr:=[none,some 0,some 2]) rfl (pi_range1 rfl T.range_ (pa_cns (pe_callB len0 rfl T.len_ bt_len (pa_cns (pv 0) pa_nil)) pa_nil)) (CScope.of rfl rfl rfl) rfl (fun _ _ _=>⟨pg_name (i:=0) (show List.Nodup (α:=Str) ["heap", "want", "flips"] by decide +kernel) rfl (Or.inl rfl),pif_nil,pe_ix ix0 (pv 1) (pe_op op_xor (pv 0) (pv 2)) (fun _ _=>rfl)⟩)) pa_nil)))),?_⟩
  rw [show L2.start ["want", "sides", "flips"] [.ref a,.ref b] = [some (.ref a),some (.ref b),none] from rfl]
  (push_cast only [])
  refine ⟨b,F0,m,rfl,hb',m5,hF,fun H1 s1=>?_⟩
  have ha1:=s1 _ _ ha
  have hsa:=sq_tup ha1
  (push_cast only [hsa])
  refine ⟨by omega,by omega,fun c nc=>?_⟩
  have nac:a ≠ c:=ne_of_none ha1 nc
  refine cl_range (LX1 a c ns F0 H1) ⟨none,rfl,SameX.upd,upd_same⟩ ?_ ?_
  ·rintro i σ H2 hi ⟨v,rfl,s2,e2⟩
   rw [Int.toNat_natCast] at hi
   obtain ⟨x0,x1,_⟩:=xor_int m5 (show i < 2 ^ m by omega) hF
   have hsa2:=sq_tup (s2 _ _ nac ha1)
   have hat:=at_int (ns:=ns) (n:=i ^^^ F0) (by omega)
   rw [← x0] at hat
   (push_cast only [hsa2,hat,e2])
   refine ⟨small1000 (by simp;omega),⟨_,rfl,s2.trans SameX.upd,?_⟩⟩
   rw [upd_same,List.range_succ]
   simp
  ·rintro σ H2 ⟨v,rfl,s2,e2⟩
   rw [Int.toNat_natCast] at e2
   refine ⟨_,e2,fun l H3 nl s3 e3=>?_⟩
   exact q l H3 (s1.trans ((s2.same nc).trans s3)) e3
end
end K96
end
section
set_option Elab.async false
set_option linter.all false
set_option maxRecDepth 100000
set_option maxHeartbeats 8000000
namespace K96
open PySem L2
section
variable {P:Program} {w:World} {K:PySem.W.Frag} {mg:Str→Option Value} {base:Heap} {f:Addr} {fd:FuncData}
noncomputable def sp_put:Sp:=fun vs H Q _=>∃ h t m:Nat,vs=[.int (h:Int),.int (t:Int)]∧m ≤ 5∧h < 2 ^ m∧t < m∧Q (.int ((h ||| 2 ^ t:Nat):Int)) H
theorem or_fact {h t m:Nat} (hm:m ≤ 5) (hh:h < 2 ^ m) (ht:t < m):Builtin.bitOr (h:Int) ((2 ^ t:Nat):Int)=((h ||| 2 ^ t:Nat):Int)∧(h ||| 2 ^ t) < 2 ^ m:=by
 have key:∀ (a:_root_.Fin 6) (b:_root_.Fin 32) (c:_root_.Fin 5),b.val < 2 ^ a.val→c.val < a.val→Builtin.bitOr (b.val:Int) ((2 ^ c.val:Nat):Int)=((b.val ||| 2 ^ c.val:Nat):Int)∧(b.val ||| 2 ^ c.val) < 2 ^ a.val:=by decide +kernel
 have:=pow32 hm
 exact key ⟨m,by omega⟩ ⟨h,by omega⟩ ⟨t,by omega⟩ hh ht
theorem hpow (m:Nat):(1:Int) * 2 ^ (m:Int).toNat=((2 ^ m:Nat):Int):=by rw [Int.one_mul,Int.toNat_natCast];norm_cast
theorem small10000 {n:Nat} (h:n ≤ 100000):n < sizeLine:=Nat.lt_of_le_of_lt h (by decide)
theorem natI_len (l:List Nat):(natI l).length=l.length:=by unfold natI;rw [List.length_map]
theorem bits5 {h:Nat} (hh:h < 32):Builtin.Int.intBits (h:Int) ≤ 5∧(List.range (Builtin.Int.intBits (h:Int))).filter (bitOn h)=(List.range 5).filter (bitOn h):=by
 have key:∀ x:_root_.Fin 32,Builtin.Int.intBits (x.val:Int) ≤ 5∧(List.range (Builtin.Int.intBits (x.val:Int))).filter (bitOn x.val)=(List.range 5).filter (bitOn x.val):=by decide +kernel
 exact key ⟨h,hh⟩
noncomputable def lessI (a b:Int):Int:=a - Builtin.bitAnd a b
noncomputable def sp_less:Sp:=fun vs H Q _=>∃ a b:Int,vs=[.int a,.int b]∧Q (.int (lessI a b)) H
theorem sc_less:FnScope ["one", "other"] ["one", "other"] (defScope s_less):=⟨rfl,rfl,rfl,by decide +kernel,rfl,by decide +kernel,by decide +kernel⟩
theorem ok_less (F:Fun K "less" "less" s_less f fd) (hm:mg "less" = some (.ref f)) (hb:Binds K fd ["one", "other"] []) (T:Txt mg):Cal P w K mg base "less" ["one", "other"] 1 sp_less:=by
 refine cal_of F hm hb sc_less (fun vs H Q E h=>?_) (fun cdv A outer s H vs Q E hr h=>?_)
 ·obtain ⟨_,_,rfl,_⟩:=h;rfl
 ·obtain ⟨h,t,rfl,q⟩:=h
  have sc:=sc_less
  refine ⟨_,pss_one (ps_ret (pe_op op_sub (pv 0) (pe_op op_and (pv 0) (pv 1)))),?_⟩
  rw [show L2.start ["one", "other"] [.int h,.int t] = [some (.int h),some (.int t)] from rfl]
  (push_cast only [])
  exact q
theorem out_int {h t:Nat} (hh:h < 32) (ht:t < 5):lessI (h:Int) (1 * 2 ^ (t:Int).toNat)=(out h t:Int):=by
 have key:∀ (a:_root_.Fin 32) (b:_root_.Fin 5),lessI (a.val:Int) (1 * 2 ^ (b.val:Int).toNat)=(out a.val b.val:Int):=by decide +kernel
 exact key ⟨h,hh⟩ ⟨t,ht⟩
noncomputable def sp_taken:Sp:=fun vs H Q _=>∃ h t:Nat,vs=[.int (h:Int),.int (t:Int)]∧h < 32∧t < 5∧Q (.int (out h t:Int)) H
theorem sc_taken_out:FnScope ["heap", "thing"] ["heap", "thing"] (defScope s_taken_out):=⟨rfl,rfl,rfl,by decide +kernel,rfl,by decide +kernel,by decide +kernel⟩
theorem ok_taken (F:Fun K "taken_out" "taken_out" s_taken_out f fd) (hm:mg "taken_out" = some (.ref f)) (hb:Binds K fd ["heap", "thing"] []) (T:Txt mg) (c_less:Cal P w K mg base "less" ["one", "other"] 1 sp_less):Cal P w K mg base "taken_out" ["heap", "thing"] 2 sp_taken:=by
 refine cal_of F hm hb sc_taken_out (fun vs H Q E h=>?_) (fun cdv A outer s H vs Q E hr h=>?_)
 ·obtain ⟨_,_,rfl,_⟩:=h;rfl
 ·obtain ⟨h,t,rfl,hh,ht,q⟩:=h
  have sc:=sc_taken_out
  refine ⟨_,pss_one (ps_ret (pe_cal c_less hr (pa_cns (pv 0) (pa_cns (pe_op op_shl pe_int (pv 1)) pa_nil)))),?_⟩
  rw [show L2.start ["heap", "thing"] [.int (h:Int),.int (t:Int)] = [some (.int (h:Int)),some (.int (t:Int))] from rfl]
  (push_cast only [sp_less])
  refine ⟨⟨by omega,by omega,by decide⟩,?_⟩
  rw [out_int hh ht]
  exact q
theorem sc_put_in:FnScope ["heap", "thing"] ["heap", "thing"] (defScope s_put_in):=⟨rfl,rfl,rfl,by decide +kernel,rfl,by decide +kernel,by decide +kernel⟩
theorem ok_put (F:Fun K "put_in" "put_in" s_put_in f fd) (hm:mg "put_in" = some (.ref f)) (hb:Binds K fd ["heap", "thing"] []) (T:Txt mg):Cal P w K mg base "put_in" ["heap", "thing"] 1 sp_put:=by
 refine cal_of F hm hb sc_put_in (fun vs H Q E h=>?_) (fun cdv A outer s H vs Q E hr h=>?_)
 ·obtain ⟨_,_,_,rfl,_⟩:=h;rfl
 ·obtain ⟨h,t,m,rfl,m5,hh,ht,q⟩:=h
  have sc:=sc_put_in
  refine ⟨_,pss_one (ps_ret (pe_op op_or (pv 0) (pe_op op_shl pe_int (pv 1)))),?_⟩
  rw [show L2.start ["heap", "thing"] [.int (h:Int),.int (t:Int)] = [some (.int (h:Int)),some (.int (t:Int))] from rfl]
  (push_cast only [])
  rw [hpow,(or_fact m5 hh ht).1]
  exact ⟨⟨by omega,by omega,by decide⟩,q⟩
noncomputable def sp_has:Sp:=fun vs H Q _=>∃ h t:Nat,vs=[.int (h:Int),.int (t:Int)]∧h < 32∧t < 5∧Q (.bl (bitOn h t)) H
theorem sc_has:FnScope ["heap", "thing"] ["heap", "thing"] (defScope s_has):=⟨rfl,rfl,rfl,by decide +kernel,rfl,by decide +kernel,by decide +kernel⟩
theorem ok_has (F:Fun K "has" "has" s_has f fd) (hm:mg "has" = some (.ref f)) (hb:Binds K fd ["heap", "thing"] []) (T:Txt mg):Cal P w K mg base "has" ["heap", "thing"] 1 sp_has:=by
 refine cal_of F hm hb sc_has (fun vs H Q E h=>?_) (fun cdv A outer s H vs Q E hr h=>?_)
 ·obtain ⟨_,_,rfl,_⟩:=h;rfl
 ·obtain ⟨h,t,rfl,hh,ht,q⟩:=h
  have sc:=sc_has
  refine ⟨_,pss_one (ps_ret (pe_cmpR op_eq (pe_op op_and (pe_op op_shr (pv 0) (pv 1)) pe_int) pe_int (nomark _))),?_⟩
  rw [show L2.start ["heap", "thing"] [.int (h:Int),.int (t:Int)] = [some (.int (h:Int)),some (.int (t:Int))] from rfl]
  (push_cast only [])
  rw [(bit_on hh ht).1]
  exact ⟨by omega,q⟩
noncomputable def sp_things:Sp:=fun vs H Q _=>∃ h:Nat,vs=[.int (h:Int)]∧h < 32∧∀ (t:Addr) (H':Hp),Same H H'→H' t=some (.tup (natI ((List.range 5).filter (bitOn h))))→Q (.ref t) H'
noncomputable def THI (c:Addr) (h:Nat) (G:Hp) (i:Nat) (σ:St) (H:Hp):Prop:=∃ v:Option V,σ=[v,some (.int (h:Int))]∧SameX c G H∧H c=some (.lst (natI ((List.range i).filter (bitOn h))))
theorem sc_things_in:FnScope ["heap"] ["heap"] (defScope s_things_in):=⟨rfl,rfl,rfl,by decide +kernel,rfl,by decide +kernel,by decide +kernel⟩
theorem ok_things (F:Fun K "things_in" "things_in" s_things_in f fd) (hm:mg "things_in" = some (.ref f)) (hb:Binds K fd ["heap"] []) (T:Txt mg) (c_has:Cal P w K mg base "has" ["heap", "thing"] 1 sp_has):Cal P w K mg base "things_in" ["heap"] 2 sp_things:=by
 refine cal_of F hm hb sc_things_in (fun vs H Q E h=>?_) (fun cdv A outer s H vs Q E hr h=>?_)
 ·obtain ⟨_,rfl,_⟩:=h;rfl
 ·obtain ⟨h,rfl,hh,q⟩:=h
  have sc:=sc_things_in
  refine ⟨_,pss_one (ps_ret (pe_callTy tupA0 rfl T.tuple_ bt_tuple (pa_cns (pe_lc (N:=["thing", "heap"]) (fr:=[none,some 0]) rfl (pi_range1 rfl T.range_ (pa_cns (pe_bits (pv 0) rfl rfl mono_var) pa_nil)) (CScope.of rfl rfl rfl) rfl (fun _ _ _=>⟨pg_name (i:=0) (show List.Nodup (α:=Str) ["thing", "heap"] by decide +kernel) rfl (Or.inl rfl),pif_one (pt_val (pe_cal c_has hr (pa_cns (pv 1) (pa_cns (pv 0) pa_nil)))),pv 0⟩)) pa_nil))),?_⟩
  rw [show L2.start ["heap"] [.int (h:Int)] = [some (.int (h:Int))] from rfl]
  (push_cast only [])
  obtain ⟨b5,bf⟩:=bits5 hh
  refine ⟨by omega,by omega,fun c nc=>?_⟩
  refine cl_range (THI c h H) ⟨none,rfl,SameX.upd,upd_same⟩ ?_ ?_
  ·rintro j σ H1 hj ⟨v,rfl,s1,e1⟩
   rw [Int.toNat_natCast] at hj
   (push_cast only [])
   refine ⟨h,j,rfl,hh,by omega,?_⟩
   have len:((List.range j).filter (bitOn h)).length ≤ j:=Nat.le_trans (List.length_filter_le _ _) (by simp)
   cases eb:bitOn h j
   ·(push_cast only [e1])
    refine ⟨_,rfl,s1,?_⟩
    rw [e1,List.range_succ,List.filter_append]
    simp [eb]
   ·(push_cast only [e1])
    refine ⟨small1000 (by rw [natI_len];omega),⟨_,rfl,s1.trans SameX.upd,?_⟩⟩
    rw [upd_same,List.range_succ,List.filter_append]
    unfold natI
    simp [eb]
  ·rintro σ H1 ⟨v,rfl,s1,e1⟩
   rw [Int.toNat_natCast,bf] at e1
   (push_cast only [])
   refine ⟨_,e1,fun l H2 nl s2 e2=>?_⟩
   exact q l H2 ((s1.same nc).trans s2) e2
noncomputable def sp_isw:Sp:=fun vs H Q _=>∃ a b:Int,vs=[.int a,.int b]∧Q (.bl (decide (lessI a b=0))) H
theorem sc_is_within:FnScope ["one", "other"] ["one", "other"] (defScope s_is_within):=⟨rfl,rfl,rfl,by decide +kernel,rfl,by decide +kernel,by decide +kernel⟩
theorem ok_isw (F:Fun K "is_within" "is_within" s_is_within f fd) (hm:mg "is_within" = some (.ref f)) (hb:Binds K fd ["one", "other"] []) (T:Txt mg) (c_less:Cal P w K mg base "less" ["one", "other"] 1 sp_less):Cal P w K mg base "is_within" ["one", "other"] 2 sp_isw:=by
 refine cal_of F hm hb sc_is_within (fun vs H Q E h=>?_) (fun cdv A outer s H vs Q E hr h=>?_)
 ·obtain ⟨_,_,rfl,_⟩:=h;rfl
 ·obtain ⟨h,t,rfl,q⟩:=h
  have sc:=sc_is_within
  refine ⟨_,pss_one (ps_ret (pe_cmpR op_eq (pe_cal c_less hr (pa_cns (pv 0) (pa_cns (pv 1) pa_nil))) pe_int (nomark _))),?_⟩
  rw [show L2.start ["one", "other"] [.int h,.int t] = [some (.int h),some (.int t)] from rfl]
  (push_cast only [sp_less])
  exact q
theorem on_lt {m h:Nat} (m5:m ≤ 5) (hh:h < 2 ^ m):(List.range 5).filter (bitOn h)=(List.range m).filter (bitOn h):=by
 have key:∀ (m:_root_.Fin 6) (h:_root_.Fin 32),h.val < 2 ^ m.val→(List.range 5).filter (bitOn h.val)=(List.range m.val).filter (bitOn h.val):=by decide +kernel
 have:=pow32 m5
 exact key ⟨m,by omega⟩ ⟨h,by omega⟩ hh
theorem desc_of {ms:List Int} (h:PyProof.Rows.Ordered true ms):ms.Pairwise (fun a b=>b ≤ a):=by
 simpa [PyProof.Rows.Ordered] using h
noncomputable def TSm (ws:List Int) (k:Nat):List Int:=(List.range (2 ^ ws.length)).map fun h:Nat=>topS k (inO ws h ws.length)
theorem ts_len (ws:List Int) (k:Nat):(TSm ws k).length=2 ^ ws.length:=by unfold TSm;simp
theorem ts_at {ws:List Int} {k h:Nat} (hh:h < 2 ^ ws.length):(TSm ws k).getD h 0=topS k (inO ws h ws.length):=by
 unfold TSm
 simp [List.getD_eq_getElem?_getD,hh]
theorem ws_nn {ws:List Int} (W:Ws ws) (t:Nat):0 ≤ ws.getD t 0:=by
 rw [List.getD_eq_getElem?_getD]
 cases e:ws[t]? with
 | none=>exact Int.le_refl _
 | some x=>exact (W.bd x (List.mem_of_getElem? e)).1
noncomputable def sp_some:Sp:=fun vs H Q _=>∃ (a:Addr) (ws:List Int) (k:Nat),vs=[.ref a,.int (k:Int)]∧H a=some (.tup (ws.map V.int))∧Ws ws∧∀ (t:Addr) (H':Hp),Same H H'→H' t=some (.tup ((TSm ws k).map V.int))→Q (.ref t) H'
noncomputable def SM1 (a p:Addr) (ws:List Int) (k:Nat) (G:Hp) (i:Nat) (σ:St) (H:Hp):Prop:=∃ v,σ=[v,some (.ref a),some (.int (k:Int))]∧SameX p G H∧H p=some (.lst (((List.range i).map fun h:Nat=>topS k (inO ws h ws.length)).map V.int))
noncomputable def SM2 (a c:Addr) (ws:List Int) (ts:List Nat) (G:Hp) (i:Nat) (σ:St) (H:Hp):Prop:=∃ v,σ=[v,some (.ref a)]∧SameX c G H∧H c=some (.lst (((ts.take i).map fun t=>ws.getD t 0).map V.int))
theorem sc_some_of:FnScope ["worths", "many"] ["worths", "many"] (defScope s_some_of):=⟨rfl,rfl,rfl,by decide +kernel,rfl,by decide +kernel,by decide +kernel⟩
theorem ok_some (F:Fun K "some_of" "some_of" s_some_of f fd) (hm:mg "some_of" = some (.ref f)) (hb:Binds K fd ["worths", "many"] []) (T:Txt mg) (c_things_in:Cal P w K mg base "things_in" ["heap"] 2 sp_things):Cal P w K mg base "some_of" ["worths", "many"] 3 sp_some:=by
 refine cal_of F hm hb sc_some_of (fun vs H Q E h=>?_) (fun cdv A outer s H vs Q E hr h=>?_)
 ·obtain ⟨_,_,_,rfl,_⟩:=h;rfl
 ·obtain ⟨a,ws,k,rfl,ha,W,q⟩:=h
  have sc:=sc_some_of
  refine ⟨_,pss_one (ps_ret (pe_callTy tupA0 rfl T.tuple_ bt_tuple (pa_cns (pe_lc (N:=["heap", "worths", "many"]) (fr:=[none,some 0,some 1]) rfl (pi_range1 rfl T.range_ (pa_cns (pe_op op_shl pe_int (pe_callB len0 rfl T.len_ bt_len (pa_cns (pv 0) pa_nil))) pa_nil)) (CScope.of rfl rfl rfl) rfl (fun _ _ _=>⟨pg_name (i:=0) (show List.Nodup (α:=Str) ["heap", "worths", "many"] by decide +kernel) rfl (Or.inl rfl),pif_nil,pe_callB (sum0 rfl) rfl T.sum_ bt_sum (pa_cns (pe_slice slL0 (pe_sortR rfl T.sorted_ (pa_cns (pe_lc (N:=["thing", "worths"]) (fr:=[none,some 1]) rfl (pi_t0 (pe_cal c_things_in hr (pa_cns (pv 0) pa_nil))) (CScope.of rfl rfl rfl) rfl (fun _ _ _=>⟨pg_name (i:=0) (show List.Nodup (α:=Str) ["thing", "worths"] by decide +kernel) rfl (Or.inl rfl),pif_nil,pe_ix ix0 (pv 1) (pv 0) (fun _ _=>rfl)⟩)) pa_nil) (pk_cons pe_bl pk_nil)) po_none (po_some (pv 2))) pa_nil)⟩)) pa_nil))),?_⟩
  have hsa:=sq_tup ha
  rw [show L2.start ["worths", "many"] [.ref a,.int (k:Int)] = [some (.ref a),some (.int (k:Int))] from rfl]
  (push_cast only [hsa])
  have h5:ws.length ≤ 5:=W.five
  have p32:=pow32 h5
  rw [hpow]
  refine ⟨⟨by omega,by omega,by decide⟩,Int.le_trans (by decide) (Int.natCast_nonneg _),Int.lt_of_le_of_lt (Int.ofNat_le.mpr p32.1) (by decide),fun p hp=>cl_range (SM1 a p ws k H) ⟨none,rfl,SameX.upd,upd_same⟩ ?_ ?_⟩
  ·rintro i σ H1 hi ⟨v,rfl,s1,e1⟩
   rw [Int.toNat_natCast] at hi
   have nap:a ≠ p:=ne_of_none ha hp
   (push_cast only [])
   refine ⟨i,rfl,by omega,fun t H2 s2 e2=>?_⟩
   rw [on_lt h5 hi] at e2
   obtain ⟨ts,hts⟩:∃ ts,ts=(List.range ws.length).filter (bitOn i):=⟨_,rfl⟩
   have tm:∀ t ∈ ts,t < ws.length:=fun t ht=>by
    rw [hts] at ht
    exact List.mem_range.mp (List.mem_filter.mp ht).1
   have tl:ts.length ≤ 5:=by
    rw [hts]
    exact Nat.le_trans (List.length_filter_le _ _) (by simpa using h5)
   have ti:ts.map (fun t=>ws.getD t 0)=inO ws i ws.length:=by rw [hts];rfl
   rw [← hts] at e2
   clear hts
   (push_cast only [e2])
   intro c nc
   have ha2:H2 a=some (.tup (ws.map V.int)):=s2 _ _ (s1 _ _ nap ha)
   have ep2:=s2 _ _ e1
   have nca:a ≠ c:=ne_of_none ha2 nc
   have ncp:p ≠ c:=ne_of_none ep2 nc
   have nct:t ≠ c:=ne_of_none e2 nc
   refine cl_seq (SM2 a c ws ts H2) ⟨none,rfl,SameX.upd,upd_same⟩ (fun j σ H' _ ⟨_,_,s,_⟩=>s _ _ nct e2) ?_ ?_
   ·rintro j x σ H3 hx ⟨v3,rfl,s3,e3⟩
    unfold natI at hx
    rw [List.getElem?_map] at hx
    obtain ⟨n,hn',rfl⟩:=Option.map_eq_some_iff.mp hx
    have hn:=tm n (List.mem_of_getElem? hn')
    have hsa3:L2.sq H3 a=some (ws.map V.int):=sq_tup (s3 _ _ nca ha2)
    have hat:=at_int (ns:=ws) hn
    (push_cast only [hsa3,hat,e3])
    have hj:j < ts.length:=(List.getElem?_eq_some_iff.mp hn').1
    refine ⟨small1000 (by rw [List.length_take];omega),⟨_,rfl,s3.trans SameX.upd,?_⟩⟩
    rw [upd_same,List.take_add_one,hn']
    simp
   ·rintro σ H3 ⟨v3,rfl,s3,e3⟩
    rw [natI_len,List.take_length,ti] at e3
    have il:(inO ws i ws.length).length ≤ 5:=by rw [← ti,List.length_map];exact tl
    (push_cast only [])
    refine ⟨_,e3,by omega,fun l ms nl pm od=>?_⟩
    have pml:=pm.length_eq
    (push_cast only [])
    intro l2 nl2
    have ncl:c ≠ l:=ne_of_none e3 nl
    have cut:cutV (ms.map V.int) none (some (k:Int))=(ms.take k).map V.int:=by
     unfold cutV
     rw [HT.sIx_none,HT.sIx_nat,List.length_map,List.drop_zero,Nat.sub_zero,← List.map_take]
     congr 1
     rcases Nat.le_total k ms.length with z | z
     ·rw [Nat.min_eq_left z]
     ·rw [Nat.min_eq_right z,List.take_of_length_le (Nat.le_refl _),List.take_of_length_le z]
    rw [cut]
    (push_cast only [])
    have hpl:H3 p=some (.lst (((List.range i).map fun h:Nat=>topS k (inO ws h ws.length)).map V.int)):=s3 _ _ ncp ep2
    have npl:p ≠ l:=ne_of_none hpl nl
    have npl2:p ≠ l2:=ne_of_none (show upd H3 l (.lst (ms.map V.int)) p=_ by rw [upd_ne npl];exact hpl) nl2
    have bd:∀ x ∈ ms,0 ≤ x∧x ≤ 100000:=fun x hx=>by
     have hx':=pm.mem_iff.mp hx
     rw [← ti] at hx'
     obtain ⟨n,hn,rfl⟩:=List.mem_map.mp hx'
     rw [List.getD_eq_getElem?_getD,List.getElem?_eq_getElem (tm n hn)]
     exact W.bd _ (List.getElem_mem (tm n hn))
    refine ⟨ms.take k,rfl,sumFits_of (fun n hn=>?_) (by rw [List.length_take];omega),?_⟩
    ·have:=bd n (List.mem_of_mem_take hn)
     omega
    ·rw [upd_ne npl2,upd_ne npl]
     refine ⟨_,hpl,small1000 (by simp;omega),⟨_,rfl,?_,?_⟩⟩
     ·intro b o nb e
      have e2':=s2 _ _ (s1 _ _ nb e)
      have nbc:b ≠ c:=ne_of_none e2' nc
      have e3':=s3 _ _ nbc e2'
      have nbl:b ≠ l:=ne_of_none e3' nl
      rw [upd_ne nb,upd_ne (ne_of_none (show upd H3 l (.lst (ms.map V.int)) b=some o by rw [upd_ne nbl];exact e3') nl2),upd_ne nbl]
      exact e3'
     ·rw [upd_same,List.range_succ,List.map_append,List.map_append]
      rw [top_take ms (desc_of od) (fun x hx=>(bd x hx).1) k,top_perm pm k]
      rfl
  ·rintro σ H1 ⟨v,rfl,s1,e1⟩
   rw [Int.toNat_natCast] at e1
   exact ⟨_,e1,fun l H2 nl s2 e2=>q l H2 ((s1.same hp).trans s2) e2⟩
noncomputable def sp_alone:Sp:=fun vs H Q _=>∃ (a:Addr) (ws:List Int),vs=[.ref a]∧H a=some (.tup (ws.map V.int))∧Ws ws ∧
 ∀ (t:Addr) (H':Hp),Same H H'→H' t=some (.tup ((TSm ws ws.length).map V.int))→Q (.ref t) H'
theorem sc_alone:FnScope ["worths"] ["worths"] (defScope s_alone):=⟨rfl,rfl,rfl,by decide +kernel,rfl,by decide +kernel,by decide +kernel⟩
theorem ok_alone (F:Fun K "alone" "alone" s_alone f fd) (hm:mg "alone" = some (.ref f)) (hb:Binds K fd ["worths"] []) (T:Txt mg) (c_some_of:Cal P w K mg base "some_of" ["worths", "many"] 3 sp_some):Cal P w K mg base "alone" ["worths"] 4 sp_alone:=by
 refine cal_of F hm hb sc_alone (fun vs H Q E h=>?_) (fun cdv A outer s H vs Q E hr h=>?_)
 ·obtain ⟨_,_,rfl,_⟩:=h;rfl
 ·obtain ⟨a,ws,rfl,ha,W,q⟩:=h
  have sc:=sc_alone
  refine ⟨_,pss_one (ps_ret (pe_cal c_some_of hr (pa_cns (pv 0) (pa_cns (pe_callB len0 rfl T.len_ bt_len (pa_cns (pv 0) pa_nil)) pa_nil)))),?_⟩
  have hsa:=sq_tup ha
  rw [show L2.start ["worths"] [.ref a] = [some (.ref a)] from rfl]
  (push_cast only [hsa])
  exact ⟨a,ws,ws.length,rfl,ha,W,q⟩
noncomputable def lessT (ns:List Int) (t:Nat):List Int:=(List.range ns.length).map fun h=>ns.getD (out h t) 0
theorem lessT_len (ns:List Int) (t:Nat):(lessT ns t).length=ns.length:=by unfold lessT;simp
theorem lessT_at {ns:List Int} {t h:Nat} (hh:h < ns.length):(lessT ns t).getD h 0=ns.getD (out h t) 0:=by
 unfold lessT
 simp [List.getD_eq_getElem?_getD,hh]
noncomputable def sp_lessened:Sp:=fun vs H Q _=>∃ (a:Addr) (ns:List Int) (t:Nat),vs=[.ref a,.int (t:Int)]∧H a=some (.tup (ns.map V.int))∧ns.length ≤ 32∧t < 5∧∀ (l:Addr) (H':Hp),Same H H'→H' l=some (.tup ((lessT ns t).map V.int))→Q (.ref l) H'
noncomputable def LL (a c:Addr) (ns:List Int) (t:Nat) (G:Hp) (i:Nat) (σ:St) (H:Hp):Prop:=∃ v,σ=[v,some (.ref a),some (.int (t:Int))]∧SameX c G H∧H c=some (.lst (((List.range i).map fun h=>ns.getD (out h t) 0).map V.int))
theorem sc_lessened:FnScope ["want", "thing"] ["want", "thing"] (defScope s_lessened):=⟨rfl,rfl,rfl,by decide +kernel,rfl,by decide +kernel,by decide +kernel⟩
theorem ok_lessened (F:Fun K "lessened" "lessened" s_lessened f fd) (hm:mg "lessened" = some (.ref f)) (hb:Binds K fd ["want", "thing"] []) (T:Txt mg) (c_taken_out:Cal P w K mg base "taken_out" ["heap", "thing"] 2 sp_taken):Cal P w K mg base "lessened" ["want", "thing"] 3 sp_lessened:=by
 refine cal_of F hm hb sc_lessened (fun vs H Q E h=>?_) (fun cdv A outer s H vs Q E hr h=>?_)
 ·obtain ⟨_,_,_,rfl,_⟩:=h;rfl
 ·obtain ⟨a,ns,t,rfl,ha,hlen,ht,q⟩:=h
  have sc:=sc_lessened
  refine ⟨_,pss_one (ps_ret (pe_callTy tupA0 rfl T.tuple_ bt_tuple (pa_cns (pe_lc (N:=["heap", "want", "thing"]) (fr:=[none,some 0,some 1]) rfl (pi_range1 rfl T.range_ (pa_cns (pe_callB len0 rfl T.len_ bt_len (pa_cns (pv 0) pa_nil)) pa_nil)) (CScope.of rfl rfl rfl) rfl (fun _ _ _=>⟨pg_name (i:=0) (show List.Nodup (α:=Str) ["heap", "want", "thing"] by decide +kernel) rfl (Or.inl rfl),pif_nil,pe_ix ix0 (pv 1) (pe_cal c_taken_out hr (pa_cns (pv 0) (pa_cns (pv 2) pa_nil))) (fun _ _=>rfl)⟩)) pa_nil))),?_⟩
  rw [show L2.start ["want", "thing"] [.ref a,.int (t:Int)] = [some (.ref a),some (.int (t:Int))] from rfl]
  have hsa:=sq_tup ha
  (push_cast only [hsa])
  refine ⟨by omega,by omega,fun c nc=>?_⟩
  have nac:a ≠ c:=ne_of_none ha nc
  refine cl_range (LL a c ns t H) ⟨none,rfl,SameX.upd,upd_same⟩ ?_ ?_
  ·rintro i σ H1 hi ⟨v,rfl,s1,e1⟩
   rw [Int.toNat_natCast] at hi
   have hsa1:=sq_tup (s1 _ _ nac ha)
   have ol:=(out_bits (v:=0) (show i < 32 by omega) ht (by decide)).2
   have hat:=at_int (ns:=ns) (n:=out i t) (by omega)
   (push_cast only [hsa1])
   refine ⟨i,t,rfl,by omega,ht,?_⟩
   (push_cast only [hsa1,hat,e1])
   refine ⟨small1000 (by simp;omega),⟨_,rfl,s1.trans SameX.upd,?_⟩⟩
   rw [upd_same,List.range_succ]
   simp
  ·rintro σ H1 ⟨v,rfl,s1,e1⟩
   rw [Int.toNat_natCast] at e1
   refine ⟨_,e1,fun l H2 nl s2 e2=>?_⟩
   exact q l H2 ((s1.same nc).trans s2) e2
theorem in_iff {a h:Nat} (ha:a < 32) (hh:h < 32):(decide (lessI (a:Int) (h:Int)=0)=true ↔ a &&& h=a)∧(a &&& h=a→lessI (h:Int) (a:Int)=((h - a:Nat):Int)∧a ≤ h):=by
 have key:∀ a h:_root_.Fin 32,(decide (lessI (a.val:Int) (h.val:Int)=0)=true ↔ a.val &&& h.val=a.val)∧(a.val &&& h.val=a.val→lessI (h.val:Int) (a.val:Int)=((h.val - a.val:Nat):Int)∧a.val ≤ h.val):=by decide +kernel
 exact key ⟨a,ha⟩ ⟨h,hh⟩
noncomputable def JoinV (f g:List Int) (h:Nat) (v:Int):Prop:=(∀ a,a ≤ h→a &&& h=a→f.getD a 0 + g.getD (h - a) 0 ≤ v)∧∃ a,a ≤ h∧a &&& h=a∧v=f.getD a 0 + g.getD (h - a) 0
noncomputable def sp_mp:Sp:=fun vs H Q _=>∃ (a b:Addr) (f g:List Int) (h:Nat),vs=[.ref a,.ref b,.int (h:Int)]∧H a=some (.tup (f.map V.int))∧H b=some (.tup (g.map V.int))∧f.length=g.length∧f.length ≤ 32∧h < f.length∧∀ (v:Int) (H':Hp),JoinV f g h v→Same H H'→Q (.int v) H'
noncomputable def MP1 (a b d:Addr) (f g:List Int) (h:Nat) (G:Hp) (i:Nat) (σ:St) (H:Hp):Prop:=∃ (v:Option V) (ns:List Int),σ=[v,some (.ref a),some (.ref b),some (.int (h:Int))]∧ns.length ≤ i∧((∀ x ∈ ns,∃ a,a ≤ h∧a &&& h=a∧x=f.getD a 0 + g.getD (h - a) 0)∧∀ a,a < i→a &&& h=a→f.getD a 0 + g.getD (h - a) 0 ∈ ns)∧SameX d G H∧H d=some (.lst (ns.map V.int))
theorem sc_most_parted:FnScope ["one", "other", "heap"] ["one", "other", "heap"] (defScope s_most_parted):=⟨rfl,rfl,rfl,by decide +kernel,rfl,by decide +kernel,by decide +kernel⟩
theorem ok_mp (F:Fun K "most_parted" "most_parted" s_most_parted f fd) (hm:mg "most_parted" = some (.ref f)) (hb:Binds K fd ["one", "other", "heap"] []) (T:Txt mg) (c_less:Cal P w K mg base "less" ["one", "other"] 1 sp_less) (c_is_within:Cal P w K mg base "is_within" ["one", "other"] 2 sp_isw):Cal P w K mg base "most_parted" ["one", "other", "heap"] 3 sp_mp:=by
 refine cal_of F hm hb sc_most_parted (fun vs H Q E h=>?_) (fun cdv A outer s H vs Q E hr h=>?_)
 ·obtain ⟨_,_,_,_,_,rfl,_⟩:=h;rfl
 ·obtain ⟨a,b,one,other,h,rfl,ha,hb',tw1,tw2,hh,q⟩:=h
  have sc:=sc_most_parted
  refine ⟨_,pss_one (ps_ret (pe_callB (max0 rfl) rfl T.max_ bt_max (pa_cns (pe_lc (N:=["part", "one", "other", "heap"]) (fr:=[none,some 0,some 1,some 2]) rfl (pi_range1 rfl T.range_ (pa_cns (pe_op op_add (pv 2) pe_int) pa_nil)) (CScope.of rfl rfl rfl) rfl (fun _ _ _=>⟨pg_name (i:=0) (show List.Nodup (α:=Str) ["part", "one", "other", "heap"] by decide +kernel) rfl (Or.inl rfl),pif_one (pt_val (pe_cal c_is_within hr (pa_cns (pv 0) (pa_cns (pv 3) pa_nil)))),pe_op op_add (pe_ix ix0 (pv 1) (pv 0) (fun _ _=>rfl)) (pe_ix ix0 (pv 2) (pe_cal c_less hr (pa_cns (pv 3) (pa_cns (pv 0) pa_nil))) (fun _ _=>rfl))⟩)) pa_nil))),?_⟩
  rw [show L2.start ["one", "other", "heap"] [.ref a,.ref b,.int (h:Int)] = [some (.ref a),some (.ref b),some (.int (h:Int))] from rfl]
  (push_cast only [])
  refine ⟨by omega,by omega,fun c nc=>?_⟩
  have nac:a ≠ c:=ne_of_none ha nc
  have nbc:b ≠ c:=ne_of_none hb' nc
  refine cl_range (MP1 a b c one other h H) ⟨none,[],rfl,by simp,⟨(fun _ z=>by cases z),fun a ha=>absurd ha (Nat.not_lt_zero _)⟩,SameX.upd,upd_same⟩ ?_ ?_
  ·rintro i σ H1 hi ⟨v,ms,rfl,ml,mv,s1,e1⟩
   have hi':i ≤ h:=by omega
   have hsa:=sq_tup (s1 _ _ nac ha)
   have hsb:=sq_tup (s1 _ _ nbc hb')
   obtain ⟨f1,f2⟩:=in_iff (show i < 32 by omega) (show h < 32 by omega)
   (push_cast only [])
   refine ⟨(i:Int),(h:Int),rfl,?_⟩
   cases hd:decide (lessI (i:Int) (h:Int)=0) with
   | true =>
    obtain ⟨g1,_⟩:=f2 (f1.mp hd)
    have hat1:=at_int (ns:=one) (n:=i) (by omega)
    have hat2:=at_int (ns:=other) (n:=h - i) (by omega)
    (push_cast only [hsa,hsb,hat1])
    refine ⟨(h:Int),(i:Int),rfl,?_⟩
    rw [g1]
    (push_cast only [hsb,hat2,e1])
    refine ⟨small1000 (by omega),⟨_,ms ++ [one.getD i 0 + other.getD (h - i) 0],rfl,by rw [List.length_append,List.length_singleton];omega,⟨fun x hx=>?_,fun a ha s=>?_⟩,s1.trans SameX.upd,by rw [upd_same];simp⟩⟩
    ·rcases List.mem_append.mp hx with z | z
     ·exact mv.1 x z
     ·exact ⟨i,hi',f1.mp hd,List.mem_singleton.mp z⟩
    ·rcases Nat.lt_or_ge a i with z | z
     ·exact List.mem_append_left _ (mv.2 a z s)
     ·rw [show a=i by omega]
      exact List.mem_append_right _ List.mem_cons_self
   | false =>
    (push_cast only [])
    refine ⟨_,ms,rfl,by omega,⟨mv.1,fun a ha s=>?_⟩,s1,e1⟩
    rcases Nat.lt_or_ge a i with z | z
    ·exact mv.2 a z s
    ·rw [show a=i by omega] at s
     rw [f1.mpr s] at hd
     cases hd
  ·rintro σ H1 ⟨v,ms,rfl,ml,mv,s1,e1⟩
   have m0:=mv.2 0 (by omega) (by simp)
   refine ⟨_,sq_lst e1,(fun z=>by rw [z] at m0;cases m0),fun mx m1 m2=>?_⟩
   exact q mx H1 ⟨fun a al s=>m2 _ (mv.2 a (by omega) s),mv.1 mx m1⟩ (s1.same nc)
noncomputable def sp_joined:Sp:=fun vs H Q _=>∃ (a b:Addr) (f g:List Int) (m:Nat),vs=[.ref a,.ref b]∧H a=some (.tup (f.map V.int))∧H b=some (.tup (g.map V.int))∧f.length=2 ^ m∧g.length=2 ^ m∧m ≤ 5∧∀ (l:Addr) (ns:List Int) (H':Hp),ns.length=2 ^ m→JoinTab m f g ns→Same H H'→H' l=some (.tup (ns.map V.int))→Q (.ref l) H'
noncomputable def LJ (a b c:Addr) (f g:List Int) (G:Hp) (i:Nat) (σ:St) (H:Hp):Prop:=∃ (v:Option V) (ns:List Int),σ=[v,some (.ref a),some (.ref b)]∧ns.length=i∧(∀ h,h < i→JoinV f g h (ns.getD h 0))∧SameX c G H∧H c=some (.lst (ns.map V.int))
theorem getD_l {ws:List Int} {r:Int} {i:Nat} (h:i < ws.length):(ws ++ [r]).getD i 0=ws.getD i 0:=by
 rw [List.getD_eq_getElem?_getD,List.getD_eq_getElem?_getD,List.getElem?_append_left h]
theorem getD_r {ws:List Int} {r:Int}:(ws ++ [r]).getD ws.length 0=r:=by
 rw [List.getD_eq_getElem?_getD,List.getElem?_append_right (Nat.le_refl _),Nat.sub_self]
 rfl
theorem sc_joined:FnScope ["one", "other"] ["one", "other"] (defScope s_joined):=⟨rfl,rfl,rfl,by decide +kernel,rfl,by decide +kernel,by decide +kernel⟩
theorem ok_joined (F:Fun K "joined" "joined" s_joined f fd) (hm:mg "joined" = some (.ref f)) (hb:Binds K fd ["one", "other"] []) (T:Txt mg) (c_most_parted:Cal P w K mg base "most_parted" ["one", "other", "heap"] 3 sp_mp):Cal P w K mg base "joined" ["one", "other"] 4 sp_joined:=by
 refine cal_of F hm hb sc_joined (fun vs H Q E h=>?_) (fun cdv A outer s H vs Q E hr h=>?_)
 ·obtain ⟨_,_,_,_,_,rfl,_⟩:=h;rfl
 ·obtain ⟨a,b,one,other,m,rfl,ha,hb',l1,l2,m5,q⟩:=h
  have sc:=sc_joined
  have p32:=pow32 m5
  refine ⟨_,pss_one (ps_ret (pe_callTy tupA0 rfl T.tuple_ bt_tuple (pa_cns (pe_lc (N:=["heap", "one", "other"]) (fr:=[none,some 0,some 1]) rfl (pi_range1 rfl T.range_ (pa_cns (pe_callB len0 rfl T.len_ bt_len (pa_cns (pv 0) pa_nil)) pa_nil)) (CScope.of rfl rfl rfl) rfl (fun _ _ _=>⟨pg_name (i:=0) (show List.Nodup (α:=Str) ["heap", "one", "other"] by decide +kernel) rfl (Or.inl rfl),pif_nil,pe_cal c_most_parted hr (pa_cns (pv 1) (pa_cns (pv 2) (pa_cns (pv 0) pa_nil)))⟩)) pa_nil))),?_⟩
  rw [show L2.start ["one", "other"] [.ref a,.ref b] = [some (.ref a),some (.ref b)] from rfl]
  have hsa:=sq_tup ha
  (push_cast only [hsa])
  refine ⟨by omega,by omega,fun c nc=>?_⟩
  have nac:a ≠ c:=ne_of_none ha nc
  have nbc:b ≠ c:=ne_of_none hb' nc
  refine cl_range (LJ a b c one other H) ⟨none,[],rfl,rfl,(fun h hh=>absurd hh (Nat.not_lt_zero _)),SameX.upd,upd_same⟩ ?_ ?_
  ·rintro i σ H1 hi ⟨v,ns,rfl,nl,jn,s1,e1⟩
   rw [Int.toNat_natCast] at hi
   (push_cast only [])
   refine ⟨a,b,one,other,i,rfl,s1 _ _ nac ha,s1 _ _ nbc hb',by omega,by omega,by omega,fun v H2 jv s2=>?_⟩
   have e2:=s2 _ _ e1
   (push_cast only [e2])
   refine ⟨small1000 (by omega),⟨_,ns ++ [v],rfl,by rw [List.length_append,List.length_singleton,nl],fun h hh=>?_,(s1.trans s2.x).trans SameX.upd,by rw [upd_same,List.map_append];rfl⟩⟩
   rcases Nat.lt_or_ge h ns.length with z | z
   ·rw [getD_l z]
    exact jn h (by omega)
   ·rw [show h=ns.length by omega,getD_r,nl]
    exact jv
  ·rintro σ H1 ⟨v,ns,rfl,nl,jn,s1,e1⟩
   rw [Int.toNat_natCast] at nl jn
   exact ⟨_,e1,fun l H2 _ s2 e2=>q l ns H2 (by omega) ⟨fun h a hh=>(jn h (by omega)).1 a,fun h hh=>(jn h (by omega)).2⟩ ((s1.same nc).trans s2) e2⟩
noncomputable def pairT (ns:List Int) (pr:Nat) (wt:Int):List Int:=(List.range ns.length).map (pairAt ns pr wt)
theorem pairT_len (ns:List Int) (pr:Nat) (wt:Int):(pairT ns pr wt).length=ns.length:=by unfold pairT;simp
theorem pairT_at {ns:List Int} {pr h:Nat} {wt:Int} (hh:h < ns.length):(pairT ns pr wt).getD h 0=pairAt ns pr wt h:=by
 unfold pairT
 simp [List.getD_eq_getElem?_getD,hh]
noncomputable def sp_wp:Sp:=fun vs H Q _=>∃ (a:Addr) (ns:List Int) (pr:Nat) (wt:Int),vs=[.ref a,.int (pr:Int),.int wt]∧H a=some (.tup (ns.map V.int))∧ns.length ≤ 32∧pr < 32∧∀ (l:Addr) (H':Hp),Same H H'→H' l=some (.tup ((pairT ns pr wt).map V.int))→Q (.ref l) H'
noncomputable def LWP (a c:Addr) (ns:List Int) (pr:Nat) (wt:Int) (G:Hp) (i:Nat) (σ:St) (H:Hp):Prop:=∃ v,σ=[v,some (.int (pr:Int)),some (.ref a),some (.int wt)]∧SameX c G H∧H c=some (.lst (((List.range i).map (pairAt ns pr wt)).map V.int))
theorem if_max (a b:Int):(if a < b then b else a)=max a b:=by split <;> omega
theorem sc_with_pair:FnScope ["want", "pair", "worth"] ["want", "pair", "worth"] (defScope s_with_pair):=⟨rfl,rfl,rfl,by decide +kernel,rfl,by decide +kernel,by decide +kernel⟩
theorem ok_wp (F:Fun K "with_pair" "with_pair" s_with_pair f fd) (hm:mg "with_pair" = some (.ref f)) (hb:Binds K fd ["want", "pair", "worth"] []) (T:Txt mg) (c_less:Cal P w K mg base "less" ["one", "other"] 1 sp_less) (c_is_within:Cal P w K mg base "is_within" ["one", "other"] 2 sp_isw):Cal P w K mg base "with_pair" ["want", "pair", "worth"] 3 sp_wp:=by
 refine cal_of F hm hb sc_with_pair (fun vs H Q E h=>?_) (fun cdv A outer s H vs Q E hr h=>?_)
 ·obtain ⟨_,_,_,_,rfl,_⟩:=h;rfl
 ·obtain ⟨a,ns,pr,wt,rfl,ha,l32,p32,q⟩:=h
  have sc:=sc_with_pair
  refine ⟨_,pss_one (ps_ret (pe_callTy tupA0 rfl T.tuple_ bt_tuple (pa_cns (pe_lc (N:=["heap", "pair", "want", "worth"]) (fr:=[none,some 1,some 0,some 2]) rfl (pi_range1 rfl T.range_ (pa_cns (pe_callB len0 rfl T.len_ bt_len (pa_cns (pv 0) pa_nil)) pa_nil)) (CScope.of rfl rfl rfl) rfl (fun _ _ _=>⟨pg_name (i:=0) (show List.Nodup (α:=Str) ["heap", "pair", "want", "worth"] by decide +kernel) rfl (Or.inl rfl),pif_nil,pe_ifExp (pt_val (pe_cal c_is_within hr (pa_cns (pv 1) (pa_cns (pv 0) pa_nil)))) (pe_callB (call_max2 rfl) rfl T.max_ bt_max (pa_cns (pe_ix ix0 (pv 2) (pv 0) (fun _ _=>rfl)) (pa_cns (pe_op op_add (pe_ix ix0 (pv 2) (pe_cal c_less hr (pa_cns (pv 0) (pa_cns (pv 1) pa_nil))) (fun _ _=>rfl)) (pv 3)) pa_nil))) (pe_ix ix0 (pv 2) (pv 0) (fun _ _=>rfl))⟩)) pa_nil))),?_⟩
  rw [show L2.start ["want", "pair", "worth"] [.ref a,.int (pr:Int),.int wt] = [some (.ref a),some (.int (pr:Int)),some (.int wt)] from rfl]
  have hsa:=sq_tup ha
  (push_cast only [hsa])
  refine ⟨by omega,by omega,fun c nc=>?_⟩
  have nac:a ≠ c:=ne_of_none ha nc
  refine cl_range (LWP a c ns pr wt H) ⟨none,rfl,SameX.upd,upd_same⟩ ?_ ?_
  ·rintro h σ H1 hh ⟨v,rfl,s1,e1⟩
   rw [Int.toNat_natCast] at hh
   have hsa1:=sq_tup (s1 _ _ nac ha)
   have hat:=at_int (ns:=ns) (n:=h) hh
   obtain ⟨f1,f2⟩:=in_iff p32 (show h < 32 by omega)
   (push_cast only [hsa1,hat,sp_less,sp_isw])
   by_cases z:pr &&& h=pr
   ·have z':lessI (pr:Int) (h:Int)=0:=of_decide_eq_true (f1.mpr z)
    obtain ⟨lf,pl⟩:=f2 z
    have hat2:=at_int (ns:=ns) (n:=h - pr) (by omega)
    rw [if_pos z',lf]
    refine ⟨_,hat2,_,rfl,_,e1,small1000 (by simp;omega),_,rfl,s1.trans SameX.upd,?_⟩
    rw [upd_same,List.range_succ,List.map_append,List.map_append]
    simp only [List.map_cons,List.map_nil]
    unfold pairAt
    rw [if_pos z,← if_max]
   ·have z':¬ lessI (pr:Int) (h:Int)=0:=fun y=>z (f1.mp (decide_eq_true y))
    rw [if_neg z']
    refine ⟨_,e1,small1000 (by simp;omega),_,rfl,s1.trans SameX.upd,?_⟩
    rw [upd_same,List.range_succ,List.map_append,List.map_append]
    simp only [List.map_cons,List.map_nil]
    have:pairAt ns pr wt h=ns.getD h 0:=by unfold pairAt;rw [if_neg z]
    rw [this]
  ·rintro σ H1 ⟨v,rfl,s1,e1⟩
   rw [Int.toNat_natCast] at e1
   (push_cast only [])
   refine ⟨_,e1,fun l H2 nl s2 e2=>?_⟩
   exact q l H2 ((s1.same nc).trans s2) e2
noncomputable def sp_hp:Sp:=fun vs H Q _=>∃ (a:Addr) (i j:Nat),vs=[.ref a]∧H a=some (.tup [.int (i:Int),.int (j:Int)])∧i < 5∧j < 5∧∀ H',Same H H'→Q (.int ((2 ^ i + 2 ^ j:Nat):Int)) H'
noncomputable def LHP (c:Addr) (ts:List Nat) (G:Hp) (i:Nat) (σ:St) (H:Hp):Prop:=∃ v,σ=[v]∧SameX c G H∧H c=some (.lst (((ts.take i).map fun t:Nat=>(2:Int) ^ t).map V.int))
theorem ok_hp (F:Fun K "heap_of" "heap_of" s_heap_of f fd) (hm:mg "heap_of" = some (.ref f)) (hb:Binds K fd ["things"] []) (T:Txt mg):Cal P w K mg base "heap_of" ["things"] 1 sp_hp:=by
 refine cal_of F hm hb sc_heap_of (fun vs H Q E h=>?_) (fun cdv A outer s H vs Q E hr h=>?_)
 ·obtain ⟨_,_,_,rfl,_⟩:=h;rfl
 ·obtain ⟨a,i,j,rfl,ha,hi,hj,q⟩:=h
  have sc:=sc_heap_of
  refine ⟨_,pss_one (ps_ret (pe_callB (sum0 rfl) rfl T.sum_ bt_sum (pa_cns (pe_lc (N:=["thing"]) (fr:=[none]) rfl (pi_t0 (pv 0)) (CScope.of rfl rfl rfl) rfl (fun _ _ _=>⟨pg_name (i:=0) (show List.Nodup (α:=Str) ["thing"] by decide +kernel) rfl (Or.inl rfl),pif_nil,pe_op op_shl pe_int (pv 0)⟩)) pa_nil))),?_⟩
  rw [show L2.start ["things"] [.ref a] = [some (.ref a)] from rfl]
  (push_cast only [ha])
  intro c nc
  have nac:a ≠ c:=ne_of_none ha nc
  refine cl_seq (LHP c [i,j] H) ⟨none,rfl,SameX.upd,upd_same⟩ (fun k σ H' _ ⟨_,_,s,_⟩=>s _ _ nac ha) ?_ ?_
  ·rintro k x σ H1 hx ⟨v,rfl,s1,e1⟩
   have hx':([i,j].map fun t:Nat=>V.int (t:Int))[k]? = some x:=hx
   rw [List.getElem?_map] at hx'
   obtain ⟨t,ht,rfl⟩:=Option.map_eq_some_iff.mp hx'
   have hk:k < [i,j].length:=(List.getElem?_eq_some_iff.mp ht).1
   have t5:t < 5:=by
    have:=List.mem_of_getElem? ht
    simp at this
    omega
   (push_cast only [e1])
   refine ⟨⟨by omega,by omega,by decide⟩,small1000 (by rw [List.length_take];simp at hk ⊢;omega),⟨_,rfl,s1.trans SameX.upd,?_⟩⟩
   rw [upd_same,List.take_add_one,ht]
   simp
  ·rintro σ H1 ⟨v,rfl,s1,e1⟩
   have e1':H1 c=some (.lst ([(2:Int) ^ i,(2:Int) ^ j].map V.int)):=e1
   have b1:=two_le hi
   have b2:=two_le hj
   refine ⟨_,sq_lst e1',sumFits_of (fun n hn=>?_) (by simp),?_⟩
   ·simp at hn
    rcases hn with rfl | rfl <;> omega
   ·have:[(2:Int) ^ i,(2:Int) ^ j].sum=((2 ^ i + 2 ^ j:Nat):Int):=by
     rw [Int.natCast_add,Int.natCast_pow,Int.natCast_pow]
     simp
    rw [this]
    exact q H1 (s1.same nc)
structure RowOk (F m:Nat) (r:Edge):Prop where
 i:r.1 < m
 j:r.2.1 < m
 fi:bitOn F r.1=false
 fj:bitOn F r.2.1=true
noncomputable def PRs (H:Hp) (F m:Nat) (rs:List (Addr × Edge)):Prop:=∀ r ∈ rs,H r.1=some (.tup [.int (r.2.1:Int),.int (r.2.2.1:Int),.int r.2.2.2])∧RowOk F m r.2
theorem PRs.same {H H':Hp} {F m:Nat} {rs:List (Addr × Edge)} (h:PRs H F m rs) (s:Same H H'):PRs H' F m rs:=fun r hr=>⟨s _ _ (h r hr).1,(h r hr).2⟩
noncomputable def refsP (rs:List (Addr × Edge)):List V:=rs.map fun r=>V.ref r.1
noncomputable def edP (rs:List (Addr × Edge)):List Edge:=rs.map fun r=>r.2
noncomputable def sp_paired:Sp:=fun vs H Q _=>∃ (a b:Addr) (F m:Nat) (rs:List (Addr × Edge)),vs=[.ref a,.ref b]∧H a=some (.tup ((bitsL F m).map V.int))∧m ≤ 5∧H b=some (.tup (refsP rs))∧PRs H F m rs∧∀ (l:Addr) (ns:List Int) (H':Hp),Same H H'→ns.length=2 ^ m→(∀ o,One o F m ns)→H' l=some (.tup (ns.map V.int))→Q (.ref l) H'
noncomputable def LPD (a b:Addr) (F m:Nat) (rs:List (Addr × Edge)) (G:Hp) (i:Nat) (σ:St) (H:Hp):Prop:=∃ (v3 v4 v5:Option V) (wa:Addr) (ns:List Int),σ=[some (.ref a),some (.ref b),some (.ref wa),v3,v4,v5]∧Same G H∧ns.length=2 ^ m∧(∀ sl,Val (· ∈ edP (rs.take i)) sl m ns)∧Sided F (· ∈ edP (rs.take i))∧H wa=some (.tup (ns.map V.int))
theorem sc_paired:FnScope ["sides", "rows", "want", "i", "j", "worth"] ["sides", "rows"] (defScope s_paired):=⟨rfl,rfl,rfl,by decide +kernel,rfl,by decide +kernel,by decide +kernel⟩
theorem ok_paired (F:Fun K "paired" "paired" s_paired f fd) (hm:mg "paired" = some (.ref f)) (hb:Binds K fd ["sides", "rows"] []) (T:Txt mg) (c_with_pair:Cal P w K mg base "with_pair" ["want", "pair", "worth"] 3 sp_wp) (c_heap_of:Cal P w K mg base "heap_of" ["things"] 1 sp_hp):Cal P w K mg base "paired" ["sides", "rows"] 4 sp_paired:=by
 refine cal_of F hm hb sc_paired (fun vs H Q E h=>?_) (fun cdv A outer s H vs Q E hr h=>?_)
 ·obtain ⟨_,_,_,_,_,rfl,_⟩:=h;rfl
 ·obtain ⟨a,b,F0,m,rs,rfl,ha,s5,hb',R,q⟩:=h
  have sc:=sc_paired
  have hp:=pow32 s5
  refine ⟨_,pss_cons (ps_set (i:=2) sc.nd rfl (Or.inl rfl) (pe_op mulT0 (pe_tupA (pa_cns pe_int pa_nil)) (pe_op op_shl pe_int (pe_callB len0 rfl T.len_ bt_len (pa_cns (pv 0) pa_nil)))))
   (pss_cons (ps_for PassesOwn.never rfl (pi_t0 (pv 1)) (pg_tup0 (n:=3) rfl (pgs_cons (pg_name (i:=3) sc.nd rfl (Or.inl rfl)) (pgs_cons (pg_name (i:=4) sc.nd rfl (Or.inl rfl)) (pgs_cons (pg_name (i:=5) sc.nd rfl (Or.inl rfl)) pgs_nil))))
    (pss_one (ps_set (i:=2) sc.nd rfl (Or.inl rfl) (pe_cal c_with_pair hr (pa_cns (pv 2) (pa_cns (pe_cal c_heap_of hr (pa_cns (pe_tupA (pa_cns (pv 3) (pa_cns (pv 4) pa_nil))) pa_nil)) (pa_cns (pv 5) pa_nil)))))))
   (pss_one (ps_ret (pv 2)))),?_⟩
  rw [show L2.start ["sides", "rows", "want", "i", "j", "worth"] [.ref a,.ref b] = [some (.ref a),some (.ref b),none,none,none,none] from rfl]
  (push_cast only [])
  refine ⟨by decide,fun z K1 nz k1 ez=>?_⟩
  have hs1:=sq_tup (k1 _ _ ha)
  (push_cast only [hs1])
  rw [bits_len,hpow]
  refine ⟨⟨by omega,by omega,by decide⟩,2 ^ m,rfl,[.int 0],ez,by simp;omega,by omega,fun wh K2 k2 ewh=>?_⟩
  have ezr:(List.replicate (2 ^ m) [V.int 0]).flatten=(List.replicate (2 ^ m) (0:Int)).map V.int:=by simp
  rw [ezr] at ewh
  have S2:=k1.trans k2
  have eb2:=S2 _ _ hb'
  have zz:∀ h,(List.replicate (2 ^ m) (0:Int)).getD h 0=0:=fun h=>by
   rw [List.getD_eq_getElem?_getD,List.getElem?_replicate]
   split <;> rfl
  (push_cast only [eb2])
  refine fl_seq (LPD a b F0 m rs K2) ⟨_,_,_,wh,_,rfl,Same.refl _,by simp,fun sl=>val_zero zz,(fun e he=>by cases he),ewh⟩ (fun j σ H' _ ⟨_,_,_,_,_,_,s,_⟩=>s _ _ eb2) ?_ ?_
  ·rintro k x σ K3 hx ⟨v3,v4,v5,wa,ns,rfl,k3,nl,V3,sd3,ewa⟩
   unfold refsP at hx
   rw [List.getElem?_map] at hx
   obtain ⟨r,hr',rfl⟩:=Option.map_eq_some_iff.mp hx
   obtain ⟨er,ok⟩:=R r (List.mem_of_getElem? hr')
   have er3:=(S2.trans k3) _ _ er
   obtain ⟨r0,i,j,wt⟩:=r
   obtain ⟨o1,o2,o3,o4⟩:=ok
   simp only at o1 o2 o3 o4
   have ij:i ≠ j:=fun z=>by rw [z,o4] at o3;cases o3
   have p32:=(pair_sub (h:=0) (by decide) (show i < 5 by omega) (show j < 5 by omega) ij).2.2
   (push_cast only [er3])
   refine ⟨by decide,fun y K4 ny k4 ey=>?_⟩
   refine ⟨y,i,j,rfl,ey,by omega,by omega,fun K5 k5=>?_⟩
   (push_cast only [])
   refine ⟨wa,ns,2 ^ i + 2 ^ j,wt,rfl,(k4.trans k5) _ _ ewa,by omega,p32,fun l K6 k6 el=>?_⟩
   (push_cast only [])
   have es:edP (rs.take (k + 1))=edP (rs.take k) ++ [(i,j,wt)]:=by
    unfold edP
    rw [List.take_add_one,hr',Option.toList_some,List.map_append]
    rfl
   have vp:=fun sl=>val_pair s5 o1 o2 o3 o4 sd3 (V3 sl) (fun h hh=>pairT_at (pr:=2 ^ i + 2 ^ j) (wt:=wt) (show h < ns.length by omega))
   refine ⟨_,_,_,l,_,rfl,((k3.trans k4).trans k5).trans k6,by rw [pairT_len,nl],fun sl=>?_,?_,el⟩
   ·rw [es]
    exact (vp sl).1
   ·rw [es]
    exact (vp (slotA 0)).2
  ·rintro σ K3 ⟨v3,v4,v5,wa,ns,rfl,k3,nl,V3,sd3,ewa⟩
   rw [show (refsP rs).length=rs.length by unfold refsP;simp,List.take_length] at V3 sd3
   (push_cast only [])
   refine q wa ns K3 (S2.trans k3) nl (fun o=>one_rows s5 (fun e he=>?_) (V3 _) sd3) ewa
   unfold edP at he
   obtain ⟨r,hr,rfl⟩:=List.mem_map.mp he
   exact ⟨(R r hr).2.i,(R r hr).2.j⟩
end
end K96
end
section
set_option Elab.async false
set_option linter.all false
set_option maxRecDepth 100000
set_option maxHeartbeats 8000000
namespace K96
open PySem L2
section
variable {P:Program} {w:World} {K:PySem.W.Frag} {mg:Str→Option Value} {base:Heap} {f:Addr} {fd:FuncData}
noncomputable def outL (h m:Nat):List Nat:=(List.range m).filter fun t=>!bitOn h t
theorem outL_mem {h m t:Nat}:t ∈ outL h m ↔ t < m∧bitOn h t=false:=by
 unfold outL
 rw [List.mem_filter,List.mem_range]
 simp
theorem outL_succ (h m:Nat):outL h (m + 1)=outL h m ++ if bitOn h m=true then [] else [m]:=by
 unfold outL
 rw [List.range_succ,List.filter_append]
 congr 1
 cases e:bitOn h m <;> simp [e]
theorem outL_len (h m:Nat):(outL h m).length ≤ m:=by
 unfold outL
 exact Nat.le_trans (List.length_filter_le _ _) (by simp)
theorem outL_lt (h m:Nat):(outL h m).Pairwise (· < ·):=List.Pairwise.filter _ List.pairwise_lt_range
noncomputable def aboveL (h m i:Nat):List Nat:=(outL h m).filter fun j=>decide (i < j)
noncomputable def pairsL (h m:Nat):List (Nat × Nat):=(outL h m).flatMap fun i=>(aboveL h m i).map fun j=>(i,j)
noncomputable def OkP (m h i j:Nat):Prop:=h < 2 ^ m∧i < j∧j < m∧bitOn h i=false∧bitOn h j=false
noncomputable def OkT (m h i j k:Nat):Prop:=OkP m h i j∧k < m∧bitOn h k=false∧k ≠ i∧k ≠ j
theorem pairs_mem {h m i j:Nat}:(i,j) ∈ pairsL h m ↔ i < j∧j < m∧bitOn h i=false∧bitOn h j=false:=by
 unfold pairsL aboveL
 rw [List.mem_flatMap]
 constructor
 ·rintro ⟨i',hi,hj⟩
  obtain ⟨j',hj',e⟩:=List.mem_map.mp hj
  cases e
  rw [List.mem_filter,outL_mem] at hj'
  rw [outL_mem] at hi
  exact ⟨by simpa using hj'.2,hj'.1.1,hi.2,hj'.1.2⟩
 ·rintro ⟨a,b,c,d⟩
  exact ⟨i,outL_mem.mpr ⟨by omega,c⟩,List.mem_map.mpr ⟨j,List.mem_filter.mpr ⟨outL_mem.mpr ⟨b,d⟩,by simpa using a⟩,rfl⟩⟩
theorem pairs_lt {h m:Nat} (hm:m ≤ 5) (hh:h < 2 ^ m):(pairsL h m).Pairwise (fun p q=>p.1 < q.1∨p.1=q.1∧p.2 < q.2):=by
 have key:∀ (a:_root_.Fin 6) (b:_root_.Fin 32),(pairsL b.val a.val).Pairwise (fun p q=>p.1 < q.1∨p.1=q.1∧p.2 < q.2):=by decide +kernel
 have:=pow32 hm
 exact key ⟨m,by omega⟩ ⟨h,by omega⟩
theorem first_of {α:Type} {l:List α} {R:α→α→Prop} {p:α→Prop} {c:Nat} {x:α} (pw:l.Pairwise R) (hc:l[c]? = some x) (hn:∀ y ∈ l.take c,¬ p y):∀ y ∈ l,p y→y=x∨R x y:=by
 intro y hy hp
 have e:l=l.take c ++ x :: l.drop (c + 1):=by
  obtain ⟨hl,rfl⟩:=List.getElem?_eq_some_iff.mp hc
  rw [List.getElem_cons_drop,List.take_append_drop]
 rw [e] at hy pw
 rcases List.mem_append.mp hy with z | z
 ·exact absurd hp (hn y z)
 ·rcases List.mem_cons.mp z with z | z
  ·exact .inl z
  ·have:=(List.pairwise_append.mp pw).2.1
   exact .inr ((List.pairwise_cons.mp this).1 y z)
noncomputable def PB (ws:List Int) (h i j:Nat):Prop:=ws.getD (h ||| 2 ^ i ||| 2 ^ j) 0 + ws.getD h 0 > ws.getD (h ||| 2 ^ i) 0 + ws.getD (h ||| 2 ^ j) 0
noncomputable instance (ws:List Int) (h i j:Nat):Decidable (PB ws h i j):=by unfold PB;infer_instance
noncomputable def PT (ws:List Int) (h a b c:Nat):Int:=ws.getD (h ||| 2 ^ a ||| 2 ^ b) 0 + ws.getD (h ||| 2 ^ c) 0
noncomputable def TB (ws:List Int) (h i j k:Nat):Prop:=PT ws h i k j < PT ws h i j k∧PT ws h j k i < PT ws h i j k
noncomputable instance (ws:List Int) (h i j k:Nat):Decidable (TB ws h i j k):=by unfold TB;infer_instance
noncomputable def NoneP (ws:List Int) (m:Nat):Prop:=∀ h i j,OkP m h i j→¬ PB ws h i j
noncomputable def FirstP (ws:List Int) (m h i j:Nat):Prop:=OkP m h i j∧PB ws h i j∧∀ h' i' j',OkP m h' i' j'→PB ws h' i' j'→h < h'∨h=h'∧(i < i'∨i=i'∧j ≤ j')
noncomputable def NoneT (ws:List Int) (m:Nat):Prop:=∀ h i j k,OkT m h i j k→¬ TB ws h i j k
noncomputable def FirstT (ws:List Int) (m h i j k:Nat):Prop:=OkT m h i j k∧TB ws h i j k∧∀ h' i' j' k',OkT m h' i' j' k'→TB ws h' i' j' k'→h < h'∨h=h'∧(i < i'∨i=i'∧(j < j'∨j=j'∧k ≤ k'))
noncomputable def vPair (h i j:Nat):List V:=[.str "pair",.int (h:Int),.int (i:Int),.int (j:Int)]
noncomputable def vThree (h i j k:Nat):List V:=[.str "three",.int (h:Int),.int (i:Int),.int (j:Int),.int (k:Int)]
noncomputable def Brkn (ws:List Int) (m:Nat) (o:Option (List V)):Prop:=(o=none∧NoneP ws m∧NoneT ws m)∨(∃ h i j,o=some (vPair h i j)∧FirstP ws m h i j)∨(∃ h i j k,o=some (vThree h i j k)∧NoneP ws m∧FirstT ws m h i j k)
theorem Brkn.one {ws:List Int} {m:Nat} {o o':Option (List V)} (a:Brkn ws m o) (b:Brkn ws m o'):o=o':=by
 rcases a with ⟨rfl,a1,a2⟩ | ⟨h,i,j,rfl,a1,a2,a3⟩ | ⟨h,i,j,k,rfl,a0,a1,a2,a3⟩ <;> rcases b with ⟨rfl,b1,b2⟩ | ⟨h',i',j',rfl,b1,b2,b3⟩ | ⟨h',i',j',k',rfl,b0,b1,b2,b3⟩
 ·rfl
 ·exact absurd b2 (a1 _ _ _ b1)
 ·exact absurd b2 (a2 _ _ _ _ b1)
 ·exact absurd a2 (b1 _ _ _ a1)
 ·have x:=a3 _ _ _ b1 b2
  have y:=b3 _ _ _ a1 a2
  have e:h=h'∧i=i'∧j=j':=by omega
  obtain ⟨rfl,rfl,rfl⟩:=e
  rfl
 ·exact absurd a2 (b0 _ _ _ a1)
 ·exact absurd a2 (b2 _ _ _ _ a1)
 ·exact absurd b2 (a0 _ _ _ b1)
 ·have x:=a3 _ _ _ _ b1 b2
  have y:=b3 _ _ _ _ a1 a2
  have e:h=h'∧i=i'∧j=j'∧k=k':=by omega
  obtain ⟨rfl,rfl,rfl,rfl⟩:=e
  rfl
noncomputable def Rep (H:Hp) (v:V):Option (List V)→Prop
 | none=>v = .non
 | some xs=>∃ a,v = .ref a∧H a=some (.tup xs)
noncomputable def sp_tb:Sp:=fun vs H Q _=>∃ h m:Nat,vs=[.int (h:Int),.int (m:Int)]∧h < 32∧m ≤ 5∧∀ (l:Addr) (H':Hp),Same H H'→H' l=some (.lst (natI (outL h m)))→Q (.ref l) H'
noncomputable def TBI (c:Addr) (h:Nat) (G:Hp) (i:Nat) (σ:St) (H:Hp):Prop:=∃ v:Option V,σ=[v,some (.int (h:Int))]∧SameX c G H∧H c=some (.lst (natI (outL h i)))
theorem sc_things_beside:FnScope ["heap", "many"] ["heap", "many"] (defScope s_things_beside):=⟨rfl,rfl,rfl,by decide +kernel,rfl,by decide +kernel,by decide +kernel⟩
theorem ok_tb (F:Fun K "things_beside" "things_beside" s_things_beside f fd) (hm:mg "things_beside" = some (.ref f)) (hb:Binds K fd ["heap", "many"] []) (T:Txt mg) (c_has:Cal P w K mg base "has" ["heap", "thing"] 1 sp_has):Cal P w K mg base "things_beside" ["heap", "many"] 2 sp_tb:=by
 refine cal_of F hm hb sc_things_beside (fun vs H Q E h=>?_) (fun cdv A outer s H vs Q E hr h=>?_)
 ·obtain ⟨_,_,rfl,_⟩:=h;rfl
 ·obtain ⟨h,m,rfl,hh,m5,q⟩:=h
  have sc:=sc_things_beside
  refine ⟨_,pss_one (ps_ret (pe_lc (N:=["thing", "heap"]) (fr:=[none,some 0]) rfl (pi_range1 rfl T.range_ (pa_cns (pv 1) pa_nil)) (CScope.of rfl rfl rfl) rfl (fun _ _ _=>⟨pg_name (i:=0) (show List.Nodup (α:=Str) ["thing", "heap"] by decide +kernel) rfl (Or.inl rfl),pif_one (pt_not (pt_val (pe_cal c_has hr (pa_cns (pv 1) (pa_cns (pv 0) pa_nil))))),pv 0⟩))),?_⟩
  rw [show L2.start ["heap", "many"] [.int (h:Int),.int (m:Int)] = [some (.int (h:Int)),some (.int (m:Int))] from rfl]
  (push_cast only [])
  refine ⟨by omega,by omega,fun c nc=>?_⟩
  refine cl_range (TBI c h H) ⟨none,rfl,SameX.upd,upd_same⟩ ?_ ?_
  ·rintro j σ H1 hj ⟨v,rfl,s1,e1⟩
   rw [Int.toNat_natCast] at hj
   (push_cast only [])
   refine ⟨h,j,rfl,hh,by omega,?_⟩
   have ol:=outL_len h j
   cases eb:bitOn h j
   ·(push_cast only [e1])
    refine ⟨small1000 (by unfold natI;rw [List.length_map];omega),⟨_,rfl,s1.trans SameX.upd,?_⟩⟩
    rw [upd_same,outL_succ,eb]
    unfold natI
    simp
   ·(push_cast only [e1])
    refine ⟨_,rfl,s1,?_⟩
    rw [e1,outL_succ,eb]
    simp
  ·rintro σ H1 ⟨v,rfl,s1,e1⟩
   rw [Int.toNat_natCast] at e1
   exact q c H1 (s1.same nc) e1
noncomputable def PRows (H:Hp) (rs:List (Addr × (Nat × Nat))):Prop:=∀ r ∈ rs,H r.1=some (.tup [.int (r.2.1:Int),.int (r.2.2:Int)])
noncomputable def sp_pb:Sp:=fun vs H Q _=>∃ h m:Nat,vs=[.int (h:Int),.int (m:Int)]∧h < 2 ^ m∧m ≤ 5∧∀ (l:Addr) (rs:List (Addr × (Nat × Nat))) (H':Hp),Same H H'→PRows H' rs→(rs.map fun r=>r.2)=pairsL h m→H' l=some (.lst (rs.map fun r=>V.ref r.1))→Q (.ref l) H'
noncomputable def PBO (c l:Addr) (h m:Nat) (G:Hp) (i:Nat) (σ:St) (H:Hp):Prop:=∃ (v1 v2:Option V) (rs:List (Addr × (Nat × Nat))),σ=[v1,v2,some (.ref l)]∧SameX c G H∧PRows H rs∧(rs.map fun r=>r.2)=((outL h m).take i).flatMap (fun i=>(aboveL h m i).map fun j=>(i,j))∧H c=some (.lst (rs.map fun r=>V.ref r.1))
noncomputable def PBI (c l:Addr) (h m i:Nat) (pre:List (Nat × Nat)) (G:Hp) (b:Nat) (σ:St) (H:Hp):Prop:=∃ (v2:Option V) (rs:List (Addr × (Nat × Nat))),σ=[some (.int (i:Int)),v2,some (.ref l)]∧SameX c G H∧PRows H rs∧(rs.map fun r=>r.2)=pre ++ ((((outL h m).take b).filter fun j=>decide (i < j)).map fun j=>(i,j))∧H c=some (.lst (rs.map fun r=>V.ref r.1))
theorem sc_pairs_beside:FnScope ["heap", "many", "beside"] ["heap", "many"] (defScope s_pairs_beside):=⟨rfl,rfl,rfl,by decide +kernel,rfl,by decide +kernel,by decide +kernel⟩
theorem ok_pb (F:Fun K "pairs_beside" "pairs_beside" s_pairs_beside f fd) (hm:mg "pairs_beside" = some (.ref f)) (hb:Binds K fd ["heap", "many"] []) (T:Txt mg) (c_things_beside:Cal P w K mg base "things_beside" ["heap", "many"] 2 sp_tb):Cal P w K mg base "pairs_beside" ["heap", "many"] 3 sp_pb:=by
 refine cal_of F hm hb sc_pairs_beside (fun vs H Q E h=>?_) (fun cdv A outer s H vs Q E hr h=>?_)
 ·obtain ⟨_,_,rfl,_⟩:=h;rfl
 ·obtain ⟨h,m,rfl,hh,m5,q⟩:=h
  have sc:=sc_pairs_beside
  have p32:=pow32 m5
  refine ⟨_,pss_cons (ps_set (i:=2) sc.nd rfl (Or.inr rfl) (pe_cal c_things_beside hr (pa_cns (pv 0) (pa_cns (pv 1) pa_nil))))
   (pss_one (ps_ret (pe_lc2 (N:=["i", "j", "beside"]) (fr:=[none,none,some 2]) rfl (pi_l0 (pv 2)) (CScope.of rfl rfl rfl) rfl (fun _ _ _=>⟨pg_name (i:=0) (show List.Nodup (α:=Str) ["i", "j", "beside"] by decide +kernel) rfl (Or.inl rfl),pif_nil,pi_l0 (pv 2),pg_name (i:=1) (show List.Nodup (α:=Str) ["i", "j", "beside"] by decide +kernel) rfl (Or.inl rfl),pif_one (pt_cmpR op_lt (pv 0) (pv 1) (nomark _)),pe_tupA (pa_cns (pv 0) (pa_cns (pv 1) pa_nil))⟩)))),?_⟩
  rw [show L2.start ["heap", "many", "beside"] [.int (h:Int),.int (m:Int)] = [some (.int (h:Int)),some (.int (m:Int)),none] from rfl]
  (push_cast only [])
  refine ⟨h,m,rfl,by omega,m5,fun l H1 s1 e1=>?_⟩
  (push_cast only [e1])
  intro c nc
  have nlc:l ≠ c:=ne_of_none e1 nc
  refine cl_seq (PBO c l h m H1) ⟨none,none,[],rfl,SameX.upd,(fun r hr=>by simp at hr),rfl,upd_same⟩ (fun j σ H' _ ⟨_,_,_,_,s,_⟩=>s _ _ nlc e1) ?_ ?_
  ·rintro a x σ H2 hx ⟨v1,v2,rs,rfl,s2,R2,d2,e2⟩
   unfold natI at hx
   rw [List.getElem?_map] at hx
   obtain ⟨i,hi,rfl⟩:=Option.map_eq_some_iff.mp hx
   have e12:=s2 _ _ nlc e1
   (push_cast only [e12])
   refine cl_seq (PBI c l h m i (((outL h m).take a).flatMap fun i=>(aboveL h m i).map fun j=>(i,j)) H2) ⟨_,rs,rfl,SameX.refl,R2,by simpa using d2,e2⟩ (fun j σ H' _ ⟨_,_,_,s,_⟩=>s _ _ nlc e12) ?_ ?_
   ·rintro b y σ H3 hy ⟨v2',rs',rfl,s3,R3,d3,e3⟩
    unfold natI at hy
    rw [List.getElem?_map] at hy
    obtain ⟨j,hj,rfl⟩:=Option.map_eq_some_iff.mp hy
    have rl:rs'.length ≤ 30:=by
     have:=congrArg List.length d3
     rw [List.length_map,List.length_append,List.length_map,List.length_flatMap] at this
     have f1:=List.length_filter_le (fun j=>decide (i < j)) ((outL h m).take b)
     have f2:=outL_len h m
     have f3:(List.map (fun a=>((aboveL h m a).map fun j=>(a,j)).length) ((outL h m).take a)).sum ≤ 5 * 5:=by
      have key:∀ l:List Nat,l.length ≤ 5→(List.map (fun a=>((aboveL h m a).map fun j=>(a,j)).length) l).sum ≤ 5 * l.length:=by
       intro l
       induction l with
       | nil=>simp
       | cons x l ih =>
        intro hl
        have:=ih (by simp at hl;omega)
        have g:=List.length_filter_le (fun j=>decide (x < j)) (outL h m)
        simp only [List.map_cons,List.sum_cons,List.length_map,List.length_cons] at *
        unfold aboveL at *
        omega
      have:=key ((outL h m).take a) (by rw [List.length_take];omega)
      rw [List.length_take] at this
      omega
     rw [List.length_take] at f1
     omega
    have tk:((((outL h m).take (b + 1)).filter fun j=>decide (i < j)).map fun j=>(i,j))=((((outL h m).take b).filter fun j=>decide (i < j)).map fun j=>(i,j)) ++ if i < j then [(i,j)] else []:=by
     rw [List.take_add_one,hj,Option.toList_some,List.filter_append,List.map_append]
     congr 1
     by_cases q:i < j <;> simp [q]
    (push_cast only [])
    by_cases hij:i < j
    ·rw [if_pos (by simpa using hij)]
     (push_cast only [])
     refine ⟨by decide,fun t H4 nt s4 e4=>?_⟩
     have e34:=s4 _ _ e3
     refine ⟨_,e34,small1000 (by rw [List.length_map];omega),⟨_,rs' ++ [(t,(i,j))],rfl,(s3.trans s4.x).trans SameX.upd,fun r hr'=>?_,?_,by rw [upd_same];simp⟩⟩
     ·rcases List.mem_append.mp hr' with y | y
      ·have:=s4 _ _ (R3 r y)
       rw [upd_ne (fun q=>by rw [q,e34] at this;cases this)]
       exact this
      ·have:r=(t,(i,j)):=by simpa using y
       subst this
       rw [upd_ne (fun q=>by simp only at q;rw [q,e34] at e4;cases e4)]
       exact e4
     ·rw [tk,if_pos hij,List.map_append,d3]
      simp
    ·rw [if_neg (by simpa using hij)]
     refine ⟨_,rs',rfl,s3,R3,?_,e3⟩
     rw [tk,if_neg hij,d3]
     simp
   ·rintro σ H3 ⟨v2',rs',rfl,s3,R3,d3,e3⟩
    refine ⟨_,_,rs',rfl,s2.trans s3,R3,?_,e3⟩
    rw [d3,List.take_add_one,hi,List.flatMap_append]
    unfold natI
    rw [List.length_map,List.take_length]
    simp [aboveL]
  ·rintro σ H2 ⟨v1,v2,rs,rfl,s2,R2,d2,e2⟩
   unfold natI at d2
   rw [List.length_map,List.take_length] at d2
   exact q c rs H2 (s1.trans (s2.same nc)) R2 d2 e2
noncomputable def sp_pbr:Sp:=fun vs H Q _=>∃ (a:Addr) (m h i j:Nat) (ws:List Int),vs=[.ref a,.int (h:Int),.int (i:Int),.int (j:Int)]∧H a=some (.tup (ws.map V.int))∧ws.length=2 ^ m∧m ≤ 5∧h < 2 ^ m∧i < m∧j < m∧Q (.bl (decide (PB ws h i j))) H
theorem sc_pair_breaks:FnScope ["worths", "heap", "i", "j", "with_i", "with_j"] ["worths", "heap", "i", "j"] (defScope s_pair_breaks):=⟨rfl,rfl,rfl,by decide +kernel,rfl,by decide +kernel,by decide +kernel⟩
theorem ok_pbr (F:Fun K "pair_breaks" "pair_breaks" s_pair_breaks f fd) (hm:mg "pair_breaks" = some (.ref f)) (hb:Binds K fd ["worths", "heap", "i", "j"] []) (T:Txt mg) (c_put_in:Cal P w K mg base "put_in" ["heap", "thing"] 1 sp_put):Cal P w K mg base "pair_breaks" ["worths", "heap", "i", "j"] 2 sp_pbr:=by
 refine cal_of F hm hb sc_pair_breaks (fun vs H Q E h=>?_) (fun cdv A outer s H vs Q E hr h=>?_)
 ·obtain ⟨_,_,_,_,_,_,rfl,_⟩:=h;rfl
 ·obtain ⟨a,m,h,i,j,ws,rfl,ha,hl,m5,hh,hi,hj,q⟩:=h
  have sc:=sc_pair_breaks
  refine ⟨_,pss_cons (ps_set (i:=4) sc.nd rfl (Or.inl rfl) (pe_cal c_put_in hr (pa_cns (pv 1) (pa_cns (pv 2) pa_nil))))
   (pss_cons (ps_set (i:=5) sc.nd rfl (Or.inl rfl) (pe_cal c_put_in hr (pa_cns (pv 1) (pa_cns (pv 3) pa_nil))))
   (pss_one (ps_ret (pe_cmpR op_gt (pe_op op_add (pe_ix ix0 (pv 0) (pe_cal c_put_in hr (pa_cns (pv 4) (pa_cns (pv 3) pa_nil))) (fun _ _=>rfl)) (pe_ix ix0 (pv 0) (pv 1) (fun _ _=>rfl))) (pe_op op_add (pe_ix ix0 (pv 0) (pv 4) (fun _ _=>rfl)) (pe_ix ix0 (pv 0) (pv 5) (fun _ _=>rfl))) (nomark _))))),?_⟩
  rw [show L2.start ["worths", "heap", "i", "j", "with_i", "with_j"] [.ref a,.int (h:Int),.int (i:Int),.int (j:Int)] = [some (.ref a),some (.int (h:Int)),some (.int (i:Int)),some (.int (j:Int)),none,none] from rfl]
  obtain ⟨_,o1⟩:=or_fact m5 hh hi
  obtain ⟨_,o2⟩:=or_fact m5 hh hj
  obtain ⟨_,o3⟩:=or_fact m5 o1 hj
  have hs:=sq_tup ha
  have a1:=at_int (ns:=ws) (n:=h ||| 2 ^ i) (by omega)
  have a2:=at_int (ns:=ws) (n:=h ||| 2 ^ j) (by omega)
  have a3:=at_int (ns:=ws) (n:=h ||| 2 ^ i ||| 2 ^ j) (by omega)
  have a4:=at_int (ns:=ws) (n:=h) (by omega)
  (push_cast only [])
  refine ⟨h,i,m,rfl,m5,hh,hi,?_⟩
  (push_cast only [])
  refine ⟨h,j,m,rfl,m5,hh,hj,?_⟩
  (push_cast only [])
  refine ⟨_,j,m,rfl,m5,o1,hj,?_⟩
  (push_cast only [hs,a1,a2,a3,a4])
  exact q
noncomputable def sp_parted:Sp:=fun vs H Q _=>∃ (a:Addr) (m h i j k:Nat) (ws:List Int),vs=[.ref a,.int (h:Int),.int (i:Int),.int (j:Int),.int (k:Int)]∧H a=some (.tup (ws.map V.int))∧ws.length=2 ^ m∧m ≤ 5∧h < 2 ^ m∧i < m∧j < m∧k < m∧Q (.int (PT ws h i j k)) H
theorem sc_parted:FnScope ["worths", "heap", "one", "other", "third"] ["worths", "heap", "one", "other", "third"] (defScope s_parted):=⟨rfl,rfl,rfl,by decide +kernel,rfl,by decide +kernel,by decide +kernel⟩
theorem ok_parted3 (F:Fun K "parted" "parted" s_parted f fd) (hm:mg "parted" = some (.ref f)) (hb:Binds K fd ["worths", "heap", "one", "other", "third"] []) (T:Txt mg) (c_put_in:Cal P w K mg base "put_in" ["heap", "thing"] 1 sp_put):Cal P w K mg base "parted" ["worths", "heap", "one", "other", "third"] 2 sp_parted:=by
 refine cal_of F hm hb sc_parted (fun vs H Q E h=>?_) (fun cdv A outer s H vs Q E hr h=>?_)
 ·obtain ⟨_,_,_,_,_,_,_,rfl,_⟩:=h;rfl
 ·obtain ⟨a,m,h,i,j,k,ws,rfl,ha,hl,m5,hh,hi,hj,hk,q⟩:=h
  have sc:=sc_parted
  refine ⟨_,pss_one (ps_ret (pe_op op_add (pe_ix ix0 (pv 0) (pe_cal c_put_in hr (pa_cns (pe_cal c_put_in hr (pa_cns (pv 1) (pa_cns (pv 2) pa_nil))) (pa_cns (pv 3) pa_nil))) (fun _ _=>rfl)) (pe_ix ix0 (pv 0) (pe_cal c_put_in hr (pa_cns (pv 1) (pa_cns (pv 4) pa_nil))) (fun _ _=>rfl)))),?_⟩
  rw [show L2.start ["worths", "heap", "one", "other", "third"] [.ref a,.int (h:Int),.int (i:Int),.int (j:Int),.int (k:Int)] = [some (.ref a),some (.int (h:Int)),some (.int (i:Int)),some (.int (j:Int)),some (.int (k:Int))] from rfl]
  obtain ⟨_,o1⟩:=or_fact m5 hh hi
  obtain ⟨_,o2⟩:=or_fact m5 hh hk
  obtain ⟨_,o3⟩:=or_fact m5 o1 hj
  have hs:=sq_tup ha
  have a2:=at_int (ns:=ws) (n:=h ||| 2 ^ k) (by omega)
  have a3:=at_int (ns:=ws) (n:=h ||| 2 ^ i ||| 2 ^ j) (by omega)
  (push_cast only [])
  refine ⟨h,i,m,rfl,m5,hh,hi,?_⟩
  (push_cast only [])
  refine ⟨_,j,m,rfl,m5,o1,hj,?_⟩
  (push_cast only [hs,a3])
  refine ⟨h,k,m,rfl,m5,hh,hk,?_⟩
  (push_cast only [hs,a2])
  exact q
noncomputable def sp_tbr:Sp:=fun vs H Q _=>∃ (a:Addr) (m h i j k:Nat) (ws:List Int),vs=[.ref a,.int (h:Int),.int (i:Int),.int (j:Int),.int (k:Int)]∧H a=some (.tup (ws.map V.int))∧ws.length=2 ^ m∧m ≤ 5∧h < 2 ^ m∧i < m∧j < m∧k < m∧Q (.bl (decide (TB ws h i j k))) H
theorem tb_max (ws:List Int) (h i j k:Nat):decide (PT ws h i j k > if PT ws h j k i > PT ws h i k j then PT ws h j k i else PT ws h i k j)=decide (TB ws h i j k):=by
 refine decide_eq_decide.mpr ⟨fun q=>?_,fun q=>?_⟩
 ·unfold TB
  split at q <;> omega
 ·unfold TB at q
  split <;> omega
theorem sc_three_break:FnScope ["worths", "heap", "i", "j", "k"] ["worths", "heap", "i", "j", "k"] (defScope s_three_break):=⟨rfl,rfl,rfl,by decide +kernel,rfl,by decide +kernel,by decide +kernel⟩
theorem ok_tbr (F:Fun K "three_break" "three_break" s_three_break f fd) (hm:mg "three_break" = some (.ref f)) (hb:Binds K fd ["worths", "heap", "i", "j", "k"] []) (T:Txt mg) (c_parted:Cal P w K mg base "parted" ["worths", "heap", "one", "other", "third"] 2 sp_parted):Cal P w K mg base "three_break" ["worths", "heap", "i", "j", "k"] 3 sp_tbr:=by
 refine cal_of F hm hb sc_three_break (fun vs H Q E h=>?_) (fun cdv A outer s H vs Q E hr h=>?_)
 ·obtain ⟨_,_,_,_,_,_,_,rfl,_⟩:=h;rfl
 ·obtain ⟨a,m,h,i,j,k,ws,rfl,ha,hl,m5,hh,hi,hj,hk,q⟩:=h
  have sc:=sc_three_break
  refine ⟨_,pss_one (ps_ret (pe_cmpR op_gt (pe_cal c_parted hr (pa_cns (pv 0) (pa_cns (pv 1) (pa_cns (pv 2) (pa_cns (pv 3) (pa_cns (pv 4) pa_nil)))))) (pe_callB (call_max2 rfl) rfl T.max_ bt_max (pa_cns (pe_cal c_parted hr (pa_cns (pv 0) (pa_cns (pv 1) (pa_cns (pv 2) (pa_cns (pv 4) (pa_cns (pv 3) pa_nil)))))) (pa_cns (pe_cal c_parted hr (pa_cns (pv 0) (pa_cns (pv 1) (pa_cns (pv 3) (pa_cns (pv 4) (pa_cns (pv 2) pa_nil)))))) pa_nil))) (nomark _))),?_⟩
  rw [show L2.start ["worths", "heap", "i", "j", "k"] [.ref a,.int (h:Int),.int (i:Int),.int (j:Int),.int (k:Int)] = [some (.ref a),some (.int (h:Int)),some (.int (i:Int)),some (.int (j:Int)),some (.int (k:Int))] from rfl]
  (push_cast only [])
  refine ⟨a,m,h,i,j,k,ws,rfl,ha,hl,m5,hh,hi,hj,hk,?_⟩
  (push_cast only [])
  refine ⟨a,m,h,i,k,j,ws,rfl,ha,hl,m5,hh,hi,hk,hj,?_⟩
  (push_cast only [])
  refine ⟨a,m,h,j,k,i,ws,rfl,ha,hl,m5,hh,hj,hk,hi,?_⟩
  (push_cast only [])
  rw [tb_max]
  exact q
noncomputable def sp_fp:Sp:=fun vs H Q _=>∃ (a:Addr) (m:Nat) (ws:List Int),vs=[.ref a,.int (m:Int)]∧H a=some (.tup (ws.map V.int))∧ws.length=2 ^ m∧m ≤ 5∧(∀ H',Same H H'→NoneP ws m→Q .non H')∧∀ (r:Addr) (h i j:Nat) (H':Hp),Same H H'→FirstP ws m h i j→H' r=some (.tup (vPair h i j))→Q (.ref r) H'
noncomputable def FPO (a:Addr) (m:Nat) (ws:List Int) (G:Hp) (h:Nat) (σ:St) (H:Hp):Prop:=∃ v2 v3 v4:Option V,σ=[some (.ref a),some (.int (m:Int)),v2,v3,v4]∧Same G H∧∀ h',h' < h→∀ i j,OkP m h' i j→¬ PB ws h' i j
noncomputable def FPI (a:Addr) (m h:Nat) (ws:List Int) (G:Hp) (c:Nat) (σ:St) (H:Hp):Prop:=∃ v3 v4:Option V,σ=[some (.ref a),some (.int (m:Int)),some (.int (h:Int)),v3,v4]∧Same G H∧∀ p ∈ (pairsL h m).take c,¬ PB ws h p.1 p.2
theorem sc_first_pair:FnScope ["worths", "many", "heap", "i", "j"] ["worths", "many"] (defScope s_first_pair):=⟨rfl,rfl,rfl,by decide +kernel,rfl,by decide +kernel,by decide +kernel⟩
theorem ok_fp (F:Fun K "first_pair" "first_pair" s_first_pair f fd) (hm:mg "first_pair" = some (.ref f)) (hb:Binds K fd ["worths", "many"] []) (T:Txt mg) (c_pairs_beside:Cal P w K mg base "pairs_beside" ["heap", "many"] 3 sp_pb) (c_pair_breaks:Cal P w K mg base "pair_breaks" ["worths", "heap", "i", "j"] 2 sp_pbr):Cal P w K mg base "first_pair" ["worths", "many"] 4 sp_fp:=by
 refine cal_of F hm hb sc_first_pair (fun vs H Q E h=>?_) (fun cdv A outer s H vs Q E hr h=>?_)
 ·obtain ⟨_,_,_,rfl,_⟩:=h;rfl
 ·obtain ⟨a,m,ws,rfl,ha,hl,m5,qn,qs⟩:=h
  have sc:=sc_first_pair
  have p32:=pow32 m5
  refine ⟨_,pss_cons (ps_for PassesOwn.never rfl (pi_range1 rfl T.range_ (pa_cns (pe_callB len0 rfl T.len_ bt_len (pa_cns (pv 0) pa_nil)) pa_nil)) (pg_name (i:=2) sc.nd rfl (Or.inl rfl))
    (pss_one (ps_for PassesOwn.never rfl (pi_l0 (pe_cal c_pairs_beside hr (pa_cns (pv 2) (pa_cns (pv 1) pa_nil)))) (pg_tup0 (n:=2) rfl (pgs_cons (pg_name (i:=3) sc.nd rfl (Or.inl rfl)) (pgs_cons (pg_name (i:=4) sc.nd rfl (Or.inl rfl)) pgs_nil)))
    (pss_one (ps_if (pt_val (pe_cal c_pair_breaks hr (pa_cns (pv 0) (pa_cns (pv 2) (pa_cns (pv 3) (pa_cns (pv 4) pa_nil)))))) (pss_one (ps_ret (pe_tupA (pa_cns pe_str (pa_cns (pv 2) (pa_cns (pv 3) (pa_cns (pv 4) pa_nil))))))) pss_nil)))))
   (pss_one (ps_ret pe_non)),?_⟩
  rw [show L2.start ["worths", "many", "heap", "i", "j"] [.ref a,.int (m:Int)] = [some (.ref a),some (.int (m:Int)),none,none,none] from rfl]
  have hs:=sq_tup ha
  (push_cast only [hs])
  rw [hl]
  refine ⟨by omega,by omega,fl_range (FPO a m ws H) ⟨_,_,_,rfl,Same.refl H,fun h' q=>by omega⟩ ?_ ?_⟩
  ·rintro h σ H1 hh ⟨v2,v3,v4,rfl,s1,n1⟩
   rw [Int.toNat_natCast] at hh
   (push_cast only [])
   refine ⟨h,m,rfl,hh,m5,fun l rs H2 s2 R2 d2 e2=>?_⟩
   (push_cast only [e2])
   refine fl_seq (FPI a m h ws H2) ⟨_,_,rfl,Same.refl H2,fun p hp=>by simp at hp⟩ (fun j σ H' _ ⟨_,_,_,s,_⟩=>s _ _ e2) ?_ ?_
   ·rintro c x σ H3 hx ⟨v3',v4',rfl,s3,n3⟩
    rw [List.getElem?_map] at hx
    obtain ⟨r,hr',rfl⟩:=Option.map_eq_some_iff.mp hx
    have er:=s3 _ _ (R2 r (List.mem_of_getElem? hr'))
    have hp:(pairsL h m)[c]? = some r.2:=by rw [← d2,List.getElem?_map,hr'];rfl
    obtain ⟨r0,i,j⟩:=r
    obtain ⟨ij,jm,bi,bj⟩:=pairs_mem.mp (List.mem_of_getElem? hp)
    (push_cast only [er])
    refine ⟨a,m,h,i,j,ws,rfl,s3 _ _ (s2 _ _ (s1 _ _ ha)),hl,m5,hh,by omega,jm,?_⟩
    by_cases hpb:PB ws h i j
    ·rw [decide_eq_true hpb]
     (push_cast only [])
     refine ⟨by decide,fun t H4 nt s4 e4=>?_⟩
     refine qs t h i j H4 (((s1.trans s2).trans s3).trans s4) ⟨⟨hh,ij,jm,bi,bj⟩,hpb,fun h' i' j' ok' pb'=>?_⟩ e4
     by_cases lt:h' < h
     ·exact absurd pb' (n1 h' lt _ _ ok')
     ·by_cases eq:h'=h
      ·subst eq
       have:=first_of (p:=fun p=>PB ws h' p.1 p.2) (pairs_lt m5 hh) hp n3 (i',j') (pairs_mem.mpr ⟨ok'.2.1,ok'.2.2.1,ok'.2.2.2.1,ok'.2.2.2.2⟩) pb'
       rcases this with z | z
       ·cases z
        omega
       ·simp only at z
        omega
      ·omega
    ·rw [decide_eq_false hpb]
     (push_cast only [])
     refine ⟨_,_,rfl,s3,fun p hp'=>?_⟩
     rw [List.take_add_one,hp] at hp'
     rcases List.mem_append.mp hp' with z | z
     ·exact n3 p z
     ·have:p=(i,j):=by simpa using z
      subst this
      exact hpb
   ·rintro σ H3 ⟨v3',v4',rfl,s3,n3⟩
    have lr:rs.length=(pairsL h m).length:=by rw [← d2,List.length_map]
    rw [List.length_map,lr,List.take_length] at n3
    refine ⟨_,_,_,rfl,(s1.trans s2).trans s3,fun h' hh' i j ok=>?_⟩
    by_cases lt:h' < h
    ·exact n1 h' lt i j ok
    ·have:h'=h:=by omega
     subst this
     exact n3 (i,j) (pairs_mem.mpr ⟨ok.2.1,ok.2.2.1,ok.2.2.2.1,ok.2.2.2.2⟩)
  ·rintro σ H1 ⟨v2,v3,v4,rfl,s1,n1⟩
   rw [Int.toNat_natCast] at n1
   (push_cast only [])
   exact qn H1 s1 fun h i j ok=>n1 h ok.1 i j ok
noncomputable def sp_ft:Sp:=fun vs H Q _=>∃ (a:Addr) (m:Nat) (ws:List Int),vs=[.ref a,.int (m:Int)]∧H a=some (.tup (ws.map V.int))∧ws.length=2 ^ m∧m ≤ 5∧(∀ H',Same H H'→NoneT ws m→Q .non H')∧∀ (r:Addr) (h i j k:Nat) (H':Hp),Same H H'→FirstT ws m h i j k→H' r=some (.tup (vThree h i j k))→Q (.ref r) H'
noncomputable def FTO (a:Addr) (m:Nat) (ws:List Int) (G:Hp) (h:Nat) (σ:St) (H:Hp):Prop:=∃ v2 v3 v4 v5:Option V,σ=[some (.ref a),some (.int (m:Int)),v2,v3,v4,v5]∧Same G H∧∀ h',h' < h→∀ i j k,OkT m h' i j k→¬ TB ws h' i j k
noncomputable def FTI (a:Addr) (m h:Nat) (ws:List Int) (G:Hp) (c:Nat) (σ:St) (H:Hp):Prop:=∃ v3 v4 v5:Option V,σ=[some (.ref a),some (.int (m:Int)),some (.int (h:Int)),v3,v4,v5]∧Same G H∧∀ p ∈ (pairsL h m).take c,∀ k,OkT m h p.1 p.2 k→¬ TB ws h p.1 p.2 k
noncomputable def FTK (a:Addr) (m h i j:Nat) (ws:List Int) (G:Hp) (c:Nat) (σ:St) (H:Hp):Prop:=∃ v5:Option V,σ=[some (.ref a),some (.int (m:Int)),some (.int (h:Int)),some (.int (i:Int)),some (.int (j:Int)),v5]∧Same G H∧∀ k ∈ (outL h m).take c,OkT m h i j k→¬ TB ws h i j k
theorem sc_first_three:FnScope ["worths", "many", "heap", "i", "j", "k"] ["worths", "many"] (defScope s_first_three):=⟨rfl,rfl,rfl,by decide +kernel,rfl,by decide +kernel,by decide +kernel⟩
theorem ok_ft (F:Fun K "first_three" "first_three" s_first_three f fd) (hm:mg "first_three" = some (.ref f)) (hb:Binds K fd ["worths", "many"] []) (T:Txt mg) (c_pairs_beside:Cal P w K mg base "pairs_beside" ["heap", "many"] 3 sp_pb) (c_things_beside:Cal P w K mg base "things_beside" ["heap", "many"] 2 sp_tb) (c_three_break:Cal P w K mg base "three_break" ["worths", "heap", "i", "j", "k"] 3 sp_tbr):Cal P w K mg base "first_three" ["worths", "many"] 4 sp_ft:=by
 refine cal_of F hm hb sc_first_three (fun vs H Q E h=>?_) (fun cdv A outer s H vs Q E hr h=>?_)
 ·obtain ⟨_,_,_,rfl,_⟩:=h;rfl
 ·obtain ⟨a,m,ws,rfl,ha,hl,m5,qn,qs⟩:=h
  have sc:=sc_first_three
  have p32:=pow32 m5
  refine ⟨_,pss_cons (ps_for PassesOwn.never rfl (pi_range1 rfl T.range_ (pa_cns (pe_callB len0 rfl T.len_ bt_len (pa_cns (pv 0) pa_nil)) pa_nil)) (pg_name (i:=2) sc.nd rfl (Or.inl rfl))
    (pss_one (ps_for PassesOwn.never rfl (pi_l0 (pe_cal c_pairs_beside hr (pa_cns (pv 2) (pa_cns (pv 1) pa_nil)))) (pg_tup0 (n:=2) rfl (pgs_cons (pg_name (i:=3) sc.nd rfl (Or.inl rfl)) (pgs_cons (pg_name (i:=4) sc.nd rfl (Or.inl rfl)) pgs_nil)))
    (pss_one (ps_for PassesOwn.never rfl (pi_l0 (pe_cal c_things_beside hr (pa_cns (pv 2) (pa_cns (pv 1) pa_nil)))) (pg_name (i:=5) sc.nd rfl (Or.inl rfl))
    (pss_one (ps_if (PW.pt (pw_and (pt_cmpR op_ne (pv 5) (pv 3) (nomark _)) (pw_and (pt_cmpR op_ne (pv 5) (pv 4) (nomark _)) (pw_and1 (pt_val (pe_cal c_three_break hr (pa_cns (pv 0) (pa_cns (pv 2) (pa_cns (pv 3) (pa_cns (pv 4) (pa_cns (pv 5) pa_nil))))))))))) (pss_one (ps_ret (pe_tupA (pa_cns pe_str (pa_cns (pv 2) (pa_cns (pv 3) (pa_cns (pv 4) (pa_cns (pv 5) pa_nil)))))))) pss_nil)))))))
   (pss_one (ps_ret pe_non)),?_⟩
  rw [show L2.start ["worths", "many", "heap", "i", "j", "k"] [.ref a,.int (m:Int)] = [some (.ref a),some (.int (m:Int)),none,none,none,none] from rfl]
  have hs:=sq_tup ha
  (push_cast only [hs])
  rw [hl]
  refine ⟨by omega,by omega,fl_range (FTO a m ws H) ⟨_,_,_,_,rfl,Same.refl H,fun h' q=>by omega⟩ ?_ ?_⟩
  ·rintro h σ H1 hh ⟨v2,v3,v4,v5,rfl,s1,n1⟩
   rw [Int.toNat_natCast] at hh
   (push_cast only [])
   refine ⟨h,m,rfl,hh,m5,fun l rs H2 s2 R2 d2 e2=>?_⟩
   (push_cast only [e2])
   refine fl_seq (FTI a m h ws H2) ⟨_,_,_,rfl,Same.refl H2,fun p hp=>by simp at hp⟩ (fun j σ H' _ ⟨_,_,_,_,s,_⟩=>s _ _ e2) ?_ ?_
   ·rintro c x σ H3 hx ⟨v3',v4',v5',rfl,s3,n3⟩
    rw [List.getElem?_map] at hx
    obtain ⟨r,hr',rfl⟩:=Option.map_eq_some_iff.mp hx
    have er:=s3 _ _ (R2 r (List.mem_of_getElem? hr'))
    have hp:(pairsL h m)[c]? = some r.2:=by rw [← d2,List.getElem?_map,hr'];rfl
    obtain ⟨r0,i,j⟩:=r
    obtain ⟨ij,jm,bi,bj⟩:=pairs_mem.mp (List.mem_of_getElem? hp)
    (push_cast only [er])
    refine ⟨h,m,rfl,by omega,m5,fun l2 H4 s4 e4=>?_⟩
    (push_cast only [e4])
    refine fl_seq (FTK a m h i j ws H4) ⟨_,rfl,Same.refl H4,fun p hp=>by simp at hp⟩ (fun j σ H' _ ⟨_,_,s,_⟩=>s _ _ e4) ?_ ?_
    ·rintro d x σ H5 hx ⟨v5'',rfl,s5,n5⟩
     unfold natI at hx
     rw [List.getElem?_map] at hx
     obtain ⟨k,hk,rfl⟩:=Option.map_eq_some_iff.mp hx
     obtain ⟨km,bk⟩:=outL_mem.mp (List.mem_of_getElem? hk)
     have S5:=(((s1.trans s2).trans s3).trans s4).trans s5
     have skip:¬ (OkT m h i j k∧TB ws h i j k)→FTK a m h i j ws H4 (d + 1) [some (.ref a),some (.int (m:Int)),some (.int (h:Int)),some (.int (i:Int)),some (.int (j:Int)),some (.int (k:Int))] H5:=fun no=>by
      refine ⟨_,rfl,s5,fun k' hk' ok'=>?_⟩
      rw [List.take_add_one,hk] at hk'
      rcases List.mem_append.mp hk' with z | z
      ·exact n5 k' z ok'
      ·have:k'=k:=by simpa using z
       subst this
       exact fun tb=>no ⟨ok',tb⟩
     (push_cast only [])
     by_cases ki:k=i
     ·rw [if_neg (by simp [ki])]
      exact skip fun z=>z.1.2.2.2.1 ki
     rw [if_pos (by simp;omega)]
     by_cases kj:k=j
     ·rw [if_neg (by simp [kj])]
      exact skip fun z=>z.1.2.2.2.2 kj
     rw [if_pos (by simp;omega)]
     refine ⟨a,m,h,i,j,k,ws,rfl,S5 _ _ ha,hl,m5,hh,by omega,jm,km,?_⟩
     have ok:OkT m h i j k:=⟨⟨hh,ij,jm,bi,bj⟩,km,bk,ki,kj⟩
     refine ⟨_,rfl,?_⟩
     by_cases htb:TB ws h i j k
     ·rw [if_pos (by simpa using htb)]
      refine ⟨by decide,fun t H6 nt s6 e6=>?_⟩
      refine qs t h i j k H6 (S5.trans s6) ⟨ok,htb,fun h' i' j' k' ok' tb'=>?_⟩ e6
      by_cases lt:h' < h
      ·exact absurd tb' (n1 h' lt _ _ _ ok')
      ·by_cases eq:h'=h
       ·subst eq
        have:=first_of (p:=fun p=>∃ k,OkT m h' p.1 p.2 k∧TB ws h' p.1 p.2 k) (pairs_lt m5 hh) hp (fun y hy ⟨k,o,t⟩=>n3 y hy k o t) (i',j') (pairs_mem.mpr ⟨ok'.1.2.1,ok'.1.2.2.1,ok'.1.2.2.2.1,ok'.1.2.2.2.2⟩) ⟨k',ok',tb'⟩
        rcases this with z | z
        ·cases z
         have:=first_of (p:=fun k=>OkT m h' i j k∧TB ws h' i j k) (outL_lt h' m) hk (fun y hy ⟨o,t⟩=>n5 y hy o t) k' (outL_mem.mpr ⟨ok'.2.1,ok'.2.2.1⟩) ⟨ok',tb'⟩
         rcases this with z | z <;> omega
        ·simp only at z
         omega
       ·omega
     ·rw [if_neg (by simpa using htb)]
      exact skip fun z=>htb z.2
    ·rintro σ H5 ⟨v5'',rfl,s5,n5⟩
     unfold natI at n5
     rw [List.length_map,List.take_length] at n5
     refine ⟨_,_,_,rfl,(s3.trans s4).trans s5,fun p hp' k ok=>?_⟩
     rw [List.take_add_one,hp] at hp'
     rcases List.mem_append.mp hp' with z | z
     ·exact n3 p z k ok
     ·have:p=(i,j):=by simpa using z
      subst this
      exact n5 k (outL_mem.mpr ⟨ok.2.1,ok.2.2.1⟩) ok
   ·rintro σ H3 ⟨v3',v4',v5',rfl,s3,n3⟩
    have lr:rs.length=(pairsL h m).length:=by rw [← d2,List.length_map]
    rw [List.length_map,lr,List.take_length] at n3
    refine ⟨_,_,_,_,rfl,(s1.trans s2).trans s3,fun h' hh' i j k ok=>?_⟩
    by_cases lt:h' < h
    ·exact n1 h' lt i j k ok
    ·have:h'=h:=by omega
     subst this
     exact n3 (i,j) (pairs_mem.mpr ⟨ok.1.2.1,ok.1.2.2.1,ok.1.2.2.2.1,ok.1.2.2.2.2⟩) k ok
  ·rintro σ H1 ⟨v2,v3,v4,v5,rfl,s1,n1⟩
   rw [Int.toNat_natCast] at n1
   (push_cast only [])
   exact qn H1 s1 fun h i j k ok=>n1 h ok.1.1 i j k ok
noncomputable def sp_breaking:Sp:=fun vs H Q _=>∃ (a b:Addr) (ns:List Int) (F m:Nat),vs=[.ref a,.ref b]∧H a=some (.tup (ns.map V.int))∧H b=some (.tup ((bitsL F m).map V.int))∧m ≤ 5∧F < 2 ^ m∧ns.length=2 ^ m∧∀ (v:V) (o:Option (List V)) (H':Hp),Same H H'→Brkn (turnN ns F) m o→Rep H' v o→Q v H'
theorem sc_breaking:FnScope ["want", "sides", "worths", "pair"] ["want", "sides"] (defScope s_breaking):=⟨rfl,rfl,rfl,by decide +kernel,rfl,by decide +kernel,by decide +kernel⟩
theorem ok_breaking (F:Fun K "breaking" "breaking" s_breaking f fd) (hm:mg "breaking" = some (.ref f)) (hb:Binds K fd ["want", "sides"] []) (T:Txt mg) (c_turned:Cal P w K mg base "turned" ["want", "sides"] 3 sp_turned) (c_first_pair:Cal P w K mg base "first_pair" ["worths", "many"] 4 sp_fp) (c_first_three:Cal P w K mg base "first_three" ["worths", "many"] 4 sp_ft):Cal P w K mg base "breaking" ["want", "sides"] 5 sp_breaking:=by
 refine cal_of F hm hb sc_breaking (fun vs H Q E h=>?_) (fun cdv A outer s H vs Q E hr h=>?_)
 ·obtain ⟨_,_,_,_,_,rfl,_⟩:=h;rfl
 ·obtain ⟨a,b,ns,F0,m,rfl,ha,hb',m5,hF,hl,q⟩:=h
  have sc:=sc_breaking
  refine ⟨_,pss_cons (ps_set (i:=2) sc.nd rfl (Or.inl rfl) (pe_cal c_turned hr (pa_cns (pv 0) (pa_cns (pv 1) pa_nil))))
   (pss_cons (ps_set (i:=3) sc.nd rfl (Or.inl rfl) (pe_cal c_first_pair hr (pa_cns (pv 2) (pa_cns (pe_callB len0 rfl T.len_ bt_len (pa_cns (pv 1) pa_nil)) pa_nil))))
   (pss_cons (ps_if (pt_cmpR op_notN (pv 3) pe_non (nomark _)) (pss_one (ps_ret (pv 3))) pss_nil)
   (pss_one (ps_ret (pe_cal c_first_three hr (pa_cns (pv 2) (pa_cns (pe_callB len0 rfl T.len_ bt_len (pa_cns (pv 1) pa_nil)) pa_nil))))))),?_⟩
  rw [show L2.start ["want", "sides", "worths", "pair"] [.ref a,.ref b] = [some (.ref a),some (.ref b),none,none] from rfl]
  (push_cast only [])
  refine ⟨a,b,ns,F0,m,rfl,ha,hb',m5,hF,hl,fun t H1 s1 e1=>?_⟩
  have hs1:=sq_tup (s1 _ _ hb')
  (push_cast only [hs1])
  rw [bits_len]
  have tl:(turnN ns F0).length=2 ^ m:=by rw [turn_len,hl]
  refine ⟨t,m,turnN ns F0,rfl,e1,tl,m5,fun H2 s2 np=>?_,fun r h i j H2 s2 fp e2=>?_⟩
  ·have hs2:=sq_tup (s2 _ _ (s1 _ _ hb'))
   (push_cast only [hs2])
   rw [bits_len]
   refine ⟨t,m,turnN ns F0,rfl,s2 _ _ e1,tl,m5,fun H3 s3 nt=>?_,fun r h i j k H3 s3 ft e3=>?_⟩
   ·exact q .non none H3 ((s1.trans s2).trans s3) (.inl ⟨rfl,np,nt⟩) rfl
   ·exact q (.ref r) _ H3 ((s1.trans s2).trans s3) (.inr (.inr ⟨h,i,j,k,rfl,np,ft⟩)) ⟨r,rfl,e3⟩
  ·(push_cast only [])
   exact q (.ref r) _ H2 (s1.trans s2) (.inr (.inl ⟨h,i,j,rfl,fp⟩)) ⟨r,rfl,e2⟩
theorem put_xor {h t:Nat} (hh:h < 32) (ht:t < 5) (b:bitOn h t=false):h ||| 2 ^ t=h ^^^ 2 ^ t:=by
 have key:∀ (h:_root_.Fin 32) (t:_root_.Fin 5),bitOn h.val t.val=false→h.val ||| 2 ^ t.val=h.val ^^^ 2 ^ t.val:=by decide +kernel
 exact key ⟨h,hh⟩ ⟨t,ht⟩ b
theorem xorF {h F t:Nat} (hh:h < 32) (hF:F < 32) (ht:t < 5):bitOn (h ^^^ F) t=(bitOn h t != bitOn F t)∧h ^^^ F < 32:=by
 have key:∀ (a b:_root_.Fin 32) (t:_root_.Fin 5),bitOn (a.val ^^^ b.val) t.val=(bitOn a.val t.val != bitOn b.val t.val)∧a.val ^^^ b.val < 32:=by decide +kernel
 exact key ⟨h,hh⟩ ⟨F,hF⟩ ⟨t,ht⟩
theorem xor_rc (a b c:Nat):a ^^^ b ^^^ c=a ^^^ c ^^^ b:=by rw [Nat.xor_assoc,Nat.xor_comm b c,← Nat.xor_assoc]
theorem xor_rr (a b:Nat):a ^^^ b ^^^ b=a:=by rw [Nat.xor_assoc,Nat.xor_self,Nat.xor_zero]
theorem exch {ns:List Int} {F m:Nat} (m5:m ≤ 5) (hF:F < 2 ^ m) (G:Good F m ns) {X Y i:Nat} (hX:X < 2 ^ m) (hY:Y < 2 ^ m) (hi:i < m) (xi:bitOn X i=true) (yi:bitOn Y i=false) :
  ns.getD (X ^^^ F) 0 + ns.getD (Y ^^^ F) 0 ≤ ns.getD (X ^^^ F ^^^ 2 ^ i) 0 + ns.getD (Y ^^^ F ^^^ 2 ^ i) 0∨∃ j,j < m∧bitOn Y j=true∧bitOn X j=false∧ns.getD (X ^^^ F) 0 + ns.getD (Y ^^^ F) 0 ≤ ns.getD (X ^^^ F ^^^ 2 ^ i ^^^ 2 ^ j) 0 + ns.getD (Y ^^^ F ^^^ 2 ^ i ^^^ 2 ^ j) 0:=by
 obtain ⟨Ed,sl,V,sd⟩:=G
 have p32:=pow32 m5
 have i5:i < 5:=by omega
 have hX':=(xor_int m5 hX hF).2.1
 have hY':=(xor_int m5 hY hF).2.1
 have bX:=fun t (ht:t < 5)=>(xorF (h:=X) (F:=F) (t:=t) (by omega) (by omega) ht).1
 have bY:=fun t (ht:t < 5)=>(xorF (h:=Y) (F:=F) (t:=t) (by omega) (by omega) ht).1
 cases fi:bitOn F i with
 | false =>
  have x1:bitOn (X ^^^ F) i=true:=by rw [bX i i5,xi,fi];rfl
  have y1:bitOn (Y ^^^ F) i=false:=by rw [bY i i5,yi,fi];rfl
  rcases val_swap (F:=F) m5 V sd hX' hY' hi x1 y1 pL pR (sideL F) Iff.rfl sd (by unfold sideL;rw [if_pos (by omega),fi];rfl) with le | ⟨j,hj,sj,le⟩
  ·exact .inl le
  ·have j5:j < 5:=by omega
   have e1:=bX j j5
   have e2:=bY j j5
   unfold sideL at sj
   rw [if_pos (show j < 10 by omega)] at sj
   rcases sj with ⟨s1,s2,s3⟩ | ⟨s1,s2,s3⟩
   ·have fj:bitOn F j=true:=by simpa using s1
    rw [s2,fj] at e1
    rw [s3,fj] at e2
    exact .inr ⟨j,hj,(by cases c:bitOn Y j;(· rw [c] at e2;cases e2);rfl),(by cases c:bitOn X j;(· rfl);rw [c] at e1;cases e1),le⟩
   ·have fj:bitOn F j=false:=by simpa using s1
    rw [s2,fj] at e1
    rw [s3,fj] at e2
    exact .inr ⟨j,hj,(by cases c:bitOn Y j;(· rw [c] at e2;cases e2);rfl),(by cases c:bitOn X j;(· rfl);rw [c] at e1;cases e1),le⟩
 | true =>
  have x1:bitOn (X ^^^ F) i=false:=by rw [bX i i5,xi,fi];rfl
  have y1:bitOn (Y ^^^ F) i=true:=by rw [bY i i5,yi,fi];rfl
  rcases val_swap (F:=F) m5 V sd hY' hX' hi y1 x1 pR pL (sideR F) ⟨Mat.flip,Mat.flip⟩ (fun e he=>by unfold sideR;rw [(sd e he).1,(sd e he).2];exact ⟨rfl,rfl⟩) (by unfold sideR sideL;rw [if_pos (by omega),fi];rfl) with le | ⟨j,hj,sj,le⟩
  ·exact .inl (by omega)
  ·have j5:j < 5:=by omega
   have e1:=bX j j5
   have e2:=bY j j5
   unfold sideR sideL at sj
   rw [if_pos (show j < 10 by omega)] at sj
   rcases sj with ⟨s1,s2,s3⟩ | ⟨s1,s2,s3⟩
   ·have fj:bitOn F j=false:=by simpa using s1
    rw [s3,fj] at e1
    rw [s2,fj] at e2
    exact .inr ⟨j,hj,(by cases c:bitOn Y j;(· rw [c] at e2;cases e2);rfl),(by cases c:bitOn X j;(· rfl);rw [c] at e1;cases e1),by omega⟩
   ·have fj:bitOn F j=true:=by simpa using s1
    rw [s3,fj] at e1
    rw [s2,fj] at e2
    exact .inr ⟨j,hj,(by cases c:bitOn Y j;(· rw [c] at e2;cases e2);rfl),(by cases c:bitOn X j;(· rfl);rw [c] at e1;cases e1),by omega⟩
theorem or_bits {h a t:Nat} (hh:h < 32) (ha:a < 5) (ht:t < 5):bitOn (h ||| 2 ^ a) t=(bitOn h t || decide (t=a))∧h ||| 2 ^ a < 32:=by
 have key:∀ (h:_root_.Fin 32) (a t:_root_.Fin 5),bitOn (h.val ||| 2 ^ a.val) t.val=(bitOn h.val t.val || decide (t.val=a.val))∧h.val ||| 2 ^ a.val < 32:=by decide +kernel
 exact key ⟨h,hh⟩ ⟨a,ha⟩ ⟨t,ht⟩
theorem orl {m h a:Nat} (m5:m ≤ 5) (hh:h < 2 ^ m) (ha:a < m):h ||| 2 ^ a < 2 ^ m:=by
 have key:∀ (m:_root_.Fin 6) (h:_root_.Fin 32) (a:_root_.Fin 5),h.val < 2 ^ m.val→a.val < m.val→h.val ||| 2 ^ a.val < 2 ^ m.val:=by decide +kernel
 have:=pow32 m5
 exact key ⟨m,by omega⟩ ⟨h,by omega⟩ ⟨a,by omega⟩ hh ha
theorem none_pair {ns:List Int} {F m:Nat} (m5:m ≤ 5) (nl:ns.length=2 ^ m) (hF:F < 2 ^ m) (G:Good F m ns):NoneP (turnN ns F) m:=by
 rintro h i j ⟨hh,ij,jm,bi,bj⟩ pb
 have p32:=pow32 m5
 have h32:h < 32:=by omega
 have i5:i < 5:=by omega
 have j5:j < 5:=by omega
 have tat:∀ Z,Z < 2 ^ m→(turnN ns F).getD Z 0=ns.getD (Z ^^^ F) 0:=fun Z hZ=>turn_at (by omega)
 have l1:=orl m5 hh (show i < m by omega)
 have l2:=orl m5 hh jm
 have l3:=orl m5 l1 jm
 have b1:bitOn (h ||| 2 ^ i) j=false:=by rw [(or_bits h32 i5 j5).1,bj,decide_eq_false (by omega)];rfl
 have e1:h ||| 2 ^ i ||| 2 ^ j=h ^^^ 2 ^ i ^^^ 2 ^ j:=by rw [put_xor (by omega) j5 b1,put_xor h32 i5 bi]
 unfold PB at pb
 rw [tat _ l3,tat _ hh,tat _ l1,tat _ l2] at pb
 have xi:bitOn (h ||| 2 ^ i ||| 2 ^ j) i=true:=by rw [(or_bits (by omega) j5 i5).1,(or_bits h32 i5 i5).1,decide_eq_true rfl];simp
 rcases exch m5 hF G l3 hh (show i < m by omega) xi bi with le | ⟨k,hk,yk,xk,_⟩
 ·rw [xor_rc (h ||| 2 ^ i ||| 2 ^ j) F,xor_rc h F,e1,xor_rc h (2 ^ i) (2 ^ j),xor_rr] at le
  rw [e1,xor_rc h (2 ^ i) (2 ^ j),put_xor h32 i5 bi,put_xor h32 j5 bj] at pb
  omega
 ·rw [(or_bits (by omega) j5 (by omega)).1,(or_bits h32 i5 (by omega)).1,yk] at xk
  simp at xk
theorem none_three {ns:List Int} {F m:Nat} (m5:m ≤ 5) (nl:ns.length=2 ^ m) (hF:F < 2 ^ m) (G:Good F m ns):NoneT (turnN ns F) m:=by
 rintro h i j k ⟨⟨hh,ij,jm,bi,bj⟩,km,bk,ki,kj⟩ ⟨t1,t2⟩
 have p32:=pow32 m5
 have h32:h < 32:=by omega
 have i5:i < 5:=by omega
 have j5:j < 5:=by omega
 have k5:k < 5:=by omega
 have tat:∀ Z,Z < 2 ^ m→(turnN ns F).getD Z 0=ns.getD (Z ^^^ F) 0:=fun Z hZ=>turn_at (by omega)
 have li:=orl m5 hh (show i < m by omega)
 have lj:=orl m5 hh jm
 have lk:=orl m5 hh km
 have two:∀ a b,a < m→b < m→a ≠ b→bitOn h a=false→bitOn h b=false→h ||| 2 ^ a ||| 2 ^ b=h ^^^ 2 ^ a ^^^ 2 ^ b:=fun a b ha hb ne ba bb=>by
  have z:bitOn (h ||| 2 ^ a) b=false:=by rw [(or_bits h32 (by omega) (by omega)).1,bb,decide_eq_false (by omega)];rfl
  rw [put_xor (by have:=orl m5 hh ha;omega) (by omega) z,put_xor h32 (by omega) ba]
 unfold PT at t1 t2
 rw [tat _ (orl m5 li km),tat _ lj,tat _ (orl m5 li jm),tat _ lk] at t1
 rw [tat _ (orl m5 lj km),tat _ li,tat _ (orl m5 li jm),tat _ lk] at t2
 rw [two i k (by omega) km (by omega) bi bk,two i j (by omega) jm (by omega) bi bj,put_xor h32 j5 bj,put_xor h32 k5 bk] at t1
 rw [two j k jm km (by omega) bj bk,two i j (by omega) jm (by omega) bi bj,put_xor h32 i5 bi,put_xor h32 k5 bk] at t2
 have xi:bitOn (h ||| 2 ^ i ||| 2 ^ j) i=true:=by rw [(or_bits (by omega) j5 i5).1,(or_bits h32 i5 i5).1,decide_eq_true rfl];simp
 have yi:bitOn (h ||| 2 ^ k) i=false:=by rw [(or_bits h32 k5 i5).1,bi,decide_eq_false (by omega)];rfl
 rcases exch m5 hF G (orl m5 li jm) lk (show i < m by omega) xi yi with le | ⟨l,hl,yl,xl,le⟩
 ·rw [xor_rc (h ||| 2 ^ i ||| 2 ^ j) F,xor_rc (h ||| 2 ^ k) F,two i j (by omega) jm (by omega) bi bj,put_xor h32 k5 bk,xor_rc h (2 ^ i) (2 ^ j),xor_rr] at le
  rw [xor_rc h (2 ^ i) (2 ^ k),xor_rc h (2 ^ i) (2 ^ j)] at t1
  omega
 ·have lk':l=k:=by
   rw [(or_bits h32 k5 (by omega)).1] at yl
   rw [(or_bits (by omega) j5 (by omega)).1,(or_bits h32 i5 (by omega)).1] at xl
   cases c:bitOn h l with
   | true=>rw [c] at xl;simp at xl
   | false=>rw [c] at yl;simpa using yl
  subst lk'
  rw [xor_rc (h ||| 2 ^ i ||| 2 ^ j) F,xor_rc (h ||| 2 ^ l) F,xor_rc _ F (2 ^ l),xor_rc _ F (2 ^ l),two i j (by omega) jm (by omega) bi bj,put_xor h32 k5 bk,xor_rc h (2 ^ i) (2 ^ j),xor_rr,xor_rc h (2 ^ l) (2 ^ i),xor_rr] at le
  rw [xor_rc h (2 ^ i) (2 ^ j)] at t2
  omega
end
end K96
end
section
set_option Elab.async false
set_option linter.all false
set_option maxRecDepth 100000
set_option maxHeartbeats 8000000
namespace K96
open PySem L2
section
variable {P:Program} {w:World} {K:PySem.W.Frag} {mg:Str→Option Value} {base:Heap} {f:Addr} {fd:FuncData}
noncomputable def goL (one other m:Nat):List Nat:=(List.range m).filter fun t=>bitOn one t && !bitOn other t
theorem goL_mem {one other m t:Nat}:t ∈ goL one other m ↔ t < m∧bitOn one t=true∧bitOn other t=false:=by
 unfold goL
 rw [List.mem_filter,List.mem_range]
 simp
theorem goL_len (one other m:Nat):(goL one other m).length ≤ m:=by
 unfold goL
 exact Nat.le_trans (List.length_filter_le _ _) (by simp)
noncomputable def Q1 (m one b:Nat):List (Nat × Nat × Nat):=(List.range b).flatMap fun other=>(goL one other m).map fun t=>(one,other,t)
noncomputable def P1 (m a:Nat):List (Nat × Nat × Nat):=(List.range a).flatMap fun one=>Q1 m one (2 ^ m)
noncomputable def placesL (m:Nat):List (Nat × Nat × Nat):=P1 m (2 ^ m)
theorem Q1_succ (m one b:Nat):Q1 m one (b + 1)=Q1 m one b ++ (goL one b m).map fun t=>(one,b,t):=by unfold Q1;rw [List.range_succ,List.flatMap_append];simp
theorem P1_succ (m a:Nat):P1 m (a + 1)=P1 m a ++ Q1 m a (2 ^ m):=by unfold P1;rw [List.range_succ,List.flatMap_append];simp
theorem len_flat {α β:Type} {g:α→List β} {k:Nat} (h:∀ x,(g x).length ≤ k):∀ l:List α,(l.flatMap g).length ≤ k * l.length
 | []=>by simp
 | x :: l=>by
  have:=len_flat h l
  have:=h x
  rw [List.flatMap_cons,List.length_append,List.length_cons,Nat.mul_succ]
  omega
theorem Q1_len {m one b:Nat} (hm:m ≤ 5):(Q1 m one b).length ≤ 5 * b:=by
 have:=len_flat (g:=fun other=>(goL one other m).map fun t=>(one,other,t)) (k:=5) (fun x=>by rw [List.length_map];have:=goL_len one x m;omega) (List.range b)
 rw [List.length_range] at this
 exact this
theorem P1_len {m a:Nat} (hm:m ≤ 5):(P1 m a).length ≤ 160 * a:=by
 have hp:=pow32 hm
 have:=len_flat (g:=fun one=>Q1 m one (2 ^ m)) (k:=160) (fun x=>by have:=Q1_len (one:=x) (b:=2 ^ m) hm;omega) (List.range a)
 rw [List.length_range] at this
 exact this
theorem places_mem {m:Nat} {p:Nat × Nat × Nat} (h:p ∈ placesL m):p.1 < 2 ^ m∧p.2.1 < 2 ^ m∧p.2.2 < m∧bitOn p.1 p.2.2=true∧bitOn p.2.1 p.2.2=false:=by
 unfold placesL P1 at h
 obtain ⟨one,h1,h⟩:=List.mem_flatMap.mp h
 unfold Q1 at h
 obtain ⟨other,h2,h⟩:=List.mem_flatMap.mp h
 obtain ⟨t,h3,rfl⟩:=List.mem_map.mp h
 have:=goL_mem.mp h3
 exact ⟨List.mem_range.mp h1,List.mem_range.mp h2,this⟩
noncomputable def vOpt:Option Nat→V
 | none=>.non
 | some j=>.int (j:Int)
noncomputable def choL (one other m:Nat):List (Option Nat):=none :: (goL other one m).map some
theorem choL_mem {one other m:Nat} {c:Option Nat} (h:c ∈ choL one other m):∀ j,c=some j→j < m∧bitOn other j=true∧bitOn one j=false:=by
 rintro j rfl
 unfold choL at h
 rcases List.mem_cons.mp h with z | z
 ·cases z
 ·obtain ⟨j',h',e⟩:=List.mem_map.mp z
  cases e
  exact goL_mem.mp h'
noncomputable def giv (one t:Nat):Option Nat→Nat
 | none=>out one t
 | some j=>out one t ||| 2 ^ j
noncomputable def tak (other t:Nat):Option Nat→Nat
 | none=>other ||| 2 ^ t
 | some j=>out (other ||| 2 ^ t) j
noncomputable def Fit (T:List Int) (one other t:Nat) (c:Option Nat):Prop:=T.getD one 0 + T.getD other 0 ≤ T.getD (giv one t c) 0 + T.getD (tak other t c) 0
noncomputable instance (T:List Int) (one other t:Nat) (c:Option Nat):Decidable (Fit T one other t c):=by unfold Fit;infer_instance
noncomputable def fitL (T:List Int) (one other t m:Nat):List (Option Nat):=(choL one other m).filter fun c=>decide (Fit T one other t c)
noncomputable abbrev Row:=Nat × Nat × Nat × Option Nat
noncomputable def rowOf (T:List Int) (m:Nat) (p:Nat × Nat × Nat):Row:=(p.1,p.2.1,p.2.2,(fitL T p.1 p.2.1 p.2.2 m).headD none)
noncomputable def rowV (r:Row):List V:=[.int (r.1:Int),.int (r.2.1:Int),.int (r.2.2.1:Int),vOpt r.2.2.2]
noncomputable def Exch (T:List Int) (m:Nat):Option (List Row)→Prop
 | none=>∃ p ∈ placesL m,fitL T p.1 p.2.1 p.2.2 m=[]
 | some rs=>rs=(placesL m).map (rowOf T m)∧∀ p ∈ placesL m,fitL T p.1 p.2.1 p.2.2 m ≠ []
theorem Exch.one {T:List Int} {m:Nat} {o o':Option (List Row)} (a:Exch T m o) (b:Exch T m o'):o=o':=by
 cases o with
 | none =>
  obtain ⟨p,hp,z⟩:=a
  cases o' with
  | none=>rfl
  | some rs=>exact absurd z (b.2 p hp)
 | some rs =>
  cases o' with
  | none=>obtain ⟨p,hp,z⟩:=b;exact absurd z (a.2 p hp)
  | some rs'=>rw [a.1,b.1]
noncomputable def XR (H:Hp) (xs:List (Addr × Row)):Prop:=∀ x ∈ xs,H x.1=some (.tup (rowV x.2))
noncomputable def RepX (H:Hp) (v:V):Option (List Row)→Prop
 | none=>v = .non
 | some rs=>∃ (a:Addr) (xs:List (Addr × Row)),v = .ref a∧(xs.map fun x=>x.2)=rs∧H a=some (.tup (xs.map fun x=>V.ref x.1))∧XR H xs
theorem XR.same {H H':Hp} {xs:List (Addr × Row)} (h:XR H xs) (s:Same H H'):XR H' xs:=fun x hx=>s _ _ (h x hx)
theorem RepX.same {H H':Hp} {v:V} {o:Option (List Row)} (r:RepX H v o) (s:Same H H'):RepX H' v o:=by
 cases o with
 | none=>exact r
 | some rs=>obtain ⟨a,xs,e1,e2,h,x⟩:=r;exact ⟨a,xs,e1,e2,s _ _ h,x.same s⟩
noncomputable def PR3 (H:Hp) (rs:List (Addr × (Nat × Nat × Nat))):Prop:=∀ r ∈ rs,H r.1=some (.tup [.int (r.2.1:Int),.int (r.2.2.1:Int),.int (r.2.2.2:Int)])
theorem PR3.same {H H':Hp} {xs:List (Addr × (Nat × Nat × Nat))} (h:PR3 H xs) (s:Same H H'):PR3 H' xs:=fun x hx=>s _ _ (h x hx)
noncomputable def Acc (c:Addr) (G H:Hp) (pre:List (Nat × Nat × Nat)):Prop:=∃ rs:List (Addr × (Nat × Nat × Nat)),SameX c G H∧PR3 H rs∧(rs.map fun r=>r.2)=pre∧H c=some (.lst (rs.map fun r=>V.ref r.1))
theorem Acc.len {c:Addr} {G H:Hp} {rs:List (Addr × (Nat × Nat × Nat))} {pre:List (Nat × Nat × Nat)} (e:(rs.map fun r=>r.2)=pre):rs.length=pre.length:=by rw [← e,List.length_map]
theorem Acc.put {c t:Addr} {G H H':Hp} {one other th:Nat} {pre:List (Nat × Nat × Nat)} {rs:List (Addr × (Nat × Nat × Nat))} (s:SameX c G H) (R:PR3 H rs) (d:(rs.map fun r=>r.2)=pre) (e:H c=some (.lst (rs.map fun r=>V.ref r.1))) (s':Same H H') (et:H' t=some (.tup [.int (one:Int),.int (other:Int),.int (th:Int)])):Acc c G (upd H' c (.lst ((rs.map fun r=>V.ref r.1) ++ [V.ref t]))) (pre ++ [(one,other,th)]):=by
 refine ⟨rs ++ [(t,one,other,th)],(s.trans s'.x).trans SameX.upd,fun r hr=>?_,by rw [List.map_append,d];rfl,by rw [upd_same];simp⟩
 have e':=s' _ _ e
 rcases List.mem_append.mp hr with y | y
 ·have:=s' _ _ (R r y)
  rw [upd_ne (fun q=>by rw [q,e'] at this;cases this)]
  exact this
 ·have:r=(t,one,other,th):=by simpa using y
  subst this
  rw [upd_ne (fun q=>by have q':t=c:=q;rw [q',e'] at et;cases et)]
  exact et
noncomputable def lessN (a b:Nat):Nat:=a - (a &&& b)
theorem less_int {a b:Nat} (ha:a < 32) (hb:b < 32):lessI (a:Int) (b:Int)=(lessN a b:Int)∧lessN a b < 32:=by
 have key:∀ (x y:_root_.Fin 32),lessI (x.val:Int) (y.val:Int)=(lessN x.val y.val:Int)∧lessN x.val y.val < 32:=by decide +kernel
 exact key ⟨a,ha⟩ ⟨b,hb⟩
theorem less_go {m a b:Nat} (hm:m ≤ 5) (ha:a < 2 ^ m) (hb:b < 2 ^ m):(List.range 5).filter (bitOn (lessN a b))=goL a b m:=by
 have key:∀ (n:_root_.Fin 6) (x y:_root_.Fin 32),x.val < 2 ^ n.val→y.val < 2 ^ n.val→(List.range 5).filter (bitOn (lessN x.val y.val))=goL x.val y.val n.val:=by decide +kernel
 have:=pow32 hm
 exact key ⟨m,by omega⟩ ⟨a,by omega⟩ ⟨b,by omega⟩ ha hb
theorem outN_le (h t:Nat):out h t ≤ h:=by
 unfold out
 split
 ·exact Nat.sub_le _ _
 ·exact Nat.le_refl _
theorem giv_lt {m one t:Nat} {c:Option Nat} (hm:m ≤ 5) (h1:one < 2 ^ m) (hc:∀ j,c=some j→j < m):giv one t c < 2 ^ m:=by
 have:=outN_le one t
 cases c with
 | none=>exact Nat.lt_of_le_of_lt this h1
 | some j=>exact (or_fact hm (Nat.lt_of_le_of_lt this h1) (hc j rfl)).2
theorem tak_lt {m other t:Nat} {c:Option Nat} (hm:m ≤ 5) (h2:other < 2 ^ m) (ht:t < m):tak other t c < 2 ^ m:=by
 have:=(or_fact hm h2 ht).2
 cases c with
 | none=>exact this
 | some j=>exact Nat.lt_of_le_of_lt (outN_le _ _) this
noncomputable def sp_isx:Sp:=fun vs H Q _=>∃ (a:Addr) (T:List Int) (one other t m:Nat) (c:Option Nat),vs=[.ref a,.int (one:Int),.int (other:Int),.int (t:Int),vOpt c]∧H a=some (.tup (T.map V.int))∧T.length=2 ^ m∧m ≤ 5∧one < 2 ^ m∧other < 2 ^ m∧t < m∧(∀ j,c=some j→j < m)∧Q (.bl (decide (Fit T one other t c))) H
theorem sc_is_exchange:FnScope ["worths", "one", "other", "thing", "choice", "giving", "taking"] ["worths", "one", "other", "thing", "choice"] (defScope s_is_exchange):=⟨rfl,rfl,rfl,by decide +kernel,rfl,by decide +kernel,by decide +kernel⟩
theorem ok_isx (F:Fun K "is_exchange" "is_exchange" s_is_exchange f fd) (hm:mg "is_exchange" = some (.ref f)) (hb:Binds K fd ["worths", "one", "other", "thing", "choice"] []) (T:Txt mg) (c_taken_out:Cal P w K mg base "taken_out" ["heap", "thing"] 2 sp_taken) (c_put_in:Cal P w K mg base "put_in" ["heap", "thing"] 1 sp_put):Cal P w K mg base "is_exchange" ["worths", "one", "other", "thing", "choice"] 3 sp_isx:=by
 refine cal_of F hm hb sc_is_exchange (fun vs H Q E h=>?_) (fun cdv A outer s H vs Q E hr h=>?_)
 ·obtain ⟨_,_,_,_,_,_,_,rfl,_⟩:=h;rfl
 ·obtain ⟨a,tb,one,other,t,m,c,rfl,ha,hl,m5,h1,h2,ht,hc,q⟩:=h
  have sc:=sc_is_exchange
  have p32:=pow32 m5
  have hs:=sq_tup ha
  have at1:=at_int (ns:=tb) (n:=one) (by omega)
  have at2:=at_int (ns:=tb) (n:=other) (by omega)
  have at3:=at_int (ns:=tb) (n:=giv one t c) (by rw [hl];exact giv_lt m5 h1 hc)
  have at4:=at_int (ns:=tb) (n:=tak other t c) (by rw [hl];exact tak_lt m5 h2 ht)
  have o1:=outN_le one t
  refine ⟨_,pss_cons (ps_set (i:=5) sc.nd rfl (Or.inl rfl) (pe_cal c_taken_out hr (pa_cns (pv 1) (pa_cns (pv 3) pa_nil))))
   (pss_cons (ps_set (i:=6) sc.nd rfl (Or.inl rfl) (pe_cal c_put_in hr (pa_cns (pv 2) (pa_cns (pv 3) pa_nil))))
   (pss_cons (ps_if (pt_cmpR op_notN (pv 4) pe_non (nomark _)) (pss_cons (ps_set (i:=5) sc.nd rfl (Or.inl rfl) (pe_cal c_put_in hr (pa_cns (pv 5) (pa_cns (pv 4) pa_nil))))
   (pss_one (ps_set (i:=6) sc.nd rfl (Or.inl rfl) (pe_cal c_taken_out hr (pa_cns (pv 6) (pa_cns (pv 4) pa_nil)))))) pss_nil)
   (pss_one (ps_ret (pe_cmpR op_le (pe_op op_add (pe_ix ix0 (pv 0) (pv 1) (fun _ _=>rfl)) (pe_ix ix0 (pv 0) (pv 2) (fun _ _=>rfl))) (pe_op op_add (pe_ix ix0 (pv 0) (pv 5) (fun _ _=>rfl)) (pe_ix ix0 (pv 0) (pv 6) (fun _ _=>rfl))) (nomark _)))))),?_⟩
  cases c with
  | none =>
   rw [show vOpt none=V.non from rfl]
   rw [show L2.start ["worths", "one", "other", "thing", "choice", "giving", "taking"] [.ref a,.int (one:Int),.int (other:Int),.int (t:Int),.non] = [some (.ref a),some (.int (one:Int)),some (.int (other:Int)),some (.int (t:Int)),some (.non),none,none] from rfl]
   (push_cast only [])
   refine ⟨one,t,rfl,by omega,by omega,?_⟩
   (push_cast only [])
   refine ⟨other,t,m,rfl,m5,h2,ht,?_⟩
   (push_cast only [])
   rw [show giv one t none=out one t from rfl] at at3
   rw [show tak other t none=other ||| 2 ^ t from rfl] at at4
   (push_cast only [hs,at1,at2,at3,at4])
   exact q
  | some j =>
   have hj:=hc j rfl
   rw [show vOpt (some j)=V.int (j:Int) from rfl]
   rw [show L2.start ["worths", "one", "other", "thing", "choice", "giving", "taking"] [.ref a,.int (one:Int),.int (other:Int),.int (t:Int),.int (j:Int)] = [some (.ref a),some (.int (one:Int)),some (.int (other:Int)),some (.int (t:Int)),some (.int (j:Int)),none,none] from rfl]
   (push_cast only [])
   refine ⟨one,t,rfl,by omega,by omega,?_⟩
   (push_cast only [])
   refine ⟨other,t,m,rfl,m5,h2,ht,?_⟩
   (push_cast only [])
   refine ⟨out one t,j,m,rfl,m5,by omega,hj,?_⟩
   (push_cast only [])
   have ot:=(or_fact m5 h2 ht).2
   refine ⟨other ||| 2 ^ t,j,rfl,by omega,by omega,?_⟩
   rw [show giv one t (some j)=out one t ||| 2 ^ j from rfl] at at3
   rw [show tak other t (some j)=out (other ||| 2 ^ t) j from rfl] at at4
   (push_cast only [hs,at1,at2,at3,at4])
   exact q
noncomputable def sp_xat:Sp:=fun vs H Q _=>∃ (a:Addr) (T:List Int) (one other t m:Nat),vs=[.ref a,.int (one:Int),.int (other:Int),.int (t:Int)]∧H a=some (.tup (T.map V.int))∧T.length=2 ^ m∧m ≤ 5∧one < 2 ^ m∧other < 2 ^ m∧t < m∧∀ (l:Addr) (H':Hp),Same H H'→H' l=some (.lst ((fitL T one other t m).map vOpt))→Q (.ref l) H'
noncomputable def XAI (a c:Addr) (T:List Int) (one other t m:Nat) (G:Hp) (i:Nat) (σ:St) (H:Hp):Prop:=∃ v:Option V,σ=[v,some (.ref a),some (.int (one:Int)),some (.int (other:Int)),some (.int (t:Int))]∧SameX c G H∧H c=some (.lst ((((choL one other m).take i).filter fun c=>decide (Fit T one other t c)).map vOpt))
theorem cho_vals (one other m:Nat):[V.non] ++ natI (goL other one m)=(choL one other m).map vOpt:=by
 unfold choL natI
 simp [vOpt]
theorem cho_len {one other m:Nat} (hm:m ≤ 5):(choL one other m).length ≤ 6:=by
 unfold choL
 have:=goL_len other one m
 simp only [List.length_cons,List.length_map]
 omega
theorem sc_exchanges_at:FnScope ["worths", "one", "other", "thing", "choices"] ["worths", "one", "other", "thing"] (defScope s_exchanges_at):=⟨rfl,rfl,rfl,by decide +kernel,rfl,by decide +kernel,by decide +kernel⟩
theorem ok_xat (F:Fun K "exchanges_at" "exchanges_at" s_exchanges_at f fd) (hm:mg "exchanges_at" = some (.ref f)) (hb:Binds K fd ["worths", "one", "other", "thing"] []) (T:Txt mg) (c_less:Cal P w K mg base "less" ["one", "other"] 1 sp_less) (c_things_in:Cal P w K mg base "things_in" ["heap"] 2 sp_things) (c_is_exchange:Cal P w K mg base "is_exchange" ["worths", "one", "other", "thing", "choice"] 3 sp_isx):Cal P w K mg base "exchanges_at" ["worths", "one", "other", "thing"] 4 sp_xat:=by
 refine cal_of F hm hb sc_exchanges_at (fun vs H Q E h=>?_) (fun cdv A outer s H vs Q E hr h=>?_)
 ·obtain ⟨_,_,_,_,_,_,rfl,_⟩:=h;rfl
 ·obtain ⟨a,tb,one,other,t,m,rfl,ha,hl,m5,h1,h2,ht,q⟩:=h
  have sc:=sc_exchanges_at
  have p32:=pow32 m5
  refine ⟨_,pss_cons (ps_set (i:=4) sc.nd rfl (Or.inl rfl) (pe_op catL0 (pe_lst (pa_cns pe_non pa_nil)) (pe_callTy list0 rfl T.list_ bt_list (pa_cns (pe_cal c_things_in hr (pa_cns (pe_cal c_less hr (pa_cns (pv 2) (pa_cns (pv 1) pa_nil))) pa_nil)) pa_nil))))
   (pss_one (ps_ret (pe_lc (N:=["choice", "worths", "one", "other", "thing"]) (fr:=[none,some 0,some 1,some 2,some 3]) rfl (pi_l0 (pv 4)) (CScope.of rfl rfl rfl) rfl (fun _ _ _=>⟨pg_name (i:=0) (show List.Nodup (α:=Str) ["choice", "worths", "one", "other", "thing"] by decide +kernel) rfl (Or.inl rfl),pif_one (pt_val (pe_cal c_is_exchange hr (pa_cns (pv 1) (pa_cns (pv 2) (pa_cns (pv 3) (pa_cns (pv 4) (pa_cns (pv 0) pa_nil))))))),pv 0⟩)))),?_⟩
  rw [show L2.start ["worths", "one", "other", "thing", "choices"] [.ref a,.int (one:Int),.int (other:Int),.int (t:Int)] = [some (.ref a),some (.int (one:Int)),some (.int (other:Int)),some (.int (t:Int)),none] from rfl]
  obtain ⟨li,l32⟩:=less_int (a:=other) (b:=one) (by omega) (by omega)
  (push_cast only [sp_less])
  refine ⟨by decide,fun d0 nd0=>?_⟩
  rw [li]
  refine ⟨_,rfl,l32,fun d1 H1 s1 e1=>?_⟩
  rw [less_go m5 h2 h1] at e1
  have gl:=goL_len other one m
  have e1d:H1 d0=some (.lst [V.non]):=s1 _ _ upd_same
  have hs1:=sq_tup e1
  have ha1:H1 a=some (.tup (tb.map V.int)):=s1 _ _ (by rw [upd_ne (ne_of_none ha nd0)];exact ha)
  (push_cast only [hs1])
  refine fun d2 nd2=>?_
  have e2d:upd H1 d2 (.lst (natI (goL other one m))) d0=some (.lst [V.non]):=by rw [upd_ne (ne_of_none e1d nd2)];exact e1d
  refine ⟨_,e2d,Nat.le_of_lt (small1000 (by rw [natI_len];simp only [List.length_cons,List.length_nil];omega)),fun d3 H3 nd3 s3 e3=>?_⟩
  rw [cho_vals] at e3
  have ha3:H3 a=some (.tup (tb.map V.int)):=s3 _ _ (by rw [upd_ne (ne_of_none ha1 nd2)];exact ha1)
  have S3:Same H H3:=((same_upd nd0).trans s1).trans ((same_upd nd2).trans s3)
  have cl:=cho_len (one:=one) (other:=other) m5
  refine ⟨_,e3,fun c nc=>?_⟩
  have nac:a ≠ c:=ne_of_none ha3 nc
  have ndc:d3 ≠ c:=ne_of_none e3 nc
  refine cl_seq (XAI a c tb one other t m H3) ⟨none,rfl,SameX.upd,upd_same⟩ (fun j σ H' _ ⟨_,_,s,_⟩=>s _ _ ndc e3) ?_ ?_
  ·rintro j x σ H4 hx ⟨v,rfl,s4,e4⟩
   rw [List.getElem?_map] at hx
   obtain ⟨ch,hch,rfl⟩:=Option.map_eq_some_iff.mp hx
   have fl:=List.length_filter_le (fun c=>decide (Fit tb one other t c)) ((choL one other m).take j)
   rw [List.length_take] at fl
   (push_cast only [])
   refine ⟨a,tb,one,other,t,m,ch,rfl,s4 _ _ nac ha3,hl,m5,h1,h2,ht,fun j' e'=>(choL_mem (List.mem_of_getElem? hch) j' e').1,?_⟩
   refine ⟨_,rfl,?_⟩
   by_cases hf:Fit tb one other t ch
   ·rw [if_pos (by simpa using hf)]
    (push_cast only [e4])
    refine ⟨small1000 (by first | omega | (rw [List.length_map];omega)),⟨_,rfl,s4.trans SameX.upd,?_⟩⟩
    rw [upd_same,List.take_add_one,hch,Option.toList_some,List.filter_append]
    simp [hf]
   ·rw [if_neg (by simpa using hf)]
    refine ⟨_,rfl,s4,?_⟩
    rw [e4,List.take_add_one,hch,Option.toList_some,List.filter_append]
    simp [hf]
  ·rintro σ H4 ⟨v,rfl,s4,e4⟩
   rw [List.length_map,List.take_length] at e4
   exact q c H4 (S3.trans (s4.same nc)) e4
noncomputable def sp_xpl:Sp:=fun vs H Q _=>∃ m:Nat,vs=[.int ((2 ^ m:Nat):Int)]∧m ≤ 5∧∀ (l:Addr) (rs:List (Addr × (Nat × Nat × Nat))) (H':Hp),H l=none→Same H H'→PR3 H' rs→(rs.map fun r=>r.2)=placesL m→H' l=some (.lst (rs.map fun r=>V.ref r.1))→Q (.ref l) H'
noncomputable def X1I (c:Addr) (m:Nat) (G:Hp) (i:Nat) (σ:St) (H:Hp):Prop:=∃ v1 v2 v3:Option V,σ=[v1,v2,v3,some (.int ((2 ^ m:Nat):Int))]∧Acc c G H (P1 m i)
noncomputable def X2I (c:Addr) (m one:Nat) (G:Hp) (i:Nat) (σ:St) (H:Hp):Prop:=∃ v2 v3:Option V,σ=[some (.int (one:Int)),v2,v3,some (.int ((2 ^ m:Nat):Int))]∧Acc c G H (P1 m one ++ Q1 m one i)
noncomputable def X3I (c:Addr) (m one other:Nat) (G:Hp) (i:Nat) (σ:St) (H:Hp):Prop:=∃ v3:Option V,σ=[some (.int (one:Int)),some (.int (other:Int)),v3,some (.int ((2 ^ m:Nat):Int))]∧Acc c G H (P1 m one ++ Q1 m one other ++ ((goL one other m).take i).map fun t=>(one,other,t))
theorem sc_exchange_places:FnScope ["many"] ["many"] (defScope s_exchange_places):=⟨rfl,rfl,rfl,by decide +kernel,rfl,by decide +kernel,by decide +kernel⟩
theorem ok_xpl (F:Fun K "exchange_places" "exchange_places" s_exchange_places f fd) (hm:mg "exchange_places" = some (.ref f)) (hb:Binds K fd ["many"] []) (T:Txt mg) (c_less:Cal P w K mg base "less" ["one", "other"] 1 sp_less) (c_things_in:Cal P w K mg base "things_in" ["heap"] 2 sp_things):Cal P w K mg base "exchange_places" ["many"] 3 sp_xpl:=by
 refine cal_of F hm hb sc_exchange_places (fun vs H Q E h=>?_) (fun cdv A outer s H vs Q E hr h=>?_)
 ·obtain ⟨_,rfl,_⟩:=h;rfl
 ·obtain ⟨m,rfl,m5,q⟩:=h
  have sc:=sc_exchange_places
  have p32:=pow32 m5
  refine ⟨_,pss_one (ps_ret (pe_lc3 (N:=["one", "other", "thing", "many"]) (fr:=[none,none,none,some 0]) rfl (pi_range1 rfl T.range_ (pa_cns (pv 0) pa_nil)) (CScope.of rfl rfl rfl) rfl (fun _ _ _=>⟨pg_name (i:=0) (show List.Nodup (α:=Str) ["one", "other", "thing", "many"] by decide +kernel) rfl (Or.inl rfl),pif_nil,pi_range1 rfl T.range_ (pa_cns (pv 3) pa_nil),pg_name (i:=1) (show List.Nodup (α:=Str) ["one", "other", "thing", "many"] by decide +kernel) rfl (Or.inl rfl),pif_nil,pi_t0 (pe_cal c_things_in hr (pa_cns (pe_cal c_less hr (pa_cns (pv 0) (pa_cns (pv 1) pa_nil))) pa_nil)),pg_name (i:=2) (show List.Nodup (α:=Str) ["one", "other", "thing", "many"] by decide +kernel) rfl (Or.inl rfl),pif_nil,pe_tupA (pa_cns (pv 0) (pa_cns (pv 1) (pa_cns (pv 2) pa_nil)))⟩))),?_⟩
  rw [show L2.start ["many"] [.int ((2 ^ m:Nat):Int)] = [some (.int ((2 ^ m:Nat):Int))] from rfl]
  (push_cast only [])
  refine ⟨by omega,by omega,fun c nc=>?_⟩
  refine cl_range (X1I c m H) ⟨none,none,none,rfl,[],SameX.upd,(fun r hr=>by simp at hr),rfl,upd_same⟩ ?_ ?_
  ·rintro one σ H1 h1 ⟨v1,v2,v3,rfl,rs1,s1,R1,d1,e1⟩
   rw [Int.toNat_natCast] at h1
   (push_cast only [])
   refine ⟨by omega,by omega,cl_range (X2I c m one H) ⟨_,_,rfl,rs1,s1,R1,by rw [d1];simp [Q1],e1⟩ ?_ ?_⟩
   ·rintro other σ H2 h2 ⟨w2,w3,rfl,rs2,s2,R2,d2,e2⟩
    rw [Int.toNat_natCast] at h2
    obtain ⟨li,l32⟩:=less_int (a:=one) (b:=other) (by omega) (by omega)
    (push_cast only [sp_less])
    rw [li]
    refine ⟨_,rfl,l32,fun d H3 s3 e3=>?_⟩
    rw [less_go m5 h1 h2] at e3
    have gl:=goL_len one other m
    (push_cast only [e3])
    have e3c:=s3 _ _ e2
    have ndc:d ≠ c:=fun z=>by rw [z,e3c] at e3;cases e3
    refine cl_seq (X3I c m one other H3) ⟨_,rfl,rs2,SameX.refl,R2.same s3,by rw [d2];simp,e3c⟩ (fun j σ H' _ ⟨_,_,rs,s,R,dd,ec⟩=>s _ _ ndc e3) ?_ ?_
    ·rintro k x σ H4 hx ⟨w3',rfl,rs4,s4,R4,d4,e4⟩
     unfold natI at hx
     rw [List.getElem?_map] at hx
     obtain ⟨t,ht,rfl⟩:=Option.map_eq_some_iff.mp hx
     (push_cast only [])
     refine ⟨by decide,fun z H5 nz s5 e5=>?_⟩
     have e5c:=s5 _ _ e4
     have ll:=Acc.len (c:=c) (G:=H) (H:=H) d4
     have b1:=P1_len (m:=m) (a:=one) m5
     have b2:=Q1_len (m:=m) (one:=one) (b:=other) m5
     rw [List.length_append,List.length_append,List.length_map,List.length_take] at ll
     refine ⟨_,e5c,small10000 (by rw [List.length_map];omega),⟨_,rfl,?_⟩⟩
     have:=Acc.put s4 R4 d4 e4 s5 e5
     rw [List.take_add_one,ht,Option.toList_some,List.map_append,← List.append_assoc]
     exact this
    ·rintro σ H4 ⟨w3',rfl,rs4,s4,R4,d4,e4⟩
     rw [natI_len,List.take_length] at d4
     exact ⟨_,_,rfl,rs4,(s2.trans s3.x).trans s4,R4,by rw [d4,Q1_succ,List.append_assoc],e4⟩
   ·rintro σ H2 ⟨w2,w3,rfl,rs2,s2,R2,d2,e2⟩
    rw [Int.toNat_natCast] at d2
    exact ⟨_,_,_,rfl,rs2,s2,R2,by rw [d2,P1_succ],e2⟩
  ·rintro σ H1 ⟨v1,v2,v3,rfl,rs1,s1,R1,d1,e1⟩
   rw [Int.toNat_natCast] at d1
   exact q c rs1 H1 nc (s1.same nc) R1 d1 e1
noncomputable def XRows (c:Addr) (T:List Int) (m:Nat) (G:Hp) (i:Nat) (H:Hp):Prop:=∃ rs:List (Addr × Row),SameX c G H∧XR H rs∧(rs.map fun r=>r.2)=((placesL m).take i).map (rowOf T m)∧H c=some (.lst (rs.map fun r=>V.ref r.1))∧∀ p ∈ (placesL m).take i,fitL T p.1 p.2.1 p.2.2 m ≠ []
theorem XRows.put {c t:Addr} {T:List Int} {m i:Nat} {G H H':Hp} {p:Nat × Nat × Nat} {rs:List (Addr × Row)} (s:SameX c G H) (R:XR H rs) (d:(rs.map fun r=>r.2)=((placesL m).take i).map (rowOf T m)) (e:H c=some (.lst (rs.map fun r=>V.ref r.1))) (n:∀ p ∈ (placesL m).take i,fitL T p.1 p.2.1 p.2.2 m ≠ []) (hp:(placesL m)[i]? = some p) (ne:fitL T p.1 p.2.1 p.2.2 m ≠ []) (s':Same H H') (et:H' t=some (.tup (rowV (rowOf T m p)))):XRows c T m G (i + 1) (upd H' c (.lst ((rs.map fun r=>V.ref r.1) ++ [V.ref t]))):=by
 refine ⟨rs ++ [(t,rowOf T m p)],(s.trans s'.x).trans SameX.upd,fun r hr=>?_,?_,by rw [upd_same];simp,fun p' hp'=>?_⟩
 ·have e':=s' _ _ e
  rcases List.mem_append.mp hr with y | y
  ·have:=s' _ _ (R r y)
   rw [upd_ne (fun q=>by rw [q,e'] at this;cases this)]
   exact this
  ·have:r=(t,rowOf T m p):=by simpa using y
   subst this
   rw [upd_ne (fun q=>by have q':t=c:=q;rw [q',e'] at et;cases et)]
   exact et
 ·rw [List.map_append,d,List.take_add_one,hp,Option.toList_some,List.map_append]
  rfl
 ·rw [List.take_add_one,hp,Option.toList_some] at hp'
  rcases List.mem_append.mp hp' with y | y
  ·exact n p' y
  ·have:p'=p:=by simpa using y
   rw [this]
   exact ne
theorem places_len {m:Nat} (hm:m ≤ 5):(placesL m).length ≤ 5120:=by
 have:=P1_len (m:=m) (a:=2 ^ m) hm
 have:=pow32 hm
 unfold placesL
 omega
noncomputable def sp_exch:Sp:=fun vs H Q _=>∃ (a b:Addr) (ns:List Int) (F m:Nat),vs=[.ref a,.ref b]∧H a=some (.tup (ns.map V.int))∧H b=some (.tup ((bitsL F m).map V.int))∧m ≤ 5∧F < 2 ^ m∧ns.length=2 ^ m∧∀ (v:V) (o:Option (List Row)) (H':Hp),Same H H'→Exch (turnN ns F) m o→RepX H' v o→Q v H'
noncomputable def EXI (a b t c:Addr) (T:List Int) (m:Nat) (G:Hp) (i:Nat) (σ:St) (H:Hp):Prop:=∃ v4 v5 v6 v7:Option V,σ=[some (.ref a),some (.ref b),some (.ref t),some (.ref c),v4,v5,v6,v7]∧XRows c T m G i H
theorem sc_exchanges:FnScope ["want", "sides", "worths", "rows", "one", "other", "thing", "found"] ["want", "sides"] (defScope s_exchanges):=⟨rfl,rfl,rfl,by decide +kernel,rfl,by decide +kernel,by decide +kernel⟩
theorem ok_exch (F:Fun K "exchanges" "exchanges" s_exchanges f fd) (hm:mg "exchanges" = some (.ref f)) (hb:Binds K fd ["want", "sides"] []) (T:Txt mg) (c_turned:Cal P w K mg base "turned" ["want", "sides"] 3 sp_turned) (c_exchange_places:Cal P w K mg base "exchange_places" ["many"] 3 sp_xpl) (c_exchanges_at:Cal P w K mg base "exchanges_at" ["worths", "one", "other", "thing"] 4 sp_xat):Cal P w K mg base "exchanges" ["want", "sides"] 5 sp_exch:=by
 refine cal_of F hm hb sc_exchanges (fun vs H Q E h=>?_) (fun cdv A outer s H vs Q E hr h=>?_)
 ·obtain ⟨_,_,_,_,_,rfl,_⟩:=h;rfl
 ·obtain ⟨a,b,ns,F0,m,rfl,ha,hb',m5,hF,hl,q⟩:=h
  have sc:=sc_exchanges
  refine ⟨_,pss_cons (ps_set (i:=2) sc.nd rfl (Or.inl rfl) (pe_cal c_turned hr (pa_cns (pv 0) (pa_cns (pv 1) pa_nil))))
   (pss_cons (ps_set (i:=3) sc.nd rfl (Or.inl rfl) (pe_lst pa_nil))
   (pss_cons (ps_for PassesOwn.never rfl (pi_l0 (pe_cal c_exchange_places hr (pa_cns (pe_callB len0 rfl T.len_ bt_len (pa_cns (pv 2) pa_nil)) pa_nil))) (pg_tup0 (n:=3) rfl (pgs_cons (pg_name (i:=4) sc.nd rfl (Or.inl rfl)) (pgs_cons (pg_name (i:=5) sc.nd rfl (Or.inl rfl)) (pgs_cons (pg_name (i:=6) sc.nd rfl (Or.inl rfl)) pgs_nil))))
    (pss_cons (ps_set (i:=7) sc.nd rfl (Or.inl rfl) (pe_cal c_exchanges_at hr (pa_cns (pv 2) (pa_cns (pv 4) (pa_cns (pv 5) (pa_cns (pv 6) pa_nil))))))
   (pss_cons (ps_if (pt_not (pt_lst (pv 7))) (pss_one (ps_ret pe_non)) pss_nil)
   (pss_one (ps_expr (pe_append (pv 3) (pa_cns (pe_tupA (pa_cns (pv 4) (pa_cns (pv 5) (pa_cns (pv 6) (pa_cns (pe_ix ix0 (pv 7) pe_int (fun _ _=>rfl)) pa_nil))))) pa_nil)))))))
   (pss_one (ps_ret (pe_callTy tupA0 rfl T.tuple_ bt_tuple (pa_cns (pv 3) pa_nil)))))),?_⟩
  rw [show L2.start ["want", "sides", "worths", "rows", "one", "other", "thing", "found"] [.ref a,.ref b] = [some (.ref a),some (.ref b),none,none,none,none,none,none] from rfl]
  (push_cast only [])
  refine ⟨a,b,ns,F0,m,rfl,ha,hb',m5,hF,hl,fun t H1 s1 e1=>?_⟩
  have tl:(turnN ns F0).length=2 ^ m:=by rw [turn_len,hl]
  generalize turnN ns F0=tb at *
  (push_cast only [])
  refine ⟨by decide,fun c nc=>?_⟩
  have ntc:t ≠ c:=ne_of_none e1 nc
  have e2t:upd H1 c (.lst []) t=some (.tup (tb.map V.int)):=by rw [upd_ne ntc];exact e1
  have hs:=sq_tup e2t
  (push_cast only [hs])
  rw [tl]
  refine ⟨m,rfl,m5,fun l ps H3 nl s3 R3 d3 e3=>?_⟩
  have e3c:H3 c=some (.lst []):=s3 _ _ upd_same
  have e3t:=s3 _ _ e2t
  have nlc:l ≠ c:=fun z=>by rw [z,upd_same] at nl;cases nl
  have pl:=places_len m5
  (push_cast only [e3])
  refine fl_seq (EXI a b t c tb m H3) ⟨_,_,_,_,rfl,[],SameX.refl,(fun r hr=>by simp at hr),by simp,e3c,fun p hp=>by simp at hp⟩ (fun j σ H' _ ⟨_,_,_,_,_,_,s,_⟩=>s _ _ nlc e3) ?_ ?_
  ·rintro i x σ H4 hx ⟨v4,v5,v6,v7,rfl,rs,s4,R4,d4,e4,n4⟩
   rw [List.getElem?_map] at hx
   obtain ⟨r,hr',rfl⟩:=Option.map_eq_some_iff.mp hx
   have er3:=R3 r (List.mem_of_getElem? hr')
   have er:=s4 _ _ (fun z=>by rw [z,e3c] at er3;cases er3) er3
   have hp:(placesL m)[i]? = some r.2:=by rw [← d3,List.getElem?_map,hr'];rfl
   obtain ⟨r0,one,other,th⟩:=r
   have pm:=List.mem_of_getElem? hp
   obtain ⟨o1,o2,o3,o4,o5⟩:=places_mem pm
   simp only at o1 o2 o3 o4 o5
   have SH:∀ H5,Same H4 H5→Same H H5:=fun H5 s5 z o e=>by
    have z1:=s1 _ _ e
    have zc:=ne_of_none z1 nc
    exact s5 _ _ (s4 _ _ zc (s3 _ _ (by rw [upd_ne zc];exact z1)))
   (push_cast only [er])
   refine ⟨t,tb,one,other,th,m,rfl,s4 _ _ ntc e3t,tl,m5,o1,o2,o3,fun fo H5 s5 e5=>?_⟩
   have hs5:=sq_lst e5
   have e5c:=s5 _ _ e4
   have rl:rs.length ≤ 5120:=by
    have:=congrArg List.length d4
    rw [List.length_map,List.length_map,List.length_take] at this
    omega
   cases hf:fitL tb one other th m with
   | nil =>
    rw [hf] at e5
    (push_cast only [e5])
    exact q .non none H5 (SH H5 s5) ⟨_,pm,hf⟩ rfl
   | cons ch rest =>
    rw [hf] at e5 hs5
    (push_cast only [e5])
    have ee:(List.isEmpty (vOpt ch :: rest.map vOpt))=false:=rfl
    (push_cast only [e5,hs5,ee])
    refine ⟨_,e5c,by decide,fun z H6 nz s6 e6=>?_⟩
    have e6c:=s6 _ _ e5c
    refine ⟨_,e6c,small10000 (by rw [List.length_map];omega),⟨_,_,_,_,rfl,?_⟩⟩
    refine XRows.put s4 R4 d4 e4 n4 hp (by simp only [hf];exact List.cons_ne_nil _ _) (s5.trans s6) ?_
    rw [e6]
    unfold rowV rowOf
    simp only [hf]
    rfl
  ·rintro σ H4 ⟨v4,v5,v6,v7,rfl,rs,s4,R4,d4,e4,n4⟩
   have le:ps.length=(placesL m).length:=by rw [← d3,List.length_map]
   rw [List.length_map,le,List.take_length] at d4 n4
   (push_cast only [])
   refine ⟨_,e4,fun z H5 nz s5 e5=>?_⟩
   refine q (.ref z) (some _) H5 (fun z' o e=>?_) ⟨rfl,n4⟩ ⟨z,rs,rfl,d4,e5,R4.same s5⟩
   have z1:=s1 _ _ e
   have zc:=ne_of_none z1 nc
   exact s5 _ _ (s4 _ _ zc (s3 _ _ (by rw [upd_ne zc];exact z1)))
theorem out_xor {h t:Nat} (hh:h < 32) (ht:t < 5) (b:bitOn h t=true):out h t=h ^^^ 2 ^ t:=by
 have key:∀ (h:_root_.Fin 32) (t:_root_.Fin 5),bitOn h.val t.val=true→out h.val t.val=h.val ^^^ 2 ^ t.val:=by decide +kernel
 exact key ⟨h,hh⟩ ⟨t,ht⟩ b
theorem exch_ok {ns:List Int} {F m:Nat} (m5:m ≤ 5) (nl:ns.length=2 ^ m) (hF:F < 2 ^ m) (G:Good F m ns) {X Y i:Nat} (hX:X < 2 ^ m) (hY:Y < 2 ^ m) (hi:i < m) (xi:bitOn X i=true) (yi:bitOn Y i=false):fitL (turnN ns F) X Y i m ≠ []:=by
 have p32:=pow32 m5
 have i5:i < 5:=by omega
 have tat:∀ Z,Z < 2 ^ m→(turnN ns F).getD Z 0=ns.getD (Z ^^^ F) 0:=fun Z hZ=>turn_at (by omega)
 have oX:=out_xor (show X < 32 by omega) i5 xi
 have oY:=put_xor (show Y < 32 by omega) i5 yi
 have lX:=xor_lt m5 hX hi
 have lY:=xor_lt m5 hY hi
 obtain ⟨c,hc⟩:∃ c,c ∈ fitL (turnN ns F) X Y i m:=by
  unfold fitL
  rcases exch m5 hF G hX hY hi xi yi with le | ⟨j,hj,yj,xj,le⟩
  ·refine ⟨none,List.mem_filter.mpr ⟨List.mem_cons_self,decide_eq_true ?_⟩⟩
   show (turnN ns F).getD X 0 + (turnN ns F).getD Y 0 ≤ (turnN ns F).getD (out X i) 0 + (turnN ns F).getD (Y ||| 2 ^ i) 0
   rw [oX,oY,tat X hX,tat Y hY,tat _ lX,tat _ lY,xor_rc X _ F,xor_rc Y _ F]
   exact le
  ·have j5:j < 5:=by omega
   have ji:j ≠ i:=fun y=>by rw [y,yi] at yj;cases yj
   have c1:bitOn (X ^^^ 2 ^ i) j=false:=by rw [(bx_facts (show X < 32 by omega) i5 j5).1,xj,decide_eq_false ji];rfl
   have c2:bitOn (Y ^^^ 2 ^ i) j=true:=by rw [(bx_facts (show Y < 32 by omega) i5 j5).1,yj,decide_eq_false ji];rfl
   refine ⟨some j,List.mem_filter.mpr ⟨List.mem_cons_of_mem _ (List.mem_map.mpr ⟨j,goL_mem.mpr ⟨hj,yj,xj⟩,rfl⟩),decide_eq_true ?_⟩⟩
   show (turnN ns F).getD X 0 + (turnN ns F).getD Y 0 ≤ (turnN ns F).getD (out X i ||| 2 ^ j) 0 + (turnN ns F).getD (out (Y ||| 2 ^ i) j) 0
   rw [oX,oY,put_xor (by omega) j5 c1,out_xor (by omega) j5 c2,tat X hX,tat Y hY,tat _ (xor_lt m5 lX hj),tat _ (xor_lt m5 lY hj),xor_rc (X ^^^ 2 ^ i) _ F,xor_rc X _ F,xor_rc (Y ^^^ 2 ^ i) _ F,xor_rc Y _ F]
   exact le
 exact fun z=>by rw [z] at hc;cases hc
end
end K96
end
section
set_option Elab.async false
set_option linter.all false
set_option maxRecDepth 100000
set_option maxHeartbeats 8000000
namespace K96
open PySem L2
section
variable {P:Program} {w:World} {K:PySem.W.Frag} {mg:Str→Option Value} {base:Heap} {f:Addr} {fd:FuncData}
noncomputable def isI:V→Bool
 | .int _=>true
 | _=>false
theorem tyN_isI {H:Hp} {x:V} {t:String} (h:tyN H x=some t):((t == "int" || (t == "bool" && true)) && !(t == "bool"))=isI x:=by
 cases x with
 | non=>cases h;rfl
 | bl b=>cases h;rfl
 | int i=>cases h;rfl
 | str i=>cases h;rfl
 | ref a =>
  cases e:H a with
  | none=>simp [tyN,e] at h
  | some o =>
   cases o with
   | lst xs=>simp [tyN,e] at h;subst h;rfl
   | tup xs=>simp [tyN,e] at h;subst h;rfl
   | dK xs=>simp [tyN,e] at h;subst h;rfl
   | _=>simp [tyN,e] at h
 | _=>cases h
theorem tyN_same {H H':Hp} (s:Same H H') {x:V} {t:String} (h:tyN H x=some t):tyN H' x=some t:=by
 cases x with
 | ref a =>
  cases e:H a with
  | none=>simp [tyN,e] at h
  | some o=>simp only [tyN,e] at h;simp only [tyN,s a o e];exact h
 | _=>exact h
noncomputable def sp_whole:Sp:=fun vs H Q _=>∃ (x:V) (t:String),vs=[x]∧tyN H x=some t∧Q (.bl (isI x)) H
theorem sc_is_whole:FnScope ["thing"] ["thing"] (defScope s_is_whole):=⟨rfl,rfl,rfl,by decide +kernel,rfl,by decide +kernel,by decide +kernel⟩
theorem ok_whole (F:Fun K "is_whole" "is_whole" s_is_whole f fd) (hm:mg "is_whole" = some (.ref f)) (hb:Binds K fd ["thing"] []) (T:Txt mg):Cal P w K mg base "is_whole" ["thing"] 1 sp_whole:=by
 refine cal_of F hm hb sc_is_whole (fun vs H Q E h=>?_) (fun cdv A outer s H vs Q E hr h=>?_)
 ·obtain ⟨_,_,rfl,_⟩:=h;rfl
 ·obtain ⟨x,t,rfl,hx,q⟩:=h
  have sc:=sc_is_whole
  refine ⟨_,pss_one (ps_ret (pe_and (pe_callB isi0 rfl T.isinstance_ bt_isinstance (pa_cns (pv 0) (pa_cns (pe_bltn (v:=.ty "int") rfl T.int_ bt_int rfl) pa_nil))) (pe_one (pe_not (pe_callB isi0 rfl T.isinstance_ bt_isinstance (pa_cns (pv 0) (pa_cns (pe_bltn (v:=.ty "bool") rfl T.bool_ bt_bool rfl) pa_nil))))))),?_⟩
  rw [show L2.start ["thing"] [x] = [some (x)] from rfl]
  rw [← tyN_isI hx] at q
  (push_cast only [])
  refine ⟨_,hx,?_⟩
  obtain ⟨_,ht⟩:=tyN_of (K:=K) hx
  rcases ht with rfl | rfl | rfl | rfl | rfl | rfl | rfl
  all_goals first
   | (rw [if_neg (by decide)];simpa using q)
   | (rw [if_pos (by decide)];refine ⟨_,hx,?_⟩;simpa using q)
noncomputable def Kn (H:Hp) (xs:List V):Prop:=∀ x ∈ xs,∃ t,tyN H x=some t
theorem Kn.same {H H':Hp} (s:Same H H') {xs:List V} (k:Kn H xs):Kn H' xs:=fun x hx=>let ⟨t,e⟩:=k x hx;⟨t,tyN_same s e⟩
theorem Kn.ints {H:Hp} (ns:List Int):Kn H (ns.map V.int):=fun x hx=>by
 obtain ⟨n,_,rfl⟩:=List.mem_map.mp hx
 exact ⟨"int",rfl⟩
noncomputable def sp_wholes:Sp:=fun vs H Q _=>(∃ (x:V) (k:Int) (t:String),vs=[x,.int k]∧tyN H x=some t∧(t == "tuple")=false∧Q (.bl false) H) ∨
 ∃ (a:Addr) (k:Int) (xs:List V),vs=[.ref a,.int k]∧H a=some (.tup xs)∧Kn H xs∧xs.length < 1000∧∀ H',Same H H'→Q (.bl (decide ((xs.length:Int)=k) && xs.all isI)) H'
noncomputable def LWH (c:Addr) (xs:List V) (G:Hp) (i:Nat) (σ:St) (H:Hp):Prop:=∃ v,σ=[v]∧SameX c G H∧H c=some (.lst (((xs.take i).map isI).map V.bl))
theorem sc_are_wholes:FnScope ["thing", "many"] ["thing", "many"] (defScope s_are_wholes):=⟨rfl,rfl,rfl,by decide +kernel,rfl,by decide +kernel,by decide +kernel⟩
theorem ok_wholes (F:Fun K "are_wholes" "are_wholes" s_are_wholes f fd) (hm:mg "are_wholes" = some (.ref f)) (hb:Binds K fd ["thing", "many"] []) (T:Txt mg) (c_is_whole:Cal P w K mg base "is_whole" ["thing"] 1 sp_whole):Cal P w K mg base "are_wholes" ["thing", "many"] 2 sp_wholes:=by
 refine cal_of F hm hb sc_are_wholes (fun vs H Q E h=>?_) (fun cdv A outer s H vs Q E hr h=>?_)
 ·rcases h with h | h
  ·obtain ⟨_,_,_,rfl,_⟩:=h;rfl
  ·obtain ⟨_,_,_,rfl,_⟩:=h;rfl
 ·rcases h with h | h
  ·obtain ⟨x,k,t,rfl,hx,ht,q⟩:=h
   have sc:=sc_are_wholes
   refine ⟨_,pss_one (ps_ret (pe_and (pe_callB isi0 rfl T.isinstance_ bt_isinstance (pa_cns (pv 0) (pa_cns (pe_bltn (v:=.ty "tuple") rfl T.tuple_ bt_tuple rfl) pa_nil))) (pe_and (pe_cmpR op_eq (pe_callB len0 rfl T.len_ bt_len (pa_cns (pv 0) pa_nil)) (pv 1) (nomark _)) (pe_one (pe_callB (all0 rfl) rfl T.all_ bt_all (pa_cns (pe_lc (N:=["part"]) (fr:=[none]) rfl (pi_t0 (pv 0)) (CScope.of rfl rfl rfl) rfl (fun _ _ _=>⟨pg_name (i:=0) (show List.Nodup (α:=Str) ["part"] by decide +kernel) rfl (Or.inl rfl),pif_nil,pe_cal c_is_whole hr (pa_cns (pv 0) pa_nil)⟩)) pa_nil)))))),?_⟩
   rw [show L2.start ["thing", "many"] [x,.int k] = [some (x),some (.int k)] from rfl]
   (push_cast only [])
   refine ⟨_,hx,?_⟩
   (push_cast only [])
   rw [if_neg (by rw [ht];decide)]
   exact q
  ·obtain ⟨a,k,xs,rfl,ha,hk,hlen,q⟩:=h
   have sc:=sc_are_wholes
   refine ⟨_,pss_one (ps_ret (pe_and (pe_callB isi0 rfl T.isinstance_ bt_isinstance (pa_cns (pv 0) (pa_cns (pe_bltn (v:=.ty "tuple") rfl T.tuple_ bt_tuple rfl) pa_nil))) (pe_and (pe_cmpR op_eq (pe_callB len0 rfl T.len_ bt_len (pa_cns (pv 0) pa_nil)) (pv 1) (nomark _)) (pe_one (pe_callB (all0 rfl) rfl T.all_ bt_all (pa_cns (pe_lc (N:=["part"]) (fr:=[none]) rfl (pi_t0 (pv 0)) (CScope.of rfl rfl rfl) rfl (fun _ _ _=>⟨pg_name (i:=0) (show List.Nodup (α:=Str) ["part"] by decide +kernel) rfl (Or.inl rfl),pif_nil,pe_cal c_is_whole hr (pa_cns (pv 0) pa_nil)⟩)) pa_nil)))))),?_⟩
   rw [show L2.start ["thing", "many"] [.ref a,.int k] = [some (.ref a),some (.int k)] from rfl]
   have hsa:=sq_tup ha
   (push_cast only [ha,hsa])
   by_cases hl:(xs.length:Int)=k
   ·rw [if_pos hl]
    intro c nc
    have nac:a ≠ c:=ne_of_none ha nc
    refine cl_seq (LWH c xs H) ⟨none,rfl,SameX.upd,upd_same⟩ (fun j σ H' _ ⟨_,_,s,_⟩=>s _ _ nac ha) ?_ ?_
    ·rintro i x σ H1 hx ⟨v,rfl,s1,e1⟩
     obtain ⟨t,ht⟩:=hk x (List.mem_of_getElem? hx)
     have ht1:=tyN_same (s1.same nc) ht
     have hi:i < xs.length:=(List.getElem?_eq_some_iff.mp hx).1
     (push_cast only [e1])
     refine ⟨_,_,rfl,ht1,?_⟩
     refine ⟨_,e1,small1000 (by rw [List.length_map,List.length_map,List.length_take];omega),⟨_,rfl,s1.trans SameX.upd,?_⟩⟩
     rw [upd_same,List.take_add_one,hx]
     simp
    ·rintro σ H1 ⟨v,rfl,s1,e1⟩
     rw [List.take_length] at e1
     refine ⟨_,sq_lst e1,?_⟩
     have:=q H1 (s1.same nc)
     rw [decide_eq_true hl,Bool.true_and] at this
     rw [List.all_map]
     exact this
   ·rw [if_neg hl]
    have:=q H (Same.refl H)
    rw [decide_eq_false hl,Bool.false_and] at this
    exact this
noncomputable abbrev Row4:=Int × Int × Int × Option Int
noncomputable def vOI:Option Int→V
 | none=>.non
 | some j=>.int j
noncomputable def row4V (r:Row4):List V:=[.int r.1,.int r.2.1,.int r.2.2.1,vOI r.2.2.2]
noncomputable def H4 (H:Hp) (rs:List (Addr × Row4)):Prop:=∀ r ∈ rs,H r.1=some (.tup (row4V r.2))
theorem H4.same {H H':Hp} {rs:List (Addr × Row4)} (h:H4 H rs) (s:Same H H'):H4 H' rs:=fun r hr=>s _ _ (h r hr)
noncomputable def refs4 (rs:List (Addr × Row4)):List V:=rs.map fun r=>V.ref r.1
theorem refs4_len (rs:List (Addr × Row4)):(refs4 rs).length=rs.length:=by unfold refs4;simp
noncomputable def rows4 (rs:List (Addr × Row4)):List Row4:=rs.map fun r=>r.2
noncomputable def row3 (r:Row4):List Int:=[r.1,r.2.1,r.2.2.1]
noncomputable def place3 (p:Nat × Nat × Nat):List Int:=[(p.1:Int),(p.2.1:Int),(p.2.2:Int)]
noncomputable def inC (T:List Int) (m:Nat) (p:Nat × Nat × Nat) (c:Option Int):Bool:=inV (vOI c) ((fitL T p.1 p.2.1 p.2.2 m).map vOpt)
noncomputable def rowOkB (T:List Int) (m:Nat) (p:Nat × Nat × Nat) (r:Row4):Bool:=decide (row3 r=place3 p) && inC T m p r.2.2.2
noncomputable def judge (T:List Int) (m:Nat) (rs:List Row4):Bool:=decide (rs.length=(placesL m).length) && ((placesL m).zip rs).all fun x=>rowOkB T m x.1 x.2
theorem row_cut (r:Row4):cutV (row4V r) none (some 3)=(row3 r).map V.int:=rfl
theorem row_at (r:Row4):atI (row4V r) 3=some (vOI r.2.2.2):=rfl
theorem vOpt_flat (l:List (Option Nat)):(l.map vOpt).all flatV=true:=by
 rw [List.all_map,List.all_eq_true]
 intro x _
 cases x <;> rfl
noncomputable def sp_sx:Sp:=fun vs H Q _=>∃ (a b c:Addr) (T:List Int) (m:Nat) (p:Nat × Nat × Nat) (r:Row4),vs=[.ref a,.ref b,.ref c]∧H a=some (.tup (T.map V.int))∧T.length=2 ^ m∧m ≤ 5∧H b=some (.tup ((place3 p).map V.int))∧p ∈ placesL m∧H c=some (.tup (row4V r))∧∀ H',Same H H'→Q (.bl (rowOkB T m p r)) H'
theorem sc_shows_exchange:FnScope ["worths", "place", "row", "choice", "one", "other", "thing"] ["worths", "place", "row"] (defScope s_shows_exchange):=⟨rfl,rfl,rfl,by decide +kernel,rfl,by decide +kernel,by decide +kernel⟩
theorem ok_sx (F:Fun K "shows_exchange" "shows_exchange" s_shows_exchange f fd) (hm:mg "shows_exchange" = some (.ref f)) (hb:Binds K fd ["worths", "place", "row"] []) (T:Txt mg) (c_are_wholes:Cal P w K mg base "are_wholes" ["thing", "many"] 2 sp_wholes) (c_is_whole:Cal P w K mg base "is_whole" ["thing"] 1 sp_whole) (c_exchanges_at:Cal P w K mg base "exchanges_at" ["worths", "one", "other", "thing"] 4 sp_xat):Cal P w K mg base "shows_exchange" ["worths", "place", "row"] 5 sp_sx:=by
 refine cal_of F hm hb sc_shows_exchange (fun vs H Q E h=>?_) (fun cdv A outer s H vs Q E hr h=>?_)
 ·obtain ⟨_,_,_,_,_,_,_,rfl,_⟩:=h;rfl
 ·obtain ⟨a,b,c,tb,m,p,r,rfl,ha,tl,m5,hb',hp,hc,q⟩:=h
  have sc:=sc_shows_exchange
  obtain ⟨o1,o2,o3,o4,o5⟩:=places_mem hp
  refine ⟨_,pss_cons (ps_if (PW.pt (pw_or (pt_not (pt_val (pe_callB isi0 rfl T.isinstance_ bt_isinstance (pa_cns (pv 2) (pa_cns (pe_bltn (v:=.ty "tuple") rfl T.tuple_ bt_tuple rfl) pa_nil))))) (pw_or (pt_cmpR op_ne (pe_callB len0 rfl T.len_ bt_len (pa_cns (pv 2) pa_nil)) pe_int (nomark _)) (pw_or1 (pt_not (pt_val (pe_cal c_are_wholes hr (pa_cns (pe_slice slA0 (pv 2) po_none (po_some pe_int)) (pa_cns pe_int pa_nil))))))))) (pss_one (ps_ret pe_bl)) pss_nil)
   (pss_cons (ps_set (i:=3) sc.nd rfl (Or.inl rfl) (pe_ix ix0 (pv 2) pe_int (fun _ _=>rfl)))
   (pss_cons (ps_if (PW.pt (pw_and (pt_cmpR op_notN (pv 3) pe_non (nomark _)) (pw_and1 (pt_not (pt_val (pe_cal c_is_whole hr (pa_cns (pv 3) pa_nil))))))) (pss_one (ps_ret pe_bl)) pss_nil)
   (pss_cons (ps_asg (pv 1) (pg_tup0 (n:=3) rfl (pgs_cons (pg_name (i:=4) sc.nd rfl (Or.inl rfl)) (pgs_cons (pg_name (i:=5) sc.nd rfl (Or.inl rfl)) (pgs_cons (pg_name (i:=6) sc.nd rfl (Or.inl rfl)) pgs_nil)))))
   (pss_one (ps_ret (pe_and (pe_cmpR (eqT0 hr.units0) (pe_slice slA0 (pv 2) po_none (po_some pe_int)) (pv 1) (nomark _)) (pe_one (pe_cmpR in0 (pv 3) (pe_cal c_exchanges_at hr (pa_cns (pv 0) (pa_cns (pv 4) (pa_cns (pv 5) (pa_cns (pv 6) pa_nil))))) rfl)))))))),?_⟩
  rw [show L2.start ["worths", "place", "row", "choice", "one", "other", "thing"] [.ref a,.ref b,.ref c] = [some (.ref a),some (.ref b),some (.ref c),none,none,none,none] from rfl]
  have hsc:=sq_tup hc
  have l4:(row4V r).length=4:=rfl
  (push_cast only [hc,hsc,l4])
  rw [if_neg (by decide)]
  refine fun d H1 s1 e1=>?_
  rw [row_cut] at e1
  refine .inr ⟨d,3,_,rfl,e1,Kn.ints _,by simp [row3],fun H2 s2=>?_⟩
  have e0:(decide ((((row3 r).map V.int).length:Int)=3) && ((row3 r).map V.int).all isI)=true:=rfl
  rw [e0]
  have S2:=s1.trans s2
  (push_cast only [])
  refine ⟨_,sq_tup (S2 _ _ hc),_,row_at r,?_⟩
  cases hch:r.2.2.2 with
  | none =>
   rw [show vOI none=V.non from rfl]
   (push_cast only [])
   ·skip
    have e2b:H2 b=some (.tup [.int (p.1:Int),.int (p.2.1:Int),.int (p.2.2:Int)]):=S2 _ _ hb'
    have e2c:=S2 _ _ hc
    (push_cast only [e2b,e2c])
    refine fun d2 H3 s3 e3=>?_
    rw [row_cut] at e3
    have e3b:H3 b=some (.tup ((place3 p).map V.int)):=s3 _ _ (S2 _ _ hb')
    (push_cast only [])
    refine ⟨_,e3,_,e3b,?_⟩
    have S3:=S2.trans s3
    by_cases hz:row3 r=place3 p
    ·rw [if_pos hz]
     refine ⟨a,tb,p.1,p.2.1,p.2.2,m,rfl,S3 _ _ ha,tl,m5,o1,o2,o3,fun l H5 s5 e5=>?_⟩
     (push_cast only [])
     refine ⟨_,sq_lst e5,rfl,vOpt_flat _,?_⟩
     have:=q H5 (S3.trans s5)
     unfold rowOkB inC at this
     rw [hch,decide_eq_true hz,Bool.true_and] at this
     exact this
    ·rw [if_neg hz]
     have:=q H3 S3
     unfold rowOkB at this
     rw [decide_eq_false hz,Bool.false_and] at this
     exact this
  | some ch =>
   rw [show vOI (some ch)=V.int ch from rfl]
   (push_cast only [])
   refine ⟨.int ch, "int",rfl,rfl,?_⟩
   rw [show isI (.int ch)=true from rfl]
   (push_cast only [])
   ·skip
    have e2b:H2 b=some (.tup [.int (p.1:Int),.int (p.2.1:Int),.int (p.2.2:Int)]):=S2 _ _ hb'
    have e2c:=S2 _ _ hc
    (push_cast only [e2b,e2c])
    refine fun d2 H3 s3 e3=>?_
    rw [row_cut] at e3
    have e3b:H3 b=some (.tup ((place3 p).map V.int)):=s3 _ _ (S2 _ _ hb')
    (push_cast only [])
    refine ⟨_,e3,_,e3b,?_⟩
    have S3:=S2.trans s3
    by_cases hz:row3 r=place3 p
    ·rw [if_pos hz]
     refine ⟨a,tb,p.1,p.2.1,p.2.2,m,rfl,S3 _ _ ha,tl,m5,o1,o2,o3,fun l H5 s5 e5=>?_⟩
     (push_cast only [])
     refine ⟨_,sq_lst e5,rfl,vOpt_flat _,?_⟩
     have:=q H5 (S3.trans s5)
     unfold rowOkB inC at this
     rw [hch,decide_eq_true hz,Bool.true_and] at this
     exact this
    ·rw [if_neg hz]
     have:=q H3 S3
     unfold rowOkB at this
     rw [decide_eq_false hz,Bool.false_and] at this
     exact this
noncomputable def sp_sh:Sp:=fun vs H Q _=>∃ (a b c:Addr) (ns:List Int) (F m:Nat) (rs:List (Addr × Row4)),vs=[.ref a,.ref b,.ref c]∧H a=some (.tup (ns.map V.int))∧H b=some (.tup ((bitsL F m).map V.int))∧m ≤ 5∧F < 2 ^ m∧ns.length=2 ^ m∧H c=some (.tup (refs4 rs))∧H4 H rs∧rs.length ≤ 6000∧∀ H',Same H H'→Q (.bl (judge (turnN ns F) m (rows4 rs))) H'
noncomputable def SHI (c t:Addr) (T:List Int) (m:Nat) (rs:List Row4) (G:Hp) (i:Nat) (σ:St) (H:Hp):Prop:=∃ v1 v2:Option V,σ=[v1,v2,some (.ref t)]∧SameX c G H∧H c=some (.lst (((((placesL m).zip rs).take i).map fun x=>rowOkB T m x.1 x.2).map V.bl))
theorem zip_at {α β:Type} {l:List α} {r:List β} {i:Nat} {x:α} {y:β} (h1:l[i]? = some x) (h2:r[i]? = some y):(l.zip r)[i]? = some (x,y):=by
 rw [List.getElem?_zip_eq_some]
 exact ⟨h1,h2⟩
theorem sc_shows_exchanges:FnScope ["want", "sides", "thing", "worths", "places"] ["want", "sides", "thing"] (defScope s_shows_exchanges):=⟨rfl,rfl,rfl,by decide +kernel,rfl,by decide +kernel,by decide +kernel⟩
theorem ok_sh (F:Fun K "shows_exchanges" "shows_exchanges" s_shows_exchanges f fd) (hm:mg "shows_exchanges" = some (.ref f)) (hb:Binds K fd ["want", "sides", "thing"] []) (T:Txt mg) (c_turned:Cal P w K mg base "turned" ["want", "sides"] 3 sp_turned) (c_exchange_places:Cal P w K mg base "exchange_places" ["many"] 3 sp_xpl) (c_shows_exchange:Cal P w K mg base "shows_exchange" ["worths", "place", "row"] 5 sp_sx):Cal P w K mg base "shows_exchanges" ["want", "sides", "thing"] 6 sp_sh:=by
 refine cal_of F hm hb sc_shows_exchanges (fun vs H Q E h=>?_) (fun cdv A outer s H vs Q E hr h=>?_)
 ·obtain ⟨_,_,_,_,_,_,_,rfl,_⟩:=h;rfl
 ·obtain ⟨a,b,c,ns,F0,m,rs,rfl,ha,hb',m5,hF,hl,hc,R,rl,q⟩:=h
  have sc:=sc_shows_exchanges
  refine ⟨_,pss_cons (ps_set (i:=3) sc.nd rfl (Or.inr rfl) (pe_cal c_turned hr (pa_cns (pv 0) (pa_cns (pv 1) pa_nil))))
   (pss_cons (ps_set (i:=4) sc.nd rfl (Or.inl rfl) (pe_cal c_exchange_places hr (pa_cns (pe_callB len0 rfl T.len_ bt_len (pa_cns (pv 3) pa_nil)) pa_nil)))
   (pss_cons (ps_if (PW.pt (pw_or (pt_not (pt_val (pe_callB isi0 rfl T.isinstance_ bt_isinstance (pa_cns (pv 2) (pa_cns (pe_bltn (v:=.ty "tuple") rfl T.tuple_ bt_tuple rfl) pa_nil))))) (pw_or1 (pt_cmpR op_ne (pe_callB len0 rfl T.len_ bt_len (pa_cns (pv 2) pa_nil)) (pe_callB len0 rfl T.len_ bt_len (pa_cns (pv 4) pa_nil)) (nomark _))))) (pss_one (ps_ret pe_bl)) pss_nil)
   (pss_one (ps_ret (pe_callB (all0 rfl) rfl T.all_ bt_all (pa_cns (pe_lc (N:=["place", "row", "worths"]) (fr:=[none,none,some 3]) rfl (pi_zip rfl T.zip_ (pa_cns (pv 4) (pa_cns (pv 2) pa_nil))) (CScope.of rfl rfl rfl) rfl (fun _ _ _=>⟨pg_tup0 (n:=2) rfl (pgs_cons (pg_name (i:=0) (show List.Nodup (α:=Str) ["place", "row", "worths"] by decide +kernel) rfl (Or.inl rfl)) (pgs_cons (pg_name (i:=1) (show List.Nodup (α:=Str) ["place", "row", "worths"] by decide +kernel) rfl (Or.inl rfl)) pgs_nil)),pif_nil,pe_cal c_shows_exchange hr (pa_cns (pv 2) (pa_cns (pv 0) (pa_cns (pv 1) pa_nil)))⟩)) pa_nil)))))),?_⟩
  rw [show L2.start ["want", "sides", "thing", "worths", "places"] [.ref a,.ref b,.ref c] = [some (.ref a),some (.ref b),some (.ref c),none,none] from rfl]
  (push_cast only [])
  refine ⟨a,b,ns,F0,m,rfl,ha,hb',m5,hF,hl,fun t H1 s1 e1=>?_⟩
  have tl:(turnN ns F0).length=2 ^ m:=by rw [turn_len,hl]
  generalize turnN ns F0=tb at *
  have hs:=sq_tup e1
  (push_cast only [hs])
  rw [tl]
  refine ⟨m,rfl,m5,fun l ps H2 nl s2 R2 d2 e2=>?_⟩
  have S2:=s1.trans s2
  have e2c:=S2 _ _ hc
  have hs2c:=sq_tup e2c
  have hs2l:=sq_lst e2
  have pl:ps.length=(placesL m).length:=by rw [← d2,List.length_map]
  (push_cast only [e2c,hs2c,hs2l])
  rw [refs4_len]
  by_cases hz:rs.length=ps.length
  ·rw [if_neg (by simp [hz])]
   refine ⟨_,_,_,.inl ⟨rfl,e2⟩,_,.inr ⟨rfl,e2c⟩,fun d nd=>?_⟩
   have nld:l ≠ d:=ne_of_none e2 nd
   have ncd:c ≠ d:=ne_of_none e2c nd
   have e2t:=s2 _ _ e1
   have ntd:t ≠ d:=ne_of_none e2t nd
   have zl:((placesL m).zip (rows4 rs)).length ≤ 6000:=by
    rw [List.length_zip]
    unfold rows4
    rw [List.length_map]
    omega
   refine cl_zip (SHI d t tb m (rows4 rs) H2) ⟨none,none,rfl,SameX.upd,upd_same⟩ (fun i σ H1 ⟨_,_,_,s,_⟩=>⟨.inl ⟨rfl,s _ _ nld e2⟩,.inr ⟨rfl,s _ _ ncd e2c⟩⟩) ?_ ?_
   ·rintro k u v T' σ H3 H4' hu hv ⟨v1,v2,rfl,s3,e3⟩ nt s4 e4
    rw [List.getElem?_map] at hu
    unfold refs4 at hv
    rw [List.getElem?_map] at hv
    obtain ⟨x,hx,rfl⟩:=Option.map_eq_some_iff.mp hu
    obtain ⟨y,hy,rfl⟩:=Option.map_eq_some_iff.mp hv
    have hp:(placesL m)[k]? = some x.2:=by rw [← d2,List.getElem?_map,hx];rfl
    have hyr:(rows4 rs)[k]? = some y.2:=by unfold rows4;rw [List.getElem?_map,hy];rfl
    have f1:=R2 x (List.mem_of_getElem? hx)
    have f2:=S2 _ _ (R y (List.mem_of_getElem? hy))
    have g1:=s4 _ _ (s3 _ _ (ne_of_none f1 nd) f1)
    have g2:=s4 _ _ (s3 _ _ (ne_of_none f2 nd) f2)
    have g3:=s4 _ _ (s3 _ _ ntd e2t)
    have ec:=s4 _ _ e3
    (push_cast only [e4])
    refine ⟨t,x.1,y.1,tb,m,x.2,y.2,rfl,g3,tl,m5,g1,List.mem_of_getElem? hp,g2,fun H5 s5=>?_⟩
    have ec5:=s5 _ _ ec
    (push_cast only [ec5])
    refine ⟨small10000 (by first | omega | (rw [List.length_take];omega)),⟨_,_,rfl,((s3.trans s4.x).trans s5.x).trans SameX.upd,?_⟩⟩
    rw [upd_same,List.take_add_one,zip_at hp hyr]
    simp
   ·rintro σ H3 ⟨v1,v2,rfl,s3,e3⟩
    refine ⟨_,sq_lst e3,?_⟩
    have:=q H3 (S2.trans (s3.same nd))
    unfold judge at this
    have hz':(rows4 rs).length=(placesL m).length:=by unfold rows4;rw [List.length_map,hz,pl]
    rw [decide_eq_true hz',Bool.true_and] at this
    rw [List.length_map,refs4_len,← hz,Nat.min_self]
    have tk:((placesL m).zip (rows4 rs)).take rs.length=(placesL m).zip (rows4 rs):=List.take_of_length_le (by rw [List.length_zip,hz'];omega)
    rw [tk,List.all_map]
    exact this
  ·rw [if_pos (by simp;omega)]
   have:=q H2 S2
   unfold judge at this
   rw [decide_eq_false (fun z=>hz (by unfold rows4 at z;rw [List.length_map] at z;omega)),Bool.false_and] at this
   exact this
noncomputable def toR4 (r:Row):Row4:=((r.1:Int),(r.2.1:Int),(r.2.2.1:Int),r.2.2.2.map fun n:Nat=>(n:Int))
theorem row_to (r:Row):row4V (toR4 r)=rowV r:=by
 obtain ⟨a,b,c,d⟩:=r
 cases d <;> rfl
noncomputable def placeOf (r:Row):Nat × Nat × Nat:=(r.1,r.2.1,r.2.2.1)
structure Pap (H:Hp) (T:List Int) (m n:Nat) (xs:List (Addr × Row)):Prop where
 row:∀ x ∈ xs,H x.1=some (.tup (rowV x.2))
 pl:(xs.map fun x=>placeOf x.2)=(placesL m).take n
 fit:∀ x ∈ xs,x.2.2.2.2 ∈ fitL T x.2.1 x.2.2.1 x.2.2.2.1 m
theorem Pap.len {H:Hp} {T:List Int} {m n:Nat} {xs:List (Addr × Row)} (h:Pap H T m n xs):xs.length ≤ n:=by
 have:=congrArg List.length h.pl
 rw [List.length_map,List.length_take] at this
 omega
noncomputable def KT (H H':Hp):Prop:=∀ a xs,H a=some (.tup xs)→H' a=some (.tup xs)
theorem KT.trans {H H' H'':Hp} (a:KT H H') (b:KT H' H''):KT H H'':=fun x l e=>b x l (a x l e)
theorem KT.same {H H':Hp} (s:Same H H'):KT H H':=fun a xs e=>s _ _ e
theorem KT.x {H H':Hp} {p:Addr} {zs:List V} (e:H p=some (.lst zs)) (s:SameX p H H'):KT H H':=fun a xs h=>s _ _ (fun z=>by rw [z,e] at h;cases h) h
theorem Pap.more {H:Hp} {T:List Int} {m n:Nat} {xs:List (Addr × Row)} {y:Addr} {r:Row} (h:Pap H T m n xs) (hp:(placesL m)[n]? = some (placeOf r)) (e:H y=some (.tup (rowV r))) (ft:r.2.2.2 ∈ fitL T r.1 r.2.1 r.2.2.1 m):Pap H T m (n + 1) (xs ++ [(y,r)]):=by
 refine ⟨fun x hx=>?_,?_,fun x hx=>?_⟩
 ·rcases List.mem_append.mp hx with z | z
  ·exact h.row x z
  ·rw [List.mem_singleton.mp z];exact e
 ·rw [List.map_append,h.pl,List.take_add_one,hp]
  rfl
 ·rcases List.mem_append.mp hx with z | z
  ·exact h.fit x z
  ·rw [List.mem_singleton.mp z];exact ft
theorem inV_opt {c:Option Nat} {l:List (Option Nat)} (h:c ∈ l):inV (vOI (c.map fun n:Nat=>(n:Int))) (l.map vOpt)=true:=by
 unfold inV
 rw [List.any_eq_true]
 refine ⟨vOpt c,List.mem_map.mpr ⟨c,h,rfl⟩,?_⟩
 cases c <;> simp [vOI,vOpt,eqV]
theorem pap_judge {H:Hp} {T:List Int} {m:Nat} {xs:List (Addr × Row)} (h:Pap H T m (placesL m).length xs):judge T m (xs.map fun x=>toR4 x.2)=true:=by
 have pl:=h.pl
 rw [List.take_length] at pl
 unfold judge
 rw [List.length_map]
 have len:xs.length=(placesL m).length:=by rw [← pl,List.length_map]
 rw [decide_eq_true len,Bool.true_and,List.all_eq_true]
 intro x hx
 obtain ⟨i,hi,e⟩:=List.getElem_of_mem hx
 rw [List.length_zip,List.length_map] at hi
 have ix:i < xs.length:=by omega
 have e1:x.1=placeOf xs[i].2:=by
  rw [← e,List.getElem_zip]
  show (placesL m)[i] = _
  have:(placesL m)[i]? = some (placeOf xs[i].2):=by rw [← pl,List.getElem?_map,List.getElem?_eq_getElem ix];rfl
  exact (List.getElem?_eq_some_iff.mp this).2
 have e2:x.2=toR4 xs[i].2:=by
  rw [← e,List.getElem_zip]
  simp
 have ft:=h.fit xs[i] (List.getElem_mem ix)
 unfold rowOkB
 rw [e1,e2]
 show (decide (row3 (toR4 xs[i].2)=place3 (placeOf xs[i].2)) && inC T m (placeOf xs[i].2) (toR4 xs[i].2).2.2.2)=true
 rw [decide_eq_true (show row3 (toR4 xs[i].2)=place3 (placeOf xs[i].2) from rfl),Bool.true_and]
 exact inV_opt ft
end
end K96
end
section
set_option Elab.async false
set_option linter.all false
set_option maxRecDepth 100000
set_option maxHeartbeats 8000000
namespace K96
open PySem L2
section
variable {P:Program} {w:World} {K:PySem.W.Frag} {mg:Str→Option Value} {base:Heap} {f:Addr} {fd:FuncData}
noncomputable def sp_none:Sp:=fun _ _ _ _=>False
theorem cal_none {x:Str} {ps:List Str} {st:Stmt} (F:Fun K x x st f fd) (hm:mg x=some (.ref f)) (hb:Binds K fd ps []):Cal P w K mg base x ps 0 sp_none :=
 ⟨f,fd,⟨fun _ _ _ _ h=>h.elim,fun _ _ _ _ _ _ _ _ _ _ _ _ _ h=>h.elim⟩,hm,F.kp,hb⟩
noncomputable def sp_prb:Sp:=fun vs H Q _=>∃ (wn sd:Addr) (ns:List Int) (F m:Nat),vs=[.ref wn,.ref sd]∧H wn=some (.tup (ns.map V.int))∧H sd=some (.tup ((bitsL F m).map V.int))∧m ≤ 5∧F < 2 ^ m∧ns.length=2 ^ m∧NoneP (turnN ns F) m∧NoneT (turnN ns F) m∧∀ H',Same H H'→Q .non H'
theorem sc_price_break:FnScope ["want", "sides", "broken", "worths", "heap", "i", "j", "near", "prices", "thing", "price"] ["want", "sides"] (defScope s_price_break):=⟨rfl,rfl,rfl,by decide +kernel,rfl,by decide +kernel,by decide +kernel⟩
theorem ok_prb (F:Fun K "price_break" "price_break" s_price_break f fd) (hm:mg "price_break" = some (.ref f)) (hb:Binds K fd ["want", "sides"] []) (T:Txt mg) (c_breaking:Cal P w K mg base "breaking" ["want", "sides"] 5 sp_breaking) (c_turned:Cal P w K mg base "turned" ["want", "sides"] 3 sp_turned) (c_pair_prices:Cal P w K mg base "pair_prices" ["worths", "heap", "i", "j"] 0 sp_none) (c_three_prices:Cal P w K mg base "three_prices" ["worths", "heap", "i", "j", "k"] 0 sp_none) (c_far_prices:Cal P w K mg base "far_prices" ["worths", "heap", "many"] 0 sp_none) (c_with_signs:Cal P w K mg base "with_signs" ["prices", "sides"] 0 sp_none) (c_put_in:Cal P w K mg base "put_in" ["heap", "thing"] 1 sp_put) (c_heap_of_side:Cal P w K mg base "heap_of_side" ["sides", "side"] 2 sp_side):Cal P w K mg base "price_break" ["want", "sides"] 6 sp_prb:=by
 refine cal_of F hm hb sc_price_break (fun vs H Q E h=>?_) (fun cdv A outer s H vs Q E hr h=>?_)
 ·obtain ⟨_,_,_,_,_,rfl,_⟩:=h;rfl
 ·obtain ⟨wn,sd,ns,Fn,m,rfl,hwn,hsd,m5,hF,nl,np,nt,q⟩:=h
  have sc:=sc_price_break
  refine ⟨_,pss_consL (ps_set (i:=2) sc.nd rfl (Or.inl rfl) (pe_cal c_breaking hr (pa_cns (pv 0) (pa_cns (pv 1) pa_nil))))
   (pss_consL (ps_if (pt_cmpR op_isN (pv 2) pe_non (nomark _)) (pss_one (ps_ret pe_non)) pss_nil)
   (pss_consL (ps_set (i:=3) sc.nd rfl (Or.inl rfl) (pe_cal c_turned hr (pa_cns (pv 0) (pa_cns (pv 1) pa_nil))))
   (pss_consL (ps_asg (pe_slice slA0 (pv 2) (po_some pe_int) (po_some pe_int)) (pg_tup0 (n:=3) rfl (pgs_cons (pg_name (i:=4) sc.nd rfl (Or.inl rfl)) (pgs_cons (pg_name (i:=5) sc.nd rfl (Or.inl rfl)) (pgs_cons (pg_name (i:=6) sc.nd rfl (Or.inl rfl)) pgs_nil)))))
   (pss_consL (ps_if (pt_cmpR op_eq (pe_ix ix0 (pv 2) pe_int (fun _ _=>rfl)) pe_str (nomark _)) (pss_one (ps_set (i:=7) sc.nd rfl (Or.inl rfl) (pe_cal c_pair_prices hr (pa_cns (pv 3) (pa_cns (pv 4) (pa_cns (pv 5) (pa_cns (pv 6) pa_nil))))))) (pss_one (ps_set (i:=7) sc.nd rfl (Or.inl rfl) (pe_cal c_three_prices hr (pa_cns (pv 3) (pa_cns (pv 4) (pa_cns (pv 5) (pa_cns (pv 6) (pa_cns (pe_ix ix0 (pv 2) pe_int (fun _ _=>rfl)) pa_nil)))))))))
   (pss_consL (ps_set (i:=8) sc.nd rfl (Or.inl rfl) (pe_cal c_far_prices hr (pa_cns (pv 3) (pa_cns (pv 4) (pa_cns (pe_callB len0 rfl T.len_ bt_len (pa_cns (pv 1) pa_nil)) pa_nil)))))
   (pss_consL (ps_for PassesOwn.never rfl (pi_zip rfl T.zip_ (pa_cns (pe_slice slA0 (pv 2) (po_some pe_int) po_none) (pa_cns (pv 7) pa_nil))) (pg_tup0 (n:=2) rfl (pgs_cons (pg_name (i:=9) sc.nd rfl (Or.inl rfl)) (pgs_cons (pg_name (i:=10) sc.nd rfl (Or.inl rfl)) pgs_nil)))
    (pss_one (ps_asg (pv 10) (pg_sub (pv 8) (pv 9) set_list))))
   (pss_one (ps_ret (pe_tupA (pa_cns (pe_cal c_with_signs hr (pa_cns (pv 8) (pa_cns (pv 1) pa_nil))) (pa_cns (pv 5) (pa_cns (pe_op op_xor (pe_cal c_put_in hr (pa_cns (pe_cal c_put_in hr (pa_cns (pv 4) (pa_cns (pv 5) pa_nil))) (pa_cns (pv 6) pa_nil))) (pe_cal c_heap_of_side hr (pa_cns (pv 1) (pa_cns pe_int pa_nil)))) pa_nil)))))))))))),?_⟩
  rw [show L2.start ["want", "sides", "broken", "worths", "heap", "i", "j", "near", "prices", "thing", "price"] [.ref wn,.ref sd] = [some (.ref wn),some (.ref sd),none,none,none,none,none,none,none,none,none] from rfl]
  (push_cast only [])
  refine ⟨wn,sd,ns,Fn,m,rfl,hwn,hsd,m5,hF,nl,fun v o H1 s1 bk rp=>?_⟩
  rcases bk with ⟨rfl,_,_⟩ | ⟨S,i,j,rfl,ok,pb,_⟩ | ⟨S,i,j,k,rfl,_,ok,tb,_⟩
  ·have:v = .non:=rp
   subst this
   (push_cast only [])
   (simp only [a_laterH])
   (push_cast only [])
   exact q H1 s1
  ·exact absurd pb (np _ _ _ ok)
  ·exact absurd tb (nt _ _ _ _ ok)
end
end K96
end
section
set_option Elab.async false
set_option linter.all false
set_option maxRecDepth 100000
set_option maxHeartbeats 8000000
namespace K96
open PySem L2
section
variable {P:Program} {w:World} {K:PySem.W.Frag} {mg:Str→Option Value} {base:Heap} {f:Addr} {fd:FuncData}
theorem box_ne_tup {H:Hp} {p t:Addr} {xs:List V} (bx:Box H p) (e:H t=some (.tup xs)):t ≠ p:=by
 rintro rfl
 obtain ⟨_,_,_,z⟩:=bx
 rw [e] at z
 cases z
theorem PRs.keep {H H':Hp} {F m:Nat} {p c:Addr} {rs:List (Addr × Edge)} {zs:List V} (h:PRs H F m rs) (bx:Box H p) (hc:H c=some (.lst zs)) (k:∀ b o,b ≠ p→b ≠ c→H b=some o→H' b=some o):PRs H' F m rs:=fun r hr=>by
 obtain ⟨e,ok⟩:=h r hr
 refine ⟨k _ _ (box_ne_tup bx e) (fun z=>?_) e,ok⟩
 rw [z,hc] at e
 cases e
theorem ins_rows (rs:List (Addr × Edge)) (r:Nat) (x:Addr × Edge):insV (refsP rs) r (.ref x.1)=refsP (rs.take r ++ x :: rs.drop r):=by
 unfold insV refsP
 simp
theorem refsP_len (rs:List (Addr × Edge)):(refsP rs).length=rs.length:=by unfold refsP;simp
noncomputable def sp_rows:Sp:=fun vs H Q _=>∃ (p a:Addr) (F m:Nat),vs=[.ref p,.ref a]∧Box H p∧H a=some (.tup ((bitsL F m).map V.int))∧m ≤ 5∧∀ (t:Addr) (rs:List (Addr × Edge)) (H':Hp),PRs H' F m rs→Box H' p→SameX p H H'→H' t=some (.tup (refsP rs))→Q (.ref t) H'
noncomputable def R1 (p a c:Addr) (F m:Nat) (G:Hp) (i:Nat) (σ:St) (H:Hp):Prop:=∃ (v3 v4 v5:Option V) (rs:List (Addr × Edge)),σ=[some (.ref p),some (.ref a),some (.ref c),v3,v4,v5]∧rs.length ≤ 5 * i∧PRs H F m rs∧Box H p∧(∀ b o,b ≠ p→b ≠ c→G b=some o→H b=some o)∧H c=some (.lst (refsP rs))
noncomputable def R2 (p a c:Addr) (F m i:Nat) (G:Hp) (j:Nat) (σ:St) (H:Hp):Prop:=∃ (v4 v5:Option V) (rs:List (Addr × Edge)),σ=[some (.ref p),some (.ref a),some (.ref c),some (.int (i:Int)),v4,v5]∧rs.length ≤ 5 * i + j∧PRs H F m rs∧Box H p∧(∀ b o,b ≠ p→b ≠ c→G b=some o→H b=some o)∧H c=some (.lst (refsP rs))
theorem sc__law_rows:FnScope ["_law_box_here", "_law_sides", "_law_found", "_law_one", "_law_other", "_law_row"] ["_law_box_here", "_law_sides"] (defScope s__law_rows):=⟨rfl,rfl,rfl,by decide +kernel,rfl,by decide +kernel,by decide +kernel⟩
theorem ok_rows (F:Fun K "_law_rows" "_law_rows" s__law_rows f fd) (hm:mg "_law_rows" = some (.ref f)) (hb:Binds K fd ["_law_box_here", "_law_sides"] []) (T:Txt mg) (c__law_take:Cal P w K mg base "_law_take" ["_law_box_here", "_law_many_here"] 1 spTake):Cal P w K mg base "_law_rows" ["_law_box_here", "_law_sides"] 2 sp_rows:=by
 refine cal_of F hm hb sc__law_rows (fun vs H Q E h=>?_) (fun cdv A outer s H vs Q E hr h=>?_)
 ·obtain ⟨_,_,_,_,rfl,_⟩:=h;rfl
 ·obtain ⟨p,a,F0,m,rfl,bx,ha,w5,q⟩:=h
  have sc:=sc__law_rows
  have nap:=box_ne_tup bx ha
  refine ⟨_,pss_cons (ps_set (i:=2) sc.nd rfl (Or.inl rfl) (pe_lst pa_nil))
   (pss_cons (ps_for PassesOwn.never rfl (pi_range1 rfl T.range_ (pa_cns (pe_callB len0 rfl T.len_ bt_len (pa_cns (pv 1) pa_nil)) pa_nil)) (pg_name (i:=3) sc.nd rfl (Or.inl rfl))
    (pss_one (ps_for PassesOwn.never rfl (pi_range1 rfl T.range_ (pa_cns (pe_callB len0 rfl T.len_ bt_len (pa_cns (pv 1) pa_nil)) pa_nil)) (pg_name (i:=4) sc.nd rfl (Or.inl rfl))
    (pss_one (ps_if (PW.pt (pw_and (pt_cmpR op_eq (pe_ix ix0 (pv 1) (pv 3) (fun _ _=>rfl)) pe_int (nomark _)) (pw_and (pt_cmpR op_eq (pe_ix ix0 (pv 1) (pv 4) (fun _ _=>rfl)) pe_int (nomark _)) (pw_and1 (pt_cmpR op_gt (pe_cal c__law_take hr (pa_cns (pv 0) (pa_cns pe_int pa_nil))) pe_int (nomark _)))))) (pss_cons (ps_set (i:=5) sc.nd rfl (Or.inl rfl) (pe_tupA (pa_cns (pv 3) (pa_cns (pv 4) (pa_cns (pe_cal c__law_take hr (pa_cns (pv 0) (pa_cns (pe_ix ix0 (pe_lst (pa_cns pe_int (pa_cns pe_int (pa_cns pe_int pa_nil)))) (pe_cal c__law_take hr (pa_cns (pv 0) (pa_cns pe_int pa_nil))) (fun _ _=>rfl)) pa_nil))) pa_nil)))))
   (pss_one (ps_expr (pe_insert (pv 2) (pa_cns (pe_cal c__law_take hr (pa_cns (pv 0) (pa_cns (pe_op op_add (pe_callB len0 rfl T.len_ bt_len (pa_cns (pv 2) pa_nil)) pe_int) pa_nil))) (pa_cns (pv 5) pa_nil)))))) pss_nil)))))
   (pss_one (ps_ret (pe_callTy tupA0 rfl T.tuple_ bt_tuple (pa_cns (pv 2) pa_nil))))),?_⟩
  rw [show L2.start ["_law_box_here", "_law_sides", "_law_found", "_law_one", "_law_other", "_law_row"] [.ref p,.ref a] = [some (.ref p),some (.ref a),none,none,none,none] from rfl]
  (push_cast only [])
  refine ⟨by decide,fun c nc=>?_⟩
  have npc:=bx.ne nc
  have nac:a ≠ c:=ne_of_none ha nc
  have hs0:=sq_tup (show upd H c (.lst []) a=_ by rw [upd_ne nac];exact ha)
  (push_cast only [hs0])
  rw [bits_len]
  refine ⟨by omega,by omega,fl_range (R1 p a c F0 m H) ⟨none,none,none,[],rfl,by simp,fun r hr=>by simp at hr,bx.upd npc,fun b o _ n e=>by rw [upd_ne n];exact e,upd_same⟩ ?_ ?_⟩
  ·rintro i σ H1 hi ⟨v3,v4,v5,rs,rfl,rl,R,bx1,k1,e1⟩
   rw [Int.toNat_natCast] at hi
   have hs1:=sq_tup (k1 _ _ nap nac ha)
   (push_cast only [hs1])
   rw [bits_len]
   refine ⟨by omega,by omega,fl_range (R2 p a c F0 m i H) ⟨_,_,rs,rfl,by omega,R,bx1,k1,e1⟩ ?_ ?_⟩
   ·rintro j σ H2 hj ⟨w4,w5',rs2,rfl,rl2,R2',bx2,k2,e2⟩
    rw [Int.toNat_natCast] at hj
    have hs2:=sq_tup (k2 _ _ nap nac ha)
    have at1:=at_int (ns:=bitsL F0 m) (n:=i) (by rw [bits_len];exact hi)
    have at2:=at_int (ns:=bitsL F0 m) (n:=j) (by rw [bits_len];exact hj)
    rw [bits_at hi] at at1
    rw [bits_at hj] at at2
    have stay:∀ H3,(∀ b o,b ≠ p→b ≠ c→H2 b=some o→H3 b=some o)→Box H3 p→H3 c=some (.lst (refsP rs2))→R2 p a c F0 m i H (j + 1) [some (.ref p),some (.ref a),some (.ref c),some (.int (i:Int)),some (.int (j:Int)),w5'] H3:=fun H3 k3 bx3 e3=>⟨_,_,rs2,rfl,by omega,R2'.keep bx2 e2 k3,bx3,fun b o n1 n2 e=>k3 b o n1 n2 (k2 b o n1 n2 e),e3⟩
    (push_cast only [hs2,at1,at2])
    cases z1:bitOn F0 i with
    | true =>
     rw [if_neg (by simp)]
     (push_cast only [])
     exact stay H2 (fun _ _ _ _ e=>e) bx2 e2
    | false =>
     rw [if_pos (by simp)]
     cases z2:bitOn F0 j with
     | false =>
      rw [if_neg (by simp)]
      (push_cast only [])
      exact stay H2 (fun _ _ _ _ e=>e) bx2 e2
     | true =>
      rw [if_pos (by simp)]
      (push_cast only [])
      refine ⟨p,4,rfl,bx2,by decide,by decide,fun r3 H3 r30 r31 bx3 bt3=>?_⟩
      have e3:H3 c=some (.lst (refsP rs2)):=by rw [bt3 c npc.symm];exact e2
      have k3:∀ b o,b ≠ p→b ≠ c→H2 b=some o→H3 b=some o:=fun b o n1 _ e=>by rw [bt3 b n1];exact e
      (push_cast only [])
      split
      ·(push_cast only [])
       refine ⟨by decide,fun d nd=>?_⟩
       have npd:=bx3.ne nd
       refine ⟨p,3,rfl,bx3.upd npd,by decide,by decide,fun r4 H4 r40 r41 bx4 bt4=>?_⟩
       have hs4:=sq_lst (show H4 d=_ by rw [bt4 d npd.symm];exact upd_same)
       obtain ⟨most,hat4,mo0,mo1⟩:∃ most:Int,atI [V.int 3,V.int 10,V.int 1001] r4=some (.int most)∧0 < most∧most ≤ 1001:=by
        have h3:r4=0∨r4=1∨r4=2:=by omega
        rcases h3 with rfl | rfl | rfl
        ·exact ⟨3,rfl,by decide,by decide⟩
        ·exact ⟨10,rfl,by decide,by decide⟩
        ·exact ⟨1001,rfl,by decide,by decide⟩
       (push_cast only [hs4,hat4])
       refine ⟨p,most,rfl,bx4,mo0,by omega,fun wt H5 wt0 wt1 bx5 bt5=>?_⟩
       (push_cast only [])
       refine ⟨by decide,fun y H6 ny s6 e6=>?_⟩
       have k56:∀ b o,b ≠ p→H3 b=some o→H6 b=some o:=fun b o n e=>s6 _ _ (by rw [bt5 b n,bt4 b n,upd_ne (ne_of_none e nd)];exact e)
       have e6c:=k56 _ _ npc.symm e3
       have hs6:=sq_lst e6c
       have bx6:=bx5.same s6
       (push_cast only [e6c,hs6])
       rw [refsP_len]
       refine ⟨p,(rs2.length:Int) + 1,rfl,bx6,by omega,by omega,fun r7 H7 r70 r71 bx7 bt7=>?_⟩
       obtain ⟨rn,rfl⟩:=Int.eq_ofNat_of_zero_le r70
       have e7c:H7 c=some (.lst (refsP rs2)):=by rw [bt7 c npc.symm];exact e6c
       have e7y:H7 y=some (.tup [.int (i:Int),.int (j:Int),.int wt]):=by rw [bt7 y (box_ne_tup bx6 e6)];exact e6
       have nyc:y ≠ c:=fun z=>by rw [z,e7c] at e7y;cases e7y
       (push_cast only [e7c])
       refine ⟨_,_,rn,rfl,rfl,rfl,by rw [refsP_len];omega,small1000 (by rw [refsP_len];omega),?_⟩
       rw [ins_rows rs2 rn (y,i,j,wt)]
       have k7:∀ b o,b ≠ p→b ≠ c→H2 b=some o→upd H7 c (.lst (refsP (rs2.take rn ++ (y,i,j,wt) :: rs2.drop rn))) b=some o:=fun b o n1 n2 e=>by
        rw [upd_ne n2,bt7 b n1]
        exact k56 b o n1 (k3 b o n1 n2 e)
       refine ⟨_,_,_,rfl,?_,fun r hr'=>?_,bx7.upd npc,fun b o n1 n2 e=>k7 b o n1 n2 (k2 b o n1 n2 e),upd_same⟩
       ·simp only [List.length_append,List.length_cons,List.length_take,List.length_drop]
        omega
       ·have hr2:r=(y,i,j,wt)∨r ∈ rs2:=by
         rcases List.mem_append.mp hr' with z | z
         ·exact .inr (List.mem_of_mem_take z)
         ·rcases List.mem_cons.mp z with z | z
          ·exact .inl z
          ·exact .inr (List.mem_of_mem_drop z)
        rcases hr2 with rfl | z
        ·exact ⟨by rw [upd_ne nyc];exact e7y,⟨hi,hj,z1,z2⟩⟩
        ·exact (R2'.keep bx2 e2 k7) r z
      ·(push_cast only [])
       exact stay H3 k3 bx3 e3
   ·rintro σ H2 ⟨w4,w5',rs2,rfl,rl2,R2',bx2,k2,e2⟩
    rw [Int.toNat_natCast] at rl2
    exact ⟨_,_,_,rs2,rfl,by omega,R2',bx2,k2,e2⟩
  ·rintro σ H1 ⟨v3,v4,v5,rs,rfl,rl,R,bx1,k1,e1⟩
   (push_cast only [])
   refine ⟨_,e1,fun l H2 nl s2 e2=>?_⟩
   exact q l rs H2 (R.same s2) (bx1.same s2) (fun b o n e=>s2 _ _ (k1 b o n (ne_of_none e nc) e)) e2
noncomputable def Slot (o:Nat):Prop:=o=10∨o=30∨o=50∨o=70
theorem flat_ints (ss:List Int):(ss.map V.int).all flatV=true:=by
 rw [List.all_map,List.all_eq_true]
 intro x _
 rfl
theorem bits_zero {F m:Nat} (m5:m ≤ 5) (hF:F < 2 ^ m) (n:inV (V.int 1) ((bitsL F m).map V.int)=false):F=0:=by
 rcases Nat.eq_zero_or_pos F with z | z
 ·exact z
 ·obtain ⟨t,ht,b⟩:=a_bit m5 hF (by omega)
  have:inV (V.int 1) ((bitsL F m).map V.int)=true:=by
   unfold inV
   rw [List.any_eq_true]
   refine ⟨V.int 1,List.mem_map.mpr ⟨1,?_,rfl⟩,by simp [eqV]⟩
   unfold bitsL
   exact List.mem_map.mpr ⟨t,List.mem_range.mpr ht,by rw [b];rfl⟩
  rw [n] at this
  cases this
noncomputable def sp_first:Sp:=fun vs H Q _=>∃ (p a:Addr) (F m:Nat),vs=[.ref p,.ref a]∧Box H p∧H a=some (.tup ((bitsL F m).map V.int))∧1 ≤ m∧m ≤ 5∧F < 2 ^ m∧∀ (t:Addr) (ns:List Int) (H':Hp),ns.length=2 ^ m→(∀ o,Slot o→One o F m ns)→Box H' p→SameX p H H'→H' t=some (.tup (ns.map V.int))→Q (.ref t) H'
theorem sc__law_first:FnScope ["_law_box_here", "_law_sides", "_law_way"] ["_law_box_here", "_law_sides"] (defScope s__law_first):=⟨rfl,rfl,rfl,by decide +kernel,rfl,by decide +kernel,by decide +kernel⟩
theorem ok_first (F:Fun K "_law_first" "_law_first" s__law_first f fd) (hm:mg "_law_first" = some (.ref f)) (hb:Binds K fd ["_law_box_here", "_law_sides"] []) (T:Txt mg) (c__law_take:Cal P w K mg base "_law_take" ["_law_box_here", "_law_many_here"] 1 spTake) (c__law_worths:Cal P w K mg base "_law_worths" ["_law_box_here", "_law_many_here"] 2 sp_worths) (c_alone:Cal P w K mg base "alone" ["worths"] 4 sp_alone) (c_some_of:Cal P w K mg base "some_of" ["worths", "many"] 3 sp_some) (c__law_rows:Cal P w K mg base "_law_rows" ["_law_box_here", "_law_sides"] 2 sp_rows) (c_paired:Cal P w K mg base "paired" ["sides", "rows"] 4 sp_paired):Cal P w K mg base "_law_first" ["_law_box_here", "_law_sides"] 5 sp_first:=by
 refine cal_of F hm hb sc__law_first (fun vs H Q E h=>?_) (fun cdv A outer s H vs Q E hr h=>?_)
 ·obtain ⟨_,_,_,_,rfl,_⟩:=h;rfl
 ·obtain ⟨p,a,F0,m,rfl,bx,ha,w1,w5,hF,q⟩:=h
  have sc:=sc__law_first
  have nap:=box_ne_tup bx ha
  refine ⟨_,pss_cons (ps_set (i:=2) sc.nd rfl (Or.inl rfl) (pe_cal c__law_take hr (pa_cns (pv 0) (pa_cns pe_int pa_nil))))
   (pss_cons (ps_if (pt_cmpR op_eq (pv 2) pe_int (nomark _)) (pss_one (ps_ret (pe_cal c_alone hr (pa_cns (pe_cal c__law_worths hr (pa_cns (pv 0) (pa_cns (pe_callB len0 rfl T.len_ bt_len (pa_cns (pv 1) pa_nil)) pa_nil))) pa_nil)))) pss_nil)
   (pss_cons (ps_if (PW.pt (pw_and (pt_cmpR op_eq (pv 2) pe_int (nomark _)) (pw_and1 (pt_cmpR notin0 pe_int (pv 1) rfl)))) (pss_one (ps_ret (pe_cal c_some_of hr (pa_cns (pe_cal c__law_worths hr (pa_cns (pv 0) (pa_cns (pe_callB len0 rfl T.len_ bt_len (pa_cns (pv 1) pa_nil)) pa_nil))) (pa_cns (pe_op op_add pe_int (pe_cal c__law_take hr (pa_cns (pv 0) (pa_cns pe_int pa_nil)))) pa_nil))))) pss_nil)
   (pss_one (ps_ret (pe_cal c_paired hr (pa_cns (pv 1) (pa_cns (pe_cal c__law_rows hr (pa_cns (pv 0) (pa_cns (pv 1) pa_nil))) pa_nil))))))),?_⟩
  rw [show L2.start ["_law_box_here", "_law_sides", "_law_way"] [.ref p,.ref a] = [some (.ref p),some (.ref a),none] from rfl]
  (push_cast only [])
  refine ⟨p,3,rfl,bx,by decide,by decide,fun way H1 w0 w3 bx1 bt1=>?_⟩
  have ha1:H1 a=some (.tup ((bitsL F0 m).map V.int)):=by rw [bt1 a nap];exact ha
  have hs1:=sq_tup ha1
  have pair:∀ H2,Box H2 p→SameX p H H2→H2 a=some (.tup ((bitsL F0 m).map V.int))→sp_rows [.ref p,.ref a] H2 (fun x H3=>sp_paired [.ref a,x] H3 Q E) E:=fun H2 bx2 sx2 ha2 =>
   ⟨p,a,F0,m,rfl,bx2,ha2,w5,fun ra rs H3 R bx3 sx3 e3=>⟨a,ra,F0,m,rs,rfl,sx3 _ _ nap ha2,w5,e3,R,fun l ns H4 s4 nl one e4=>q l ns H4 nl (fun o _=>one o) (bx3.same s4) ((sx2.trans sx3).trans s4.x) e4⟩⟩
  (push_cast only [hs1])
  rw [bits_len]
  by_cases z0:way=0
  ·rw [if_pos (by simpa using z0)]
   refine ⟨p,m,rfl,bx1,w1,w5,fun wo ws H2 nwo wl Wv bx2 sx2 e2=>?_⟩
   (push_cast only [])
   refine ⟨wo,ws,rfl,e2,Wv,fun t H3 s3 e3=>?_⟩
   have tn:=ts_len ws ws.length
   rw [wl] at tn
   refine q t _ H3 (by rw [← tn,wl]) (fun o ho=>one_add w5 ho (ws_nn Wv) fun h hh=>?_) (bx2.same s3) ((bt1.x.trans sx2).trans s3.x) e3
   rw [ts_at (by rw [wl];exact hh),wl]
  ·rw [if_neg (by simpa using z0)]
   by_cases z1:way=1
   ·rw [if_pos (by simpa using z1)]
    (push_cast only [hs1])
    refine ⟨rfl,flat_ints _,?_⟩
    cases z2:inV (V.int 1) ((bitsL F0 m).map V.int) with
    | true =>
     rw [if_neg (by simp)]
     exact pair H1 bx1 bt1.x ha1
    | false =>
     rw [if_pos (by simp)]
     have F00:=bits_zero w5 hF z2
     refine ⟨p,m,rfl,bx1,w1,w5,fun wo ws H2 nwo wl Wv bx2 sx2 e2=>?_⟩
     (push_cast only [])
     refine ⟨p,3,rfl,bx2,by decide,by decide,fun k H3 k0 k1 bx3 bt3=>?_⟩
     obtain ⟨kn,rfl⟩:=Int.eq_ofNat_of_zero_le k0
     (push_cast only [])
     have e3:H3 wo=some (.tup (ws.map V.int)):=by rw [bt3 wo (box_ne_tup bx2 e2)];exact e2
     refine ⟨wo,ws,1 + kn,by rw [Int.natCast_add];rfl,e3,Wv,fun t H4 s4 e4=>?_⟩
     refine q t _ H4 (by rw [ts_len,wl]) (fun o ho=>?_) (bx3.same s4) (((bt1.x.trans sx2).trans bt3.x).trans s4.x) e4
     rw [F00]
     refine one_top (ws:=ws) w5 (show 1 + kn ≤ 5 by omega) ho fun h hh=>?_
     rw [ts_at (by rw [wl];exact hh),wl]
   ·rw [if_neg (by simpa using z1)]
    exact pair H1 bx1 bt1.x ha1
noncomputable def sp_made:Sp:=fun vs H Q _=>∃ (p a:Addr) (F m:Nat),vs=[.ref p,.ref a]∧Box H p∧H a=some (.tup ((bitsL F m).map V.int))∧1 ≤ m∧m ≤ 5∧F < 2 ^ m∧∀ (t:Addr) (ns:List Int) (H':Hp),ns.length=2 ^ m→Good F m ns→Box H' p→SameX p H H'→H' t=some (.tup (ns.map V.int))→Q (.ref t) H'
noncomputable def MDI (p a:Addr) (F m:Nat) (G:Hp) (j:Nat) (σ:St) (H:Hp):Prop:=∃ (wa:Addr) (v3:Option V) (ns:List Int),σ=[some (.ref p),some (.ref a),some (.ref wa),v3]∧ns.length=2 ^ m∧Gd j F m ns∧Box H p∧SameX p G H∧H wa=some (.tup (ns.map V.int))
theorem sc__law_made:FnScope ["_law_box_here", "_law_sides", "_law_want", "_law_turn"] ["_law_box_here", "_law_sides"] (defScope s__law_made):=⟨rfl,rfl,rfl,by decide +kernel,rfl,by decide +kernel,by decide +kernel⟩
theorem ok_made (F:Fun K "_law_made" "_law_made" s__law_made f fd) (hm:mg "_law_made" = some (.ref f)) (hb:Binds K fd ["_law_box_here", "_law_sides"] []) (T:Txt mg) (c__law_take:Cal P w K mg base "_law_take" ["_law_box_here", "_law_many_here"] 1 spTake) (c__law_first:Cal P w K mg base "_law_first" ["_law_box_here", "_law_sides"] 5 sp_first) (c_lessened:Cal P w K mg base "lessened" ["want", "thing"] 3 sp_lessened) (c_joined:Cal P w K mg base "joined" ["one", "other"] 4 sp_joined):Cal P w K mg base "_law_made" ["_law_box_here", "_law_sides"] 6 sp_made:=by
 refine cal_of F hm hb sc__law_made (fun vs H Q E h=>?_) (fun cdv A outer s H vs Q E hr h=>?_)
 ·obtain ⟨_,_,_,_,rfl,_⟩:=h;rfl
 ·obtain ⟨p,a,F0,m,rfl,bx,ha,w1,w5,hF,q⟩:=h
  have sc:=sc__law_made
  have nap:=box_ne_tup bx ha
  have p32:=pow32 w5
  refine ⟨_,pss_consL (ps_set (i:=2) sc.nd rfl (Or.inl rfl) (pe_cal c__law_first hr (pa_cns (pv 0) (pa_cns (pv 1) pa_nil))))
   (pss_consL (ps_for PassesOwn.never rfl (pi_range1 rfl T.range_ (pa_cns (pe_cal c__law_take hr (pa_cns (pv 0) (pa_cns pe_int pa_nil))) pa_nil)) (pg_name (i:=3) sc.nd rfl (Or.inl rfl))
    (pss_one (ps_if (pt_cmpR op_eq (pe_cal c__law_take hr (pa_cns (pv 0) (pa_cns pe_int pa_nil))) pe_int (nomark _)) (pss_one (ps_set (i:=2) sc.nd rfl (Or.inl rfl) (pe_cal c_lessened hr (pa_cns (pv 2) (pa_cns (pe_cal c__law_take hr (pa_cns (pv 0) (pa_cns (pe_callB len0 rfl T.len_ bt_len (pa_cns (pv 1) pa_nil)) pa_nil))) pa_nil))))) (pss_one (ps_set (i:=2) sc.nd rfl (Or.inl rfl) (pe_cal c_joined hr (pa_cns (pv 2) (pa_cns (pe_cal c__law_first hr (pa_cns (pv 0) (pa_cns (pv 1) pa_nil))) pa_nil))))))))
   (pss_one (ps_ret (pv 2)))),?_⟩
  rw [show L2.start ["_law_box_here", "_law_sides", "_law_want", "_law_turn"] [.ref p,.ref a] = [some (.ref p),some (.ref a),none,none] from rfl]
  (push_cast only [])
  refine ⟨p,a,F0,m,rfl,bx,ha,w1,w5,hF,fun wa ns H1 nl one bx1 sx1 e1=>?_⟩
  (push_cast only [])
  (simp only [a_laterH])
  (push_cast only [])
  refine ⟨p,4,rfl,bx1,by decide,by decide,fun r H2 r0 r1 bx2 bt2=>?_⟩
  obtain ⟨rn,rfl⟩:=Int.eq_ofNat_of_zero_le r0
  (push_cast only [])
  refine ⟨by omega,by omega,fl_range (MDI p a F0 m H) ⟨wa,_,ns,rfl,nl,(one 10 (.inl rfl)).gd,bx2,sx1.trans bt2.x,by rw [bt2 wa (box_ne_tup bx1 e1)];exact e1⟩ ?_ ?_⟩
  ·rintro j σ H3 hj ⟨wb,v3,ms,rfl,ml,gd,bx3,sx3,e3⟩
   rw [Int.toNat_natCast] at hj
   (push_cast only [])
   refine ⟨p,3,rfl,bx3,by decide,by decide,fun r4 H4 r40 r41 bx4 bt4=>?_⟩
   have e4:H4 wb=some (.tup (ms.map V.int)):=by rw [bt4 wb (box_ne_tup bx3 e3)];exact e3
   have sx4:=sx3.trans bt4.x
   have ha4:=sx4 _ _ nap ha
   have hs4:=sq_tup ha4
   (push_cast only [hs4])
   rw [bits_len]
   by_cases z:r4=0
   ·rw [if_pos (by simpa using z)]
    refine ⟨p,(m:Int),rfl,bx4,by omega,by omega,fun tt H5 t0 t1 bx5 bt5=>?_⟩
    obtain ⟨th,rfl⟩:=Int.eq_ofNat_of_zero_le t0
    have e5:H5 wb=some (.tup (ms.map V.int)):=by rw [bt5 wb (box_ne_tup bx4 e4)];exact e4
    (push_cast only [])
    refine ⟨wb,ms,th,rfl,e5,by omega,by omega,fun l H6 s6 e6=>?_⟩
    (push_cast only [])
    exact ⟨l,_,_,rfl,by rw [lessT_len,ml],gd.less w5 (show th < 5 by omega) (fun h hh=>lessT_at (by omega)),bx5.same s6,(sx4.trans bt5.x).trans s6.x,e6⟩
   ·rw [if_neg (by simpa using z)]
    refine ⟨p,a,F0,m,rfl,bx4,ha4,w1,w5,hF,fun wc ls H5 ll one5 bx5 sx5 e5=>?_⟩
    have e5b:=sx5 _ _ (box_ne_tup bx4 e4) e4
    (push_cast only [])
    refine ⟨wb,wc,ms,ls,m,rfl,e5b,e5,ml,ll,w5,fun l js H6 jl jt s6 e6=>?_⟩
    (push_cast only [])
    have so:Slot (20 * j + 30):=by
     unfold Slot
     omega
    exact ⟨l,_,js,rfl,jl,gd.join w5 (one5 _ so) jt,bx5.same s6,(sx4.trans sx5).trans s6.x,e6⟩
  ·rintro σ H3 ⟨wb,v3,ms,rfl,ml,gd,bx3,sx3,e3⟩
   (simp only [a_laterH])
   (push_cast only [])
   exact q wb ms H3 ml gd.good bx3 sx3 e3
end
end K96
end
section
set_option Elab.async false
set_option linter.all false
set_option maxRecDepth 100000
set_option maxHeartbeats 8000000
namespace K96
open PySem L2
section
variable {P:Program} {w:World} {K:PySem.W.Frag} {mg:Str→Option Value} {base:Heap} {f:Addr} {fd:FuncData}
noncomputable def bump (F:Nat) (wt:Int) (h:Nat):Int:=if h &&& 3=3 then (if bitOn F 0=bitOn F 1 then wt else -wt) else 0
noncomputable def Plant (F m:Nat) (wt:Int) (ns:List Int):Prop:=∀ h,h < 2 ^ m→ns.getD h 0=addS (List.replicate m wt) h m + bump F wt h
noncomputable def sp_planted:Sp:=fun vs H Q _=>∃ (a:Addr) (F m:Nat) (wt:Int),vs=[.ref a,.int wt]∧H a=some (.tup ((bitsL F m).map V.int))∧1 ≤ m∧m ≤ 5∧F < 2 ^ m∧1 ≤ wt∧wt ≤ 1000∧(m < 2→Q .non H)∧∀ (t:Addr) (ns:List Int) (H':Hp),2 ≤ m→ns.length=2 ^ m→Plant F m wt ns→Same H H'→H' t=some (.tup (ns.map V.int))→Q (.ref t) H'
noncomputable def PLI (a c:Addr) (F m:Nat) (wt:Int) (G:Hp) (i:Nat) (σ:St) (H:Hp):Prop:=∃ (v3:Option V) (ns:List Int),σ=[some (.ref a),some (.int wt),some (.ref c),v3]∧ns.length=2 ^ m∧(∀ h,h < 2 ^ m→ns.getD h 0=addS (List.replicate m wt) h m + if h < i then bump F wt h else 0)∧SameX c G H∧H c=some (.lst (ns.map V.int))
theorem and3 {h:Nat} (hh:h < 32):decide (Builtin.bitAnd (h:Int) 3=3)=decide (h &&& 3=3):=by
 have key:∀ h:_root_.Fin 32,decide (Builtin.bitAnd (h.val:Int) 3=3)=decide (h.val &&& 3=3):=by decide +kernel
 exact key ⟨h,hh⟩
theorem sc__law_planted:FnScope ["_law_sides", "_law_worth", "_law_found", "_law_heap"] ["_law_sides", "_law_worth"] (defScope s__law_planted):=⟨rfl,rfl,rfl,by decide +kernel,rfl,by decide +kernel,by decide +kernel⟩
theorem ok_planted (F:Fun K "_law_planted" "_law_planted" s__law_planted f fd) (hm:mg "_law_planted" = some (.ref f)) (hb:Binds K fd ["_law_sides", "_law_worth"] []) (T:Txt mg) (c_alone:Cal P w K mg base "alone" ["worths"] 4 sp_alone):Cal P w K mg base "_law_planted" ["_law_sides", "_law_worth"] 5 sp_planted:=by
 refine cal_of F hm hb sc__law_planted (fun vs H Q E h=>?_) (fun cdv A outer s H vs Q E hr h=>?_)
 ·obtain ⟨_,_,_,_,rfl,_⟩:=h;rfl
 ·obtain ⟨a,F0,m,wt,rfl,ha,m1,m5,hF,t1,t2,q0,q⟩:=h
  have sc:=sc__law_planted
  have p32:=pow32 m5
  refine ⟨_,pss_consL (ps_if (pt_cmpR op_lt (pe_callB len0 rfl T.len_ bt_len (pa_cns (pv 0) pa_nil)) pe_int (nomark _)) (pss_one (ps_ret pe_non)) pss_nil)
   (pss_consL (ps_set (i:=2) sc.nd rfl (Or.inl rfl) (pe_callTy list0 rfl T.list_ bt_list (pa_cns (pe_cal c_alone hr (pa_cns (pe_op mulT0 (pe_tupA (pa_cns (pv 1) pa_nil)) (pe_callB len0 rfl T.len_ bt_len (pa_cns (pv 0) pa_nil))) pa_nil)) pa_nil)))
   (pss_consL (ps_for PassesOwn.never rfl (pi_range1 rfl T.range_ (pa_cns (pe_callB len0 rfl T.len_ bt_len (pa_cns (pv 2) pa_nil)) pa_nil)) (pg_name (i:=3) sc.nd rfl (Or.inl rfl))
    (pss_one (ps_if (pt_cmpR op_eq (pe_op op_and (pv 3) pe_int) pe_int (nomark _)) (pss_one (ps_asg (pe_op op_add (pe_ix ix0 (pv 2) (pv 3) (fun _ _=>rfl)) (pe_op op_mul (pe_ix ix0 (pe_lst (pa_cns (pe_un un_neg pe_int) (pa_cns pe_int pa_nil))) (pe_callTy call_int1 rfl T.int_ bt_int (pa_cns (pe_cmpR op_eq (pe_ix ix0 (pv 0) pe_int (fun _ _=>rfl)) (pe_ix ix0 (pv 0) pe_int (fun _ _=>rfl)) (nomark _)) pa_nil)) (fun _ _=>rfl)) (pv 1))) (pg_sub (pv 2) (pv 3) set_list))) pss_nil)))
   (pss_one (ps_ret (pe_callTy tupA0 rfl T.tuple_ bt_tuple (pa_cns (pv 2) pa_nil)))))),?_⟩
  rw [show L2.start ["_law_sides", "_law_worth", "_law_found", "_law_heap"] [.ref a,.int wt] = [some (.ref a),some (.int wt),none,none] from rfl]
  have hs:=sq_tup ha
  (push_cast only [hs])
  rw [bits_len]
  by_cases hm2:m < 2
  ·rw [if_pos (by omega)]
   exact q0 hm2
  ·rw [if_neg (by simp;omega)]
   have h2:2 ≤ m:=by omega
   (simp only [a_laterH])
   (push_cast only [hs])
   refine ⟨by decide,fun z H1 nz s1 e1=>?_⟩
   have hs1:=sq_tup (s1 _ _ ha)
   refine ⟨_,hs1,m,by rw [List.length_map,bits_len],_,e1,by simp;omega,by omega,fun y H2 s2 e2=>?_⟩
   have er:(List.replicate m [V.int wt]).flatten=(List.replicate m wt).map V.int:=by simp
   rw [er] at e2
   have ws:Ws (List.replicate m wt):=⟨by simpa using m1,by simpa using m5,fun x hx=>by rw [(List.mem_replicate.mp hx).2];omega⟩
   refine ⟨y,_,rfl,e2,ws,fun t H3 s3 e3=>⟨t,rfl,_,sq_tup e3,fun c nc=>?_⟩⟩
   have tl:(TSm (List.replicate m wt) (List.replicate m wt).length).length=2 ^ m:=by rw [ts_len,List.length_replicate]
   have ta:∀ h,h < 2 ^ m→(TSm (List.replicate m wt) (List.replicate m wt).length).getD h 0=addS (List.replicate m wt) h m:=fun h hh=>by
    rw [ts_at (by rw [List.length_replicate];exact hh),List.length_replicate,top_add (ws_nn ws)]
   generalize TSm (List.replicate m wt) (List.replicate m wt).length=tb at tl ta
   have S3:=(s1.trans s2).trans s3
   have nac:=ne_of_none (S3 _ _ ha) nc
   (simp only [a_laterH])
   (push_cast only [])
   rw [tl]
   refine ⟨by omega,by omega,fl_range (PLI a c F0 m wt H3) ⟨_,tb,rfl,tl,fun h hh=>by rw [ta h hh,if_neg (by omega),Int.add_zero],SameX.upd,upd_same⟩ ?_ ?_⟩
   ·rintro i σ H4 hi ⟨v3,ns,rfl,nl,na,s4,e4⟩
    rw [Int.toNat_natCast] at hi
    have a3:=and3 (h:=i) (by omega)
    have hs4:=sq_tup (s4 _ _ nac (S3 _ _ ha))
    have hl4:=sq_lst e4
    have at0:=at_int (ns:=bitsL F0 m) (n:=0) (by rw [bits_len];omega)
    have at1:=at_int (ns:=bitsL F0 m) (n:=1) (by rw [bits_len];omega)
    rw [bits_at (by omega)] at at0 at1
    have ati:=at_int (ns:=ns) (n:=i) (by omega)
    (push_cast only [hs4,hl4,at0,at1,ati])
    have step:∀ z,z=ns.getD i 0 + bump F0 wt i→∀ h,h < 2 ^ m→(ns.set i z).getD h 0=addS (List.replicate m wt) h m + if h < i + 1 then bump F0 wt h else 0:=fun z hz h hh=>by
     rw [List.getD_eq_getElem?_getD,List.getElem?_set]
     by_cases c:i=h
     ·subst c
      rw [if_pos rfl,if_pos (by omega),if_pos (by omega)]
      have:=na i hi
      rw [if_neg (by omega),Int.add_zero] at this
      rw [← this]
      exact hz
     ·rw [if_neg c,← List.getD_eq_getElem?_getD,na h hh]
      by_cases l:h < i
      ·rw [if_pos l,if_pos (by omega)]
      ·rw [if_neg l,if_neg (by omega)]
    have hsd:∀ d,H4 d=none→L2.sq (upd H4 d (.lst [V.int (-1),V.int 1])) a=some ((bitsL F0 m).map V.int):=fun d nd=>sq_tup (by rw [upd_ne (ne_of_none (s4 _ _ nac (S3 _ _ ha)) nd)];exact s4 _ _ nac (S3 _ _ ha))
    by_cases z:i &&& 3=3
    ·rw [if_pos (by rw [z] at a3;simpa using a3)]
     refine ⟨by decide,fun d nd=>⟨_,hsd d nd,_,at0,_,hsd d nd,_,at1,rfl,?_⟩⟩
     have ix:ixN (ns.map V.int).length (i:Int)=some i:=by
      unfold ixN
      rw [if_pos (by omega),List.length_map,if_pos (by omega)]
      rfl
     have fin:∀ s:Int,ns.getD i 0 + s * wt=ns.getD i 0 + bump F0 wt i→PLI a c F0 m wt H3 (i + 1) [some (.ref a),some (.int wt),some (.ref c),some (.int (i:Int))] (upd (upd H4 d (.lst [V.int (-1),V.int 1])) c (.lst ((ns.map V.int).set i (V.int (ns.getD i 0 + s * wt))))):=fun s hs=>by
      refine ⟨_,ns.set i (ns.getD i 0 + s * wt),rfl,by rw [List.length_set,nl],step _ hs,fun b o n e=>?_,by rw [upd_same,List.map_set]⟩
      have e':=s4 _ _ n e
      rw [upd_ne n,upd_ne (ne_of_none e' nd)]
      exact e'
     have bz:bump F0 wt i=if bitOn F0 0=bitOn F0 1 then wt else -wt:=by unfold bump;rw [if_pos z]
     have e4':=ne_of_none e4 nd
     have cm:∀ s:Int,CMul s wt:=fun s=>.inr ⟨by omega,by omega⟩
     by_cases y:bitOn F0 0=bitOn F0 1
     ·rw [if_pos (by rw [y])]
      exact ⟨_,rfl,1,rfl,cm _,_,by rw [upd_ne e4'];exact e4,i,ix,fin 1 (by rw [bz,if_pos y,Int.one_mul])⟩
     ·rw [if_neg (fun q=>y (by cases e0:bitOn F0 0 <;> cases e1:bitOn F0 1 <;> simp [e0,e1] at q ⊢))]
      exact ⟨_,rfl,-1,rfl,cm _,_,by rw [upd_ne e4'];exact e4,i,ix,fin (-1) (by rw [bz,if_neg y];omega)⟩
    ·rw [if_neg (by rw [decide_eq_false z] at a3;simpa using a3)]
     refine ⟨_,ns,rfl,nl,fun h hh=>?_,s4,e4⟩
     rw [na h hh]
     by_cases l:h < i
     ·rw [if_pos l,if_pos (by omega)]
     ·rw [if_neg l]
      by_cases c:h < i + 1
      ·rw [if_pos c,show h=i by omega]
       unfold bump
       rw [if_neg z]
      ·rw [if_neg c]
   ·rintro σ H4 ⟨v3,ns,rfl,nl,na,s4,e4⟩
    rw [Int.toNat_natCast] at na
    (simp only [a_laterH])
    (push_cast only [])
    refine ⟨_,e4,fun t H5 nt s5 e5=>?_⟩
    exact q t ns H5 h2 nl (fun h hh=>by rw [na h hh,if_pos hh]) (S3.trans ((s4.same nc).trans s5)) e5
noncomputable def pcN (h:Nat):Nat→Int
 | 0=>0
 | n + 1=>pcN h n + if bitOn h n=true then 1 else 0
theorem add_rep (wt:Int) (h m:Nat):∀ n,n ≤ m→addS (List.replicate m wt) h n=wt * pcN h n
 | 0,_=>by simp [addS,pcN]
 | n + 1,hn=>by
  show addS (List.replicate m wt) h n + (if bitOn h n=true then (List.replicate m wt).getD n 0 else 0)=wt * (pcN h n + if bitOn h n=true then 1 else 0)
  have g:(List.replicate m wt).getD n 0=wt:=by
   rw [List.getD_eq_getElem?_getD,List.getElem?_replicate,if_pos (by omega)]
   rfl
  rw [add_rep wt h m n (by omega),Int.mul_add,g]
  cases bitOn h n <;> simp
noncomputable def bpN (F h:Nat):Int:=if h &&& 3=3 then (if bitOn F 0=bitOn F 1 then 1 else -1) else 0
theorem bump_is (F:Nat) (wt:Int) (h:Nat):bump F wt h=wt * bpN F h:=by
 unfold bump bpN
 split
 ·split <;> omega
 ·omega
noncomputable def qN (F m X:Nat):Int:=pcN (X ^^^ F) m + bpN F (X ^^^ F)
theorem q_key {F m:Nat} (m5:m ≤ 5) (m2:2 ≤ m) (hF:F < 2 ^ m):qN F m 3 + qN F m 0=qN F m 1 + qN F m 2 + 1∧3 ^^^ F < 2 ^ m∧0 ^^^ F < 2 ^ m∧1 ^^^ F < 2 ^ m∧2 ^^^ F < 2 ^ m∧3 < 2 ^ m:=by
 have key:∀ (m:_root_.Fin 6) (F:_root_.Fin 32),2 ≤ m.val→F.val < 2 ^ m.val→qN F.val m.val 3 + qN F.val m.val 0=qN F.val m.val 1 + qN F.val m.val 2 + 1∧3 ^^^ F.val < 2 ^ m.val∧0 ^^^ F.val < 2 ^ m.val∧1 ^^^ F.val < 2 ^ m.val∧2 ^^^ F.val < 2 ^ m.val∧3 < 2 ^ m.val:=by decide +kernel
 have:=pow32 m5
 exact key ⟨m,by omega⟩ ⟨F,by omega⟩ m2 hF
theorem plant_odd {F m:Nat} {wt:Int} {ns:List Int} (m5:m ≤ 5) (m2:2 ≤ m) (hF:F < 2 ^ m) (nl:ns.length=2 ^ m) (w1:1 ≤ wt) (P:Plant F m wt ns):PB (turnN ns F) 0 0 1∧fitL (turnN ns F) 3 0 0 m=[]∧(3,0,0) ∈ placesL m:=by
 obtain ⟨k,l3,l0,l1,l2,h3⟩:=q_key m5 m2 hF
 have at':∀ X,X < 2 ^ m→X ^^^ F < 2 ^ m→(turnN ns F).getD X 0=wt * qN F m X:=fun X hX hXF=>by
  rw [turn_at (by omega),P _ hXF,add_rep wt _ m m (Nat.le_refl m),bump_is,← Int.mul_add]
  rfl
 have e3:=at' 3 h3 l3
 have e0:=at' 0 (by omega) l0
 have e1:=at' 1 (by omega) l1
 have e2:=at' 2 (by omega) l2
 have gt:(turnN ns F).getD 3 0 + (turnN ns F).getD 0 0=(turnN ns F).getD 1 0 + (turnN ns F).getD 2 0 + wt:=by
  rw [e3,e0,e1,e2,← Int.mul_add,k,Int.mul_add,Int.mul_add,Int.mul_one]
 refine ⟨?_,?_,?_⟩
 ·show (turnN ns F).getD 3 0 + (turnN ns F).getD 0 0 > (turnN ns F).getD 1 0 + (turnN ns F).getD 2 0
  omega
 ·have z:goL 0 3 m=[]:=by
   refine List.eq_nil_iff_forall_not_mem.mpr fun t ht=>?_
   have:=(goL_mem.mp ht).2.1
   unfold bitOn at this
   simp at this
  unfold fitL choL
  rw [z,List.map_nil,List.filter_cons,if_neg,List.filter_nil]
  rw [decide_eq_true_eq]
  show ¬ (turnN ns F).getD 3 0 + (turnN ns F).getD 0 0 ≤ (turnN ns F).getD 2 0 + (turnN ns F).getD 1 0
  omega
 ·unfold placesL P1
  refine List.mem_flatMap.mpr ⟨3,List.mem_range.mpr h3,?_⟩
  unfold Q1
  exact List.mem_flatMap.mpr ⟨0,List.mem_range.mpr (by omega),List.mem_map.mpr ⟨0,goL_mem.mpr ⟨by omega,by decide,by decide⟩,rfl⟩⟩
end
end K96
end
section
set_option Elab.async false
set_option linter.all false
set_option maxRecDepth 100000
set_option maxHeartbeats 8000000
namespace K96
open PySem L2
section
variable {P:Program} {w:World} {K:PySem.W.Frag} {mg:Str→Option Value} {base:Heap} {f:Addr} {fd:FuncData}
noncomputable def sp_law (K:PySem.W.Frag):Sp:=fun vs H Q _=>∃ (a:Addr) (ns:List Int),vs=[.ref a]∧Scr K a ns H∧ns.length ≤ 63∧∀ H',Q (.bl true) H'
noncomputable def J0 (K:PySem.W.Frag) (a:Addr) (ns:List Int) (i:Nat) (σ:St) (H:Hp):Prop:=∃ v1 v2 v3 v4 v5 v6 v7 v8,σ=[some (.ref a),v1,v2,v3,v4,v5,v6,v7,v8]∧Scr K a ns H
noncomputable def LSA (p c:Addr) (k:Nat) (G:Hp) (i:Nat) (σ:St) (H:Hp):Prop:=∃ (v:Option V) (ss:List Int),σ=[v,some (.ref p),some (.int (k:Int))]∧ss.length=i∧(∀ x ∈ ss,x=0∨x=1)∧Box H p∧(∀ b o,b ≠ p→b ≠ c→G b=some o→H b=some o)∧H c=some (.lst (ss.map V.int))
noncomputable def LSB (p c:Addr) (G:Hp) (i:Nat) (σ:St) (H:Hp):Prop:=∃ (v:Option V) (ss:List Int),σ=[v,some (.ref p)]∧ss.length=i∧(∀ x ∈ ss,x=0∨x=1)∧Box H p∧(∀ b o,b ≠ p→b ≠ c→G b=some o→H b=some o)∧H c=some (.lst (ss.map V.int))
noncomputable def refsX (xs:List (Addr × Row)):List V:=xs.map fun x=>V.ref x.1
noncomputable def to4 (xs:List (Addr × Row)):List (Addr × Row4):=xs.map fun x=>(x.1,toR4 x.2)
theorem to4_refs (xs:List (Addr × Row)):refs4 (to4 xs)=refsX xs:=by unfold refs4 to4 refsX;rw [List.map_map];rfl
theorem to4_len (xs:List (Addr × Row)):(to4 xs).length=xs.length:=by unfold to4;rw [List.length_map]
theorem to4_is (xs:List (Addr × Row)):rows4 (to4 xs)=xs.map fun x=>toR4 x.2:=by unfold rows4 to4;rw [List.map_map];rfl
theorem to4_rows {H:Hp} {xs:List (Addr × Row)} (h:∀ x ∈ xs,H x.1=some (.tup (rowV x.2))):H4 H (to4 xs):=fun r hr=>by
 unfold to4 at hr
 obtain ⟨x,hx,rfl⟩:=List.mem_map.mp hr
 show H x.1=some (.tup (row4V (toR4 x.2)))
 rw [row_to]
 exact h x hx
theorem pap_full {H:Hp} {T:List Int} {m:Nat} {xs:List (Addr × Row)} {rs:List Row} (e:(xs.map fun x=>x.2)=rs) (ex:Exch T m (some rs)) (xr:XR H xs):Pap H T m (placesL m).length xs:=by
 obtain ⟨er,ne⟩:=ex
 refine ⟨xr,?_,fun x hx=>?_⟩
 ·rw [List.take_length,show (xs.map fun x=>placeOf x.2)=(xs.map fun x=>x.2).map placeOf by rw [List.map_map];rfl,e,er,List.map_map]
  exact List.map_id' _
 ·have hx2:x.2 ∈ rs:=e ▸ List.mem_map_of_mem hx
  rw [er] at hx2
  obtain ⟨pl,hpl,e'⟩:=List.mem_map.mp hx2
  rw [← e']
  have n:=ne pl hpl
  show (fitL T pl.1 pl.2.1 pl.2.2 m).headD none ∈ fitL T pl.1 pl.2.1 pl.2.2 m
  cases hf:fitL T pl.1 pl.2.1 pl.2.2 m with
  | nil=>exact absurd hf n
  | cons y l=>exact List.mem_cons_self
theorem brk_none {H:Hp} {T:List Int} {m:Nat} {v:V} {o:Option (List V)} (np:NoneP T m) (nt:NoneT T m) (b:Brkn T m o) (r:Rep H v o):v = .non:=by
 rcases b with ⟨rfl,_,_⟩ | ⟨S,i,j,rfl,ok,pb,_⟩ | ⟨S,i,j,k,rfl,_,ok,tb,_⟩
 ·exact r
 ·exact absurd pb (np _ _ _ ok)
 ·exact absurd tb (nt _ _ _ _ ok)
theorem sc_law:FnScope ["_law_script", "_law_k", "_law_box_here", "_law_many_here", "_law_sides", "_law_want", "_law_told", "_law_others", "_law_bad"] ["_law_script"] (defScope s_law):=⟨rfl,rfl,rfl,by decide +kernel,rfl,by decide +kernel,by decide +kernel⟩
theorem ok_law (F:Fun K "law" "law" s_law f fd) (T:Txt mg) (c__law_box:Cal P w K mg base "_law_box" ["_law_script", "_law_k"] 1 (spBox K)) (c__law_take:Cal P w K mg base "_law_take" ["_law_box_here", "_law_many_here"] 1 spTake) (c__law_many:Cal P w K mg base "_law_many" ["_law_box_here"] 2 sp_many) (c__law_made:Cal P w K mg base "_law_made" ["_law_box_here", "_law_sides"] 6 sp_made) (c__law_worths:Cal P w K mg base "_law_worths" ["_law_box_here", "_law_many_here"] 2 sp_worths) (c__law_planted:Cal P w K mg base "_law_planted" ["_law_sides", "_law_worth"] 5 sp_planted) (c_alone:Cal P w K mg base "alone" ["worths"] 4 sp_alone) (c_breaking:Cal P w K mg base "breaking" ["want", "sides"] 5 sp_breaking) (c_price_break:Cal P w K mg base "price_break" ["want", "sides"] 6 sp_prb) (c_exchanges:Cal P w K mg base "exchanges" ["want", "sides"] 5 sp_exch) (c_shows_exchanges:Cal P w K mg base "shows_exchanges" ["want", "sides", "thing"] 6 sp_sh) :
  FnOk P w K mg base CX0 7 f fd ["_law_script"] (sp_law K):=by
 refine F.ok sc_law (fun vs H Q E h=>?_) (fun cdv A outer s H vs Q E hr h=>?_)
 ·obtain ⟨_,_,rfl,_⟩:=h;rfl
 ·obtain ⟨a,ns,rfl,hq,hlen,q⟩:=h
  have sc:=sc_law
  refine ⟨_,pss_consL (ps_for PassesOwn.never rfl (pi_range1 rfl T.range_ (pa_cns (pe_op op_add pe_int (pe_callB (call_min2 rfl) rfl T.min_ bt_min (pa_cns pe_int (pa_cns (pe_callB call_len_seq rfl T.len_ bt_len (pa_cons (pv 0) pa_nil)) pa_nil)))) pa_nil)) (pg_name (i:=1) sc.nd rfl (Or.inr rfl))
    (pss_consL (ps_set (i:=2) sc.nd rfl (Or.inr rfl) (pe_cal c__law_box hr (pa_cns (pv 0) (pa_cns (pv 1) pa_nil))))
   (pss_consL (ps_set (i:=3) sc.nd rfl (Or.inl rfl) (pe_cal c__law_many hr (pa_cns (pv 2) pa_nil)))
   (pss_consL (ps_set (i:=4) sc.nd rfl (Or.inl rfl) (pe_callTy tupA0 rfl T.tuple_ bt_tuple (pa_cns (pe_lc (N:=["_law_t", "_law_box_here", "_law_k"]) (fr:=[none,some 2,some 1]) rfl (pi_range1 rfl T.range_ (pa_cns (pv 3) pa_nil)) (CScope.of rfl rfl rfl) rfl (fun _ _ _=>⟨pg_name (i:=0) (show List.Nodup (α:=Str) ["_law_t", "_law_box_here", "_law_k"] by decide +kernel) rfl (Or.inl rfl),pif_nil,pe_op op_mul (pe_cal c__law_take hr (pa_cns (pv 1) (pa_cns pe_int pa_nil))) (pe_callTy call_int1 rfl T.int_ bt_int (pa_cns (pe_cmpR op_eq (pe_op op_mod (pv 2) pe_int) pe_int (nomark _)) pa_nil))⟩)) pa_nil)))
   (pss_consL (ps_set (i:=5) sc.nd rfl (Or.inl rfl) (pe_cal c__law_made hr (pa_cns (pv 2) (pa_cns (pv 4) pa_nil))))
   (pss_consL (ps_set (i:=6) sc.nd rfl (Or.inl rfl) (pe_cal c_exchanges hr (pa_cns (pv 5) (pa_cns (pv 4) pa_nil))))
   (pss_consL (ps_if (PW.pt (pw_or (pt_cmpR op_notN (pe_cal c_breaking hr (pa_cns (pv 5) (pa_cns (pv 4) pa_nil))) pe_non (nomark _)) (pw_or (pt_cmpR op_isN (pv 6) pe_non (nomark _)) (pw_or1 (pt_cmpR isnot_bl (pe_cal c_shows_exchanges hr (pa_cns (pv 5) (pa_cns (pv 4) (pa_cns (pv 6) pa_nil)))) pe_bl (nomark _)))))) (pss_one (ps_ret pe_bl)) pss_nil)
   (pss_consL (ps_if (pt_cmpR op_notN (pe_cal c_price_break hr (pa_cns (pv 5) (pa_cns (pv 4) pa_nil))) pe_non (nomark _)) (pss_one (ps_ret pe_bl)) pss_nil)
   (pss_consL (ps_set (i:=7) sc.nd rfl (Or.inl rfl) (pe_callTy tupA0 rfl T.tuple_ bt_tuple (pa_cns (pe_lc (N:=["_law_t", "_law_box_here"]) (fr:=[none,some 2]) rfl (pi_range1 rfl T.range_ (pa_cns (pv 3) pa_nil)) (CScope.of rfl rfl rfl) rfl (fun _ _ _=>⟨pg_name (i:=0) (show List.Nodup (α:=Str) ["_law_t", "_law_box_here"] by decide +kernel) rfl (Or.inl rfl),pif_nil,pe_cal c__law_take hr (pa_cns (pv 1) (pa_cns pe_int pa_nil))⟩)) pa_nil)))
   (pss_consL (ps_if (pt_cmpR op_notN (pe_cal c_breaking hr (pa_cns (pe_cal c_alone hr (pa_cns (pe_cal c__law_worths hr (pa_cns (pv 2) (pa_cns (pv 3) pa_nil))) pa_nil)) (pa_cns (pv 7) pa_nil))) pe_non (nomark _)) (pss_one (ps_ret pe_bl)) pss_nil)
   (pss_consL (ps_set (i:=8) sc.nd rfl (Or.inl rfl) (pe_cal c__law_planted hr (pa_cns (pv 4) (pa_cns (pe_op op_add pe_int (pe_cal c__law_take hr (pa_cns (pv 2) (pa_cns pe_int pa_nil)))) pa_nil))))
   (pss_one (ps_if (PW.pt (pw_and (pt_cmpR op_notN (pv 8) pe_non (nomark _)) (pw_and1 (PW.pt (pw_or (pt_cmpR op_isN (pe_cal c_breaking hr (pa_cns (pv 8) (pa_cns (pv 4) pa_nil))) pe_non (nomark _)) (pw_or1 (pt_cmpR op_notN (pe_cal c_exchanges hr (pa_cns (pv 8) (pa_cns (pv 4) pa_nil))) pe_non (nomark _)))))))) (pss_one (ps_ret pe_bl)) pss_nil)))))))))))))
   (pss_one (ps_ret pe_bl)),?_⟩
  rw [show L2.start ["_law_script", "_law_k", "_law_box_here", "_law_many_here", "_law_sides", "_law_want", "_law_told", "_law_others", "_law_bad"] [.ref a] = [some (.ref a),none,none,none,none,none,none,none,none] from rfl]
  (push_cast only [])
  refine ⟨_,.inl hq,?_⟩
  (push_cast only [])
  refine ⟨by split <;> omega,by split <;> omega,fl_range (J0 K a ns) ⟨none,none,none,none,none,none,none,none,rfl,hq⟩ ?_ ?_⟩
  ·rintro i σ H1 hi ⟨v1,v2,v3,v4,v5,v6,v7,v8,rfl,hq1⟩
   have hn:(1 + if (ns.length:Int) < 5 then (ns.length:Int) else 5).toNat ≤ 6:=by split <;> omega
   (push_cast only [])
   refine ⟨a,i,ns,rfl,hq1,by omega,fun p H2 np bx2 bt2=>?_⟩
   (push_cast only [])
   (simp only [a_laterH])
   (push_cast only [])
   refine ⟨p,rfl,bx2,fun m H3 m1 m5 bx3 sx3=>?_⟩
   have p32:=pow32 m5
   (push_cast only [])
   (simp only [a_laterH])
   (push_cast only [])
   refine ⟨by omega,by omega,fun c nc=>?_⟩
   have npc:=bx3.ne nc
   refine cl_range (LSA p c i H3) ⟨none,[],rfl,rfl,fun _ z=>absurd z (by simp),bx3.upd npc,fun b o _ n e=>by rw [upd_ne n];exact e,upd_same⟩ ?_ ?_
   ·rintro t σ H4 ht ⟨v,ss,rfl,hl,hbd,bx4,k4,e4⟩
    rw [Int.toNat_natCast] at ht
    (push_cast only [])
    refine ⟨p,2,rfl,bx4,by decide,by decide,fun r H5 r0 r1 bx5 bt5=>?_⟩
    have e5:H5 c=some (.lst (ss.map V.int)):=by rw [bt5 c npc.symm];exact e4
    (push_cast only [e5])
    have w01:∀ x:Int,x=(if (i:Int) % 2=0 then 1 else 0)→x=0∨x=1:=fun x h=>by
     rw [h]
     split <;> simp
    have w01:=w01 _ rfl
    generalize (if (i:Int) % 2=0 then (1:Int) else 0)=wv at w01 ⊢
    refine ⟨.inr (by omega),small1000 (by omega),⟨_,ss ++ [r * wv],rfl,by rw [List.length_append,hl];rfl,fun x hx=>?_,bx5.upd npc,fun b o n1 n2 e=>by rw [upd_ne n2,bt5 b n1];exact k4 b o n1 n2 e,by rw [upd_same];simp⟩⟩
    rcases List.mem_append.mp hx with z | z
    ·exact hbd x z
    ·have hx':x=r * wv:=by simpa using z
     rcases w01 with rfl | rfl
     ·exact .inl (by rw [hx',Int.mul_zero])
     ·rw [Int.mul_one] at hx'
      omega
   ·rintro σ H4 ⟨v,ss,rfl,hl,hbd,bx4,k4,e4⟩
    rw [Int.toNat_natCast] at hl
    refine ⟨_,e4,fun sa H5 nl s5 e5=>?_⟩
    have bx5:=bx4.same s5
    have W:Sd ss:=⟨by omega,by omega,hbd⟩
    obtain ⟨Fn,hF,eF⟩:=sd_bits ss W
    rw [hl] at hF eF
    rw [eF] at e5
    have sx5:SameX p H1 H5:=fun b o n e=>by
     have e3:=(bt2.x.trans sx3) b o n e
     exact s5 _ _ (k4 b o n (ne_of_none e3 nc) e3)
    clear s5 k4 e4 hbd W
    (simp only [a_laterH])
    (push_cast only [])
    refine ⟨p,sa,Fn,m,rfl,bx5,e5,m1,m5,hF,fun wa ws H6 wl good bx6 sx6 e6=>?_⟩
    have e6s:=sx6 _ _ (box_ne_tup bx5 e5) e5
    have sx16:=sx5.trans sx6
    have np':=none_pair m5 wl hF good
    have nt':=none_three m5 wl hF good
    have fne:∀ pl ∈ placesL m,fitL (turnN ws Fn) pl.1 pl.2.1 pl.2.2 m ≠ []:=fun pl hpl=>by
     obtain ⟨q1,q2,q3,q4,q5⟩:=places_mem hpl
     exact exch_ok m5 wl hF good q1 q2 q3 q4 q5
    (push_cast only [])
    (simp only [a_laterH])
    (push_cast only [])
    refine ⟨wa,sa,ws,Fn,m,rfl,e6,e6s,m5,hF,wl,fun v o H7 s7 ex rx=>?_⟩
    have e7:=s7 _ _ e6
    have e7s:=s7 _ _ e6s
    have bx7:=bx6.same s7
    have sx17:=sx16.trans s7.x
    cases o with
    | none =>
     obtain ⟨pl,hpl,z⟩:=ex
     exact absurd z (fne pl hpl)
    | some rs =>
     obtain ⟨ta,xs,rfl,exs,eta,xr⟩:=rx
     (push_cast only [])
     (simp only [a_laterH])
     (push_cast only [])
     have tl:(turnN ws Fn).length=2 ^ m:=by rw [turn_len];exact wl
     refine ⟨wa,sa,ws,Fn,m,rfl,e7,e7s,m5,hF,wl,fun v8' o8 H8 s8 b8 r8=>?_⟩
     have en:=brk_none np' nt' b8 r8
     subst en
     show (if (!decide (V.non=V.non))=true then _ else _)
     rw [if_neg (by decide)]
     have S8:=s7.trans s8
     have pap:=pap_full exs ex (xr.same s8)
     refine ⟨wa,sa,ta,ws,Fn,m,to4 xs,rfl,S8 _ _ e6,S8 _ _ e6s,m5,hF,wl,by rw [to4_refs];exact s8 _ _ eta,to4_rows pap.row,by rw [to4_len];have:=pap.len;have:=places_len m5;omega,fun H9 s9=>?_⟩
     rw [to4_is,pap_judge pap]
     refine ⟨true,rfl,?_⟩
     rw [if_neg (by decide)]
     have S9:=S8.trans s9
     (simp only [a_laterH])
     (push_cast only [])
     refine ⟨wa,sa,ws,Fn,m,rfl,S9 _ _ e6,S9 _ _ e6s,m5,hF,wl,np',nt',fun H10 s10=>?_⟩
     show (if (!decide (V.non=V.non))=true then _ else _)
     rw [if_neg (by decide)]
     have S10:=S9.trans s10
     have bx10:=bx6.same S10
     have sx10:=sx16.trans S10.x
     have e10s:=S10 _ _ e6s
     clear S10 S9 S8 s10 s9 s8 s7 sx17 pap xr ex e7 e7s eta bx7
     (simp only [a_laterH])
     (push_cast only [])
     refine ⟨by omega,by omega,fun c2 nc2=>?_⟩
     have npc2:=bx10.ne nc2
     refine cl_range (LSB p c2 H10) ⟨none,[],rfl,rfl,fun _ z=>absurd z (by simp),bx10.upd npc2,fun b o _ n e=>by rw [upd_ne n];exact e,upd_same⟩ ?_ ?_
     ·rintro t σ H11 ht ⟨v,os,rfl,ol,obd,bx11,k11,e11⟩
      rw [Int.toNat_natCast] at ht
      (push_cast only [])
      refine ⟨p,2,rfl,bx11,by decide,by decide,fun r H12 r0 r1 bx12 bt12=>?_⟩
      have e12:H12 c2=some (.lst (os.map V.int)):=by rw [bt12 c2 npc2.symm];exact e11
      (push_cast only [e12])
      refine ⟨small1000 (by omega),⟨_,os ++ [r],rfl,by rw [List.length_append,ol];rfl,fun x hx=>?_,bx12.upd npc2,fun b o n1 n2 e=>by rw [upd_ne n2,bt12 b n1];exact k11 b o n1 n2 e,by rw [upd_same];simp⟩⟩
      rcases List.mem_append.mp hx with z | z
      ·exact obd x z
      ·have:x=r:=by simpa using z
       omega
     ·rintro σ H11 ⟨v,os,rfl,ol,obd,bx11,k11,e11⟩
      rw [Int.toNat_natCast] at ol
      refine ⟨_,e11,fun oa H12 nl s12 e12=>?_⟩
      have bx12:=bx11.same s12
      have W:Sd os:=⟨by omega,by omega,obd⟩
      obtain ⟨Gn,hG,eG⟩:=sd_bits os W
      rw [ol] at hG eG
      rw [eG] at e12
      have sx112:SameX p H1 H12:=fun b o n e=>by
       have e3:=sx10 b o n e
       exact s12 _ _ (k11 b o n (ne_of_none e3 nc2) e3)
      have e12s:H12 sa=some (.tup ((bitsL Fn m).map V.int)):=s12 _ _ (k11 _ _ (box_ne_tup bx10 e10s) (ne_of_none e10s nc2) e10s)
      clear s12 k11 e11 obd W sx10 e10s bx10
      (simp only [a_laterH])
      (push_cast only [])
      refine ⟨p,m,rfl,bx12,m1,m5,fun wo us H13 _ ul Wu bx13 sx13 e13=>?_⟩
      have e13o:=sx13 _ _ (box_ne_tup bx12 e12) e12
      have e13s:=sx13 _ _ (box_ne_tup bx12 e12s) e12s
      (push_cast only [])
      refine ⟨wo,us,rfl,e13,Wu,fun al H14 s14 e14=>?_⟩
      have al1:(TSm us us.length).length=2 ^ m:=by rw [ts_len,ul]
      have good2:Good Gn m (TSm us us.length):=(one_add (o:=10) m5 (.inl rfl) (ws_nn Wu) fun h hh=>by rw [ts_at (by rw [ul];exact hh),ul]).gd.good
      (push_cast only [])
      refine ⟨al,oa,_,Gn,m,rfl,e14,s14 _ _ e13o,m5,hG,al1,fun v15 o15 H15 s15 b15 r15=>?_⟩
      have en:=brk_none (none_pair m5 al1 hG good2) (none_three m5 al1 hG good2) b15 r15
      subst en
      show (if (!decide (V.non=V.non))=true then _ else _)
      rw [if_neg (by decide)]
      have S15:=s14.trans s15
      have bx15:=bx13.same S15
      have sx15:=(sx112.trans sx13).trans S15.x
      have e15s:=S15 _ _ e13s
      (simp only [a_laterH])
      (push_cast only [])
      refine ⟨p,20,rfl,bx15,by decide,by decide,fun r16 H16 r0 r1 bx16 bt16=>?_⟩
      have e16s:H16 sa=some (.tup ((bitsL Fn m).map V.int)):=by rw [bt16 sa (box_ne_tup bx15 e15s)];exact e15s
      have sx16:=sx15.trans bt16.x
      have done:∀ (H':Hp) (u1 u2 u3 u4 u5 u6 u7 u8:Option V),SameX p H16 H'→J0 K a ns (i + 1) [some (.ref a),u1,u2,u3,u4,u5,u6,u7,u8] H':=fun H' u1 u2 u3 u4 u5 u6 u7 u8 s=>⟨u1,u2,u3,u4,u5,u6,u7,u8,rfl,hq1.keep np (sx16.trans s)⟩
      (push_cast only [])
      refine ⟨sa,Fn,m,1 + r16,rfl,e16s,m1,m5,hF,by omega,by omega,fun hm2=>?_,fun bt bs H17 m2 bl P s17 e17=>?_⟩
      ·(push_cast only [])
       (simp only [a_laterH])
       (push_cast only [])
       exact done _ _ _ _ _ _ _ _ _ SameX.refl
      ·(push_cast only [])
       (simp only [a_laterH])
       (push_cast only [])
       obtain ⟨pb,fz,pm⟩:=plant_odd m5 m2 hF bl (by omega) P
       have e17s:=s17 _ _ e16s
       refine ⟨bt,sa,bs,Fn,m,rfl,e17,e17s,m5,hF,bl,fun v18 o18 H18 s18 b18 r18=>?_⟩
       have nn:v18 ≠ .non:=by
        have some':∀ l,o18=some l→v18 ≠ .non:=fun l h=>by
         rw [h] at r18
         obtain ⟨x,rfl,_⟩:=r18
         exact V.noConfusion
        rcases b18 with ⟨_,n,_⟩ | ⟨_,_,_,h,_⟩ | ⟨_,_,_,_,h,_⟩
        ·exact absurd pb (n 0 0 1 ⟨by omega,by decide,by omega,by decide,by decide⟩)
        ·exact some' _ h
        ·exact some' _ h
       show (if v18=V.non then _ else _)
       rw [if_neg nn]
       refine ⟨bt,sa,bs,Fn,m,rfl,s18 _ _ e17,s18 _ _ e17s,m5,hF,bl,fun v19 o19 H19 s19 ex19 r19=>?_⟩
       have en:v19 = .non:=by
        cases o19 with
        | none=>exact r19
        | some rs=>exact absurd fz (ex19.2 _ pm)
       subst en
       show (if (!decide (V.non=V.non))=true then _ else _)
       rw [if_neg (by decide)]
       exact done _ _ _ _ _ _ _ _ _ ((s17.trans s18).trans s19).x
  ·rintro σ H1 ⟨v1,v2,v3,v4,v5,v6,v7,v8,rfl,hq1⟩
   (simp only [a_laterH])
   (push_cast only [])
   exact q H1
end
theorem all_mk {l:PySem.W.OpenLaw} {w:World} {K:PySem.W.Frag} {h:Heap} {mg:Str→Option Value} {fa:Addr} (X:K.In h) (G:h.Ns mainGlobals mg) (hfa:mg "law" = some (.ref fa))
  {f0:Addr} {od0 an0:Option Addr} {sl0:Array (Option Value)} {oc0 kV0 dc0 pm0 cd0 ct0:Value}
  (a0:PySem.W.nsIn K mainGlobals "has" = some (some (.ref f0))) (l0:K.lookup f0=some ⟨oc0,od0,.func (PySem.W.fnOf "has" "has" (defArgs s_has) (defBody s_has) (defScope s_has) .none kV0 dc0 pm0 an0 cd0 ct0),sl0⟩) (c0:PySem.W.codeIn K cd0 "has" = true) (k0:PySem.W.keepIn K (.ref f0)=true)
  {f1:Addr} {od1 an1:Option Addr} {sl1:Array (Option Value)} {oc1 kV1 dc1 pm1 cd1 ct1:Value}
  (a1:PySem.W.nsIn K mainGlobals "put_in" = some (some (.ref f1))) (l1:K.lookup f1=some ⟨oc1,od1,.func (PySem.W.fnOf "put_in" "put_in" (defArgs s_put_in) (defBody s_put_in) (defScope s_put_in) .none kV1 dc1 pm1 an1 cd1 ct1),sl1⟩) (c1:PySem.W.codeIn K cd1 "put_in" = true) (k1:PySem.W.keepIn K (.ref f1)=true)
  {f2:Addr} {od2 an2:Option Addr} {sl2:Array (Option Value)} {oc2 kV2 dc2 pm2 cd2 ct2:Value}
  (a2:PySem.W.nsIn K mainGlobals "taken_out" = some (some (.ref f2))) (l2:K.lookup f2=some ⟨oc2,od2,.func (PySem.W.fnOf "taken_out" "taken_out" (defArgs s_taken_out) (defBody s_taken_out) (defScope s_taken_out) .none kV2 dc2 pm2 an2 cd2 ct2),sl2⟩) (c2:PySem.W.codeIn K cd2 "taken_out" = true) (k2:PySem.W.keepIn K (.ref f2)=true)
  {f3:Addr} {od3 an3:Option Addr} {sl3:Array (Option Value)} {oc3 kV3 dc3 pm3 cd3 ct3:Value}
  (a3:PySem.W.nsIn K mainGlobals "less" = some (some (.ref f3))) (l3:K.lookup f3=some ⟨oc3,od3,.func (PySem.W.fnOf "less" "less" (defArgs s_less) (defBody s_less) (defScope s_less) .none kV3 dc3 pm3 an3 cd3 ct3),sl3⟩) (c3:PySem.W.codeIn K cd3 "less" = true) (k3:PySem.W.keepIn K (.ref f3)=true)
  {f4:Addr} {od4 an4:Option Addr} {sl4:Array (Option Value)} {oc4 kV4 dc4 pm4 cd4 ct4:Value}
  (a4:PySem.W.nsIn K mainGlobals "things_in" = some (some (.ref f4))) (l4:K.lookup f4=some ⟨oc4,od4,.func (PySem.W.fnOf "things_in" "things_in" (defArgs s_things_in) (defBody s_things_in) (defScope s_things_in) .none kV4 dc4 pm4 an4 cd4 ct4),sl4⟩) (c4:PySem.W.codeIn K cd4 "things_in" = true) (k4:PySem.W.keepIn K (.ref f4)=true)
  {f5:Addr} {od5 an5:Option Addr} {sl5:Array (Option Value)} {oc5 kV5 dc5 pm5 cd5 ct5:Value}
  (a5:PySem.W.nsIn K mainGlobals "heap_of" = some (some (.ref f5))) (l5:K.lookup f5=some ⟨oc5,od5,.func (PySem.W.fnOf "heap_of" "heap_of" (defArgs s_heap_of) (defBody s_heap_of) (defScope s_heap_of) .none kV5 dc5 pm5 an5 cd5 ct5),sl5⟩) (c5:PySem.W.codeIn K cd5 "heap_of" = true) (k5:PySem.W.keepIn K (.ref f5)=true)
  {f6:Addr} {od6 an6:Option Addr} {sl6:Array (Option Value)} {oc6 kV6 dc6 pm6 cd6 ct6:Value}
  (a6:PySem.W.nsIn K mainGlobals "is_within" = some (some (.ref f6))) (l6:K.lookup f6=some ⟨oc6,od6,.func (PySem.W.fnOf "is_within" "is_within" (defArgs s_is_within) (defBody s_is_within) (defScope s_is_within) .none kV6 dc6 pm6 an6 cd6 ct6),sl6⟩) (c6:PySem.W.codeIn K cd6 "is_within" = true) (k6:PySem.W.keepIn K (.ref f6)=true)
  {f7:Addr} {od7 an7:Option Addr} {sl7:Array (Option Value)} {oc7 kV7 dc7 pm7 cd7 ct7:Value}
  (a7:PySem.W.nsIn K mainGlobals "heap_of_side" = some (some (.ref f7))) (l7:K.lookup f7=some ⟨oc7,od7,.func (PySem.W.fnOf "heap_of_side" "heap_of_side" (defArgs s_heap_of_side) (defBody s_heap_of_side) (defScope s_heap_of_side) .none kV7 dc7 pm7 an7 cd7 ct7),sl7⟩) (c7:PySem.W.codeIn K cd7 "heap_of_side" = true) (k7:PySem.W.keepIn K (.ref f7)=true)
  {f8:Addr} {od8 an8:Option Addr} {sl8:Array (Option Value)} {oc8 kV8 dc8 pm8 cd8 ct8:Value}
  (a8:PySem.W.nsIn K mainGlobals "alone" = some (some (.ref f8))) (l8:K.lookup f8=some ⟨oc8,od8,.func (PySem.W.fnOf "alone" "alone" (defArgs s_alone) (defBody s_alone) (defScope s_alone) .none kV8 dc8 pm8 an8 cd8 ct8),sl8⟩) (c8:PySem.W.codeIn K cd8 "alone" = true) (k8:PySem.W.keepIn K (.ref f8)=true)
  {f9:Addr} {od9 an9:Option Addr} {sl9:Array (Option Value)} {oc9 kV9 dc9 pm9 cd9 ct9:Value}
  (a9:PySem.W.nsIn K mainGlobals "some_of" = some (some (.ref f9))) (l9:K.lookup f9=some ⟨oc9,od9,.func (PySem.W.fnOf "some_of" "some_of" (defArgs s_some_of) (defBody s_some_of) (defScope s_some_of) .none kV9 dc9 pm9 an9 cd9 ct9),sl9⟩) (c9:PySem.W.codeIn K cd9 "some_of" = true) (k9:PySem.W.keepIn K (.ref f9)=true)
  {f10:Addr} {od10 an10:Option Addr} {sl10:Array (Option Value)} {oc10 kV10 dc10 pm10 cd10 ct10:Value}
  (a10:PySem.W.nsIn K mainGlobals "joined" = some (some (.ref f10))) (l10:K.lookup f10=some ⟨oc10,od10,.func (PySem.W.fnOf "joined" "joined" (defArgs s_joined) (defBody s_joined) (defScope s_joined) .none kV10 dc10 pm10 an10 cd10 ct10),sl10⟩) (c10:PySem.W.codeIn K cd10 "joined" = true) (k10:PySem.W.keepIn K (.ref f10)=true)
  {f11:Addr} {od11 an11:Option Addr} {sl11:Array (Option Value)} {oc11 kV11 dc11 pm11 cd11 ct11:Value}
  (a11:PySem.W.nsIn K mainGlobals "most_parted" = some (some (.ref f11))) (l11:K.lookup f11=some ⟨oc11,od11,.func (PySem.W.fnOf "most_parted" "most_parted" (defArgs s_most_parted) (defBody s_most_parted) (defScope s_most_parted) .none kV11 dc11 pm11 an11 cd11 ct11),sl11⟩) (c11:PySem.W.codeIn K cd11 "most_parted" = true) (k11:PySem.W.keepIn K (.ref f11)=true)
  {f12:Addr} {od12 an12:Option Addr} {sl12:Array (Option Value)} {oc12 kV12 dc12 pm12 cd12 ct12:Value}
  (a12:PySem.W.nsIn K mainGlobals "paired" = some (some (.ref f12))) (l12:K.lookup f12=some ⟨oc12,od12,.func (PySem.W.fnOf "paired" "paired" (defArgs s_paired) (defBody s_paired) (defScope s_paired) .none kV12 dc12 pm12 an12 cd12 ct12),sl12⟩) (c12:PySem.W.codeIn K cd12 "paired" = true) (k12:PySem.W.keepIn K (.ref f12)=true)
  {f13:Addr} {od13 an13:Option Addr} {sl13:Array (Option Value)} {oc13 kV13 dc13 pm13 cd13 ct13:Value}
  (a13:PySem.W.nsIn K mainGlobals "with_pair" = some (some (.ref f13))) (l13:K.lookup f13=some ⟨oc13,od13,.func (PySem.W.fnOf "with_pair" "with_pair" (defArgs s_with_pair) (defBody s_with_pair) (defScope s_with_pair) .none kV13 dc13 pm13 an13 cd13 ct13),sl13⟩) (c13:PySem.W.codeIn K cd13 "with_pair" = true) (k13:PySem.W.keepIn K (.ref f13)=true)
  {f14:Addr} {od14 an14:Option Addr} {sl14:Array (Option Value)} {oc14 kV14 dc14 pm14 cd14 ct14:Value}
  (a14:PySem.W.nsIn K mainGlobals "turned" = some (some (.ref f14))) (l14:K.lookup f14=some ⟨oc14,od14,.func (PySem.W.fnOf "turned" "turned" (defArgs s_turned) (defBody s_turned) (defScope s_turned) .none kV14 dc14 pm14 an14 cd14 ct14),sl14⟩) (c14:PySem.W.codeIn K cd14 "turned" = true) (k14:PySem.W.keepIn K (.ref f14)=true)
  {f15:Addr} {od15 an15:Option Addr} {sl15:Array (Option Value)} {oc15 kV15 dc15 pm15 cd15 ct15:Value}
  (a15:PySem.W.nsIn K mainGlobals "breaking" = some (some (.ref f15))) (l15:K.lookup f15=some ⟨oc15,od15,.func (PySem.W.fnOf "breaking" "breaking" (defArgs s_breaking) (defBody s_breaking) (defScope s_breaking) .none kV15 dc15 pm15 an15 cd15 ct15),sl15⟩) (c15:PySem.W.codeIn K cd15 "breaking" = true) (k15:PySem.W.keepIn K (.ref f15)=true)
  {f16:Addr} {od16 an16:Option Addr} {sl16:Array (Option Value)} {oc16 kV16 dc16 pm16 cd16 ct16:Value}
  (a16:PySem.W.nsIn K mainGlobals "first_pair" = some (some (.ref f16))) (l16:K.lookup f16=some ⟨oc16,od16,.func (PySem.W.fnOf "first_pair" "first_pair" (defArgs s_first_pair) (defBody s_first_pair) (defScope s_first_pair) .none kV16 dc16 pm16 an16 cd16 ct16),sl16⟩) (c16:PySem.W.codeIn K cd16 "first_pair" = true) (k16:PySem.W.keepIn K (.ref f16)=true)
  {f17:Addr} {od17 an17:Option Addr} {sl17:Array (Option Value)} {oc17 kV17 dc17 pm17 cd17 ct17:Value}
  (a17:PySem.W.nsIn K mainGlobals "first_three" = some (some (.ref f17))) (l17:K.lookup f17=some ⟨oc17,od17,.func (PySem.W.fnOf "first_three" "first_three" (defArgs s_first_three) (defBody s_first_three) (defScope s_first_three) .none kV17 dc17 pm17 an17 cd17 ct17),sl17⟩) (c17:PySem.W.codeIn K cd17 "first_three" = true) (k17:PySem.W.keepIn K (.ref f17)=true)
  {f18:Addr} {od18 an18:Option Addr} {sl18:Array (Option Value)} {oc18 kV18 dc18 pm18 cd18 ct18:Value}
  (a18:PySem.W.nsIn K mainGlobals "things_beside" = some (some (.ref f18))) (l18:K.lookup f18=some ⟨oc18,od18,.func (PySem.W.fnOf "things_beside" "things_beside" (defArgs s_things_beside) (defBody s_things_beside) (defScope s_things_beside) .none kV18 dc18 pm18 an18 cd18 ct18),sl18⟩) (c18:PySem.W.codeIn K cd18 "things_beside" = true) (k18:PySem.W.keepIn K (.ref f18)=true)
  {f19:Addr} {od19 an19:Option Addr} {sl19:Array (Option Value)} {oc19 kV19 dc19 pm19 cd19 ct19:Value}
  (a19:PySem.W.nsIn K mainGlobals "pairs_beside" = some (some (.ref f19))) (l19:K.lookup f19=some ⟨oc19,od19,.func (PySem.W.fnOf "pairs_beside" "pairs_beside" (defArgs s_pairs_beside) (defBody s_pairs_beside) (defScope s_pairs_beside) .none kV19 dc19 pm19 an19 cd19 ct19),sl19⟩) (c19:PySem.W.codeIn K cd19 "pairs_beside" = true) (k19:PySem.W.keepIn K (.ref f19)=true)
  {f20:Addr} {od20 an20:Option Addr} {sl20:Array (Option Value)} {oc20 kV20 dc20 pm20 cd20 ct20:Value}
  (a20:PySem.W.nsIn K mainGlobals "pair_breaks" = some (some (.ref f20))) (l20:K.lookup f20=some ⟨oc20,od20,.func (PySem.W.fnOf "pair_breaks" "pair_breaks" (defArgs s_pair_breaks) (defBody s_pair_breaks) (defScope s_pair_breaks) .none kV20 dc20 pm20 an20 cd20 ct20),sl20⟩) (c20:PySem.W.codeIn K cd20 "pair_breaks" = true) (k20:PySem.W.keepIn K (.ref f20)=true)
  {f21:Addr} {od21 an21:Option Addr} {sl21:Array (Option Value)} {oc21 kV21 dc21 pm21 cd21 ct21:Value}
  (a21:PySem.W.nsIn K mainGlobals "three_break" = some (some (.ref f21))) (l21:K.lookup f21=some ⟨oc21,od21,.func (PySem.W.fnOf "three_break" "three_break" (defArgs s_three_break) (defBody s_three_break) (defScope s_three_break) .none kV21 dc21 pm21 an21 cd21 ct21),sl21⟩) (c21:PySem.W.codeIn K cd21 "three_break" = true) (k21:PySem.W.keepIn K (.ref f21)=true)
  {f22:Addr} {od22 an22:Option Addr} {sl22:Array (Option Value)} {oc22 kV22 dc22 pm22 cd22 ct22:Value}
  (a22:PySem.W.nsIn K mainGlobals "parted" = some (some (.ref f22))) (l22:K.lookup f22=some ⟨oc22,od22,.func (PySem.W.fnOf "parted" "parted" (defArgs s_parted) (defBody s_parted) (defScope s_parted) .none kV22 dc22 pm22 an22 cd22 ct22),sl22⟩) (c22:PySem.W.codeIn K cd22 "parted" = true) (k22:PySem.W.keepIn K (.ref f22)=true)
  {f23:Addr} {od23 an23:Option Addr} {sl23:Array (Option Value)} {oc23 kV23 dc23 pm23 cd23 ct23:Value}
  (a23:PySem.W.nsIn K mainGlobals "exchanges" = some (some (.ref f23))) (l23:K.lookup f23=some ⟨oc23,od23,.func (PySem.W.fnOf "exchanges" "exchanges" (defArgs s_exchanges) (defBody s_exchanges) (defScope s_exchanges) .none kV23 dc23 pm23 an23 cd23 ct23),sl23⟩) (c23:PySem.W.codeIn K cd23 "exchanges" = true) (k23:PySem.W.keepIn K (.ref f23)=true)
  {f24:Addr} {od24 an24:Option Addr} {sl24:Array (Option Value)} {oc24 kV24 dc24 pm24 cd24 ct24:Value}
  (a24:PySem.W.nsIn K mainGlobals "exchange_places" = some (some (.ref f24))) (l24:K.lookup f24=some ⟨oc24,od24,.func (PySem.W.fnOf "exchange_places" "exchange_places" (defArgs s_exchange_places) (defBody s_exchange_places) (defScope s_exchange_places) .none kV24 dc24 pm24 an24 cd24 ct24),sl24⟩) (c24:PySem.W.codeIn K cd24 "exchange_places" = true) (k24:PySem.W.keepIn K (.ref f24)=true)
  {f25:Addr} {od25 an25:Option Addr} {sl25:Array (Option Value)} {oc25 kV25 dc25 pm25 cd25 ct25:Value}
  (a25:PySem.W.nsIn K mainGlobals "exchanges_at" = some (some (.ref f25))) (l25:K.lookup f25=some ⟨oc25,od25,.func (PySem.W.fnOf "exchanges_at" "exchanges_at" (defArgs s_exchanges_at) (defBody s_exchanges_at) (defScope s_exchanges_at) .none kV25 dc25 pm25 an25 cd25 ct25),sl25⟩) (c25:PySem.W.codeIn K cd25 "exchanges_at" = true) (k25:PySem.W.keepIn K (.ref f25)=true)
  {f26:Addr} {od26 an26:Option Addr} {sl26:Array (Option Value)} {oc26 kV26 dc26 pm26 cd26 ct26:Value}
  (a26:PySem.W.nsIn K mainGlobals "is_exchange" = some (some (.ref f26))) (l26:K.lookup f26=some ⟨oc26,od26,.func (PySem.W.fnOf "is_exchange" "is_exchange" (defArgs s_is_exchange) (defBody s_is_exchange) (defScope s_is_exchange) .none kV26 dc26 pm26 an26 cd26 ct26),sl26⟩) (c26:PySem.W.codeIn K cd26 "is_exchange" = true) (k26:PySem.W.keepIn K (.ref f26)=true)
  {f27:Addr} {od27 an27:Option Addr} {sl27:Array (Option Value)} {oc27 kV27 dc27 pm27 cd27 ct27:Value}
  (a27:PySem.W.nsIn K mainGlobals "is_whole" = some (some (.ref f27))) (l27:K.lookup f27=some ⟨oc27,od27,.func (PySem.W.fnOf "is_whole" "is_whole" (defArgs s_is_whole) (defBody s_is_whole) (defScope s_is_whole) .none kV27 dc27 pm27 an27 cd27 ct27),sl27⟩) (c27:PySem.W.codeIn K cd27 "is_whole" = true) (k27:PySem.W.keepIn K (.ref f27)=true)
  {f28:Addr} {od28 an28:Option Addr} {sl28:Array (Option Value)} {oc28 kV28 dc28 pm28 cd28 ct28:Value}
  (a28:PySem.W.nsIn K mainGlobals "are_wholes" = some (some (.ref f28))) (l28:K.lookup f28=some ⟨oc28,od28,.func (PySem.W.fnOf "are_wholes" "are_wholes" (defArgs s_are_wholes) (defBody s_are_wholes) (defScope s_are_wholes) .none kV28 dc28 pm28 an28 cd28 ct28),sl28⟩) (c28:PySem.W.codeIn K cd28 "are_wholes" = true) (k28:PySem.W.keepIn K (.ref f28)=true)
  {f29:Addr} {od29 an29:Option Addr} {sl29:Array (Option Value)} {oc29 kV29 dc29 pm29 cd29 ct29:Value}
  (a29:PySem.W.nsIn K mainGlobals "shows_exchanges" = some (some (.ref f29))) (l29:K.lookup f29=some ⟨oc29,od29,.func (PySem.W.fnOf "shows_exchanges" "shows_exchanges" (defArgs s_shows_exchanges) (defBody s_shows_exchanges) (defScope s_shows_exchanges) .none kV29 dc29 pm29 an29 cd29 ct29),sl29⟩) (c29:PySem.W.codeIn K cd29 "shows_exchanges" = true) (k29:PySem.W.keepIn K (.ref f29)=true)
  {f30:Addr} {od30 an30:Option Addr} {sl30:Array (Option Value)} {oc30 kV30 dc30 pm30 cd30 ct30:Value}
  (a30:PySem.W.nsIn K mainGlobals "shows_exchange" = some (some (.ref f30))) (l30:K.lookup f30=some ⟨oc30,od30,.func (PySem.W.fnOf "shows_exchange" "shows_exchange" (defArgs s_shows_exchange) (defBody s_shows_exchange) (defScope s_shows_exchange) .none kV30 dc30 pm30 an30 cd30 ct30),sl30⟩) (c30:PySem.W.codeIn K cd30 "shows_exchange" = true) (k30:PySem.W.keepIn K (.ref f30)=true)
  {f31:Addr} {od31 an31:Option Addr} {sl31:Array (Option Value)} {oc31 kV31 dc31 pm31 cd31 ct31:Value}
  (a31:PySem.W.nsIn K mainGlobals "price_break" = some (some (.ref f31))) (l31:K.lookup f31=some ⟨oc31,od31,.func (PySem.W.fnOf "price_break" "price_break" (defArgs s_price_break) (defBody s_price_break) (defScope s_price_break) .none kV31 dc31 pm31 an31 cd31 ct31),sl31⟩) (c31:PySem.W.codeIn K cd31 "price_break" = true) (k31:PySem.W.keepIn K (.ref f31)=true)
  {f32:Addr} {od32 an32:Option Addr} {sl32:Array (Option Value)} {oc32 kV32 dc32 pm32 cd32 ct32:Value}
  (a32:PySem.W.nsIn K mainGlobals "far_prices" = some (some (.ref f32))) (l32:K.lookup f32=some ⟨oc32,od32,.func (PySem.W.fnOf "far_prices" "far_prices" (defArgs s_far_prices) (defBody s_far_prices) (defScope s_far_prices) .none kV32 dc32 pm32 an32 cd32 ct32),sl32⟩) (c32:PySem.W.codeIn K cd32 "far_prices" = true) (k32:PySem.W.keepIn K (.ref f32)=true)
  {f33:Addr} {od33 an33:Option Addr} {sl33:Array (Option Value)} {oc33 kV33 dc33 pm33 cd33 ct33:Value}
  (a33:PySem.W.nsIn K mainGlobals "pair_prices" = some (some (.ref f33))) (l33:K.lookup f33=some ⟨oc33,od33,.func (PySem.W.fnOf "pair_prices" "pair_prices" (defArgs s_pair_prices) (defBody s_pair_prices) (defScope s_pair_prices) .none kV33 dc33 pm33 an33 cd33 ct33),sl33⟩) (c33:PySem.W.codeIn K cd33 "pair_prices" = true) (k33:PySem.W.keepIn K (.ref f33)=true)
  {f34:Addr} {od34 an34:Option Addr} {sl34:Array (Option Value)} {oc34 kV34 dc34 pm34 cd34 ct34:Value}
  (a34:PySem.W.nsIn K mainGlobals "three_prices" = some (some (.ref f34))) (l34:K.lookup f34=some ⟨oc34,od34,.func (PySem.W.fnOf "three_prices" "three_prices" (defArgs s_three_prices) (defBody s_three_prices) (defScope s_three_prices) .none kV34 dc34 pm34 an34 cd34 ct34),sl34⟩) (c34:PySem.W.codeIn K cd34 "three_prices" = true) (k34:PySem.W.keepIn K (.ref f34)=true)
  {f35:Addr} {od35 an35:Option Addr} {sl35:Array (Option Value)} {oc35 kV35 dc35 pm35 cd35 ct35:Value}
  (a35:PySem.W.nsIn K mainGlobals "with_signs" = some (some (.ref f35))) (l35:K.lookup f35=some ⟨oc35,od35,.func (PySem.W.fnOf "with_signs" "with_signs" (defArgs s_with_signs) (defBody s_with_signs) (defScope s_with_signs) .none kV35 dc35 pm35 an35 cd35 ct35),sl35⟩) (c35:PySem.W.codeIn K cd35 "with_signs" = true) (k35:PySem.W.keepIn K (.ref f35)=true)
  {f36:Addr} {od36 an36:Option Addr} {sl36:Array (Option Value)} {oc36 kV36 dc36 pm36 cd36 ct36:Value}
  (a36:PySem.W.nsIn K mainGlobals "lessened" = some (some (.ref f36))) (l36:K.lookup f36=some ⟨oc36,od36,.func (PySem.W.fnOf "lessened" "lessened" (defArgs s_lessened) (defBody s_lessened) (defScope s_lessened) .none kV36 dc36 pm36 an36 cd36 ct36),sl36⟩) (c36:PySem.W.codeIn K cd36 "lessened" = true) (k36:PySem.W.keepIn K (.ref f36)=true)
  {f37:Addr} {od37 an37:Option Addr} {sl37:Array (Option Value)} {oc37 kV37 dc37 pm37 cd37 ct37:Value}
  (a37:PySem.W.nsIn K mainGlobals "_law_box" = some (some (.ref f37))) (l37:K.lookup f37=some ⟨oc37,od37,.func (PySem.W.fnOf "_law_box" "_law_box" (defArgs s__law_box) (defBody s__law_box) (defScope s__law_box) .none kV37 dc37 pm37 an37 cd37 ct37),sl37⟩) (c37:PySem.W.codeIn K cd37 "_law_box" = true) (k37:PySem.W.keepIn K (.ref f37)=true)
  {f38:Addr} {od38 an38:Option Addr} {sl38:Array (Option Value)} {oc38 kV38 dc38 pm38 cd38 ct38:Value}
  (a38:PySem.W.nsIn K mainGlobals "_law_take" = some (some (.ref f38))) (l38:K.lookup f38=some ⟨oc38,od38,.func (PySem.W.fnOf "_law_take" "_law_take" (defArgs s__law_take) (defBody s__law_take) (defScope s__law_take) .none kV38 dc38 pm38 an38 cd38 ct38),sl38⟩) (c38:PySem.W.codeIn K cd38 "_law_take" = true) (k38:PySem.W.keepIn K (.ref f38)=true)
  {f39:Addr} {od39 an39:Option Addr} {sl39:Array (Option Value)} {oc39 kV39 dc39 pm39 cd39 ct39:Value}
  (a39:PySem.W.nsIn K mainGlobals "_law_many" = some (some (.ref f39))) (l39:K.lookup f39=some ⟨oc39,od39,.func (PySem.W.fnOf "_law_many" "_law_many" (defArgs s__law_many) (defBody s__law_many) (defScope s__law_many) .none kV39 dc39 pm39 an39 cd39 ct39),sl39⟩) (c39:PySem.W.codeIn K cd39 "_law_many" = true) (k39:PySem.W.keepIn K (.ref f39)=true)
  {f40:Addr} {od40 an40:Option Addr} {sl40:Array (Option Value)} {oc40 kV40 dc40 pm40 cd40 ct40:Value}
  (a40:PySem.W.nsIn K mainGlobals "_law_worths" = some (some (.ref f40))) (l40:K.lookup f40=some ⟨oc40,od40,.func (PySem.W.fnOf "_law_worths" "_law_worths" (defArgs s__law_worths) (defBody s__law_worths) (defScope s__law_worths) .none kV40 dc40 pm40 an40 cd40 ct40),sl40⟩) (c40:PySem.W.codeIn K cd40 "_law_worths" = true) (k40:PySem.W.keepIn K (.ref f40)=true)
  {f41:Addr} {od41 an41:Option Addr} {sl41:Array (Option Value)} {oc41 kV41 dc41 pm41 cd41 ct41:Value}
  (a41:PySem.W.nsIn K mainGlobals "_law_rows" = some (some (.ref f41))) (l41:K.lookup f41=some ⟨oc41,od41,.func (PySem.W.fnOf "_law_rows" "_law_rows" (defArgs s__law_rows) (defBody s__law_rows) (defScope s__law_rows) .none kV41 dc41 pm41 an41 cd41 ct41),sl41⟩) (c41:PySem.W.codeIn K cd41 "_law_rows" = true) (k41:PySem.W.keepIn K (.ref f41)=true)
  {f42:Addr} {od42 an42:Option Addr} {sl42:Array (Option Value)} {oc42 kV42 dc42 pm42 cd42 ct42:Value}
  (a42:PySem.W.nsIn K mainGlobals "_law_first" = some (some (.ref f42))) (l42:K.lookup f42=some ⟨oc42,od42,.func (PySem.W.fnOf "_law_first" "_law_first" (defArgs s__law_first) (defBody s__law_first) (defScope s__law_first) .none kV42 dc42 pm42 an42 cd42 ct42),sl42⟩) (c42:PySem.W.codeIn K cd42 "_law_first" = true) (k42:PySem.W.keepIn K (.ref f42)=true)
  {f43:Addr} {od43 an43:Option Addr} {sl43:Array (Option Value)} {oc43 kV43 dc43 pm43 cd43 ct43:Value}
  (a43:PySem.W.nsIn K mainGlobals "_law_made" = some (some (.ref f43))) (l43:K.lookup f43=some ⟨oc43,od43,.func (PySem.W.fnOf "_law_made" "_law_made" (defArgs s__law_made) (defBody s__law_made) (defScope s__law_made) .none kV43 dc43 pm43 an43 cd43 ct43),sl43⟩) (c43:PySem.W.codeIn K cd43 "_law_made" = true) (k43:PySem.W.keepIn K (.ref f43)=true)
  {f44:Addr} {od44 an44:Option Addr} {sl44:Array (Option Value)} {oc44 kV44 dc44 pm44 cd44 ct44:Value}
  (a44:PySem.W.nsIn K mainGlobals "_law_planted" = some (some (.ref f44))) (l44:K.lookup f44=some ⟨oc44,od44,.func (PySem.W.fnOf "_law_planted" "_law_planted" (defArgs s__law_planted) (defBody s__law_planted) (defScope s__law_planted) .none kV44 dc44 pm44 an44 cd44 ct44),sl44⟩) (c44:PySem.W.codeIn K cd44 "_law_planted" = true) (k44:PySem.W.keepIn K (.ref f44)=true)
  {f45:Addr} {od45 an45:Option Addr} {sl45:Array (Option Value)} {oc45 kV45 dc45 pm45 cd45 ct45:Value}
  (a45:PySem.W.nsIn K mainGlobals "law" = some (some (.ref f45))) (l45:K.lookup f45=some ⟨oc45,od45,.func (PySem.W.fnOf "law" "law" (defArgs s_law) (defBody s_law) (defScope s_law) .none kV45 dc45 pm45 an45 cd45 ct45),sl45⟩) (c45:PySem.W.codeIn K cd45 "law" = true) (k45:PySem.W.keepIn K (.ref f45)=true)
  (z_len:PySem.W.nsIn K mainGlobals "len" = some none)
  (z_sum:PySem.W.nsIn K mainGlobals "sum" = some none)
  (z_all:PySem.W.nsIn K mainGlobals "all" = some none)
  (z_isinstance:PySem.W.nsIn K mainGlobals "isinstance" = some none)
  (z_abs:PySem.W.nsIn K mainGlobals "abs" = some none)
  (z_min:PySem.W.nsIn K mainGlobals "min" = some none)
  (z_max:PySem.W.nsIn K mainGlobals "max" = some none)
  (z_range:PySem.W.nsIn K mainGlobals "range" = some none)
  (z_tuple:PySem.W.nsIn K mainGlobals "tuple" = some none)
  (z_list:PySem.W.nsIn K mainGlobals "list" = some none)
  (z_int:PySem.W.nsIn K mainGlobals "int" = some none)
  (z_bool:PySem.W.nsIn K mainGlobals "bool" = some none)
  (z_zip:PySem.W.nsIn K mainGlobals "zip" = some none)
  (z_sorted:PySem.W.nsIn K mainGlobals "sorted" = some none)
  : ∃ fd:FuncData,(∀ (s:Shared) (v:Value),BindsTo s fd ⟨[v],[]⟩ [("_law_script",v)])∧∀ base:Heap,K.In base→base.Ns mainGlobals mg→FnOk l.prog w K mg base CX0 7 fa fd ["_law_script"] (sp_law K):=by
 have e:=hfa.symm.trans (PySem.W.mg_of X G a45)
 cases e
 have T:Txt mg:=⟨PySem.W.mg_none_of X G z_len,PySem.W.mg_none_of X G z_sum,PySem.W.mg_none_of X G z_all,PySem.W.mg_none_of X G z_isinstance,PySem.W.mg_none_of X G z_abs,PySem.W.mg_none_of X G z_min,PySem.W.mg_none_of X G z_max,PySem.W.mg_none_of X G z_range,PySem.W.mg_none_of X G z_tuple,PySem.W.mg_none_of X G z_list,PySem.W.mg_none_of X G z_int,PySem.W.mg_none_of X G z_bool,PySem.W.mg_none_of X G z_zip,PySem.W.mg_none_of X G z_sorted⟩
 have F_has:=fun_mk (st:=s_has) l0 c0 k0
 have m_has:=PySem.W.mg_of X G a0
 have b_has:=F_has.binds (ps:=["heap", "thing"]) fun _ _ _ _ _ _=>L2.us2 (fun _ _=>rfl)
 have F_put_in:=fun_mk (st:=s_put_in) l1 c1 k1
 have m_put_in:=PySem.W.mg_of X G a1
 have b_put_in:=F_put_in.binds (ps:=["heap", "thing"]) fun _ _ _ _ _ _=>L2.us2 (fun _ _=>rfl)
 have F_taken_out:=fun_mk (st:=s_taken_out) l2 c2 k2
 have m_taken_out:=PySem.W.mg_of X G a2
 have b_taken_out:=F_taken_out.binds (ps:=["heap", "thing"]) fun _ _ _ _ _ _=>L2.us2 (fun _ _=>rfl)
 have F_less:=fun_mk (st:=s_less) l3 c3 k3
 have m_less:=PySem.W.mg_of X G a3
 have b_less:=F_less.binds (ps:=["one", "other"]) fun _ _ _ _ _ _=>L2.us2 (fun _ _=>rfl)
 have F_things_in:=fun_mk (st:=s_things_in) l4 c4 k4
 have m_things_in:=PySem.W.mg_of X G a4
 have b_things_in:=F_things_in.binds (ps:=["heap"]) fun _ _ _ _ _ _=>L2.us1 (fun _=>rfl)
 have F_heap_of:=fun_mk (st:=s_heap_of) l5 c5 k5
 have m_heap_of:=PySem.W.mg_of X G a5
 have b_heap_of:=F_heap_of.binds (ps:=["things"]) fun _ _ _ _ _ _=>L2.us1 (fun _=>rfl)
 have F_is_within:=fun_mk (st:=s_is_within) l6 c6 k6
 have m_is_within:=PySem.W.mg_of X G a6
 have b_is_within:=F_is_within.binds (ps:=["one", "other"]) fun _ _ _ _ _ _=>L2.us2 (fun _ _=>rfl)
 have F_heap_of_side:=fun_mk (st:=s_heap_of_side) l7 c7 k7
 have m_heap_of_side:=PySem.W.mg_of X G a7
 have b_heap_of_side:=F_heap_of_side.binds (ps:=["sides", "side"]) fun _ _ _ _ _ _=>L2.us2 (fun _ _=>rfl)
 have F_alone:=fun_mk (st:=s_alone) l8 c8 k8
 have m_alone:=PySem.W.mg_of X G a8
 have b_alone:=F_alone.binds (ps:=["worths"]) fun _ _ _ _ _ _=>L2.us1 (fun _=>rfl)
 have F_some_of:=fun_mk (st:=s_some_of) l9 c9 k9
 have m_some_of:=PySem.W.mg_of X G a9
 have b_some_of:=F_some_of.binds (ps:=["worths", "many"]) fun _ _ _ _ _ _=>L2.us2 (fun _ _=>rfl)
 have F_joined:=fun_mk (st:=s_joined) l10 c10 k10
 have m_joined:=PySem.W.mg_of X G a10
 have b_joined:=F_joined.binds (ps:=["one", "other"]) fun _ _ _ _ _ _=>L2.us2 (fun _ _=>rfl)
 have F_most_parted:=fun_mk (st:=s_most_parted) l11 c11 k11
 have m_most_parted:=PySem.W.mg_of X G a11
 have b_most_parted:=F_most_parted.binds (ps:=["one", "other", "heap"]) fun _ _ _ _ _ _=>L2.us3 (fun _ _ _=>rfl)
 have F_paired:=fun_mk (st:=s_paired) l12 c12 k12
 have m_paired:=PySem.W.mg_of X G a12
 have b_paired:=F_paired.binds (ps:=["sides", "rows"]) fun _ _ _ _ _ _=>L2.us2 (fun _ _=>rfl)
 have F_with_pair:=fun_mk (st:=s_with_pair) l13 c13 k13
 have m_with_pair:=PySem.W.mg_of X G a13
 have b_with_pair:=F_with_pair.binds (ps:=["want", "pair", "worth"]) fun _ _ _ _ _ _=>L2.us3 (fun _ _ _=>rfl)
 have F_turned:=fun_mk (st:=s_turned) l14 c14 k14
 have m_turned:=PySem.W.mg_of X G a14
 have b_turned:=F_turned.binds (ps:=["want", "sides"]) fun _ _ _ _ _ _=>L2.us2 (fun _ _=>rfl)
 have F_breaking:=fun_mk (st:=s_breaking) l15 c15 k15
 have m_breaking:=PySem.W.mg_of X G a15
 have b_breaking:=F_breaking.binds (ps:=["want", "sides"]) fun _ _ _ _ _ _=>L2.us2 (fun _ _=>rfl)
 have F_first_pair:=fun_mk (st:=s_first_pair) l16 c16 k16
 have m_first_pair:=PySem.W.mg_of X G a16
 have b_first_pair:=F_first_pair.binds (ps:=["worths", "many"]) fun _ _ _ _ _ _=>L2.us2 (fun _ _=>rfl)
 have F_first_three:=fun_mk (st:=s_first_three) l17 c17 k17
 have m_first_three:=PySem.W.mg_of X G a17
 have b_first_three:=F_first_three.binds (ps:=["worths", "many"]) fun _ _ _ _ _ _=>L2.us2 (fun _ _=>rfl)
 have F_things_beside:=fun_mk (st:=s_things_beside) l18 c18 k18
 have m_things_beside:=PySem.W.mg_of X G a18
 have b_things_beside:=F_things_beside.binds (ps:=["heap", "many"]) fun _ _ _ _ _ _=>L2.us2 (fun _ _=>rfl)
 have F_pairs_beside:=fun_mk (st:=s_pairs_beside) l19 c19 k19
 have m_pairs_beside:=PySem.W.mg_of X G a19
 have b_pairs_beside:=F_pairs_beside.binds (ps:=["heap", "many"]) fun _ _ _ _ _ _=>L2.us2 (fun _ _=>rfl)
 have F_pair_breaks:=fun_mk (st:=s_pair_breaks) l20 c20 k20
 have m_pair_breaks:=PySem.W.mg_of X G a20
 have b_pair_breaks:=F_pair_breaks.binds (ps:=["worths", "heap", "i", "j"]) fun _ _ _ _ _ _=>L2.us4 (fun _ _ _ _=>rfl)
 have F_three_break:=fun_mk (st:=s_three_break) l21 c21 k21
 have m_three_break:=PySem.W.mg_of X G a21
 have b_three_break:=F_three_break.binds (ps:=["worths", "heap", "i", "j", "k"]) fun _ _ _ _ _ _=>L2.us5 (fun _ _ _ _ _=>rfl)
 have F_parted:=fun_mk (st:=s_parted) l22 c22 k22
 have m_parted:=PySem.W.mg_of X G a22
 have b_parted:=F_parted.binds (ps:=["worths", "heap", "one", "other", "third"]) fun _ _ _ _ _ _=>L2.us5 (fun _ _ _ _ _=>rfl)
 have F_exchanges:=fun_mk (st:=s_exchanges) l23 c23 k23
 have m_exchanges:=PySem.W.mg_of X G a23
 have b_exchanges:=F_exchanges.binds (ps:=["want", "sides"]) fun _ _ _ _ _ _=>L2.us2 (fun _ _=>rfl)
 have F_exchange_places:=fun_mk (st:=s_exchange_places) l24 c24 k24
 have m_exchange_places:=PySem.W.mg_of X G a24
 have b_exchange_places:=F_exchange_places.binds (ps:=["many"]) fun _ _ _ _ _ _=>L2.us1 (fun _=>rfl)
 have F_exchanges_at:=fun_mk (st:=s_exchanges_at) l25 c25 k25
 have m_exchanges_at:=PySem.W.mg_of X G a25
 have b_exchanges_at:=F_exchanges_at.binds (ps:=["worths", "one", "other", "thing"]) fun _ _ _ _ _ _=>L2.us4 (fun _ _ _ _=>rfl)
 have F_is_exchange:=fun_mk (st:=s_is_exchange) l26 c26 k26
 have m_is_exchange:=PySem.W.mg_of X G a26
 have b_is_exchange:=F_is_exchange.binds (ps:=["worths", "one", "other", "thing", "choice"]) fun _ _ _ _ _ _=>L2.us5 (fun _ _ _ _ _=>rfl)
 have F_is_whole:=fun_mk (st:=s_is_whole) l27 c27 k27
 have m_is_whole:=PySem.W.mg_of X G a27
 have b_is_whole:=F_is_whole.binds (ps:=["thing"]) fun _ _ _ _ _ _=>L2.us1 (fun _=>rfl)
 have F_are_wholes:=fun_mk (st:=s_are_wholes) l28 c28 k28
 have m_are_wholes:=PySem.W.mg_of X G a28
 have b_are_wholes:=F_are_wholes.binds (ps:=["thing", "many"]) fun _ _ _ _ _ _=>L2.us2 (fun _ _=>rfl)
 have F_shows_exchanges:=fun_mk (st:=s_shows_exchanges) l29 c29 k29
 have m_shows_exchanges:=PySem.W.mg_of X G a29
 have b_shows_exchanges:=F_shows_exchanges.binds (ps:=["want", "sides", "thing"]) fun _ _ _ _ _ _=>L2.us3 (fun _ _ _=>rfl)
 have F_shows_exchange:=fun_mk (st:=s_shows_exchange) l30 c30 k30
 have m_shows_exchange:=PySem.W.mg_of X G a30
 have b_shows_exchange:=F_shows_exchange.binds (ps:=["worths", "place", "row"]) fun _ _ _ _ _ _=>L2.us3 (fun _ _ _=>rfl)
 have F_price_break:=fun_mk (st:=s_price_break) l31 c31 k31
 have m_price_break:=PySem.W.mg_of X G a31
 have b_price_break:=F_price_break.binds (ps:=["want", "sides"]) fun _ _ _ _ _ _=>L2.us2 (fun _ _=>rfl)
 have F_far_prices:=fun_mk (st:=s_far_prices) l32 c32 k32
 have m_far_prices:=PySem.W.mg_of X G a32
 have b_far_prices:=F_far_prices.binds (ps:=["worths", "heap", "many"]) fun _ _ _ _ _ _=>L2.us3 (fun _ _ _=>rfl)
 have F_pair_prices:=fun_mk (st:=s_pair_prices) l33 c33 k33
 have m_pair_prices:=PySem.W.mg_of X G a33
 have b_pair_prices:=F_pair_prices.binds (ps:=["worths", "heap", "i", "j"]) fun _ _ _ _ _ _=>L2.us4 (fun _ _ _ _=>rfl)
 have F_three_prices:=fun_mk (st:=s_three_prices) l34 c34 k34
 have m_three_prices:=PySem.W.mg_of X G a34
 have b_three_prices:=F_three_prices.binds (ps:=["worths", "heap", "i", "j", "k"]) fun _ _ _ _ _ _=>L2.us5 (fun _ _ _ _ _=>rfl)
 have F_with_signs:=fun_mk (st:=s_with_signs) l35 c35 k35
 have m_with_signs:=PySem.W.mg_of X G a35
 have b_with_signs:=F_with_signs.binds (ps:=["prices", "sides"]) fun _ _ _ _ _ _=>L2.us2 (fun _ _=>rfl)
 have F_lessened:=fun_mk (st:=s_lessened) l36 c36 k36
 have m_lessened:=PySem.W.mg_of X G a36
 have b_lessened:=F_lessened.binds (ps:=["want", "thing"]) fun _ _ _ _ _ _=>L2.us2 (fun _ _=>rfl)
 have F__law_box:=fun_mk (st:=s__law_box) l37 c37 k37
 have m__law_box:=PySem.W.mg_of X G a37
 have b__law_box:=F__law_box.binds (ps:=["_law_script", "_law_k"]) fun _ _ _ _ _ _=>L2.us2 (fun _ _=>rfl)
 have F__law_take:=fun_mk (st:=s__law_take) l38 c38 k38
 have m__law_take:=PySem.W.mg_of X G a38
 have b__law_take:=F__law_take.binds (ps:=["_law_box_here", "_law_many_here"]) fun _ _ _ _ _ _=>L2.us2 (fun _ _=>rfl)
 have F__law_many:=fun_mk (st:=s__law_many) l39 c39 k39
 have m__law_many:=PySem.W.mg_of X G a39
 have b__law_many:=F__law_many.binds (ps:=["_law_box_here"]) fun _ _ _ _ _ _=>L2.us1 (fun _=>rfl)
 have F__law_worths:=fun_mk (st:=s__law_worths) l40 c40 k40
 have m__law_worths:=PySem.W.mg_of X G a40
 have b__law_worths:=F__law_worths.binds (ps:=["_law_box_here", "_law_many_here"]) fun _ _ _ _ _ _=>L2.us2 (fun _ _=>rfl)
 have F__law_rows:=fun_mk (st:=s__law_rows) l41 c41 k41
 have m__law_rows:=PySem.W.mg_of X G a41
 have b__law_rows:=F__law_rows.binds (ps:=["_law_box_here", "_law_sides"]) fun _ _ _ _ _ _=>L2.us2 (fun _ _=>rfl)
 have F__law_first:=fun_mk (st:=s__law_first) l42 c42 k42
 have m__law_first:=PySem.W.mg_of X G a42
 have b__law_first:=F__law_first.binds (ps:=["_law_box_here", "_law_sides"]) fun _ _ _ _ _ _=>L2.us2 (fun _ _=>rfl)
 have F__law_made:=fun_mk (st:=s__law_made) l43 c43 k43
 have m__law_made:=PySem.W.mg_of X G a43
 have b__law_made:=F__law_made.binds (ps:=["_law_box_here", "_law_sides"]) fun _ _ _ _ _ _=>L2.us2 (fun _ _=>rfl)
 have F__law_planted:=fun_mk (st:=s__law_planted) l44 c44 k44
 have m__law_planted:=PySem.W.mg_of X G a44
 have b__law_planted:=F__law_planted.binds (ps:=["_law_sides", "_law_worth"]) fun _ _ _ _ _ _=>L2.us2 (fun _ _=>rfl)
 have F_law:=fun_mk (st:=s_law) l45 c45 k45
 have m_law:=PySem.W.mg_of X G a45
 have b_law:=F_law.binds (ps:=["_law_script"]) fun _ _ _ _ _ _=>L2.us1 (fun _=>rfl)
 refine ⟨PySem.W.fnOf "law" "law" (defArgs s_law) (defBody s_law) (defScope s_law) .none kV45 dc45 pm45 an45 cd45 ct45,fun s v=>.of_eq rfl,fun base _ _=>?_⟩
 have c_take:=ok_take (P:=l.prog) (w:=w) (base:=base) F__law_take m__law_take b__law_take T
 have c_box:=ok_box (P:=l.prog) (w:=w) (base:=base) F__law_box m__law_box b__law_box T
 have c_many:=ok_many (P:=l.prog) (w:=w) (base:=base) F__law_many m__law_many b__law_many T c_take
 have c_worths:=ok_worths (P:=l.prog) (w:=w) (base:=base) F__law_worths m__law_worths b__law_worths T c_take
 have c_heap:=ok_heap (P:=l.prog) (w:=w) (base:=base) F_heap_of m_heap_of b_heap_of T
 have c_hp:=ok_hp (P:=l.prog) (w:=w) (base:=base) F_heap_of m_heap_of b_heap_of T
 have c_side:=ok_side (P:=l.prog) (w:=w) (base:=base) F_heap_of_side m_heap_of_side b_heap_of_side T c_heap
 have c_turned:=ok_turned (P:=l.prog) (w:=w) (base:=base) F_turned m_turned b_turned T c_side
 have c_less:=ok_less (P:=l.prog) (w:=w) (base:=base) F_less m_less b_less T
 have c_isw:=ok_isw (P:=l.prog) (w:=w) (base:=base) F_is_within m_is_within b_is_within T c_less
 have c_taken:=ok_taken (P:=l.prog) (w:=w) (base:=base) F_taken_out m_taken_out b_taken_out T c_less
 have c_put:=ok_put (P:=l.prog) (w:=w) (base:=base) F_put_in m_put_in b_put_in T
 have c_has:=ok_has (P:=l.prog) (w:=w) (base:=base) F_has m_has b_has T
 have c_things:=ok_things (P:=l.prog) (w:=w) (base:=base) F_things_in m_things_in b_things_in T c_has
 have c_some:=ok_some (P:=l.prog) (w:=w) (base:=base) F_some_of m_some_of b_some_of T c_things
 have c_alone:=ok_alone (P:=l.prog) (w:=w) (base:=base) F_alone m_alone b_alone T c_some
 have c_lessened:=ok_lessened (P:=l.prog) (w:=w) (base:=base) F_lessened m_lessened b_lessened T c_taken
 have c_mp:=ok_mp (P:=l.prog) (w:=w) (base:=base) F_most_parted m_most_parted b_most_parted T c_less c_isw
 have c_joined:=ok_joined (P:=l.prog) (w:=w) (base:=base) F_joined m_joined b_joined T c_mp
 have c_wp:=ok_wp (P:=l.prog) (w:=w) (base:=base) F_with_pair m_with_pair b_with_pair T c_less c_isw
 have c_paired:=ok_paired (P:=l.prog) (w:=w) (base:=base) F_paired m_paired b_paired T c_wp c_hp
 have c_tb:=ok_tb (P:=l.prog) (w:=w) (base:=base) F_things_beside m_things_beside b_things_beside T c_has
 have c_pb:=ok_pb (P:=l.prog) (w:=w) (base:=base) F_pairs_beside m_pairs_beside b_pairs_beside T c_tb
 have c_pbr:=ok_pbr (P:=l.prog) (w:=w) (base:=base) F_pair_breaks m_pair_breaks b_pair_breaks T c_put
 have c_parted:=ok_parted3 (P:=l.prog) (w:=w) (base:=base) F_parted m_parted b_parted T c_put
 have c_tbr:=ok_tbr (P:=l.prog) (w:=w) (base:=base) F_three_break m_three_break b_three_break T c_parted
 have c_fp:=ok_fp (P:=l.prog) (w:=w) (base:=base) F_first_pair m_first_pair b_first_pair T c_pb c_pbr
 have c_ft:=ok_ft (P:=l.prog) (w:=w) (base:=base) F_first_three m_first_three b_first_three T c_pb c_tb c_tbr
 have c_breaking:=ok_breaking (P:=l.prog) (w:=w) (base:=base) F_breaking m_breaking b_breaking T c_turned c_fp c_ft
 have c_isx:=ok_isx (P:=l.prog) (w:=w) (base:=base) F_is_exchange m_is_exchange b_is_exchange T c_taken c_put
 have c_xat:=ok_xat (P:=l.prog) (w:=w) (base:=base) F_exchanges_at m_exchanges_at b_exchanges_at T c_less c_things c_isx
 have c_xpl:=ok_xpl (P:=l.prog) (w:=w) (base:=base) F_exchange_places m_exchange_places b_exchange_places T c_less c_things
 have c_exch:=ok_exch (P:=l.prog) (w:=w) (base:=base) F_exchanges m_exchanges b_exchanges T c_turned c_xpl c_xat
 have c_whole:=ok_whole (P:=l.prog) (w:=w) (base:=base) F_is_whole m_is_whole b_is_whole T
 have c_wholes:=ok_wholes (P:=l.prog) (w:=w) (base:=base) F_are_wholes m_are_wholes b_are_wholes T c_whole
 have c_sx:=ok_sx (P:=l.prog) (w:=w) (base:=base) F_shows_exchange m_shows_exchange b_shows_exchange T c_wholes c_whole c_xat
 have c_sh:=ok_sh (P:=l.prog) (w:=w) (base:=base) F_shows_exchanges m_shows_exchanges b_shows_exchanges T c_turned c_xpl c_sx
 have c_farp:=cal_none (P:=l.prog) (w:=w) (base:=base) F_far_prices m_far_prices b_far_prices
 have c_pairp:=cal_none (P:=l.prog) (w:=w) (base:=base) F_pair_prices m_pair_prices b_pair_prices
 have c_three:=cal_none (P:=l.prog) (w:=w) (base:=base) F_three_prices m_three_prices b_three_prices
 have c_signs:=cal_none (P:=l.prog) (w:=w) (base:=base) F_with_signs m_with_signs b_with_signs
 have c_prb:=ok_prb (P:=l.prog) (w:=w) (base:=base) F_price_break m_price_break b_price_break T c_breaking c_turned c_pairp c_three c_farp c_signs c_put c_side
 have c_rows:=ok_rows (P:=l.prog) (w:=w) (base:=base) F__law_rows m__law_rows b__law_rows T c_take
 have c_first:=ok_first (P:=l.prog) (w:=w) (base:=base) F__law_first m__law_first b__law_first T c_take c_worths c_alone c_some c_rows c_paired
 have c_made:=ok_made (P:=l.prog) (w:=w) (base:=base) F__law_made m__law_made b__law_made T c_take c_first c_lessened c_joined
 have c_planted:=ok_planted (P:=l.prog) (w:=w) (base:=base) F__law_planted m__law_planted b__law_planted T c_alone
 exact ok_law (P:=l.prog) (w:=w) (base:=base) F_law T c_box c_take c_many c_made c_worths c_planted c_alone c_breaking c_prb c_exch c_sh
theorem walk {l:PySem.W.OpenLaw} {q:Program} {loose:List Str} {XP:(Str→Option Value)→Heap→Prop} {YP:World→Heap→Prop} {d:DefRec} {K:Params→PySem.W.Frag} (hn:l.most=some 63) (hdf:d.params.defaults=[])
  (hY:∀ (w:World) (h:Heap),YP w h→(K w.params).In h)
  (F:∀ (w:World) (mg:Str→Option Value) (fa:Addr) (h:Heap),(K w.params).In h→h.Ns mainGlobals mg→mg d.name=some (.ref fa) →
   ∃ fd:FuncData,(∀ (s:Shared) (u:Value),BindsTo s fd ⟨[u],[]⟩ [("_law_script",u)])∧∀ base:Heap,(K w.params).In base→base.Ns mainGlobals mg→FnOk l.prog w (K w.params) mg base CX0 7 fa fd ["_law_script"] (sp_law (K w.params))) :
  PySem.W.WalkO q loose XP YP l.row.toRowW d [] (fun f vs=>PySem.call f vs) :=
 L2.walk_of (n:=63) (k:=7) (x := "_law_script") (CX:=fun _=>CX0) (sp:=fun w=>sp_law (K w.params)) hn (by decide) hdf ⟨rfl,by decide,by decide,rfl⟩ hY F (fun w H a ns hl hO hS=>⟨a,ns,rfl,hS,hl,fun _=>rfl⟩) fun _ _ _ _ _ z=>z
theorem toX {q:Program} {loose:List Str} {XP:(Str→Option Value)→Heap→Prop} {r:PySem.W.RowW} {d:DefRec} {kwd:List (Str × PySem.Expr)} {run:Value→List Value→Sem Value} {K:Params→PySem.W.Frag} {as:List Addr} {n t:Nat} (e:∀ P,as=(K P).map (·.1)) (h:PySem.W.WalkO q loose XP (fun w h=>(K w.params).In h) r d kwd run):PySem.W.WalkX q loose XP (PySem.W.X.obsZ as) (PySem.W.X.valZ K n t) r d kwd run :=
 fun w s₀ s₁ mg mb G y a o pm cd doc dV kV ho hd hcd hD hmg hg args vals as2 L hpre hl hrd hwl hlo=>h w s₀ s₁ mg mb G (PySem.W.InK.keeps w _ _ (PySem.W.X.z_facts e y).2.1 L.keeps) a o pm cd doc dV kV ho hd hcd hD hmg hg args vals as2 hpre hl hrd hwl hlo
end K96
end
end
end
section
set_option Elab.async false
set_option linter.all false
open PySem PySem.W PyProof.Rows
set_option maxRecDepth 100000 in
set_option maxHeartbeats 0 in
theorem PySem.Challenge.cw_wantprices_k96_whole_made_wants_of_their_holds : PySem.Challenge.rw_wantprices_k96_whole_made_wants_of_their.Holds := by
 w_on;o_law;z_head;(case hw=>w_witness2)
 k_fill
 refine K96.toX (fun _=>by kernel_rfl) ?_
 refine K96.walk (l:=PySem.Challenge.rw_wantprices_k96_whole_made_wants_of_their) rfl rfl (fun w h Y=>Y) ?F
 case F =>
  intro w mg fa h KX G hmg
  refine' K96.all_mk KX G hmg ?a0 ?l0 ?c0 ?k0 ?a1 ?l1 ?c1 ?k1 ?a2 ?l2 ?c2 ?k2 ?a3 ?l3 ?c3 ?k3 ?a4 ?l4 ?c4 ?k4 ?a5 ?l5 ?c5 ?k5 ?a6 ?l6 ?c6 ?k6 ?a7 ?l7 ?c7 ?k7 ?a8 ?l8 ?c8 ?k8 ?a9 ?l9 ?c9 ?k9 ?a10 ?l10 ?c10 ?k10 ?a11 ?l11 ?c11 ?k11 ?a12 ?l12 ?c12 ?k12 ?a13 ?l13 ?c13 ?k13 ?a14 ?l14 ?c14 ?k14 ?a15 ?l15 ?c15 ?k15 ?a16 ?l16 ?c16 ?k16 ?a17 ?l17 ?c17 ?k17 ?a18 ?l18 ?c18 ?k18 ?a19 ?l19 ?c19 ?k19 ?a20 ?l20 ?c20 ?k20 ?a21 ?l21 ?c21 ?k21 ?a22 ?l22 ?c22 ?k22 ?a23 ?l23 ?c23 ?k23 ?a24 ?l24 ?c24 ?k24 ?a25 ?l25 ?c25 ?k25 ?a26 ?l26 ?c26 ?k26 ?a27 ?l27 ?c27 ?k27 ?a28 ?l28 ?c28 ?k28 ?a29 ?l29 ?c29 ?k29 ?a30 ?l30 ?c30 ?k30 ?a31 ?l31 ?c31 ?k31 ?a32 ?l32 ?c32 ?k32 ?a33 ?l33 ?c33 ?k33 ?a34 ?l34 ?c34 ?k34 ?a35 ?l35 ?c35 ?k35 ?a36 ?l36 ?c36 ?k36 ?a37 ?l37 ?c37 ?k37 ?a38 ?l38 ?c38 ?k38 ?a39 ?l39 ?c39 ?k39 ?a40 ?l40 ?c40 ?k40 ?a41 ?l41 ?c41 ?k41 ?a42 ?l42 ?c42 ?k42 ?a43 ?l43 ?c43 ?k43 ?a44 ?l44 ?c44 ?k44 ?a45 ?l45 ?c45 ?k45 ?z_len ?z_sum ?z_all ?z_isinstance ?z_abs ?z_min ?z_max ?z_range ?z_tuple ?z_list ?z_int ?z_bool ?z_zip ?z_sorted
  (case a0=>k_is)
  (case l0=>k_is)
  (case c0=>k_is)
  (case k0=>k_is)
  (case a1=>k_is)
  (case l1=>k_is)
  (case c1=>k_is)
  (case k1=>k_is)
  (case a2=>k_is)
  (case l2=>k_is)
  (case c2=>k_is)
  (case k2=>k_is)
  (case a3=>k_is)
  (case l3=>k_is)
  (case c3=>k_is)
  (case k3=>k_is)
  (case a4=>k_is)
  (case l4=>k_is)
  (case c4=>k_is)
  (case k4=>k_is)
  (case a5=>k_is)
  (case l5=>k_is)
  (case c5=>k_is)
  (case k5=>k_is)
  (case a6=>k_is)
  (case l6=>k_is)
  (case c6=>k_is)
  (case k6=>k_is)
  (case a7=>k_is)
  (case l7=>k_is)
  (case c7=>k_is)
  (case k7=>k_is)
  (case a8=>k_is)
  (case l8=>k_is)
  (case c8=>k_is)
  (case k8=>k_is)
  (case a9=>k_is)
  (case l9=>k_is)
  (case c9=>k_is)
  (case k9=>k_is)
  (case a10=>k_is)
  (case l10=>k_is)
  (case c10=>k_is)
  (case k10=>k_is)
  (case a11=>k_is)
  (case l11=>k_is)
  (case c11=>k_is)
  (case k11=>k_is)
  (case a12=>k_is)
  (case l12=>k_is)
  (case c12=>k_is)
  (case k12=>k_is)
  (case a13=>k_is)
  (case l13=>k_is)
  (case c13=>k_is)
  (case k13=>k_is)
  (case a14=>k_is)
  (case l14=>k_is)
  (case c14=>k_is)
  (case k14=>k_is)
  (case a15=>k_is)
  (case l15=>k_is)
  (case c15=>k_is)
  (case k15=>k_is)
  (case a16=>k_is)
  (case l16=>k_is)
  (case c16=>k_is)
  (case k16=>k_is)
  (case a17=>k_is)
  (case l17=>k_is)
  (case c17=>k_is)
  (case k17=>k_is)
  (case a18=>k_is)
  (case l18=>k_is)
  (case c18=>k_is)
  (case k18=>k_is)
  (case a19=>k_is)
  (case l19=>k_is)
  (case c19=>k_is)
  (case k19=>k_is)
  (case a20=>k_is)
  (case l20=>k_is)
  (case c20=>k_is)
  (case k20=>k_is)
  (case a21=>k_is)
  (case l21=>k_is)
  (case c21=>k_is)
  (case k21=>k_is)
  (case a22=>k_is)
  (case l22=>k_is)
  (case c22=>k_is)
  (case k22=>k_is)
  (case a23=>k_is)
  (case l23=>k_is)
  (case c23=>k_is)
  (case k23=>k_is)
  (case a24=>k_is)
  (case l24=>k_is)
  (case c24=>k_is)
  (case k24=>k_is)
  (case a25=>k_is)
  (case l25=>k_is)
  (case c25=>k_is)
  (case k25=>k_is)
  (case a26=>k_is)
  (case l26=>k_is)
  (case c26=>k_is)
  (case k26=>k_is)
  (case a27=>k_is)
  (case l27=>k_is)
  (case c27=>k_is)
  (case k27=>k_is)
  (case a28=>k_is)
  (case l28=>k_is)
  (case c28=>k_is)
  (case k28=>k_is)
  (case a29=>k_is)
  (case l29=>k_is)
  (case c29=>k_is)
  (case k29=>k_is)
  (case a30=>k_is)
  (case l30=>k_is)
  (case c30=>k_is)
  (case k30=>k_is)
  (case a31=>k_is)
  (case l31=>k_is)
  (case c31=>k_is)
  (case k31=>k_is)
  (case a32=>k_is)
  (case l32=>k_is)
  (case c32=>k_is)
  (case k32=>k_is)
  (case a33=>k_is)
  (case l33=>k_is)
  (case c33=>k_is)
  (case k33=>k_is)
  (case a34=>k_is)
  (case l34=>k_is)
  (case c34=>k_is)
  (case k34=>k_is)
  (case a35=>k_is)
  (case l35=>k_is)
  (case c35=>k_is)
  (case k35=>k_is)
  (case a36=>k_is)
  (case l36=>k_is)
  (case c36=>k_is)
  (case k36=>k_is)
  (case a37=>k_is)
  (case l37=>k_is)
  (case c37=>k_is)
  (case k37=>k_is)
  (case a38=>k_is)
  (case l38=>k_is)
  (case c38=>k_is)
  (case k38=>k_is)
  (case a39=>k_is)
  (case l39=>k_is)
  (case c39=>k_is)
  (case k39=>k_is)
  (case a40=>k_is)
  (case l40=>k_is)
  (case c40=>k_is)
  (case k40=>k_is)
  (case a41=>k_is)
  (case l41=>k_is)
  (case c41=>k_is)
  (case k41=>k_is)
  (case a42=>k_is)
  (case l42=>k_is)
  (case c42=>k_is)
  (case k42=>k_is)
  (case a43=>k_is)
  (case l43=>k_is)
  (case c43=>k_is)
  (case k43=>k_is)
  (case a44=>k_is)
  (case l44=>k_is)
  (case c44=>k_is)
  (case k44=>k_is)
  (case a45=>k_is)
  (case l45=>k_is)
  (case c45=>k_is)
  (case k45=>k_is)
  (case z_len=>k_is)
  (case z_sum=>k_is)
  (case z_all=>k_is)
  (case z_isinstance=>k_is)
  (case z_abs=>k_is)
  (case z_min=>k_is)
  (case z_max=>k_is)
  (case z_range=>k_is)
  (case z_tuple=>k_is)
  (case z_list=>k_is)
  (case z_int=>k_is)
  (case z_bool=>k_is)
  (case z_zip=>k_is)
  (case z_sorted=>k_is)
end
