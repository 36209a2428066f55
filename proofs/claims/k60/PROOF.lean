import PyProof.Rows.All
import Wide.All
import OpenK.AllK
import Wide.FinOn
import Lean
import PyProof.EqAt
import PyProof.EqKinds
import PyProof.TupleCall
import PyProof.MinMaxWalk
import PySem.Challenge.RW_wantprices_k60_steps_from_below_judged
set_option linter.all false
set_option Elab.async false
set_option maxRecDepth 100000
noncomputable section
set_option compiler.extract_closed false
set_option genSizeOfSpec false
abbrev Aa:=@List.length_map
abbrev Ab:=@List.getD_eq_getElem?_getD
abbrev Ac:=@PySem.Heap.get?_push_of_some
abbrev Ad:=@Nat.le_refl
abbrev Ae:=@List.getElem?_eq_some_iff
abbrev Af:=@List.getElem?_map
abbrev Ag:=@List.getElem?_eq_getElem
abbrev Ah:=@Option.map_eq_some_iff
abbrev Ai:=@decide_eq_false
abbrev Aj:=@PySem.W.mg_of
abbrev Ak:=@List.size_toArray
abbrev Al:=@List.mem_map
abbrev Am:=@List.mem_cons_self
abbrev An:=@List.length_take
abbrev Ao:=@PySem.Heap.get?_push_size
abbrev Ap:=@List.mem_cons_of_mem
abbrev Aq:=@List.mem_of_getElem?
abbrev Ar:=@List.length_append
abbrev As:=@PySem.Heap.lt_size
abbrev Au:=@if_pos
abbrev Av:=@List.mem_append
abbrev Aw:=@Nat.pow_le_pow_right
abbrev Ax:=@if_neg
abbrev Ay:=@Int.toNat_natCast
abbrev Az:=@List.take_add_one
abbrev A0:=@Bool.false_ne_true
abbrev A2:=@decide_eq_true
abbrev A3:=@List.mem_cons
abbrev A4:=@List.mem_singleton
abbrev A5:=@Nat.lt_of_lt_of_le
abbrev A6:=@Nat.ne_of_lt
abbrev A7:=@List.length_singleton
abbrev A8:=@List.map_append
abbrev A9:=@Option.some.inj
abbrev AA:=@Nat.two_pow_pos
abbrev AB:=@List.take_of_length_le
abbrev AD:=@PySem.PassesOwn.never
abbrev AE:=@Bool.and_eq_true
abbrev AF:=@List.take_length
abbrev AG:=@Nat.le_trans
abbrev AH:=@List.mem_append_right
abbrev AI:=@Bool.false_eq_true
abbrev AJ:=@PySem.W.mg_none_of
abbrev AK:=@List.getElem_mem
abbrev AL:=@Int.eq_ofNat_of_zero_le
abbrev AM:=@List.lookup_cons
abbrev AN:=@List.map_cons
abbrev AO:=@PySem.Heap.size_push
abbrev AQ:=@List.forall_mem_cons
abbrev AR:=@Nat.lt_irrefl
abbrev AS:=@of_decide_eq_true
abbrev AU:=@List.mem_range
abbrev AV:=@List.map_map
abbrev AW:=@congrArg
abbrev AX:=@PySem.Heap.get?_update_other
abbrev AY:=@Int.le_refl
abbrev AZ:=@List.not_mem_nil
abbrev Ba:=@Nat.lt_succ_self
abbrev Bb:=@decide_eq_true_eq
abbrev Bc:=@List.drop_eq_getElem_cons
abbrev Be:=@Nat.lt_or_ge
abbrev Bf:=@List.length_cons
abbrev Bg:=@List.length_drop
abbrev Bh:=@Nat.zero_le
abbrev Bi:=@List.length_filter_le
abbrev Bj:=@Nat.le_of_lt
abbrev Bk:=@PyProof.Rows.callWith_type1
abbrev Bl:=@List.mem_of_mem_take
abbrev Bm:=@List.append_nil
abbrev Bn:=@List.mem_filter
abbrev Bo:=@PySem.W.kia_one
abbrev Bp:=@List.mem_map_of_mem
abbrev Bq:=@PySem.mem_of_lookup
abbrev Br:=@PySem.AutoSeq1.wpAny_loadPart'
abbrev Bs:=@Bool.eq_iff_iff
abbrev Bt:=@List.range_succ
abbrev Bu:=@List.all_eq_true
abbrev Bv:=@List.length_eq_zero_iff
abbrev Bw:=@List.mem_append_left
abbrev Bx:=@List.drop_of_length_le
abbrev By:=@List.replicate_succ
abbrev Bz:=@List.nodup_cons
abbrev B2:=@List.filter_append
abbrev B3:=@List.sum_cons
abbrev B4:=@Nat.le_succ
abbrev B5:=@List.flatten_cons
abbrev B6:=@PySem.F.slot_zip_next
abbrev B7:=@List.length_reverse
abbrev B8:=@if_false
abbrev BA:=@PySem.F.plain_min_loop
abbrev BB:=@Option.getD_some
abbrev BC:=@Bool.false_and
abbrev BD:=@PySem.F.slot_tuple_iterator_next
abbrev BE:=@List.getElem?_append_right
abbrev BF:=@List.getElem?_append_left
abbrev BG:=@List.mem_of_mem_drop
abbrev BH:=@PyProof.Rows.slot_tuple_getitem
abbrev BJ:=@List.filterMap_cons
abbrev BK:=@if_true
abbrev BL:=@PySem.Around.in1_units
abbrev BM:=@Nat.le_add_right
abbrev BN:=@List.eq_nil_of_length_eq_zero
abbrev BO:=@List.map_inj_right
abbrev BP:=@Nat.xor_lt_two_pow
abbrev BQ:=@List.dropLast_concat_getLast
abbrev BR:=@Option.map_some
abbrev BS:=@Bool.true_and
abbrev BU:=@PySem.F.slot_enumerate_next
abbrev BV:=@PySem.Heap.get?_update_self
abbrev BW:=@List.drop_zero
abbrev BX:=@List.mem_iff_getElem
abbrev BY:=@Nat.not_lt
abbrev BZ:=@PySem.F.slot_tuple_mul
abbrev Ca:=@List.ext_getElem
abbrev Cb:=@beq_self_eq_true
abbrev Cc:=@Array.length_toList
abbrev Cd:=@PySem.AutoSeq1.sub_tuple_tuple
abbrev Ce:=@Int.max_assoc
abbrev Cf:=@List.all_cons
abbrev Cg:=@List.forIn_cons
abbrev Ci:=@List.sum_append
abbrev Cj:=@Nat.not_lt_zero
abbrev Ck:=@Nat.lt_of_le_of_lt
abbrev Cm:=@PySem.F.args_zip_next_1
abbrev Cn:=@Int.mul_nonneg
abbrev Co:=@List.forIn_nil
abbrev Cp:=@Nat.lt_succ_of_lt
abbrev Cq:=@Ne.symm
abbrev Cr:=@List.length_replicate
abbrev Cs:=@PySem.F.entry_zip_next
abbrev Ct:=@PyProof.Rows.IsTup.new
abbrev Cu:=@List.getElem_map
abbrev Cv:=@List.mem_reverse
abbrev Cw:=@PySem.Around.under_plainId
abbrev Cy:=@Int.one_mul
abbrev Cz:=@Bool.or_eq_true
abbrev C0:=@List.map_const'
abbrev C1:=@List.of_mem_zip
abbrev C2:=@PySem.SeqAt.EqAt.same
abbrev C3:=@List.getElem?_range
abbrev C4:=@List.length_pos_iff
abbrev C5:=@Nat.succ.inj
abbrev C6:=@Nat.xor_zero
abbrev CB:=@List.append_assoc
abbrev CC:=@List.nodup_append
abbrev CD:=@Nat.xor_assoc
abbrev CF:=@List.map_nil
abbrev CG:=@Nat.min_self
abbrev CH:=@Nat.mul_comm
abbrev CK:=@Nat.ne_of_gt
abbrev CL:=@Nat.pow_succ
section
namespace L2
open PySem PySem.Spec PyProof.Rows
abbrev Key:=Sum Int Str
def keyIs:Key→Value→Bool
 | .inl k,v=>Value.isInt k v
 | .inr x,v=>Value.isStrOf x v
def keyH (w:World):Key→Int
 | .inl k=>hashInt k
 | .inr x=>hashStr w x
theorem jL:∀ {k:Key} {v:Value},keyIs k v=true→(∃ i t,k=Sum.inl i∧v=Value.int i t)∨(∃ x t,k=Sum.inr x∧v=Value.str x t)
 | .inl i,v,h=>by
  obtain ⟨t,e⟩:=Value.isInt_shape (k:=i) (v:=v) h
  exact .inl ⟨i,t,rfl,e⟩
 | .inr x,v,h=>by
  obtain ⟨t,e⟩:=Value.isStrOf_shape (x:=x) (v:=v) h
  exact .inr ⟨x,t,rfl,e⟩
theorem key_ll (a b:Int):decide ((Sum.inl a:Key)=Sum.inl b)=(a == b):=by
 by_cases e:a=b
 ·subst e;simp
 ·have h:¬ (Sum.inl a:Key)=Sum.inl b:=fun q=>e (Sum.inl.inj q)
  rw [Ai h]
  exact (beq_eq_false_iff_ne.mpr e).symm
theorem key_rr (a b:Str):decide ((Sum.inr a:Key)=Sum.inr b)=decide (a=b):=by
 by_cases e:a=b
 ·subst e;simp
 ·have h:¬ (Sum.inr a:Key)=Sum.inr b:=fun q=>e (Sum.inr.inj q)
  rw [Ai h,Ai e]
theorem key_lr (a:Int)(b:Str):decide ((Sum.inl a:Key)=Sum.inr b)=false:=Ai (fun q=>nomatch q)
theorem key_rl (a:Str)(b:Int):decide ((Sum.inr a:Key)=Sum.inl b)=false:=Ai (fun q=>nomatch q)
def aO (prog:Program)(w:World):PySem.KeyKind prog w Key where
 is:=keyIs
 hash:=keyH w
 inj:=fun v a b ha hb=>by
  rcases jL ha with ⟨i,t,rfl,rfl⟩ | ⟨x,t,rfl,rfl⟩
  ·rcases jL hb with ⟨j,u,rfl,e⟩ | ⟨y,u,rfl,e⟩
   ·injection e with e1 _;rw [e1]
   ·exact nomatch e
  ·rcases jL hb with ⟨j,u,rfl,e⟩ | ⟨y,u,rfl,e⟩
   ·exact nomatch e
   ·injection e with e1 _;rw [e1]
 byValue:=fun k v h=>by
  rcases jL h with ⟨i,t,rfl,rfl⟩ | ⟨x,t,rfl,rfl⟩ <;> rfl
 pyHash:=fun hv h=>by
  rcases jL hv with ⟨i,t,rfl,rfl⟩ | ⟨x,t,rfl,rfl⟩
  ·exact wpAny_pyHash_int h
  ·exact wpAny_pyHash_str h
 eqBool:=fun hu hv h=>by
  rcases jL hu with ⟨i,t,rfl,rfl⟩ | ⟨x,t,rfl,rfl⟩
  ·rcases jL hv with ⟨j,u,rfl,rfl⟩ | ⟨y,u,rfl,rfl⟩
   ·rw [key_ll] at h;exact wpAny_eqBool_int h
   ·rw [key_lr] at h;exact SeqAt.EqAt.int_str i t y u _ _ _ _ h
  ·rcases jL hv with ⟨j,u,rfl,rfl⟩ | ⟨y,u,rfl,rfl⟩
   ·rw [key_rl] at h;exact SeqAt.EqAt.str_int x t j u _ _ _ _ h
   ·rw [key_rr] at h;exact wpAny_eqBool_str h
 «strs» := fun k x t v h=>by
  rcases jL h with ⟨i,u,rfl,e⟩ | ⟨y,u,rfl,e⟩
  ·exact nomatch e
  ·injection e with e1 _
   subst e1
   cases v <;> rfl
end L2
namespace L2
open PySem PySem.Spec PyProof.Rows
inductive V where
 | non | bl (b:Bool) | int (i:Int) | str (x:Str) | byt (b:Array UInt8) | flt (b:UInt64) | ref (a:Addr) | ty (n:String)
 deriving DecidableEq
def RelV:V→Value→Prop
 | .non,u=>u=Value.none
 | .bl b,u=>u=Value.bool b
 | .int i,u=>∃ t,u=Value.int i t
 | .str x,u=>∃ t,u=Value.str x t
 | .byt b,u=>∃ t,u=Value.bytes b t
 | .flt b,u=>∃ t,u=Value.float b t
 | .ref a,u=>u=Value.ref a
 | .ty n,u=>u=Value.type n
abbrev Vals:List V→List Value→Prop:=Paired RelV
theorem Vals.length {xs:List V}{us:List Value}(r:Vals xs us):xs.length=us.length:=Paired.length r
theorem Vals.get:∀ {xs:List V} {us:List Value} {i:Nat} {x:V},Vals xs us→xs[i]? = some x→∃ u,us[i]? = some u∧RelV x u
 | _,_,_,_,.nil,e=>by simp at e
 | _,_,0,_,.cons r _,e=>by simp at e;subst e;exact ⟨_,rfl,r⟩
 | _,_,i + 1,x,.cons _ t,e=>by
  obtain ⟨u,h1,h2⟩:=Vals.get (i:=i) (x:=x) t (by simpa using e)
  exact ⟨u,by simpa using h1,h2⟩
theorem Vals.set {x:V}{u:Value}(r:RelV x u):∀ {xs:List V} {us:List Value} (i:Nat),Vals xs us→Vals (xs.set i x) (us.set i u)
 | _,_,_,.nil=>.nil
 | _,_,0,.cons _ t=>.cons r t
 | _,_,i + 1,.cons q t=>.cons q (Vals.set r i t)
theorem Vals.append:∀ {xs ys:List V} {us ws:List Value},Vals xs us→Vals ys ws→Vals (xs ++ ys) (us ++ ws)
 | _,_,_,_,.nil,s=>s
 | _,_,_,_,.cons r t,s=>.cons r (Vals.append t s)
theorem Vals.take:∀ {xs:List V} {us:List Value} (n:Nat),Vals xs us→Vals (xs.take n) (us.take n)
 | _,_,0,_=>.nil
 | _,_,_ + 1,.nil=>.nil
 | _,_,n + 1,.cons r t=>.cons r (Vals.take n t)
theorem Vals.drop:∀ {xs:List V} {us:List Value} (n:Nat),Vals xs us→Vals (xs.drop n) (us.drop n)
 | _,_,0,r=>r
 | _,_,_ + 1,.nil=>.nil
 | _,_,n + 1,.cons _ t=>Vals.drop n t
def RelO:Option V→Option Value→Prop
 | some v,some u=>RelV v u
 | none,none=>True
 | _,_=>False
def KV {κ:Type}:List (κ × V)→List (κ × Value)→Prop:=Paired fun (p:κ × V) (q:κ × Value)=>p.1=q.1∧RelV p.2 q.2
def kV:Key→V
 | .inl i=>.int i
 | .inr x=>.str x
inductive HO where
 | lst (xs:List V)
 | tup (xs:List V)
 | dK (kvs:List (Key × V)) | dT (kvs:List (List Key × V))
 | set (S:Int→Bool) (n:Nat)
 | ins (C dx:Addr) (fs:List (Str × V))
 | own (x:Addr)
 | xd (fs:List (Str × V))
 | met (f x:Addr)
 | rng (lo hi:Int)
 | frz (o:Obj) (u:HO)
 | tbl (ps:Array Value)
 | ext (φ:Heap→Prop)
abbrev Hp:=Addr→Option HO
def upd (H:Hp)(a:Addr)(o:HO):Hp:=fun b=>if b=a then some o else H b
theorem qH {H:Hp}{a:Addr}{o:HO}:upd H a o a=some o:=by unfold upd;rw [Au rfl]
theorem qS {H:Hp}{a b:Addr}{o:HO}(h:b ≠ a):upd H a o b=H b:=by unfold upd;rw [Ax h]
theorem upd_upd {H:Hp}{a:Addr}{o u:HO}:upd (upd H a o) a u=upd H a u:=by
 funext b;unfold upd;split <;> rfl
theorem qE {H:Hp}{a b:Addr}{o:HO}(h:H a=some o)(h':H b=none):a ≠ b:=by
 intro e;subst e;rw [h] at h';cases h'
section
variable (P:Program)(w:World)
def ObjOk (H:Hp)(h:Heap)(a:Addr):HO→Prop
 | .lst xs=>xs.length ≤ sizeLine∧∃ (its:List Value) (n:Nat),Vals xs its∧h.get? a=some { cls:=.type "list",data:=.seq its.toArray n }
 | .tup xs=>xs.length ≤ sizeLine∧∃ its:List Value,Vals xs its∧IsTup h a its.toArray
 | .dK kvs=>kvs.length ≤ sizeLine∧(a == sysModules)=false∧∃ vs,KV kvs vs∧h.DictOf (aO P w) a vs
 | .dT kvs=>kvs.length ≤ sizeLine∧(a == sysModules)=false∧∃ xs:List (List Key × Addr × Value),
   Paired (fun (p:List Key × V) (q:List Key × Addr × Value)=>p.1=q.1∧H q.2.1=some (.tup (p.1.map kV))∧RelV p.2 q.2.2) kvs xs ∧
   ∃ o es ep,h.get? a=some o∧o.ExactDict∧o.data = .dict es ep∧es.toList=xs.map (entryOfKey (tupleKind (aO P w)))∧(xs.map (·.1)).Nodup
 | .set S n=>h.SetOf (intKind P w) a S n
 | .ins C dx fs=>H dx=some (.own a)∧fs.length ≤ 1000∧dx ≠ a∧h.get? a=some (PySem.W.instObj C dx) ∧
   ∃ mA,h.Ns1 dx mA∧(∀ f,RelO (fs.lookup f) (mA f))∧PySem.Within mA (fs.map (·.1))
 | .own _=>∃ o,h.get? a=some o
 | .xd fs=>∃ mA,h.Ns1 a mA∧∀ f,RelO (fs.lookup f) (mA f)
 | .rng lo hi=>∃ t u v,h.get? a=some { cls:=.type "range",data:=.fields #[.int lo t,.int hi u,.int 1 v] }
 | .frz o u=>h.get? a=some o∧ObjOk H h a u
 | .tbl ps=>h.get? a=some { cls:=.none,data:=.fields ps }
 | .met f x=>h.get? a=some (PySem.W.methodObj (.ref f) (.ref x))
 | .ext φ=>φ h∧(∃ o,h.get? a=some o)∧∀ h1 h2:Heap,φ h1→(∀ o,h1.get? a=some o→h2.get? a=some o)→φ h2
def HOk (H:Hp)(h:Heap):Prop:=∀ a o,H a=some o→ObjOk P w H h a o
end
section
variable {P:Program}{w:World}{H H':Hp}{h h':Heap}{a:Addr}{o:HO}
theorem ObjOk.lt (x:ObjOk P w H h a o):a < h.objs.size:=by
 cases o with
 | lst xs=>obtain ⟨_,_,_,_,e⟩:=x;exact As e
 | tup xs=>obtain ⟨_,_,_,p⟩:=x;exact p.lt
 | dK kvs=>obtain ⟨_,_,_,_,o,_,_,e,_⟩:=x;exact As e
 | dT kvs=>obtain ⟨_,_,_,_,o,_,_,e,_⟩:=x;exact As e
 | set S n=>obtain ⟨o,_,_,_,e,_⟩:=x;exact As e
 | ins C dx fs=>obtain ⟨_,_,_,e,_⟩:=x;exact As e
 | own y=>obtain ⟨_,e⟩:=x;exact As e
 | xd fs=>obtain ⟨_,⟨_,_,_,e,_⟩,_⟩:=x;exact As e
 | rng lo hi=>obtain ⟨_,_,_,e⟩:=x;exact As e
 | frz ob u=>obtain ⟨e,_⟩:=x;exact As e
 | tbl ps=>exact As (show h.get? a=some _ from x)
 | met f y=>exact As (show h.get? a=some _ from x)
 | ext φ=>obtain ⟨_,⟨_,e⟩,_⟩:=x;exact As e
theorem Paired.mapP {α β:Type}{F G:α→β→Prop}:∀ {l₁:List α} {l₂:List β},Paired F l₁ l₂→(∀ a b,F a b→G a b)→Paired G l₁ l₂
 | _,_,.nil,_=>.nil
 | _,_,.cons r t,f=>.cons (f _ _ r) (Paired.mapP t f)
theorem ObjOk.stay (x:ObjOk P w H h a o)(k:∀ b u,(b=a∨H b=some (.own a))→h.get? b=some u→h'.get? b=some u)
  (ho:∀ b,H b=some (.own a)→H' b=some (.own a)) (ht:∀ b xs,H b=some (.tup xs)→H' b=some (.tup xs)):ObjOk P w H' h' a o:=by
 induction o with
 | lst xs=>obtain ⟨z,its,n,r,e⟩:=x;exact ⟨z,its,n,r,k _ _ (.inl rfl) e⟩
 | tup xs=>obtain ⟨z,its,r,ob,e,c⟩:=x;exact ⟨z,its,r,ob,k _ _ (.inl rfl) e,c⟩
 | dK kvs=>obtain ⟨z,y,vs,r,ob,es,ep,e,c⟩:=x;exact ⟨z,y,vs,r,ob,es,ep,k _ _ (.inl rfl) e,c⟩
 | dT kvs =>
  obtain ⟨z,y,xs,r,ob,es,ep,e,c⟩:=x
  exact ⟨z,y,xs,Paired.mapP r fun p q z=>⟨z.1,ht _ _ z.2.1,z.2.2⟩,ob,es,ep,k _ _ (.inl rfl) e,c⟩
 | set S n=>obtain ⟨ob,es,ep,t,e,c⟩:=x;exact ⟨ob,es,ep,t,k _ _ (.inl rfl) e,c⟩
 | ins C dx fs =>
  obtain ⟨d,z,ne,e,mA,⟨od,es,ep,e2,c⟩,r⟩:=x
  exact ⟨ho _ d,z,ne,k _ _ (.inl rfl) e,mA,⟨od,es,ep,k _ _ (.inr d) e2,c⟩,r⟩
 | own y=>obtain ⟨ob,e⟩:=x;exact ⟨ob,k _ _ (.inl rfl) e⟩
 | xd fs=>obtain ⟨mA,⟨od,es,ep,e,c⟩,r⟩:=x;exact ⟨mA,⟨od,es,ep,k _ _ (.inl rfl) e,c⟩,r⟩
 | rng lo hi=>obtain ⟨t,u,v,e⟩:=x;exact ⟨t,u,v,k _ _ (.inl rfl) e⟩
 | frz ob u ih=>obtain ⟨e,q⟩:=x;exact ⟨k _ _ (.inl rfl) e,ih q⟩
 | tbl ps =>
  have e:h.get? a=some { cls:=.none,data:=.fields ps }:=x
  show h'.get? a=some { cls:=.none,data:=.fields ps }
  exact k a _ (.inl rfl) e
 | met f y =>
  have e:h.get? a=some (PySem.W.methodObj (.ref f) (.ref y)):=x
  show h'.get? a=some (PySem.W.methodObj (.ref f) (.ref y))
  exact k a _ (.inl rfl) e
 | ext φ=>obtain ⟨p,⟨o,e⟩,st⟩:=x;exact ⟨st _ _ p fun o q=>k _ _ (.inl rfl) q,⟨o,k _ _ (.inl rfl) e⟩,st⟩
theorem HOk.lt (x:HOk P w H h)(e:H a=some o):a < h.objs.size:=(x a o e).lt
theorem HOk.fresh (x:HOk P w H h)(e:h.objs.size ≤ a):H a=none:=by
 cases q:H a with
 | none=>rfl
 | some u=>exact absurd (A5 (x.lt q) e) (AR _)
theorem HOk.kept (x:HOk P w H h)(k:∀ b u,h.get? b=some u→h'.get? b=some u):HOk P w H h':=fun a o e =>
 (x a o e).stay (fun b u _ q=>k b u q) (fun _ q=>q) fun _ _ q=>q
theorem HOk.laid (x:HOk P w H h)(k:∀ b u,h.get? b=some u→h'.get? b=some u)(hp:h.objs.size ≤ a)(new:ObjOk P w (upd H a o) h' a o):HOk P w (upd H a o) h':=fun b u e=>by
 have hn:=x.fresh hp
 by_cases hb:b=a
 ·subst hb;rw [qH] at e;cases e;exact new
 ·rw [qS hb] at e
  exact (x b u e).stay (fun c v _ q=>k c v q) (fun c q=>by rw [qS (qE q hn)];exact q) fun c xs q=>by rw [qS (qE q hn)];exact q
end
def Rd (H:Hp)(a:Addr)(u:HO):Prop:=H a=some u∨∃ o,H a=some (.frz o u)
theorem Rd.of {H:Hp}{a:Addr}{u:HO}(h:H a=some u):Rd H a u:=.inl h
theorem Rd.ok {P:Program}{w:World}{H:Hp}{h:Heap}{a:Addr}{u:HO}(r:Rd H a u)(x:HOk P w H h):ObjOk P w H h a u:=by
 rcases r with r | ⟨o,r⟩
 ·exact x a u r
 ·obtain ⟨_,q⟩:=x a _ r
  exact q
def Mut:Option HO→Prop
 | some (.lst _)=>True
 | some (.dK _)=>True
 | some (.dT _)=>True
 | some (.set _ _)=>True
 | some (.ins _ _ _)=>True
 | some (.ext _)=>True
 | _=>False
section
variable {P:Program}{w:World}{H:Hp}{h h':Heap}{x e:Addr}{o':HO}
theorem HOk.write (ok:HOk P w H h)(mu:Mut (H x))(he:e=x∨H e=some (.own x))(k:∀ b u,b ≠ e→h.get? b=some u→h'.get? b=some u)(heo:∃ u,h'.get? e=some u)
  (new:ObjOk P w (upd H x o') h' x o'):HOk P w (upd H x o') h':=fun b u q=>by
 have nown:∀ c y,H c=some (.own y)→c ≠ x:=fun c y r z=>by subst z;rw [r] at mu;exact mu
 have ntup:∀ c xs,H c=some (.tup xs)→c ≠ x:=fun c xs r z=>by subst z;rw [r] at mu;exact mu
 by_cases hb:b=x
 ·subst hb;rw [qH] at q;cases q;exact new
 ·rw [qS hb] at q
  by_cases hbe:b=e
  ·have q':H b=some (.own x):=by
    rcases he with z | z
    ·exact absurd (hbe.trans z) hb
    ·rw [hbe];exact z
   rw [q] at q';cases q'
   obtain ⟨v,hv⟩:=heo
   exact ⟨v,by rw [hbe];exact hv⟩
  ·refine (ok b u q).stay (fun c v hc r=>k c v ?_ r) (fun c r=>by rw [qS (nown c b r)];exact r) fun c xs r=>by rw [qS (ntup c xs r)];exact r
   rcases hc with rfl | hc
   ·exact hbe
   ·rintro rfl
    rcases he with z | z
    ·exact nown c b hc z
    ·rw [hc] at z;cases z;exact hb rfl
end
structure Un (fs ex:List Addr)(H H':Hp)(h h':Heap):Prop where
 keep:∀ b o,h.get? b=some o→H b=none→b ∉ fs→b ∉ ex→h'.get? b=some o
 slot:∀ b o,h.get? b=some o→H b=none→b ∈ fs→b ∉ ex→∃ sl,h'.get? b=some { o with slots:=sl }
 free:∀ b o,h.get? b=some o→H b=none→b ∉ ex→H' b=none
 there:∀ b o,h.get? b=some o→b ∉ ex→∃ o',h'.get? b=some o'
 tups:∀ b xs,H b=some (.tup xs)→H' b=some (.tup xs)
 frzs:∀ b o u,H b=some (.frz o u)→H' b=some (.frz o u)
 tbls:∀ b ps,H b=some (.tbl ps)→∃ more,H' b=some (.tbl (ps ++ more))
section
variable {fs fs' ex ex':List Addr}{H H1 H2:Hp}{h h1 h2 h':Heap}{a x e:Addr}{o:HO}
theorem Un.any (u:Un fs ex H H1 h h1){b:Addr}{ob:Obj}(q:h.get? b=some ob)(n:H b=none)(hx:b ∉ ex):∃ sl,h1.get? b=some { ob with slots:=sl }:=by
 by_cases hb:b ∈ fs
 ·exact u.slot b ob q n hb hx
 ·exact ⟨ob.slots,u.keep b ob q n hb hx⟩
theorem Un.trans (a:Un fs ex H H1 h h1)(b:Un fs ex H1 H2 h1 h2):Un fs ex H H2 h h2 where
 keep:=fun c ob q n hc hx=>b.keep c ob (a.keep c ob q n hc hx) (a.free c ob q n hx) hc hx
 slot:=fun c ob q n hc hx=>by
  obtain ⟨sl,e1⟩:=a.slot c ob q n hc hx
  obtain ⟨sl',e2⟩:=b.slot c _ e1 (a.free c ob q n hx) hc hx
  exact ⟨sl',e2⟩
 free:=fun c ob q n hx=>by
  obtain ⟨o',e1⟩:=a.there c ob q hx
  exact b.free c o' e1 (a.free c ob q n hx) hx
 there:=fun c ob q hx=>by
  obtain ⟨o',e1⟩:=a.there c ob q hx
  exact b.there c o' e1 hx
 tups:=fun c xs q=>b.tups c xs (a.tups c xs q)
 frzs:=fun c ob xs q=>b.frzs c ob xs (a.frzs c ob xs q)
 tbls:=fun c ps q=>by
  obtain ⟨m1,e1⟩:=a.tbls c ps q
  obtain ⟨m2,e2⟩:=b.tbls c _ e1
  exact ⟨m1 ++ m2,by rw [e2,Array.append_assoc]⟩
theorem Un.kept (k:∀ b u,h.get? b=some u→h'.get? b=some u):Un fs ex H H h h' :=
 ⟨fun b ob q _ _ _=>k b ob q,fun b ob q _ _ _=>⟨ob.slots,k b ob q⟩,fun _ _ _ n _=>n,fun b ob q _=>⟨ob,k b ob q⟩,fun _ _ q=>q,fun _ _ _ q=>q,fun _ ps q=>⟨#[],by rw [q];simp⟩⟩
theorem Un.refl:Un fs ex H H h h:=Un.kept fun _ _ q=>q
theorem Un.laid (k:∀ b u,h.get? b=some u→h'.get? b=some u)(hp:h.objs.size ≤ a)(hn:H a=none):Un fs ex H (upd H a o) h h' where
 keep:=fun b u q _ _ _=>k b u q
 slot:=fun b u q _ _ _=>⟨u.slots,k b u q⟩
 free:=fun b u q n _=>by rw [qS (A6 (A5 (As q) hp))];exact n
 there:=fun b u q _=>⟨u,k b u q⟩
 tups:=fun b xs q=>by rw [qS (qE q hn)];exact q
 frzs:=fun b u xs q=>by rw [qS (qE q hn)];exact q
 tbls:=fun b ps q=>⟨#[],by rw [qS (qE q hn),q];simp⟩
theorem Un.write (mu:Mut (H x))(he:e=x∨H e=some (.own x))(k:∀ b u,b ≠ e→h.get? b=some u→h'.get? b=some u)(heo:∃ u,h'.get? e=some u):Un fs ex H (upd H x o) h h':=by
 have hx:∀ b,H b=none→b ≠ x:=fun b n z=>by subst z;rw [n] at mu;exact mu
 have hb:∀ b,H b=none→b ≠ e:=fun b n z=>by
  subst z
  rcases he with r | r
  ·exact hx b n r
  ·rw [n] at r;cases r
 have hm:∀ b u,H b=some u→¬ Mut (some u)→b ≠ x:=fun b u q nm z=>by subst z;rw [q] at mu;exact nm mu
 refine ⟨fun b u q n _ _=>k b u (hb b n) q,fun b u q n _ _=>⟨u.slots,k b u (hb b n) q⟩,fun b u q n _=>by rw [qS (hx b n)];exact n,fun b u q _=>?_,
  fun b xs q=>by rw [qS (hm b _ q fun z=>z)];exact q,fun b u xs q=>by rw [qS (hm b _ q fun z=>z)];exact q,fun b ps q=>⟨#[],by rw [qS (hm b _ q fun z=>z),q];simp⟩⟩
 by_cases hbe:b=e
 ·subst hbe;exact heo
 ·exact ⟨u,k b u hbe q⟩
theorem Un.mono (u:Un fs ex H H1 h h1)(hs:∀ b ∈ fs,b ∈ fs')(hx:∀ b ∈ ex,b ∈ ex'):Un fs' ex' H H1 h h1 :=
 ⟨fun b ob q n hb he=>u.keep b ob q n (fun z=>hb (hs b z)) fun z=>he (hx b z),fun _ _ q n _ he=>u.any q n fun z=>he (hx _ z),fun b ob q n he=>u.free b ob q n fun z=>he (hx b z),fun b ob q he=>u.there b ob q fun z=>he (hx b z),u.tups,u.frzs,u.tbls⟩
end
def trk (h:Heap)(H:Hp):List Addr:=(List.range h.objs.size).filter fun a=>(H a).isSome
def lQ (h:Heap)(H:Hp):Heap:=PySem.W.hideAll h (trk h H)
theorem iZ (h:Heap)(H:Hp):(lQ h H).objs.size=h.objs.size:=PySem.W.hideAll_size _ _
theorem hidT_get {h:Heap}{H:Hp}{b:Addr}{o:Obj}(e:h.get? b=some o)(n:H b=none):(lQ h H).get? b=some o :=
 PySem.W.hideAll_get _ e fun hm=>by
  have q:(H b).isSome=true:=(Bn.mp hm).2
  rw [n] at q;simp at q
theorem of_hidT {h:Heap}{H:Hp}{b:Addr}{o:Obj}(e:(lQ h H).get? b=some o):h.get? b=some o∧H b=none:=by
 have e':h.get? b=some o:=PySem.W.of_hideAll (trk h H) e
 refine ⟨e',?_⟩
 cases q:H b with
 | none=>rfl
 | some x =>
  have hm:b ∈ trk h H:=Bn.mpr ⟨AU.mpr (As e'),by simp [q]⟩
  have z:(lQ h H).get? b=none:=PySem.W.hideAll_none (trk h H) hm
  rw [z] at e;cases e
def allNews (g h:Heap)(L:Addr):List (Addr × Obj):=(List.range h.objs.size).filterMap fun a=>if a=L∨(g.get? a).isSome=true then none else (h.get? a).map fun o=>(a,o)
def rest (g h:Heap)(L d:Addr):List (Addr × Obj):=(allNews g h L).filter fun p=>decide (p.1 ≠ d)
end L2
namespace L2
open PySem PySem.Spec PyProof.Rows
structure Mod (K:PySem.W.Frag)(mg:Str→Option Value)(base:Heap):Prop where
 kin:K.In base
 glob:base.Ns mainGlobals mg
 blt:∃ mb,base.Ns builtinsNs mb∧∀ x:Str,x ≠ "__name__" → mb x=bootBuiltins x
 nolimit:base.NoLimit
structure Cx where
 prog:Program
 w:World
 K:PySem.W.Frag
 mg:Str→Option Value
 base:Heap
 A:Around
 N:List Str
 s₀:Shared
 H₀:Hp
 env:Env
 outer:List Env
 stack:List Env
 ex:List Addr
 fn:Str→Bool
 calm:Bool
 pn:List (Addr × Obj)
 xe:Value→Shared→Prop
def i7 (l:List Env):List Addr:=l.filterMap (·.frame)
abbrev Cx.fs (X:Cx):List Addr:=i7 X.outer
def Vis (sc:Scope)(x:Str):Prop:=sc.names.lookup x=some .local∨sc.names.lookup x=some .cell∨sc.names.lookup x=some .free
def Loc (sc:Scope)(x:Str):Prop:=sc.names.lookup x=some .local∨sc.names.lookup x=some .cell
def Look (env:Env)(h:Heap)(m:Str→Option Value)(x:Str)(u:Value):Prop :=
 (env.kindOf x=some .local∧m x=some u)∨((env.kindOf x=some .cell∨env.kindOf x=some .free)∧∃ c,env.cells.lookup x=some c∧h.IsCell c (some u))
structure Cx.Ok (X:Cx):Prop where
 mod:Mod X.K X.mg X.base
 kind:X.env.scope.kind = .function
 glob:X.env.globals=mainGlobals
 blt:X.env.builtins=builtinsNs
 above:X.s₀.heap.objs.size ≤ X.env.locals
 inj:∀ x y c,X.env.cells.lookup x=some c→X.env.cells.lookup y=some c→x=y
 has:∀ x,(X.env.kindOf x=some .cell∨X.env.kindOf x=some .free)→∃ c,X.env.cells.lookup x=some c
 cab:∀ x c,X.fn x=true→X.env.cells.lookup x=some c→X.s₀.heap.objs.size ≤ c
 hd:X.calm=true→X.A.handled=none
 frames:X.A.frames=some X.stack
 stk:X.stack=X.outer∨(X.stack=X.env :: X.outer∧X.env.frame=some X.env.locals)
 exf:∀ b ∈ X.ex,b ≠ X.env.locals∧∀ x c,X.env.cells.lookup x=some c→c ≠ b
 bs:∀ b o,X.base.get? b=some o→X.s₀.heap.get? b=some o∧X.H₀ b=none
 bsz:X.base.objs.size ≤ X.s₀.heap.objs.size
 noex:∀ b o,X.base.get? b=some o→b ∉ X.ex
 exfs:∀ b ∈ X.ex,b ∉ X.fs
 funs:X.s₀.heap.FunFrames X.base X.outer
 frf:∀ b ∈ X.fs,X.H₀ b=none
structure Inv (X:Cx)(pins:List (Addr × Obj))(σ:List (Option V))(H:Hp)(s:Shared):Prop where
 ok:X.Ok
 os:s.os=X.s₀.os
 bare:AllBare s.gens
 base:Un X.fs X.ex X.H₀ H X.s₀.heap s.heap
 loc:∃ m,s.heap.Ns X.env.locals m∧∀ (i:Nat) (x:Str) (v:V),X.N[i]? = some x→σ[i]? = some (some v)→Vis X.env.scope x→∃ u,RelV v u∧Look X.env s.heap m x u
 cell:∀ x c,X.env.cells.lookup x=some c→∃ v,s.heap.IsCell c v
 free:H X.env.locals=none
 freeC:∀ x c,X.env.cells.lookup x=some c→H c=none
 pin:∀ p ∈ X.pn ++ pins,s.heap.get? p.1=some p.2∧H p.1=none∧p.1 ≠ X.env.locals∧p.1 ∉ X.fs∧∀ v,p.2.data ≠ .cell v
 hok:HOk X.prog X.w H s.heap
 len:σ.length=X.N.length
section
variable {X:Cx}{pins:List (Addr × Obj)}{σ:List (Option V)}{H H':Hp}{s:Shared}{h':Heap}
theorem Cx.Ok.nofr (ok:X.Ok){b:Addr}{o:Obj}(e:X.base.get? b=some o):b ∉ X.fs:=fun hb=>by
 have:=(ok.funs.mem hb).1
 rw [e] at this;cases this
theorem Inv.bs (I:Inv X pins σ H s):∀ b o,X.base.get? b=some o→s.heap.get? b=some o∧H b=none:=fun b o e =>
 ⟨I.base.keep b o (I.ok.bs b o e).1 (I.ok.bs b o e).2 (I.ok.nofr e) (I.ok.noex b o e),I.base.free b o (I.ok.bs b o e).1 (I.ok.bs b o e).2 (I.ok.noex b o e)⟩
theorem Inv.bk (I:Inv X pins σ H s):∀ b o,X.base.get? b=some o→s.heap.get? b=some o:=fun b o e=>(I.bs b o e).1
theorem Inv.mod (I:Inv X pins σ H s):Mod X.K X.mg X.base:=I.ok.mod
theorem Inv.kIn (I:Inv X pins σ H s):X.K.In s.heap:=I.ok.mod.kin.keeps I.bk
theorem Inv.nolimit (I:Inv X pins σ H s):s.heap.NoLimit:=I.ok.mod.nolimit.keeps I.bk
theorem Inv.fr (I:Inv X pins σ H s):∃ m,Fr X.base X.env.locals s.heap m :=
 let ⟨m,hn,_⟩:=I.loc
 ⟨m,hn,I.bk,AG I.ok.bsz I.ok.above⟩
theorem Inv.lt (I:Inv X pins σ H s):X.env.locals < s.heap.objs.size:=let ⟨_,hn,_⟩:=I.loc;hn.lt
theorem Inv.sz (I:Inv X pins σ H s):X.s₀.heap.objs.size ≤ s.heap.objs.size:=AG I.ok.above (Bj I.lt)
theorem Inv.nofs (I:Inv X pins σ H s){a:Addr}(h:s.heap.objs.size ≤ a):a ∉ X.fs:=fun hb=>by
 obtain ⟨_,o,ho,_⟩:=I.ok.funs.mem hb
 exact absurd (A5 (As ho) (AG I.sz h)) (AR _)
theorem Inv.cne (I:Inv X pins σ H s):∀ x c,X.env.cells.lookup x=some c→c ≠ X.env.locals:=fun x c e z=>by
 obtain ⟨v,o,ho,hd⟩:=I.cell x c e
 obtain ⟨m,⟨o',es,ep,ho',hd',_⟩,_⟩:=I.loc
 rw [z,ho'] at ho;cases ho;rw [hd'] at hd;cases hd
theorem Inv.funs (I:Inv X pins σ H s):s.heap.FunFrames X.base X.outer:=by
 have all:∀ (l:List Env),(∀ b ∈ i7 l,b ∈ X.fs)→X.s₀.heap.FunFrames X.base l→s.heap.FunFrames X.base l:=by
  intro l
  induction l with
  | nil=>intro _ _;trivial
  | cons env r ih =>
   intro hs hl
   obtain ⟨hk,⟨L,o,hf,hn,ho,hd⟩,hr⟩:=hl
   have hL:L ∈ X.fs:=hs L (by unfold i7;rw [BJ,hf];exact Am)
   obtain ⟨sl,e⟩:=I.base.slot L o ho (I.ok.frf L hL) hL fun z=>I.ok.exfs L z hL
   exact ⟨hk,⟨L,_,hf,hn,e,hd⟩,ih (fun b hb=>hs b (by unfold i7;rw [BJ,hf];exact Ap _ hb)) hr⟩
 exact all X.outer (fun _ hb=>hb) I.ok.funs
theorem Inv.stack (I:Inv X pins σ H s):s.heap.FunFrames X.base X.stack:=by
 rcases I.ok.stk with e | ⟨e,hf⟩
 ·rw [e];exact I.funs
 ·rw [e]
  obtain ⟨m,hn,_⟩:=I.loc
  refine .cons (by rw [I.ok.kind];decide) hf hn ?_ I.funs
  exact Heap.get?_none_of_le (AG I.ok.bsz I.ok.above)
theorem Inv.stkSub (I:Inv X pins σ H s):∀ b ∈ i7 X.stack,b ∈ X.env.locals :: X.fs:=fun b hb=>by
 rcases I.ok.stk with e | ⟨e,hf⟩
 ·rw [e] at hb;exact Ap _ hb
 ·rw [e] at hb
  unfold i7 at hb
  rw [BJ,hf] at hb
  exact hb
theorem Inv.stkFree (I:Inv X pins σ H s):∀ b ∈ i7 X.stack,H b=none:=fun b hb=>by
 rcases A3.mp (I.stkSub b hb) with e | hb
 ·rw [e];exact I.free
 ·obtain ⟨_,o,ho,_⟩:=I.ok.funs.mem hb
  exact I.base.free b o ho (I.ok.frf b hb) fun z=>I.ok.exfs b z hb
theorem Inv.step {g':Array GenState}{t':Nat}{d':Drawn}{ch:List Addr}(I:Inv X pins σ H s)
  (hch:∀ b ∈ ch,(b ∈ X.ex∨X.s₀.heap.objs.size ≤ b)∧b ≠ X.env.locals∧(∀ x c,X.env.cells.lookup x=some c→c ≠ b)∧∀ p ∈ X.pn ++ pins,p.1 ≠ b)
  (keep:∀ b o,b ≠ X.env.locals→b ∉ X.fs→b ∉ ch→s.heap.get? b=some o→H b=none→h'.get? b=some o)
  (slot:∀ b o,b ≠ X.env.locals→b ∈ X.fs→b ∉ ch→s.heap.get? b=some o→H b=none→∃ sl,h'.get? b=some { o with slots:=sl }) (free:∀ b o,b ∉ ch→s.heap.get? b=some o→H b=none→H' b=none)
  (there:∀ b o,b ∉ ch→s.heap.get? b=some o→∃ o',h'.get? b=some o')
  (tups:∀ b xs,H b=some (.tup xs)→H' b=some (.tup xs)) (frzs:∀ b o u,H b=some (.frz o u)→H' b=some (.frz o u)) (tbls:∀ b ps,H b=some (.tbl ps)→∃ more,H' b=some (.tbl (ps ++ more)))
  (ns:∀ m,s.heap.Ns X.env.locals m→h'.Ns X.env.locals m) (hok:HOk X.prog X.w H' h') (hg:AllBare g') :
  Inv X pins σ H' { s with heap:=h',gens:=g',drawn:=d',toks:=t' }:=by
 have neL:∀ b o,X.s₀.heap.get? b=some o→b ≠ X.env.locals:=fun b o e=>A6 (A5 (As e) I.ok.above)
 have neC:∀ b o,X.s₀.heap.get? b=some o→b ∉ X.ex→b ∉ ch:=fun b o e hx hb=>by
  rcases (hch b hb).1 with z | z
  ·exact hx z
  ·exact absurd (A5 (As e) z) (AR _)
 have cellK:∀ x c,X.env.cells.lookup x=some c→∀ v,s.heap.IsCell c v→h'.IsCell c v:=fun x c e v ⟨o,ho,hd⟩=>by
  have nch:c ∉ ch:=fun z=>(hch c z).2.2.1 x c e rfl
  by_cases hc:c ∈ X.fs
  ·obtain ⟨sl,q⟩:=slot c o (I.cne x c e) hc nch ho (I.freeC x c e)
   exact ⟨_,q,hd⟩
  ·exact ⟨o,keep c o (I.cne x c e) hc nch ho (I.freeC x c e),hd⟩
 refine ⟨I.ok,I.os,hg,⟨fun b o e n hb hx=>?_,fun b o e n hb hx=>?_,fun b o e n hx=>?_,fun b o e hx=>?_,fun b xs e=>tups b xs (I.base.tups b xs e),fun b o xs e=>frzs b o xs (I.base.frzs b o xs e),fun b ps e=>?_⟩,?_,fun x c e=>?_,?_,fun x c e=>?_,fun p hp=>?_,hok,I.len⟩
 ·exact keep b o (neL b o e) hb (neC b o e hx) (I.base.keep b o e n hb hx) (I.base.free b o e n hx)
 ·obtain ⟨sl,e1⟩:=I.base.slot b o e n hb hx
  obtain ⟨sl',e2⟩:=slot b _ (neL b o e) hb (neC b o e hx) e1 (I.base.free b o e n hx)
  exact ⟨sl',e2⟩
 ·obtain ⟨o',e1⟩:=I.base.there b o e hx
  exact free b o' (neC b o e hx) e1 (I.base.free b o e n hx)
 ·obtain ⟨o',e1⟩:=I.base.there b o e hx
  exact there b o' (neC b o e hx) e1
 ·obtain ⟨m1,e1⟩:=I.base.tbls b ps e
  obtain ⟨m2,e2⟩:=tbls b _ e1
  exact ⟨m1 ++ m2,by rw [e2,Array.append_assoc]⟩
 ·obtain ⟨m,hn,hl⟩:=I.loc
  refine ⟨m,ns m hn,fun i x v e1 e2 e3=>?_⟩
  obtain ⟨u,r,l⟩:=hl i x v e1 e2 e3
  refine ⟨u,r,?_⟩
  rcases l with l | ⟨k,c,e,z⟩
  ·exact .inl l
  ·exact .inr ⟨k,c,e,cellK x c e _ z⟩
 ·obtain ⟨v,z⟩:=I.cell x c e
  exact ⟨v,cellK x c e v z⟩
 ·obtain ⟨m,⟨o,_,_,ho,_⟩,_⟩:=I.loc
  exact free _ o (fun z=>(hch _ z).2.1 rfl) ho I.free
 ·obtain ⟨v,o,ho,hd⟩:=I.cell x c e
  exact free c o (fun z=>(hch c z).2.2.1 x c e rfl) ho (I.freeC x c e)
 ·obtain ⟨e,n,ne,nf,d⟩:=I.pin p hp
  have nch:p.1 ∉ ch:=fun z=>(hch p.1 z).2.2.2 p hp rfl
  exact ⟨keep p.1 p.2 ne nf nch e n,free p.1 p.2 nch e n,ne,nf,d⟩
theorem Inv.un {t':Nat}(I:Inv X pins σ H s)(u:Un X.fs [] H H' s.heap h')(hok:HOk X.prog X.w H' h'):Inv X pins σ H' { s with heap:=h',toks:=t' }:=by
 obtain ⟨m,⟨o,es,ep,ho,r⟩,_⟩:=id I.loc
 obtain ⟨sl,hL⟩:=u.any ho I.free (by simp)
 exact I.step (g':=s.gens) (d':=s.drawn) (ch:=[]) (fun _ z=>nomatch z) (fun b o _ hb _ e n=>u.keep b o e n hb (by simp)) (fun b o _ hb _ e n=>u.slot b o e n hb (by simp)) (fun b o _ e n=>u.free b o e n (by simp)) (fun b o _ e=>u.there b o e (by simp)) u.tups u.frzs u.tbls (fun m' hm=>by
  obtain ⟨o',es',ep',ho',r'⟩:=hm
  rw [ho] at ho';cases ho'
  exact ⟨_,es',ep',hL,r'⟩) hok I.bare
theorem Inv.call {g':Array GenState}{t':Nat}{d':Drawn}{ch:List Addr}(I:Inv X pins σ H s)(u:Un (i7 X.stack) ch H H' s.heap h')(hok:HOk X.prog X.w H' h')(hg:AllBare g')
  (hch:∀ b ∈ ch,(b ∈ X.ex∨X.s₀.heap.objs.size ≤ b)∧b ≠ X.env.locals∧(∀ x c,X.env.cells.lookup x=some c→c ≠ b)∧∀ p ∈ X.pn ++ pins,p.1 ≠ b) :
  Inv X pins σ H' { s with heap:=h',gens:=g',drawn:=d',toks:=t' }:=by
 obtain ⟨m,⟨o,es,ep,ho,r⟩,_⟩:=id I.loc
 obtain ⟨sl,hL⟩:=u.any ho I.free fun z=>(hch _ z).2.1 rfl
 exact I.step (ch:=ch) hch (fun b o hL hb hc e n=>u.keep b o e n (fun z=>(A3.mp (I.stkSub b z)).elim hL hb) hc) (fun b o _ _ hc e n=>u.any e n hc) (fun b o hc e n=>u.free b o e n hc) (fun b o hc e=>u.there b o e hc) u.tups u.frzs u.tbls (fun m' hm=>by
  obtain ⟨o',es',ep',ho',r'⟩:=hm
  rw [ho] at ho';cases ho'
  exact ⟨_,es',ep',hL,r'⟩) hok hg
theorem Inv.turned {t':Nat}{it:Addr}(I:Inv X pins σ H s)(k:∀ b o,b ≠ it→s.heap.get? b=some o→h'.get? b=some o)(hn:H it=none)(hL:it ≠ X.env.locals)
  (h1:it ∈ X.ex∨X.s₀.heap.objs.size ≤ it) (h2:∀ x c,X.env.cells.lookup x=some c→c ≠ it) (h3:∀ p ∈ X.pn ++ pins,p.1 ≠ it):Inv X pins σ H { s with heap:=h',toks:=t' }:=by
 have nit:∀ b u,H b=some u→b ≠ it:=fun b u e z=>by rw [z,hn] at e;cases e
 refine I.step (g':=s.gens) (d':=s.drawn) (ch:=[it]) (fun b hb=>?_) (fun b o _ _ hc e _=>k b o (fun z=>hc (by simp [z])) e) (fun b o _ _ hc e _=>⟨o.slots,k b o (fun z=>hc (by simp [z])) e⟩) (fun _ _ _ _ n=>n)
  (fun b o hc e=>⟨o,k b o (fun z=>hc (by simp [z])) e⟩) (fun _ _ e=>e) (fun _ _ _ e=>e) (fun b ps e=>⟨#[],by rw [e];simp⟩) (fun m hm=>?_) (fun b u e=>?_) I.bare
 ·have e:b=it:=by simpa using hb
  subst e
  exact ⟨h1,hL,h2,h3⟩
 ·obtain ⟨o,es,ep,ho,r⟩:=hm
  exact ⟨o,es,ep,k _ o (Cq hL) ho,r⟩
 ·refine (I.hok b u e).stay (fun c v hc q=>k c v ?_ q) (fun _ q=>q) fun _ _ q=>q
  rcases hc with z | z
  ·rw [z];exact nit b u e
  ·exact nit c _ z
theorem Inv.tok (I:Inv X pins σ H s)(t:Nat):Inv X pins σ H { s with toks:=t }:=I.un (h':=s.heap) (t':=t) Un.refl I.hok
theorem Inv.kept {t':Nat}(I:Inv X pins σ H s)(k:∀ b u,s.heap.get? b=some u→h'.get? b=some u):Inv X pins σ H { s with heap:=h',toks:=t' }:=I.un (Un.kept k) (I.hok.kept k)
theorem Inv.laid {a:Addr}{o:HO}{t':Nat}(I:Inv X pins σ H s)(k:∀ b u,s.heap.get? b=some u→h'.get? b=some u)(hp:s.heap.objs.size ≤ a)(new:ObjOk X.prog X.w (upd H a o) h' a o) :
  Inv X pins σ (upd H a o) { s with heap:=h',toks:=t' }:=I.un (Un.laid k hp (I.hok.fresh hp)) (I.hok.laid k hp new)
theorem Inv.write {x e:Addr}{o:HO}{t':Nat}(I:Inv X pins σ H s)(mu:Mut (H x))(he:e=x∨H e=some (.own x))(k:∀ b u,b ≠ e→s.heap.get? b=some u→h'.get? b=some u)(heo:∃ u,h'.get? e=some u)
  (new:ObjOk X.prog X.w (upd H x o) h' x o):Inv X pins σ (upd H x o) { s with heap:=h',toks:=t' }:=I.un (Un.write mu he k heo) (I.hok.write mu he k heo new)
theorem Inv.weak {σ':List (Option V)}(I:Inv X pins σ H s)(hl:σ'.length=σ.length)(w:∀ (i:Nat) v,σ'[i]? = some (some v)→σ[i]? = some (some v)):Inv X pins σ' H s :=
 ⟨I.ok,I.os,I.bare,I.base,let ⟨m,hn,hl'⟩:=I.loc;⟨m,hn,fun i x v e1 e2 e3=>hl' i x v e1 (w i v e2) e3⟩,I.cell,I.free,I.freeC,I.pin,I.hok,hl.trans I.len⟩
theorem Inv.pins_of {pins':List (Addr × Obj)}(I:Inv X pins σ H s)(h:∀ p ∈ pins',s.heap.get? p.1=some p.2∧H p.1=none∧p.1 ≠ X.env.locals∧p.1 ∉ X.fs∧∀ v,p.2.data ≠ .cell v):Inv X pins' σ H s :=
 ⟨I.ok,I.os,I.bare,I.base,I.loc,I.cell,I.free,I.freeC,fun p hp=>(Av.mp hp).elim (fun z=>I.pin p (Bw _ z)) (h p),I.hok,I.len⟩
theorem rQ {N:List Str}(hN:N.Nodup){i j:Nat}{x:Str}(a:N[i]? = some x)(b:N[j]? = some x):i=j:=by
 obtain ⟨h1,e1⟩:=Ae.mp a
 obtain ⟨h2,e2⟩:=Ae.mp b
 exact (List.getElem_inj hN).mp (e1.trans e2.symm)
theorem fN {M:Model}{A:Around}{E:Value→Shared→Prop}{i:Nat}{x:Str}{v:V}{u:Value}{Q:Unit→Shared→Prop}(I:Inv X pins σ H s)(hN:X.N.Nodup)(hi:X.N[i]? = some x)(hx:Loc X.env.scope x)(r:RelV v u)
  (h:∀ s',Inv X pins (σ.set i (some v)) H s'→(∃ a,Heap.SameBut a s.heap s'.heap∧(a=X.env.locals∨X.env.cells.lookup x=some a))→Q () s') (hf:X.fn x=true∨X.env.scope.names.lookup x=some .local:=by first | exact .inl rfl | exact .inr rfl | assumption):wpAny M A (storeName X.env x u) Q E s:=by
 obtain ⟨m,hn,hl⟩:=id I.loc
 have hcls:(X.env.scope.kind == .class || (X.env.scope.kind == .module && X.env.locals != X.env.globals))=false:=by rw [I.ok.kind];rfl
 have hiσ:i < σ.length:=by rw [I.len];exact (Ae.mp hi).1
 have cne:=I.cne
 have tracked:∀ {a:Addr} {h':Heap},(∃ o,s.heap.get? a=some o∧H a=none)→Heap.SameBut a s.heap h'→HOk X.prog X.w H h':=fun {a h'} ha hs b ob e=>by
  obtain ⟨_,_,hfree⟩:=ha
  refine (I.hok b ob e).stay (fun c w' hc q=>(hs.2 c ?_).trans q) (fun _ q=>q) fun _ _ q=>q
  rintro rfl
  rcases hc with rfl | hc
  ·rw [hfree] at e;cases e
  ·rw [hfree] at hc;cases hc
 rcases hx with hk | hk
 ·refine wpAny_storeName_local hk hn (fun h' hn' hs=>?_) hcls
  obtain ⟨oL,_,_,hoL,_⟩:=id hn
  refine h _ ⟨I.ok,I.os,I.bare,⟨fun b o e n hb hx=>?_,fun b o e n hb hx=>?_,I.base.free,fun b o e hx=>?_,I.base.tups,I.base.frzs,I.base.tbls⟩,⟨_,hn',fun j y v' e1 e2 e3=>?_⟩,fun y c e=>?_,I.free,I.freeC,fun p hp=>?_,tracked ⟨oL,hoL,I.free⟩ hs,by simpa using I.len⟩ ⟨_,hs,.inl rfl⟩
  ·exact (hs.2 b (A6 (A5 (As e) I.ok.above))).trans (I.base.keep b o e n hb hx)
  ·obtain ⟨sl,e1⟩:=I.base.slot b o e n hb hx
   exact ⟨sl,(hs.2 b (A6 (A5 (As e) I.ok.above))).trans e1⟩
  ·obtain ⟨o',e1⟩:=I.base.there b o e hx
   exact ⟨o',(hs.2 b (A6 (A5 (As e) I.ok.above))).trans e1⟩
  ·by_cases hj:j=i
   ·subst hj
    rw [hi] at e1;cases e1
    rw [List.getElem?_set_self hiσ] at e2
    cases e2
    exact ⟨u,r,.inl ⟨hk,by simp⟩⟩
   ·rw [List.getElem?_set_ne (Cq hj)] at e2
    obtain ⟨u',r',q⟩:=hl j y v' e1 e2 e3
    refine ⟨u',r',?_⟩
    rcases q with ⟨k,e⟩ | ⟨k,c,e,z⟩
    ·refine .inl ⟨k,?_⟩
     have:y ≠ x:=fun e=>hj (rQ hN e1 (e ▸ hi))
     simp [this,e]
    ·exact .inr ⟨k,c,e,z.sameBut hs (cne y c e)⟩
  ·obtain ⟨w',z⟩:=I.cell y c e
   exact ⟨w',z.sameBut hs (cne y c e)⟩
  ·obtain ⟨e,n,ne,nf,d⟩:=I.pin p hp
   exact ⟨(hs.2 p.1 ne).trans e,n,ne,nf,d⟩
 ·have hfn:X.fn x=true:=by
   rcases hf with z | z
   ·exact z
   ·rw [z] at hk;cases hk
  obtain ⟨c,hc⟩:=I.ok.has x (.inl hk)
  obtain ⟨w',z⟩:=I.cell x c hc
  refine wpAny_storeName_cell I.ok.kind hk hc z (fun h' hc' hs=>?_)
  obtain ⟨oc,hoc,hocd⟩:=id z
  refine h { s with heap:=h' } ⟨I.ok,I.os,I.bare,⟨fun b o e n hb hx=>?_,fun b o e n hb hx=>?_,I.base.free,fun b o e hx=>?_,I.base.tups,I.base.frzs,I.base.tbls⟩,⟨m,hn.sameBut hs (Cq (cne x c hc)),fun j y v' e1 e2 e3=>?_⟩,fun y c' e=>?_,I.free,I.freeC,fun p hp=>?_,tracked ⟨oc,hoc,I.freeC x c hc⟩ hs,by simpa using I.len⟩ ⟨c,hs,.inr hc⟩
  ·exact (hs.2 b (A6 (A5 (As e) (I.ok.cab x c hfn hc)))).trans (I.base.keep b o e n hb hx)
  ·obtain ⟨sl,e1⟩:=I.base.slot b o e n hb hx
   exact ⟨sl,(hs.2 b (A6 (A5 (As e) (I.ok.cab x c hfn hc)))).trans e1⟩
  ·obtain ⟨o',e1⟩:=I.base.there b o e hx
   exact ⟨o',(hs.2 b (A6 (A5 (As e) (I.ok.cab x c hfn hc)))).trans e1⟩
  ·by_cases hj:j=i
   ·subst hj
    rw [hi] at e1;cases e1
    rw [List.getElem?_set_self hiσ] at e2
    cases e2
    exact ⟨u,r,.inr ⟨.inl hk,c,hc,hc'⟩⟩
   ·rw [List.getElem?_set_ne (Cq hj)] at e2
    obtain ⟨u',r',q⟩:=hl j y v' e1 e2 e3
    refine ⟨u',r',?_⟩
    rcases q with q | ⟨k,c',e,z'⟩
    ·exact .inl q
    ·refine .inr ⟨k,c',e,z'.sameBut hs ?_⟩
     rintro rfl
     exact hj (rQ hN e1 (I.ok.inj _ _ _ e hc ▸ hi))
  ·by_cases hcc:c'=c
   ·subst hcc;exact ⟨_,hc'⟩
   ·obtain ⟨w2,z2⟩:=I.cell y c' e
    exact ⟨w2,z2.sameBut hs hcc⟩
  ·obtain ⟨e,n,ne,nf,d⟩:=I.pin p hp
   refine ⟨(hs.2 p.1 ?_).trans e,n,ne,nf,d⟩
   intro q
   rw [q,hoc] at e
   have q':oc=p.2:=A9 e
   exact d w' (by rw [← q'];exact hocd)
theorem dO {M:Model}{A:Around}{E:Value→Shared→Prop}{i:Nat}{x:Str}{v:V}{u:Value}{Q:Unit→Shared→Prop}(I:Inv X pins σ H s)(hN:X.N.Nodup)(hi:X.N[i]? = some x)(hx:Loc X.env.scope x)(r:RelV v u)
  (h:∀ s',Inv X pins (σ.set i (some v)) H s'→Q () s') (hf:X.fn x=true∨X.env.scope.names.lookup x=some .local:=by first | exact .inl rfl | exact .inr rfl | assumption):wpAny M A (storeName X.env x u) Q E s :=
 fN I hN hi hx r (fun s' I' _=>h s' I') hf
theorem Inv.call' {s':Shared}{ch:List Addr}(I:Inv X pins σ H s)(ho:s'.os=s.os)(u:Un (i7 X.stack) ch H H' s.heap s'.heap)(hok:HOk X.prog X.w H' s'.heap)(hg:AllBare s'.gens)
  (hch:∀ b ∈ ch,(b ∈ X.ex∨X.s₀.heap.objs.size ≤ b)∧b ≠ X.env.locals∧(∀ x c,X.env.cells.lookup x=some c→c ≠ b)∧∀ p ∈ X.pn ++ pins,p.1 ≠ b):Inv X pins σ H' s':=by
 obtain ⟨h',g',d',t',o'⟩:=s'
 have e:o'=s.os:=ho
 subst e
 exact I.call (g':=g') (t':=t') (d':=d') u hok hg hch
end
abbrev XK:=Value→Option Addr→Hp→Prop
abbrev St:=List (Option V)
abbrev VK:=V→Hp→Prop
abbrev TE:=St→Hp→VK→Prop
abbrev TT:=St→Hp→(Bool→Hp→Prop)→Prop
abbrev TA:=St→Hp→(List V→Hp→Prop)→Prop
structure Ends where
 nx:St→Hp→Prop
 rt:VK
 bk:St→Hp→Prop:=fun _ _=>False
 ct:St→Hp→Prop:=fun _ _=>False
abbrev TS:=Ends→St→Hp→Prop
def EP (X:Cx)(pins:List (Addr × Obj))(σ:St)(Q:VK)(u:Value)(s':Shared):Prop:=∃ v H',Inv X pins σ H' s'∧RelV v u∧Q v H'
def TP (X:Cx)(pins:List (Addr × Obj))(σ:St)(Q:Bool→Hp→Prop)(b:Bool)(s':Shared):Prop:=∃ H',Inv X pins σ H' s'∧Q b H'
def AP (X:Cx)(pins:List (Addr × Obj))(σ:St)(Q:List V→Hp→Prop)(us:List Value)(s':Shared):Prop:=∃ vs H',Inv X pins σ H' s'∧Vals vs us∧Q vs H'
def SP (X:Cx)(pins:List (Addr × Obj))(D:Ends)(f:Flow)(s':Shared):Prop :=
 match f with
 | .next=>∃ σ' H',Inv X pins σ' H' s'∧D.nx σ' H'
 | .brk=>∃ σ' H',Inv X pins σ' H' s'∧D.bk σ' H'
 | .cont=>∃ σ' H',Inv X pins σ' H' s'∧D.ct σ' H'
 | .ret u=>∃ v σ' H',Inv X pins σ' H' s'∧RelV v u∧D.rt v H'
def PE (X:Cx)(e:Expr)(t:TE):Prop :=
 ∀ (pins:List (Addr × Obj)) (s:Shared) (σ:St) (H:Hp) (Q:VK),Inv X pins σ H s→t σ H Q→wpAny (model X.prog X.w) X.A (eval e X.env) (EP X pins σ Q) X.xe s
def PT (X:Cx)(e:Expr)(t:TT):Prop :=
 ∀ (pins:List (Addr × Obj)) (s:Shared) (σ:St) (H:Hp) (Q:Bool→Hp→Prop),Inv X pins σ H s→t σ H Q→wpAny (model X.prog X.w) X.A (isTrue e X.env (eval e X.env)) (TP X pins σ Q) X.xe s
def PW (X:Cx)(e:Expr)(t:TT):Prop :=
 ∀ (whole:Sem Value) (pins:List (Addr × Obj)) (s:Shared) (σ:St) (H:Hp) (Q:Bool→Hp→Prop),Inv X pins σ H s→t σ H Q→wpAny (model X.prog X.w) X.A (isTrue e X.env whole) (TP X pins σ Q) X.xe s
theorem PW.pt {X:Cx}{e:Expr}{t:TT}(h:PW X e t):PT X e t:=h _
def PA (X:Cx)(es:List Expr)(t:TA):Prop :=
 ∀ (pos:Pos) (pins:List (Addr × Obj)) (s:Shared) (σ:St) (H:Hp) (Q:List V→Hp→Prop),Inv X pins σ H s→t σ H Q→wpAny (model X.prog X.w) X.A (spliced (backTo pos (starEach es X.env))) (AP X pins σ Q) X.xe s
def PS (X:Cx)(st:Stmt)(t:TS):Prop :=
 ∀ (pins:List (Addr × Obj)) (s:Shared) (σ:St) (H:Hp) (D:Ends),Inv X pins σ H s→t D σ H→wpAny (model X.prog X.w) X.A (exec st X.env) (SP X pins D) X.xe s
def PSs (X:Cx)(st:List Stmt)(t:TS):Prop :=
 ∀ (pins:List (Addr × Obj)) (s:Shared) (σ:St) (H:Hp) (D:Ends),Inv X pins σ H s→t D σ H→wpAny (model X.prog X.w) X.A (execs st X.env) (SP X pins D) X.xe s
theorem jJ {α:Type}{t:Sem α}{Q Q':α→Shared→Prop}{M:Model}{A:Around}{E:Value→Shared→Prop}{s:Shared}(h:wpAny M A t Q E s)(hQ:∀ a s,Q a s→Q' a s):wpAny M A t Q' E s:=wpAny_mono h hQ fun _ _ x=>x
end L2
namespace L2
open PySem PySem.Spec PyProof.Rows
section
variable {X:Cx}
theorem bin {a b:Expr}{ta tb:TE}(ha:PE X a ta)(hb:PE X b tb){pins:List (Addr × Obj)}{s:Shared}{σ:St}{H:Hp}{R:V→V→Hp→Prop}(I:Inv X pins σ H s)(h:ta σ H fun x H1=>tb σ H1 fun y H2=>R x y H2)
  {α:Type} {Q:α→Shared→Prop} {f:Value→Value→Sem α}
  (hf:∀ v u s2 x y H2,Inv X pins σ H2 s2→RelV x v→RelV y u→R x y H2→wpAny (model X.prog X.w) X.A (f v u) Q X.xe s2) :
  wpAny (model X.prog X.w) X.A (eval a X.env) (fun v s₁=>wpAny (model X.prog X.w) X.A (eval b X.env) (fun u s₂=>wpAny (model X.prog X.w) X.A (f v u) Q X.xe s₂) X.xe s₁) X.xe s:=by
 refine jJ (ha pins s σ H _ I h) fun v s1 ⟨x,H1,I1,r1,q1⟩=>?_
 refine jJ (hb pins s1 σ H1 _ I1 q1) fun u s2 ⟨y,H2,I2,r2,q2⟩=>?_
 exact hf v u s2 x y H2 I2 r1 r2 q2
def g8 (i:Nat):TE:=fun σ H Q=>∃ v,σ[i]? = some (some v)∧Q v H
def tC (v:V):TE:=fun _ H Q=>Q v H
theorem pe_var {i:Nat}{x:Str}{pos:Pos}(hN:X.N[i]? = some x)(hv:Vis X.env.scope x)(hd:(x == ("__debug__" : Str))=false:=by decide) (hcd:(x == ("__classdict__" : Str))=false:=by decide):PE X (.Name x pos) (g8 i):=by
 intro pins s σ H Q I h
 obtain ⟨v,e,h⟩:=h
 obtain ⟨m,hn,hl⟩:=I.loc
 obtain ⟨u,r,l⟩:=hl i x v hN e hv
 have fin:EP X pins σ Q u s:=⟨v,H,I,r,h⟩
 rcases l with ⟨hk,hm⟩ | ⟨hk,c,hc,hcell⟩
 ·exact wpAny_Name (wpAny_loadName_local I.ok.kind hk hn hm fin) hd
 ·rcases hk with hk | hk
  ·exact wpAny_Name (wpAny_loadName_cell I.ok.kind hk hc hcell fin) hd
  ·exact wpAny_Name (wpAny_loadName_free I.ok.kind hk hc hcell fin hcd) hd
theorem qG {i j pos}:PE X (.Constant (.int i) j pos) (tC (.int i)):=fun _ _ _ H _ I h=>wpAny_Constant_int ⟨.int i,H,I.tok _,⟨_,rfl⟩,h⟩
theorem nD {b j pos}:PE X (.Constant (.bool b) j pos) (tC (.bl b)):=fun _ _ _ H _ I h=>Constant_bool ⟨.bl b,H,I,rfl,h⟩
theorem zH {j pos}:PE X (.Constant .none j pos) (tC .non):=fun _ _ _ H _ I h=>Constant_none ⟨.non,H,I,rfl,h⟩
theorem tN {x j pos}:PE X (.Constant (.str x) j pos) (tC (.str x)):=fun _ _ _ H _ I h=>Calls.Constant_str ⟨.str x,H,I.tok _,⟨_,rfl⟩,h⟩
def Gl (X:Cx)(x:Str):Prop:=X.env.kindOf x=some .globalImplicit
theorem aT {E:Value→Shared→Prop}{pins:List (Addr × Obj)}{s:Shared}{σ:St}{H:Hp}{x:Str}{u:Value}{pos:Pos}{Q:Value→Shared→Prop}(I:Inv X pins σ H s)(hg:Gl X x)(hm:X.mg x=some u)(h:Q u s)
  (hd:(x == ("__debug__" : Str))=false:=by decide):wpAny (model X.prog X.w) X.A (eval (.Name x pos) X.env) Q E s :=
 Calls.Name_function_global I.ok.kind hg (Calls.loadGlobal_global (by rw [I.ok.glob];exact I.mod.glob.keeps I.bk) hm h) hd
theorem gD {E:Value→Shared→Prop}{pins:List (Addr × Obj)}{s:Shared}{σ:St}{H:Hp}{x:Str}{u:Value}{pos:Pos}{Q:Value→Shared→Prop}(I:Inv X pins σ H s)(hg:Gl X x)(hm:X.mg x=none)(hv:bootBuiltins x=some u)(h:Q u s)
  (hn:x ≠ "__name__" := by decide) (hd:(x == ("__debug__" : Str))=false:=by decide):wpAny (model X.prog X.w) X.A (eval (.Name x pos) X.env) Q E s:=by
 obtain ⟨mb,h1,h2⟩:=I.mod.blt
 exact Calls.Name_function_global I.ok.kind hg (Calls.loadGlobal_builtin (by rw [I.ok.glob];exact I.mod.glob.keeps I.bk) hm (by rw [I.ok.blt];exact h1.keeps I.bk) ((h2 x hn).trans hv) h) hd
theorem jU {x:Str}{v:V}{u:Value}{pos:Pos}(hg:Gl X x)(hm:X.mg x=none)(hv:bootBuiltins x=some u)(r:RelV v u)(hn:x ≠ "__name__" := by decide) (hd:(x == ("__debug__" : Str))=false:=by decide):PE X (.Name x pos) (tC v) :=
 fun _ _ _ H _ I h=>gD I hg hm hv ⟨v,H,I,r,h⟩ hn hd
def t2I (ta tb:TE)(k:Int→Int→Hp→Prop):St→Hp→Prop:=fun σ H=>ta σ H fun x H1=>tb σ H1 fun y H2=>∃ i j,x = .int i∧y = .int j∧k i j H2
variable {a b:Expr}{ta tb:TE}{pos:Pos}
def PC (X:Cx)(op:CmpOp)(a b:Expr)(t:TE):Prop :=
 ∀ (pins:List (Addr × Obj)) (s:Shared) (σ:St) (H:Hp) (Q:VK),Inv X pins σ H s→t σ H Q →
  wpAny (model X.prog X.w) X.A (eval a X.env) (fun v s₁=>wpAny (model X.prog X.w) X.A (eval b X.env) (fun u s₂=>wpAny (model X.prog X.w) X.A (compareOp op v u) (EP X pins σ Q) X.xe s₂) X.xe s₁) X.xe s
def tCmp (p:Int→Int→Bool)(ta tb:TE):TE:=fun σ H Q=>t2I ta tb (fun i j H2=>Q (.bl (p i j)) H2) σ H
abbrev tLe:TE→TE→TE:=tCmp fun i j=>decide (i ≤ j)
theorem pc_int {op:CmpOp}{p:Int→Int→Bool}(ha:PE X a ta)(hb:PE X b tb)
  (rule:∀ (i j:Int) (t u:Tok) (Q:Value→Shared→Prop) (s:Shared),Q (.bool (p i j)) s→wpAny (model X.prog X.w) X.A (compareOp op (.int i t) (.int j u)) Q X.xe s):PC X op a b (tCmp p ta tb):=by
 intro pins s σ H Q I h
 refine bin ha hb I h fun v u s2 x y H2 I2 rx ry q=>?_
 obtain ⟨i,j,rfl,rfl,q⟩:=q
 obtain ⟨t,rfl⟩:=rx
 obtain ⟨t',rfl⟩:=ry
 exact rule i j t t' _ s2 ⟨.bl _,H2,I2,rfl,q⟩
theorem pc_le (ha:PE X a ta)(hb:PE X b tb):PC X .LtE a b (tLe ta tb):=pc_int ha hb fun _ _ _ _ _ _ h=>le_int h
def tB (t:TE):TT:=fun σ H Q=>t σ H fun x H1=>∃ c,x = .bl c∧Q c H1
theorem z8 {e:Expr}{t:TE}(h:PE X e t)(he:∀ whole,isTrue e X.env whole=(do let v ← whole;standAt e.pos;holding [v] (truthy v)):=by intro _;rfl):PT X e (tB t):=by
 intro pins s σ H Q I hw
 refine isTrue_plain (jJ (h pins s σ H _ I hw) fun v s1 ⟨x,H1,I1,r1,q1⟩=>?_) (he _)
 obtain ⟨d,rfl,q⟩:=q1
 cases r1
 exact wpAny_truthy_bool ⟨H1,I1,q⟩
variable {tA tB':TT}{rest:List Expr}
def tAnd (t u:TT):TT:=fun σ H Q=>t σ H fun c H1=>if c=true then u σ H1 Q else Q false H1
def tOr (t u:TT):TT:=fun σ H Q=>t σ H fun c H1=>if c=true then Q true H1 else u σ H1 Q
def tNot (t:TT):TT:=fun σ H Q=>t σ H fun c H1=>Q (!c) H1
theorem xO (ha:PT X a tA):PW X (.BoolOp .And [a] pos) tA:=by
 intro wh pins s σ H Q I h
 refine isTrue_and (jJ (ha pins s σ H Q I h) fun c s1 e=>?_)
 cases c with
 | true=>exact isTrue_and_nil e
 | false=>exact e
theorem lG (ha:PT X a tA):PW X (.BoolOp .Or [a] pos) tA:=by
 intro wh pins s σ H Q I h
 refine isTrue_or (jJ (ha pins s σ H Q I h) fun c s1 e=>?_)
 cases c with
 | false=>exact isTrue_or_nil e
 | true=>exact e
theorem yR (ha:PT X a tA)(hb:PW X (.BoolOp .And (b :: rest) pos) tB'):PW X (.BoolOp .And (a :: b :: rest) pos) (tAnd tA tB'):=by
 intro wh pins s σ H Q I h
 refine isTrue_and (jJ (ha pins s σ H _ I h) fun c s1 ⟨H1,I1,q1⟩=>?_)
 cases c with
 | true=>exact hb wh pins s1 σ H1 Q I1 q1
 | false=>exact ⟨H1,I1,q1⟩
theorem aK (ha:PT X a tA)(hb:PW X (.BoolOp .Or (b :: rest) pos) tB'):PW X (.BoolOp .Or (a :: b :: rest) pos) (tOr tA tB'):=by
 intro wh pins s σ H Q I h
 refine isTrue_or (jJ (ha pins s σ H _ I h) fun c s1 ⟨H1,I1,q1⟩=>?_)
 cases c with
 | true=>exact ⟨H1,I1,q1⟩
 | false=>exact hb wh pins s1 σ H1 Q I1 q1
theorem cC (ha:PT X a tA):PT X (.UnaryOp .Not a pos) (tNot tA):=by
 intro pins s σ H Q I h
 exact isTrue_not (ha pins s σ H (fun c H1=>Q (!c) H1) I h)
def tAndV (ta tb:TE):TE:=fun σ H Q=>ta σ H fun x H1=>∃ c,x = .bl c∧if c=true then tb σ H1 Q else Q (.bl false) H1
def tOrV (ta tb:TE):TE:=fun σ H Q=>ta σ H fun x H1=>∃ c,x = .bl c∧if c=true then Q (.bl true) H1 else tb σ H1 Q
def tNotV (ta:TE):TE:=fun σ H Q=>ta σ H fun x H1=>∃ c,x = .bl c∧Q (.bl (!c)) H1
theorem gC {op}{t:TE}(h:PE X a t):PE X (.BoolOp op [a] pos) t:=fun pins s σ H Q I hw=>BoolOp_one (h pins s σ H Q I hw)
theorem zI (ha:PE X a ta)(hb:PE X (.BoolOp .And (b :: rest) pos) tb):PE X (.BoolOp .And (a :: b :: rest) pos) (tAndV ta tb):=by
 intro pins s σ H Q I h
 refine BoolOp_and (jJ (ha pins s σ H _ I h) fun v s1 ⟨x,H1,I1,r1,q1⟩=>?_)
 obtain ⟨c,rfl,q1⟩:=q1
 cases r1
 refine wpAny_truthy_bool ?_
 cases c with
 | true=>exact hb pins s1 σ H1 Q I1 q1
 | false=>exact ⟨.bl false,H1,I1,rfl,q1⟩
theorem tO (ha:PE X a ta):PE X (.UnaryOp .Not a pos) (tNotV ta):=by
 intro pins s σ H Q I h
 refine UnaryOp_ (jJ (ha pins s σ H _ I h) fun v s1 ⟨x,H1,I1,r1,q1⟩=>?_)
 obtain ⟨c,rfl,q1⟩:=q1
 cases r1
 exact not_of (wpAny_truthy_bool ⟨.bl (!c),H1,I1,rfl,q1⟩)
def tIf (t:TT)(ta tb:TE):TE:=fun σ H Q=>t σ H fun c H1=>if c=true then ta σ H1 Q else tb σ H1 Q
theorem d5 {c:Expr}(hc:PT X c tA)(ha:PE X a ta)(hb:PE X b tb):PE X (.IfExp c a b pos) (tIf tA ta tb):=by
 intro pins s σ H Q I h
 refine wpAny_IfExp (jJ (hc pins s σ H _ I h) fun d s1 ⟨H1,I1,q1⟩=>?_)
 cases d with
 | true=>exact ha pins s1 σ H1 Q I1 q1
 | false=>exact hb pins s1 σ H1 Q I1 q1
end
end L2
namespace L2
open PySem PySem.Spec PyProof.Rows
def SqL (K:PySem.W.Frag)(H:Hp)(a:Addr)(xs:List V):Prop :=
 Rd H a (.lst xs) ∨
  ∃ (o:Obj) (its:Array Value) (n:Nat),K.lookup a=some o∧o.cls = .type "list" ∧ o.dict=none∧o.data = .seq its n∧its.size ≤ sizeLine∧Vals xs its.toList
def SqT (K:PySem.W.Frag)(H:Hp)(a:Addr)(xs:List V):Prop :=
 Rd H a (.tup xs) ∨
  ∃ (o:Obj) (its:Array Value) (n:Nat),K.lookup a=some o∧o.cls = .type "tuple" ∧ o.data = .seq its n∧its.size ≤ sizeLine∧Vals xs its.toList
def absV:Value→Option V
 | .none=>some .non
 | .bool b=>some (.bl b)
 | .int i _=>some (.int i)
 | .str x _=>some (.str x)
 | .bytes b _=>some (.byt b)
 | .float b _=>some (.flt b)
 | .ref a=>some (.ref a)
 | .type n=>some (.ty n)
 | _=>none
theorem RelV.abs {x:V}{u:Value}(r:RelV x u):absV u=some x:=by
 cases x with
 | non=>cases r;rfl
 | bl _=>cases r;rfl
 | int _=>obtain ⟨t,rfl⟩:=r;rfl
 | str _=>obtain ⟨t,rfl⟩:=r;rfl
 | byt _=>obtain ⟨t,rfl⟩:=r;rfl
 | flt _=>obtain ⟨t,rfl⟩:=r;rfl
 | ref _=>cases r;rfl
 | ty _=>cases r;rfl
theorem RelV.inj {x y:V}{u:Value}(r:RelV x u)(q:RelV y u):x=y:=A9 (r.abs.symm.trans q.abs)
theorem Vals.inj:∀ {xs ys:List V} {us:List Value},Vals xs us→Vals ys us→xs=ys
 | _,_,_,.nil,.nil=>rfl
 | _,_,_,.cons r t,.cons r' t'=>by rw [r.inj r',Vals.inj t t']
section
variable {X:Cx}{pins:List (Addr × Obj)}{σ:St}{H:Hp}{s:Shared}{a:Addr}{xs ys:List V}
theorem SqL.of {K:PySem.W.Frag}(h:H a=some (.lst xs)):SqL K H a xs:=.inl (.inl h)
theorem SqT.of {K:PySem.W.Frag}(h:H a=some (.tup xs)):SqT K H a xs:=.inl (.inl h)
theorem Inv.list (I:Inv X pins σ H s)(h:SqL X.K H a xs):∃ its:List Value,Vals xs its∧PlainL s.heap a its.toArray∧xs.length ≤ sizeLine:=by
 rcases h with h | ⟨o,its,n,hk,hc,hd,hs,hz,r⟩
 ·obtain ⟨z,its,n,r,e⟩:=h.ok I.hok
  exact ⟨its,r,⟨_,n,e,rfl,rfl,rfl⟩,z⟩
 ·refine ⟨its.toList,r,⟨o,n,I.kIn a o hk,hc,hd,by simpa using hs⟩,?_⟩
  have e:=r.length
  simp only [Cc] at e
  omega
theorem Inv.tuple (I:Inv X pins σ H s)(h:SqT X.K H a xs):∃ its:List Value,Vals xs its∧IsTup s.heap a its.toArray∧xs.length ≤ sizeLine:=by
 rcases h with h | ⟨o,its,n,hk,hc,hs,hz,r⟩
 ·obtain ⟨z,its,r,p⟩:=h.ok I.hok
  exact ⟨its,r,p,z⟩
 ·refine ⟨its.toList,r,⟨o,I.kIn a o hk,hc,n,by simpa using hs⟩,?_⟩
  have e:=r.length
  simp only [Cc] at e
  omega
theorem Inv.list_inj (I:Inv X pins σ H s)(h:SqL X.K H a xs)(h':SqL X.K H a ys):xs=ys:=by
 obtain ⟨its,r,⟨o,n,e,_,_,d⟩,_⟩:=I.list h
 obtain ⟨its',r',⟨o',n',e',_,_,d'⟩,_⟩:=I.list h'
 rw [e] at e';cases e'
 rw [d] at d'
 injection d' with d1 _
 have:its=its':=by simpa using AW Array.toList d1
 subst this
 exact r.inj r'
theorem Inv.tuple_inj (I:Inv X pins σ H s)(h:SqT X.K H a xs)(h':SqT X.K H a ys):xs=ys:=by
 obtain ⟨its,r,⟨o,e,_,n,d⟩,_⟩:=I.tuple h
 obtain ⟨its',r',⟨o',e',_,n',d'⟩,_⟩:=I.tuple h'
 rw [e] at e';cases e'
 rw [d] at d'
 injection d' with d1 _
 have:its=its':=by simpa using AW Array.toList d1
 subst this
 exact r.inj r'
end
abbrev Cx.wish (X:Cx)(E:Value→Shared→Prop):Cx:={ X with xe:=E }
abbrev Cx.nox (X:Cx):Cx:=X.wish fun _ _=>False
theorem Cx.Ok.wish {X:Cx}(ok:X.Ok)(E:Value→Shared→Prop):(X.wish E).Ok :=
 ⟨ok.mod,ok.kind,ok.glob,ok.blt,ok.above,ok.inj,ok.has,ok.cab,ok.hd,ok.frames,ok.stk,ok.exf,ok.bs,ok.bsz,ok.noex,ok.exfs,ok.funs,ok.frf⟩
theorem Cx.Ok.unwish {X:Cx}{E:Value→Shared→Prop}(ok:(X.wish E).Ok):X.Ok :=
 ⟨ok.mod,ok.kind,ok.glob,ok.blt,ok.above,ok.inj,ok.has,ok.cab,ok.hd,ok.frames,ok.stk,ok.exf,ok.bs,ok.bsz,ok.noex,ok.exfs,ok.funs,ok.frf⟩
section
variable {X:Cx}{pins:List (Addr × Obj)}{σ:St}{H:Hp}{s:Shared}{E:Value→Shared→Prop}
theorem Inv.wish (I:Inv X pins σ H s)(E:Value→Shared→Prop):Inv (X.wish E) pins σ H s:=⟨I.ok.wish E,I.os,I.bare,I.base,I.loc,I.cell,I.free,I.freeC,I.pin,I.hok,I.len⟩
theorem Inv.unwish (I:Inv (X.wish E) pins σ H s):Inv X pins σ H s:=⟨I.ok.unwish,I.os,I.bare,I.base,I.loc,I.cell,I.free,I.freeC,I.pin,I.hok,I.len⟩
theorem SP.unwish {D:Ends}{f:Flow}{s':Shared}(h:SP (X.wish E) pins D f s'):SP X pins D f s':=by
 cases f with
 | next=>obtain ⟨σ',H',I,q⟩:=h;exact ⟨σ',H',I.unwish,q⟩
 | brk=>obtain ⟨σ',H',I,q⟩:=h;exact ⟨σ',H',I.unwish,q⟩
 | cont=>obtain ⟨σ',H',I,q⟩:=h;exact ⟨σ',H',I.unwish,q⟩
 | ret u=>obtain ⟨v,σ',H',I,r,q⟩:=h;exact ⟨v,σ',H',I.unwish,r,q⟩
theorem PE.nox {e:Expr}{t:TE}(h:PE X.nox e t):PE X e t:=fun pins s σ H Q I hw =>
 wpAny_mono (h pins s σ H Q (I.wish _) hw) (fun _ _ ⟨v,H',I',r,q⟩=>⟨v,H',I'.unwish,r,q⟩) fun _ _ z=>False.elim z
theorem PT.nox {e:Expr}{t:TT}(h:PT X.nox e t):PT X e t:=fun pins s σ H Q I hw =>
 wpAny_mono (h pins s σ H Q (I.wish _) hw) (fun _ _ ⟨H',I',q⟩=>⟨H',I'.unwish,q⟩) fun _ _ z=>False.elim z
theorem PSs.nox {st:List Stmt}{t:TS}(h:PSs X.nox st t):PSs X st t:=fun pins s σ H D I hw =>
 wpAny_mono (h pins s σ H D (I.wish _) hw) (fun _ _ q=>q.unwish) fun _ _ z=>False.elim z
end
section
variable {X:Cx}{st:Stmt}{rest:List Stmt}{t u:TS}{e:Expr}{te:TE}{pos:Pos}
def tNext:TS:=fun D σ H=>D.nx σ H
def tSeq (t u:TS):TS:=fun D σ H=>t { D with nx:=u D } σ H
theorem jB:PSs X [] tNext:=fun _ _ σ H _ I h=>wpAny_execs_nil ⟨σ,H,I,h⟩
theorem kC (h1:PS X st t)(h2:PSs X rest u):PSs X (st :: rest) (tSeq t u):=by
 intro pins s σ H D I h
 refine wpAny_execs_cons (jJ (h1 pins s σ H { D with nx:=u D } I h) fun f s1 q=>?_)
 cases f with
 | next =>
  obtain ⟨σ',H',I',q⟩:=q
  exact h2 pins s1 σ' H' D I' q
 | ret v=>exact q
 | brk=>exact q
 | cont=>exact q
theorem qI (h1:PS X st t):PSs X [st] t:=by
 intro pins s σ H D I h
 refine wpAny_execs_cons (jJ (h1 pins s σ H D I h) fun f s1 q=>?_)
 cases f with
 | next=>exact wpAny_execs_nil q
 | ret v=>exact q
 | brk=>exact q
 | cont=>exact q
theorem Inv.quiet {pins:List (Addr × Obj)}{σ:St}{H:Hp}{s:Shared}(I:Inv X pins σ H s):interactive X.env=false:=by simp [interactive,I.ok.kind]
def tDrop (te:TE):TS:=fun D σ H=>te σ H fun _ H1=>D.nx σ H1
theorem zX (he:PE X e te)(hs:swapsWith e none pos.line X.env=pure false:=by rfl):PS X (.Expr e pos) (tDrop te):=by
 intro pins s σ H D I h
 exact wpAny_Expr_any (jJ (he pins s σ H _ I h) fun v s1 ⟨x,H1,I1,r1,q1⟩=>⟨σ,H1,I1,q1⟩) I.quiet hs
def tRet (te:TE):TS:=fun D σ H=>te σ H D.rt
theorem qU (he:PE X e te):PS X (.Return (some e) pos) (tRet te):=by
 intro pins s σ H D I h
 exact wpAny_Return_some (jJ (he pins s σ H _ I h) fun v s1 ⟨x,H1,I1,r1,q1⟩=>⟨x,σ,H1,I1,r1,q1⟩)
def tRetN:TS:=fun D _ H=>D.rt .non H
def tIfS (c:TT)(t u:TS):TS:=fun D σ H=>c σ H fun b H1=>if b=true then t D σ H1 else u D σ H1
theorem j8 {c:Expr}{a b:List Stmt}{tc:TT}(hc:PT X c tc)(ha:PSs X a t)(hb:PSs X b u):PS X (.If c a b pos) (tIfS tc t u):=by
 intro pins s σ H D I h
 refine wpAny_If (jJ (hc pins s σ H _ I h) fun d s1 ⟨H1,I1,q1⟩=>?_)
 cases d with
 | true=>exact ha pins s1 σ H1 D I1 q1
 | false=>exact hb pins s1 σ H1 D I1 q1
def tNever:TS:=fun _ _ _=>False
end
abbrev TG:=V→St→Hp→(St→Hp→Prop)→Prop
abbrev TGs:=List V→St→Hp→(St→Hp→Prop)→Prop
def PG (X:Cx)(target:Expr)(t:TG):Prop :=
 ∀ (pins:List (Addr × Obj)) (s:Shared) (σ:St) (H:Hp) (v:V) (u:Value) (Q:St→Hp→Prop),Inv X pins σ H s→RelV v u→t v σ H Q →
  wpAny (model X.prog X.w) X.A (assign target X.env u) (fun _ s'=>∃ σ' H',Inv X pins σ' H' s'∧Q σ' H') X.xe s
def PGs (X:Cx)(ts:List Expr)(t:TGs):Prop :=
 ∀ (pins:List (Addr × Obj)) (s:Shared) (σ:St) (H:Hp) (vs:List V) (us:List Value) (Q:St→Hp→Prop),Inv X pins σ H s→Vals vs us→t vs σ H Q →
  wpAny (model X.prog X.w) X.A (assignInOrder ((assignEach ts X.env).map (·.2)) us) (fun _ s'=>∃ σ' H',Inv X pins σ' H' s'∧Q σ' H') X.xe s
abbrev TSet:=V→V→V→Hp→(Hp→Prop)→Prop
def PSet (X:Cx)(t:TSet):Prop :=
 ∀ (pins:List (Addr × Obj)) (s:Shared) (σ:St) (H:Hp) (o i v:V) (ov iv u:Value) (Q:Hp→Prop),Inv X pins σ H s→RelV o ov→RelV i iv→RelV v u→t o i v H Q →
  wpAny (model X.prog X.w) X.A (setItem ov iv u) (fun _ s'=>∃ H',Inv X pins σ H' s'∧Q H') X.xe s
section
variable {X:Cx}{pos:Pos}
def zJ (i:Nat):TG:=fun v σ H Q=>Q (σ.set i (some v)) H
theorem qN {i:Nat}{x:Str}(hN:X.N.Nodup)(hi:X.N[i]? = some x)(hx:Loc X.env.scope x)(hf:X.fn x=true∨X.env.scope.names.lookup x=some .local:=by first | exact .inl rfl | exact .inr rfl | assumption):PG X (.Name x pos) (zJ i):=by
 intro pins s σ H v u Q I r h
 exact wpAny_assign_Name (dO I hN hi hx r (fun s' I'=>⟨_,H,I',h⟩) hf)
def gNil:TGs:=fun vs σ H Q=>vs=[]∧Q σ H
def gCons (t:TG)(u:TGs):TGs:=fun vs σ H Q=>∃ v r,vs=v :: r∧t v σ H fun σ' H'=>u r σ' H' Q
theorem kR:PGs X [] gNil:=by
 intro pins s σ H vs us Q I r h
 obtain ⟨e,h⟩:=h
 subst e
 cases r
 exact assignInOrder_nil ⟨σ,H,I,h⟩
theorem qT {e:Expr}{es:List Expr}{t:TG}{u:TGs}(h1:PG X e t)(h2:PGs X es u)
  (hs:(assignEach (e :: es) X.env).map (·.2)=assign e X.env :: (assignEach es X.env).map (·.2):=by rfl):PGs X (e :: es) (gCons t u):=by
 intro pins s σ H vs us Q I r h
 obtain ⟨v,vr,e1,h⟩:=h
 subst e1
 cases r with
 | cons r rr =>
  rw [hs]
  refine assignInOrder_cons (jJ (h1 pins s σ H _ _ _ I r h) fun _ s1 ⟨σ1,H1,I1,q1⟩=>?_)
  exact h2 pins s1 σ1 H1 _ _ Q I1 rr q1
def gTup (K:PySem.W.Frag)(n:Nat)(t:TGs):TG:=fun v σ H Q=>∃ a xs,v = .ref a∧SqT K H a xs∧xs.length=n∧t xs σ H Q
theorem pg_tup {es:List Expr}{k:Nat}{t:TGs}{n:Nat}(hc:X.calm=true)(h:PGs X es t)
  (hn:(assignEach es X.env).length=n:=by rfl) (hst:(assignEach es X.env).findIdx? (·.1)=none:=by rfl):PG X (.Tuple es k pos) (gTup X.K n t):=by
 intro pins s σ H v u Q I r hw
 obtain ⟨a,xs,e1,hq,hl,hw⟩:=hw
 subst e1
 cases r
 obtain ⟨its,rv,ht,hz⟩:=I.tuple hq
 refine assign_Tuple_tuple (I.ok.hd hc) ht (by simp [hn,← hl,rv.length]) hst fun h' hx=>?_
 have I1:Inv X pins σ H { s with heap:=h' }:=I.kept (t':=s.toks) fun b o e=>hx b o (A6 (As e)) e
 exact h pins _ σ H xs _ Q I1 (by simpa using rv) hw
def gSub (to ti:TE)(t:TSet):TG:=fun v σ H Q=>to σ H fun o H1=>ti σ H1 fun i H2=>t o i v H2 fun H3=>Q σ H3
theorem lI {o i:Expr}{to ti:TE}{t:TSet}(ho:PE X o to)(hi:PE X i ti)(hs:PSet X t)
  (ha:∀ v,assign (.Subscript o i pos) X.env v=(do
   let ov ← holding [v] (eval o X.env)
   let iv ← holding [v,ov] (eval i X.env)
   standAt pos
   holding [v,ov,iv] (setItem ov iv v)
   release [v,ov,iv] []):=by intro _;rfl):PG X (.Subscript o i pos) (gSub to ti t):=by
 intro pins s σ H v u Q I r h
 rw [ha]
 refine wpAny_bind (wpAny_holding (jJ (ho pins s σ H _ I h) fun ov s1 ⟨x,H1,I1,r1,q1⟩=>?_))
 refine wpAny_bind (wpAny_holding (jJ (hi pins s1 σ H1 _ I1 q1) fun iv s2 ⟨y,H2,I2,r2,q2⟩=>?_))
 refine wpAny_bind (wpAny_standAt (wpAny_bind (wpAny_holding (jJ (hs pins s2 σ H2 x y v ov iv u _ I2 r1 r2 r q2) fun _ s3 ⟨H3,I3,q3⟩=>?_))))
 exact wpAny_release ⟨σ,H3,I3,q3⟩
def eZ (te:TE)(g:TG):TS:=fun D σ H=>te σ H fun x H1=>g x σ H1 D.nx
theorem xP {tg e:Expr}{te:TE}{g:TG}(he:PE X e te)(hg:PG X tg g)(hs:swapsWithSole [tg] e pos.line X.env=pure false:=by rfl)(hw:swappedStores [tg] e X.env=pure none:=by rfl)
  (h1:(assignEach [tg] X.env).map (·.2)=[assign tg X.env]:=by rfl):PS X (.Assign [tg] e pos) (eZ te g):=by
 intro pins s σ H D I h
 refine wpAny_Assign_stores (jJ (he pins s σ H _ I h) fun v s1 ⟨x,H1,I1,r1,q1⟩=>?_) hs hw
 rw [h1]
 exact jJ (hg pins s1 σ H1 x v _ I1 r1 q1) fun _ s2 q=>q
theorem qY {i:Nat}{x:Str}{e:Expr}{te:TE}{pos':Pos}(hN:X.N.Nodup)(hi:X.N[i]? = some x)(hx:Loc X.env.scope x)(he:PE X e te)(hs:swapsWith e (some (.Name x pos')) pos.line X.env=pure false:=by rfl)(hf:X.fn x=true∨X.env.scope.names.lookup x=some .local:=by first | exact .inl rfl | exact .inr rfl | assumption) :
  PS X (.Assign [.Name x pos'] e pos) (eZ te (zJ i)):=by
 intro pins s σ H D I h
 refine wpAny_Assign_Name (jJ (he pins s σ H _ I h) fun v s1 ⟨y,H1,I1,r1,q1⟩=>?_) hs
 exact dO I1 hN hi hx r1 (fun s2 I2=>⟨_,H1,I2,q1⟩) hf
def tPar (i j:Nat)(ta:TA):TS:=fun D σ H=>ta σ H fun vs H1=>∃ v w,vs=[v,w]∧D.nx ((σ.set i (some v)).set j (some w)) H1
theorem tJ {i j:Nat}{x y:Str}{a b:Expr}{ta:TA}{px py pt:Pos}{kt k2 pt2}(hc:X.calm=true)(hN:X.N.Nodup)(hi:X.N[i]? = some x)(hj:X.N[j]? = some y)(hij:i ≠ j)
  (hx:X.env.scope.names.lookup x=some .local) (hy:X.env.scope.names.lookup y=some .local) (ha:PA X [a,b] ta)
  (hw:swappedStores [.Tuple [.Name x px,.Name y py] kt pt] (.Tuple [a,b] k2 pt2) X.env=pure (some [x,y]))
  (hs:swapsWithSole [.Tuple [.Name x px,.Name y py] kt pt] (.Tuple [a,b] k2 pt2) pos.line X.env=pure false:=by rfl) :
  PS X (.Assign [.Tuple [.Name x px,.Name y py] kt pt] (.Tuple [a,b] k2 pt2) pos) (tPar i j ta):=by
 intro pins s σ H D I h
 rw [exec_Assign_arm]
 refine wpAny_bind (wpAny_standAt ?_)
 rw [hs]
 refine wpAny_bind (wpAny_pure ?_)
 rw [Ax (by decide)]
 refine wpAny_bind (Tuple_ (jJ (ha _ pins s σ H _ I h) fun us s1 ⟨vs,H1,I1,r1,q1⟩=>?_))
 obtain ⟨v,w,e1,q1⟩:=q1
 subst e1
 obtain ⟨u1,u2,rfl,rv,rw'⟩:∃ u1 u2,us=[u1,u2]∧RelV v u1∧RelV w u2:=by
  cases r1 with
  | cons p q =>
   cases q with
   | cons p' q' =>
    cases q'
    exact ⟨_,_,rfl,p,p'⟩
 refine wpAny_newObj_type ?_ (by show 2 ≤ sizeLine;decide)
 have I2:Inv X pins σ H1 { s1 with heap:=s1.heap.push { cls:=.type "tuple",data:=.seq [u1,u2].toArray } }:=I1.kept (t':=s1.toks) fun b o e=>Ac _ e
 rw [hw]
 refine wpAny_bind (wpAny_pure ?_)
 show wpAny (model X.prog X.w) X.A (do rule "assign.swapped-stores";let items ← unpackItems (.ref s1.heap.objs.size) 2 none;assignInOrder [fun v=>bindName X.env y v,fun v=>bindName X.env x v] items.reverse;pure Flow.next) _ _ _
 refine wpAny_bind (wpAny_rule (wpAny_bind (unpackItems_tuple (items := #[u1,u2]) (I.ok.hd hc) (Ct s1.heap _) fun h' hx'=>?_)))
 have I3:=I2.kept (h':=h') (t':=s1.toks) fun b o e=>hx' b o (A6 (As e)) e
 show wpAny _ _ (assignInOrder [fun v=>bindName X.env y v,fun v=>bindName X.env x v] [u2,u1] >>= fun _=>pure Flow.next) _ _ _
 refine wpAny_bind (assignInOrder_cons (wpAny_bindName (dO I3 hN hj (.inl hy) rw' (fun s2 I4=>?_) (.inr hy))))
 refine assignInOrder_cons (wpAny_bindName (dO I4 hN hi (.inl hx) rv (fun s3 I5=>assignInOrder_nil (wpAny_pure ?_)) (.inr hx)))
 rw [List.set_comm _ _ (Cq hij)] at I5
 exact ⟨_,H1,I5,q1⟩
end
section
variable {X:Cx}{pos:Pos}
def tWhile (c:TT)(tb:TS):TS:=fun D σ H=>∃ W:Nat→St→Hp→Prop,(∃ m,W m σ H)∧∀ m σ H,W m σ H →
 c σ H fun b H1=>if b=true then ∃ N:St→Hp→Prop,(∀ σ' H',N σ' H'→∃ m',m' < m∧W m' σ' H')∧tb { D with nx:=N,ct:=N,bk:=D.nx } σ H1 else D.nx σ H1
theorem rD {c:Expr}{body:List Stmt}{tc:TT}{tb:TS}(hp:PassesOwn (model X.prog X.w) X.A X.env X.xe)(hc:PT X c tc)(hb:PSs X body tb):PS X (.While c body [] pos) (tWhile tc tb):=by
 intro pins s σ H D I h
 obtain ⟨W,⟨m0,w0⟩,turn⟩:=h
 refine wpAny_While (codeAny_whileLoop (fun n s'=>∃ σ' H',Inv X pins σ' H' s'∧W n σ' H') ?_ m0 ⟨σ,H,I,w0⟩)
 rintro n s1 ⟨σ1,H1,I1,w1⟩
 refine wpAny_passesOwn hp (jJ (hc pins s1 σ1 H1 _ I1 (turn n σ1 H1 w1)) fun b s2 ⟨H2,I2,q2⟩=>?_)
 cases b with
 | true =>
  obtain ⟨N,hN,q2⟩:=q2
  rw [Au rfl]
  refine wpAny_passesOwn hp (jJ (hb pins s2 σ1 H2 _ I2 q2) fun f s3 q3=>?_)
  cases f with
  | next =>
   obtain ⟨σ3,H3,I3,n3⟩:=q3
   obtain ⟨m',hm,w3⟩:=hN σ3 H3 n3
   exact ⟨m',hm,σ3,H3,I3,w3⟩
  | cont =>
   obtain ⟨σ3,H3,I3,n3⟩:=q3
   obtain ⟨m',hm,w3⟩:=hN σ3 H3 n3
   exact ⟨m',hm,σ3,H3,I3,w3⟩
  | brk=>exact q3
  | ret v=>exact q3
 | false =>
  rw [Ax A0]
  exact wpAny_execs_nil ⟨σ1,H2,I2,q2⟩
end
structure It where
 go:Nat→Hp→Prop
 yld:Nat→Hp→V→Hp→Prop
 stop:Nat→Hp→Prop
def yB (X:Cx)(pins:List (Addr × Obj))(H:Hp)(b:Addr):Prop :=
 H b=none∧b ≠ X.env.locals∧b ∉ X.fs∧(b ∈ X.ex∨X.s₀.heap.objs.size ≤ b)∧(∀ x c,X.env.cells.lookup x=some c→c ≠ b)∧∀ p ∈ X.pn ++ pins,p.1 ≠ b
theorem Inv.fpOk {X:Cx}{pins:List (Addr × Obj)}{σ:St}{H H':Hp}{s:Shared}{b:Addr}(I:Inv X pins σ H s)(hb:s.heap.objs.size ≤ b)(hn:H' b=none):yB X pins H' b:=by
 refine ⟨hn,CK (A5 I.lt hb),I.nofs hb,.inr (AG I.sz hb),fun x c e z=>?_,fun p hp z=>?_⟩
 ·obtain ⟨v,q⟩:=I.cell x c e
  exact absurd (A5 q.lt (by rw [z];exact hb)) (AR _)
 ·exact absurd (A5 (As (I.pin p hp).1) (by rw [z];exact hb)) (AR _)
structure Turn (P:Program)(w:World)(K:PySem.W.Frag)(tg:Expr)(J:It)(fp:List Addr)(it:Addr)(tn:Nat→Heap→Prop):Prop where
 mem:it ∈ fp
 obj:∀ i h,tn i h→∀ b ∈ fp,∃ o,h.get? b=some o∧∀ v,o.data ≠ .cell v
 keep:∀ i h h',tn i h→(∀ b ∈ fp,∀ o,h.get? b=some o→h'.get? b=some o)→tn i h'
 item:∀ (X:Cx),X.prog=P→X.w=w→X.K=K→X.calm=true→∀ (i:Nat) (pins:List (Addr × Obj)) (s:Shared) (σ:St) (H:Hp) (E:Value→Shared→Prop),Inv X pins σ H s→(∀ b ∈ fp,yB X pins H b)→tn i s.heap→J.go i H →
  wpAny (model P w) X.A (pyNext (.ref it)) (fun r s1=>∃ u,r=some u ∧
   wpAny (model P w) X.A (letOwnedTupleGo tg (.ref it) u) (fun _ s2=>∃ x H',Inv X pins σ H' s2∧RelV x u∧J.yld i H x H'∧tn (i + 1) s2.heap∧∀ b ∈ fp,H' b=none) E s1) E s
 done:∀ (X:Cx),X.prog=P→X.w=w→X.K=K→X.calm=true→∀ (i:Nat) (pins:List (Addr × Obj)) (s:Shared) (σ:St) (H:Hp) (E:Value→Shared→Prop),Inv X pins σ H s→(∀ b ∈ fp,yB X pins H b)→tn i s.heap→J.stop i H →
  wpAny (model P w) X.A (pyNext (.ref it)) (fun r s1=>r=none∧Inv X pins σ H s1) E s
 self:∀ (A:Around) (i:Nat) (s:Shared) (Q:Value→Shared→Prop) (E:Value→Shared→Prop),tn i s.heap→Q (.ref it) s→wpAny (model P w) A (pyIter (.ref it)) Q E s
abbrev TI:=St→Hp→(It→Hp→Prop)→Prop
def PIE (X:Cx)(pins:List (Addr × Obj))(σ:St)(tg:Expr)(R:It→Hp→Prop)(itv:Value)(s2:Shared):Prop :=
 ∃ (it:Addr) (fp:List Addr) (tn:Nat→Heap→Prop) (J:It) (H':Hp),itv = .ref it∧Inv X pins σ H' s2∧Turn X.prog X.w X.K tg J fp it tn∧tn 0 s2.heap∧(∀ b ∈ fp,yB X pins H' b)∧R J H'
def PI (X:Cx)(tg iter:Expr)(wi:TI):Prop :=
 ∀ (pins:List (Addr × Obj)) (s:Shared) (σ:St) (H:Hp) (R:It→Hp→Prop),Inv X pins σ H s→wi σ H R →
  wpAny (model X.prog X.w) X.A (eval iter X.env) (fun v s1=>wpAny (model X.prog X.w) X.A (pyIter v) (PIE X pins σ tg R) X.xe s1) X.xe s
theorem go_of {M : Model}{A : Around}{E : Value → Shared → Prop}{s : Shared}{tg : Expr}{it : Addr}{u : Value}{o : Obj}{n : String}{vs : Array Value}{Q : Unit → Shared → Prop}(ho : s.heap.get? it = some o)(hc : o.cls = .type n)(hd : o.data = .fields vs)
    (hn : ["enumerate", "zip", "dict_itemiterator", "dict_reverseitemiterator", "odict_iterator", "itertools.zip_longest", "itertools.pairwise"].contains n = false) (hQ : Q () s) : wpAny M A (letOwnedTupleGo tg (.ref it) u) Q E s := by
  unfold letOwnedTupleGo
  cases tg <;> first
    | exact wpAny_pure hQ
    | (cases u <;> first
        | exact wpAny_pure hQ
        | (refine wpAny_bind (wpAny_load ho ?_)
           rw [hc, hd]
           show wpAny M A (if (["enumerate", "zip", "dict_itemiterator", "dict_reverseitemiterator", "odict_iterator", "itertools.zip_longest", "itertools.pairwise"].contains n && vs[0]? == some (rawInt _)) = true then _ else _) Q E s
           rw [Ax (by intro h; rw [hn, BC] at h; cases h)]
           exact wpAny_pure hQ))
def Itl (K:PySem.W.Frag)(a:Addr):It :=
 ⟨fun i H=>∃ xs x,SqL K H a xs∧xs[i]? = some x,fun i H x H'=>H'=H∧∀ xs,SqL K H a xs→xs[i]? = some x,fun i H=>∃ xs,SqL K H a xs∧xs.length ≤ i⟩
def Itt (K:PySem.W.Frag)(a:Addr):It :=
 ⟨fun i H=>∃ xs x,SqT K H a xs∧xs[i]? = some x,fun i H x H'=>H'=H∧∀ xs,SqT K H a xs→xs[i]? = some x,fun i H=>∃ xs,SqT K H a xs∧xs.length ≤ i⟩
def Itr (lo:Int)(n:Nat):It:=⟨fun i _=>i < n,fun i H x H'=>H'=H∧x = .int (lo + i),fun i _=>n ≤ i⟩
theorem mM {P:Program}{w:World}{K:PySem.W.Frag}{tg:Expr}(a it:Addr):Turn P w K tg (Itl K a) [it] it (fun i h=>h.IsListIter it a i) where
 mem:=by simp
 obj:=fun i h st b hb=>by
  have e:b=it:=by simpa using hb
  subst e
  obtain ⟨o,e,c,d⟩:=st
  exact ⟨o,e,fun v z=>by rw [d] at z;cases z⟩
 keep:=fun i h h' st k=>st.at fun o e=>k it (by simp) o e
 item:=by
  intro X hP hw hK hc i pins s σ H E I hf st hg
  subst hP hw hK
  obtain ⟨xs,x,hq,hx⟩:=hg
  obtain ⟨its,rv,p,hz⟩:=I.list hq
  obtain ⟨u,hu,ru⟩:=rv.get hx
  obtain ⟨f0,f1,f2,f3,f4,f5⟩:=hf it (by simp)
  refine wpAny_pyNext_list_item st p.isList (x:=u) (by simpa using hu) fun h' st' sb=>?_
  have I1:Inv X pins σ H { s with heap:=h' }:=I.turned (t':=s.toks) (fun b o hb e=>(sb.2 b hb).trans e) f0 f1 f3 f4 f5
  obtain ⟨o,e,c,d⟩:=id st'
  exact ⟨u,rfl,go_of (s:={ s with heap:=h' }) e c d (by decide) ⟨x,H,I1,ru,⟨rfl,fun ys hy=>by rw [I.list_inj hy hq];exact hx⟩,st',fun b hb=>(hf b hb).1⟩⟩
 done:=by
  intro X hP hw hK hc i pins s σ H E I hf st hg
  subst hP hw hK
  obtain ⟨xs,hq,hx⟩:=hg
  obtain ⟨its,rv,p,hz⟩:=I.list hq
  obtain ⟨f0,f1,f2,f3,f4,f5⟩:=hf it (by simp)
  have hl:=rv.length
  exact wpAny_pyNext_list_end (I.ok.hd hc) st p.isList (by simp;omega) fun h' eb=>⟨rfl,I.turned (t':=s.toks) (fun b o hb e=>eb b o hb e) f0 f1 f3 f4 f5⟩
 self:=fun _ _ _ _ _ st h=>wpAny_pyIter_listiter st h
theorem bC {P:Program}{w:World}{K:PySem.W.Frag}{tg:Expr}(a it:Addr):Turn P w K tg (Itt K a) [it] it (fun i h=>h.IsTupleIter it a i) where
 mem:=by simp
 obj:=fun i h st b hb=>by
  have e:b=it:=by simpa using hb
  subst e
  obtain ⟨o,e,c,d⟩:=st
  exact ⟨o,e,fun v z=>by rw [d] at z;cases z⟩
 keep:=fun i h h' st k=>st.at fun o e=>k it (by simp) o e
 item:=by
  intro X hP hw hK hc i pins s σ H E I hf st hg
  subst hP hw hK
  obtain ⟨xs,x,hq,hx⟩:=hg
  obtain ⟨its,rv,p,hz⟩:=I.tuple hq
  obtain ⟨u,hu,ru⟩:=rv.get hx
  obtain ⟨f0,f1,f2,f3,f4,f5⟩:=hf it (by simp)
  refine wpAny_pyNext_tuple_item st (show s.heap.IsTuple a its.toArray from p) (x:=u) (by simpa using hu) fun h' st' sb=>?_
  have I1:Inv X pins σ H { s with heap:=h' }:=I.turned (t':=s.toks) (fun b o hb e=>(sb.2 b hb).trans e) f0 f1 f3 f4 f5
  obtain ⟨o,e,c,d⟩:=id st'
  exact ⟨u,rfl,go_of (s:={ s with heap:=h' }) e c d (by decide) ⟨x,H,I1,ru,⟨rfl,fun ys hy=>by rw [I.tuple_inj hy hq];exact hx⟩,st',fun b hb=>(hf b hb).1⟩⟩
 done:=by
  intro X hP hw hK hc i pins s σ H E I hf st hg
  subst hP hw hK
  obtain ⟨xs,hq,hx⟩:=hg
  obtain ⟨its,rv,p,hz⟩:=I.tuple hq
  obtain ⟨f0,f1,f2,f3,f4,f5⟩:=hf it (by simp)
  have hl:=rv.length
  exact wpAny_pyNext_tuple_end (I.ok.hd hc) st (show s.heap.IsTuple a its.toArray from p) (by simp;omega) fun h' eb=>⟨rfl,I.turned (t':=s.toks) (fun b o hb e=>eb b o hb e) f0 f1 f3 f4 f5⟩
 self:=fun _ _ _ _ _ st h=>wpAny_pyIter_tupleiter st h
theorem sS {P:Program}{w:World}{K:PySem.W.Frag}{tg:Expr}(it:Addr)(lo:Int)(n:Nat):Turn P w K tg (Itr lo n) [it] it (fun i h=>IsRangeIter h it (lo + (i:Nat) * 1) ((n:Int) - (i:Nat)) 1) where
 mem:=by simp
 obj:=fun i h st b hb=>by
  have e:b=it:=by simpa using hb
  subst e
  exact ⟨_,st,fun v z=>by
   have z':Data.fields _=Data.cell v:=z
   cases z'⟩
 keep:=fun i h h' st k=>k it (by simp) _ st
 item:=by
  intro X hP hw hK hc i pins s σ H E I hf st hg
  subst hP hw hK
  obtain ⟨f0,f1,f2,f3,f4,f5⟩:=hf it (by simp)
  have W:=Walks.range (prog:=X.prog) (w:=X.w) (I.ok.hd hc) it lo 1 n
  refine W.item i s _ _ hg st fun v h' tk hv st' kk=>?_
  obtain ⟨t,rfl⟩:=hv
  have I1:Inv X pins σ H { s with heap:=h',toks:=tk }:=I.turned (fun b o hb e=>kk b o (by simpa using hb) e) f0 f1 f3 f4 f5
  refine ⟨_,rfl,go_of (s:={ s with heap:=h',toks:=tk }) (n := "range_iterator") st' rfl rfl (by decide) ⟨.int (lo + i),H,I1,⟨t,?_⟩,⟨rfl,rfl⟩,st',fun b hb=>(hf b hb).1⟩⟩
  rw [Int.mul_one]
 done:=by
  intro X hP hw hK hc i pins s σ H E I hf st hg
  subst hP hw hK
  obtain ⟨f0,f1,f2,f3,f4,f5⟩:=hf it (by simp)
  exact wpAny_pyNext_range_end (I.ok.hd hc) st (by have:n ≤ i:=hg;omega) fun h' eb=>⟨rfl,I.turned (t':=s.toks) (fun b o hb e=>eb b o hb e) f0 f1 f3 f4 f5⟩
 self:=fun _ _ _ _ _ st h=>wpAny_pyIter_rangeiter st h
end L2
namespace L2
open PySem PySem.Spec PyProof.Rows
section
variable {X:Cx}{tg:Expr}
theorem range_it {pins:List (Addr × Obj)}{σ:St}{H:Hp}{s:Shared}{R:It→Hp→Prop}{E:Value→Shared→Prop}{lo hi:Int}{t u v:Tok}{tk:Nat}(I:Inv X pins σ H s)(h1 : -(2 ^ 62) ≤ lo)(h2:lo < 2 ^ 62)(h3 : -(2 ^ 62) ≤ hi)(h4:hi < 2 ^ 62)
  (q:R (Itr lo (hi - lo).toNat) H):wpAny (model X.prog X.w) X.A (pyIter (.ref s.heap.objs.size)) (PIE X pins σ tg R) E { s with heap:=s.heap.push { cls:=.type "range",data:=.fields #[.int lo t,.int hi u,.int 1 v] },toks:=tk }:=by
 refine wpAny_pyIter_range (IsRange.new ..) (small_one h1 h2 h3 h4) ?_
 have I1:Inv X pins σ H { s with heap:=s.heap.push { cls:=.type "range",data:=.fields #[.int lo t,.int hi u,.int 1 v] },toks:=tk }:=I.kept fun b o e=>Ac _ e
 refine ⟨(s.heap.push { cls:=.type "range",data:=.fields #[.int lo t,.int hi u,.int 1 v] }).objs.size,[(s.heap.push { cls:=.type "range",data:=.fields #[.int lo t,.int hi u,.int 1 v] }).objs.size],_,_,H,rfl,
  I1.kept (t':=tk) fun b o e=>Ac _ e,sS _ lo (hi - lo).toNat,?_,fun b hb=>?_,q⟩
 ·have e1:lo + ((0:Nat):Int) * 1=lo:=by simp
  have e2:(((hi - lo).toNat:Nat):Int) - ((0:Nat):Int)=Builtin.Range.rangeSize lo hi 1:=by rw [rangeSize_one];split <;> omega
  show IsRangeIter _ _ (lo + ((0:Nat):Int) * 1) ((((hi - lo).toNat:Nat):Int) - ((0:Nat):Int)) 1
  rw [e1,e2]
  exact Ao _ rfl
 ·have e:b=(s.heap.push { cls:=.type "range",data:=.fields #[.int lo t,.int hi u,.int 1 v] }).objs.size:=by simpa using hb
  subst e
  exact I1.fpOk (Ad _) (I1.hok.fresh (Ad _))
def iRng1 (ta:TA):TI:=fun σ H R=>ta σ H fun vs H1=>∃ j:Int,vs=[.int j]∧-(2 ^ 62) ≤ j∧j < 2 ^ 62∧R (Itr 0 j.toNat) H1
def iRng2 (ta:TA):TI:=fun σ H R=>ta σ H fun vs H1=>∃ i j:Int,vs=[.int i,.int j]∧(-(2 ^ 62) ≤ i∧i < 2 ^ 62∧-(2 ^ 62) ≤ j∧j < 2 ^ 62)∧R (Itr i (j - i).toNat) H1
theorem jD {a:Expr}{ta:TA}{p pos:Pos}(hg:Gl X "range") (hm:X.mg "range" = none) (ha:PA X [a] ta) (hs:starEach [a] X.env=[(false,eval a X.env)]:=by rfl):PI X tg (.Call (.Name "range" p) [a] [] pos) (iRng1 ta):=by
 intro pins s σ H R I h
 refine Call_ (gD I hg hm boot_range (Bk (jJ (ha pos pins s σ H _ I h) fun us s1 ⟨vs,H1,I1,r1,q1⟩=>?_) hs rfl))
 obtain ⟨j,e,q1,q2,q⟩:=q1
 subst e
 cases r1 with
 | cons r rr =>
  cases rr
  obtain ⟨t,rfl⟩:=r
  exact call_range_1 (range_it I1 (by omega) (by omega) q1 q2 (by simpa using q))
def tFor (wi:TI)(g:TG)(tb:TS):TS:=fun D σ H=>wi σ H fun J H1=>∃ W:Nat→Nat→St→Hp→Prop,(∃ m,W 0 m σ H1)∧∀ i m σ H,W i m σ H →
 (J.stop i H∧D.nx σ H)∨(J.go i H∧∃ N:St→Hp→Prop,(∀ σ' H',N σ' H'→∃ m',m' < m∧W (i + 1) m' σ' H')∧∀ x H',J.yld i H x H'→g x σ H' fun σ2 H2=>tb { D with nx:=N,ct:=N,bk:=D.nx } σ2 H2)
def cD (fp:List Addr)(h:Heap):List (Addr × Obj):=fp.filterMap fun b=>(h.get? b).map fun o=>(b,o)
theorem xZ {fp:List Addr}{h:Heap}{b:Addr}{o:Obj}(hb:b ∈ fp)(e:h.get? b=some o):(b,o) ∈ cD fp h:=List.mem_filterMap.mpr ⟨b,hb,by rw [e];rfl⟩
theorem iM {fp:List Addr}{h:Heap}{p:Addr × Obj}(hp:p ∈ cD fp h):p.1 ∈ fp∧h.get? p.1=some p.2:=by
 obtain ⟨b,hb,e⟩:=List.mem_filterMap.mp hp
 cases q:h.get? b with
 | none=>rw [q] at e;cases e
 | some o =>
  rw [q] at e
  have e':(b,o)=p:=A9 e
  subst e'
  exact ⟨hb,q⟩
theorem Inv.pinned {pins:List (Addr × Obj)}{σ:St}{H:Hp}{s:Shared}{fp:List Addr}(I:Inv X pins σ H s)(hf:∀ b ∈ fp,yB X pins H b)(ho:∀ b ∈ fp,∃ o,s.heap.get? b=some o∧∀ v,o.data ≠ .cell v):Inv X (pins ++ cD fp s.heap) σ H s :=
 I.pins_of fun p hp=>(Av.mp hp).elim (fun z=>I.pin p (AH _ z)) fun z=>by
  obtain ⟨hb,e⟩:=iM z
  obtain ⟨f0,f1,f2,_⟩:=hf p.1 hb
  obtain ⟨o,e',d⟩:=ho p.1 hb
  rw [e] at e';cases e'
  exact ⟨e,f0,f1,f2,d⟩
theorem Inv.unpinned {pins pl:List (Addr × Obj)}{σ:St}{H:Hp}{s:Shared}(I:Inv X (pins ++ pl) σ H s):Inv X pins σ H s:=I.pins_of fun p hp=>I.pin p (AH _ (Bw _ hp))
theorem jT {iter:Expr}{body:List Stmt}{wi:TI}{g:TG}{tb:TS}{pos:Pos}(hp:PassesOwn (model X.prog X.w) X.A X.env X.xe)(hc:X.calm=true)(hi:PI X tg iter wi)(hg:PG X tg g)(hb:PSs X body tb)
  (hs:∀ x,foldedSetIterable iter X.env x=pure x:=by intro _;rfl):PS X (.For tg iter body [] pos) (tFor wi g tb):=by
 intro pins s σ H D I h
 refine wpAny_For (jJ (hi pins s σ H _ I h) fun v s1 h1=>jJ h1 fun itv s2 h2=>?_) hs
 obtain ⟨it,fp,tn,J,H2,e,I2,T,st2,f2,W,⟨m0,w0⟩,turn⟩:=h2
 subst e
 have stat:∀ {H':Hp},(∀ b ∈ fp,H' b=none)→∀ b ∈ fp,yB X pins H' b:=fun hn b hb=>⟨hn b hb,(f2 b hb).2⟩
 refine codeAny_forLoop_any (fun n s'=>∃ i σ' H',Inv X pins σ' H' s'∧tn i s'.heap∧(∀ b ∈ fp,H' b=none)∧W i n σ' H') ?_ m0 ⟨0,σ,H2,I2,st2,fun b hb=>(f2 b hb).1,w0⟩
 rintro n s3 ⟨i,σ3,H3,I3,st3,fr3,w3⟩
 rcases turn i n σ3 H3 w3 with ⟨stop,qn⟩ | ⟨go,N,hN,step⟩
 ·refine wpAny_passesOwn hp (jJ (T.done X rfl rfl rfl hc i pins s3 σ3 H3 X.xe I3 (stat fr3) st3 stop) fun r s4 ⟨hr,I4⟩=>?_)
  subst hr
  exact wpAny_execs_nil ⟨σ3,H3,I4,qn⟩
 ·refine wpAny_passesOwn hp (jJ (T.item X rfl rfl rfl hc i pins s3 σ3 H3 X.xe I3 (stat fr3) st3 go) fun r s4 ⟨u,hr,h4⟩=>?_)
  subst hr
  refine wpAny_passesOwn hp (jJ h4 fun _ s5 ⟨x,H5,I5,r5,y5,st5,fr5⟩=>?_)
  have I5':=I5.pinned (stat fr5) (T.obj _ _ st5)
  refine wpAny_passesOwn hp (jJ (hg _ s5 σ3 H5 x u _ I5' r5 (step x H5 y5)) fun _ s6 ⟨σ6,H6,I6,q6⟩=>?_)
  refine wpAny_passesOwn hp (jJ (hb _ s6 σ6 H6 _ I6 q6) fun f s7 q7=>?_)
  have again:∀ {σ7:St} {H7:Hp},Inv X (pins ++ cD fp s5.heap) σ7 H7 s7→N σ7 H7→∃ m,m < n∧∃ i σ' H',Inv X pins σ' H' s7∧tn i s7.heap∧(∀ b ∈ fp,H' b=none)∧W i m σ' H':=fun {σ7 H7} I7 n7=>by
   obtain ⟨m',hm,w7⟩:=hN σ7 H7 n7
   refine ⟨m',hm,i + 1,σ7,H7,I7.unpinned,T.keep _ _ _ st5 fun b hb o e=>(I7.pin (b,o) (AH _ (AH _ (xZ hb e)))).1,fun b hb=>?_,w7⟩
   obtain ⟨o,e,d⟩:=T.obj _ _ st5 b hb
   exact (I7.pin (b,o) (AH _ (AH _ (xZ hb e)))).2.1
  cases f with
  | next=>obtain ⟨σ7,H7,I7,n7⟩:=q7;exact again I7 n7
  | cont=>obtain ⟨σ7,H7,I7,n7⟩:=q7;exact again I7 n7
  | brk=>obtain ⟨σ7,H7,I7,q7⟩:=q7;exact ⟨σ7,H7,I7.unpinned,q7⟩
  | ret v=>obtain ⟨x7,σ7,H7,I7,r7,q7⟩:=q7;exact ⟨x7,σ7,H7,I7.unpinned,r7,q7⟩
end
theorem i8 {lo:Int}{n:Nat}{g:TG}{tb:TS}{D:Ends}{σ:St}{H:Hp}(Pv:Nat→St→Hp→Prop)(h0:Pv 0 σ H)
  (hs:∀ i σ H,i < n→Pv i σ H→g (.int (lo + i)) σ H fun σ2 H2=>tb { D with nx:=Pv (i + 1),ct:=Pv (i + 1),bk:=D.nx } σ2 H2) (hd:∀ σ H,Pv n σ H→D.nx σ H) :
  ∃ W:Nat→Nat→St→Hp→Prop,(∃ m,W 0 m σ H)∧∀ i m σ H,W i m σ H →
   ((Itr lo n).stop i H∧D.nx σ H)∨((Itr lo n).go i H∧∃ N:St→Hp→Prop,(∀ σ' H',N σ' H'→∃ m',m' < m∧W (i + 1) m' σ' H')∧∀ x H',(Itr lo n).yld i H x H'→g x σ H' fun σ2 H2=>tb { D with nx:=N,ct:=N,bk:=D.nx } σ2 H2):=by
 refine ⟨fun i m σ H=>m=n - i∧i ≤ n∧Pv i σ H,⟨n,by simp,Bh _,h0⟩,?_⟩
 rintro i m σ H ⟨rfl,hi,p⟩
 by_cases hlt:i < n
 ·refine .inr ⟨hlt,Pv (i + 1),fun σ' H' p'=>⟨n - (i + 1),by omega,rfl,hlt,p'⟩,fun x H' y=>?_⟩
  obtain ⟨e,y⟩:=y
  subst e y
  exact hs i σ _ hlt p
 ·have e:i=n:=by omega
  subst e
  exact .inl ⟨Ad _,hd σ H p⟩
end L2
namespace L2
open PySem PySem.Spec PyProof.Rows
abbrev R2:=V→V→Hp→VK→Prop
def vR (X:Cx)(f:Value→Value→Sem Value)(r:R2):Prop :=
 ∀ (pins:List (Addr × Obj)) (s:Shared) (σ:St) (H:Hp) (x y:V) (v u:Value) (Q:VK),Inv X pins σ H s→RelV x v→RelV y u→r x y H Q →
  wpAny (model X.prog X.w) X.A (f v u) (EP X pins σ Q) X.xe s
def UnR (X:Cx)(f:Value→Sem Value)(r:V→Hp→VK→Prop):Prop :=
 ∀ (pins:List (Addr × Obj)) (s:Shared) (σ:St) (H:Hp) (x:V) (v:Value) (Q:VK),Inv X pins σ H s→RelV x v→r x H Q →
  wpAny (model X.prog X.w) X.A (f v) (EP X pins σ Q) X.xe s
def zD (X:Cx)(f:Value)(r:List V→Hp→VK→Prop):Prop :=
 ∀ (pins:List (Addr × Obj)) (s:Shared) (σ:St) (H:Hp) (xs:List V) (us:List Value) (Q:VK),Inv X pins σ H s→Vals xs us→r xs H Q →
  wpAny (model X.prog X.w) X.A (call f us) (EP X pins σ Q) X.xe s
def tOp (r:R2)(ta tb:TE):TE:=fun σ H Q=>ta σ H fun x H1=>tb σ H1 fun y H2=>r x y H2 Q
def tUn (r:V→Hp→VK→Prop)(ta:TE):TE:=fun σ H Q=>ta σ H fun x H1=>r x H1 Q
def rI (C:Int→Int→Prop)(g:Int→Int→V):R2:=fun x y H Q=>∃ i j,x = .int i∧y = .int j∧C i j∧Q (g i j) H
def oJ (g:Int→Int→V):R2:=fun x y H Q=>∃ i j,x = .int i∧y = .int j∧Q (g i j) H
def rU (g:Int→V):V→Hp→VK→Prop:=fun x H Q=>∃ i,x = .int i∧Q (g i) H
section
variable {X:Cx}{a b c:Expr}{ta tb tc:TE}{pos:Pos}
theorem binT (ha:PE X a ta)(hb:PE X b tb){pins:List (Addr × Obj)}{s:Shared}{σ:St}{H:Hp}{R:V→V→Hp→Prop}(I:Inv X pins σ H s)
  (h:ta σ H fun x H1=>tb σ H1 fun y H2=>R x y H2) {Q:Value→Shared→Prop} {f:Value→Value→Sem Value}
  (hf:∀ v u s2 x y H2,Inv X pins σ H2 s2→RelV x v→RelV y u→R x y H2→wpAny (model X.prog X.w) X.A (f v u) Q X.xe s2) :
  wpAny (model X.prog X.w) X.A (eval a X.env) (fun v s₁=>wpAny (model X.prog X.w) X.A (eval b X.env) (fun u s₂=>wpAny (model X.prog X.w) X.A (f v u) Q X.xe s₂) X.xe s₁) X.xe s:=by
 refine jJ (ha pins s σ H _ I h) fun v s1 ⟨x,H1,I1,r1,q1⟩=>?_
 refine jJ (hb pins s1 σ H1 _ I1 q1) fun u s2 ⟨y,H2,I2,r2,q2⟩=>?_
 exact hf v u s2 x y H2 I2 r1 r2 q2
theorem qV {op:Operator}{r:R2}(ho:vR X (binaryOp op) r)(ha:PE X a ta)(hb:PE X b tb):PE X (.BinOp a op b pos) (tOp r ta tb):=by
 intro pins s σ H Q I h
 exact wpAny_BinOp (binT ha hb I h fun v u s2 x y H2 I2 rx ry q=>ho pins s2 σ H2 x y v u Q I2 rx ry q)
theorem wJ {op:UnaryOp}{r:V→Hp→VK→Prop}(ho:UnR X (unaryOp op) r)(ha:PE X a ta):PE X (.UnaryOp op a pos) (tUn r ta):=by
 intro pins s σ H Q I h
 exact UnaryOp_ (jJ (ha pins s σ H _ I h) fun v s1 ⟨x,H1,I1,r1,q1⟩=>ho pins s1 σ H1 x v Q I1 r1 q1)
theorem opI {f:Value→Value→Sem Value}{C:Int→Int→Prop}{g:Int→Int→Int}
  (rule:∀ (i j:Int) (t u:Tok) (s:Shared) (Q:Value→Shared→Prop) (E:Value→Shared→Prop),C i j→Q (.int (g i j) s.toks) { s with toks:=s.toks + 1 }→wpAny (model X.prog X.w) X.A (f (.int i t) (.int j u)) Q E s) :
  vR X f (rI C fun i j=>.int (g i j)):=by
 intro pins s σ H x y v u Q I rx ry h
 obtain ⟨i,j,rfl,rfl,hc,q⟩:=h
 obtain ⟨t,rfl⟩:=rx
 obtain ⟨t',rfl⟩:=ry
 exact rule i j t t' s _ _ hc ⟨.int (g i j),H,I.tok _,⟨_,rfl⟩,q⟩
theorem opI0 {f:Value→Value→Sem Value}{g:Int→Int→Int}
  (rule:∀ (i j:Int) (t u:Tok) (s:Shared) (Q:Value→Shared→Prop) (E:Value→Shared→Prop),Q (.int (g i j) s.toks) { s with toks:=s.toks + 1 }→wpAny (model X.prog X.w) X.A (f (.int i t) (.int j u)) Q E s) :
  vR X f (oJ fun i j=>.int (g i j)):=by
 intro pins s σ H x y v u Q I rx ry h
 obtain ⟨i,j,rfl,rfl,q⟩:=h
 obtain ⟨t,rfl⟩:=rx
 obtain ⟨t',rfl⟩:=ry
 exact rule i j t t' s _ _ ⟨.int (g i j),H,I.tok _,⟨_,rfl⟩,q⟩
theorem opB0 {f:Value→Value→Sem Value}{g:Int→Int→Bool}
  (rule:∀ (i j:Int) (t u:Tok) (s:Shared) (Q:Value→Shared→Prop) (E:Value→Shared→Prop),Q (.bool (g i j)) s→wpAny (model X.prog X.w) X.A (f (.int i t) (.int j u)) Q E s) :
  vR X f (oJ fun i j=>.bl (g i j)):=by
 intro pins s σ H x y v u Q I rx ry h
 obtain ⟨i,j,rfl,rfl,q⟩:=h
 obtain ⟨t,rfl⟩:=rx
 obtain ⟨t',rfl⟩:=ry
 exact rule i j t t' s _ _ ⟨.bl (g i j),H,I,rfl,q⟩
def CDiv (i j:Int):Prop:=0 < j∧j < 1073741824
def CPow (i j:Int):Prop:=0 ≤ j∧j ≤ 1000000∧i.natAbs < 2 ^ 64
def CMul (i j:Int):Prop:=(-(2 ^ 64) < i∧i < 2 ^ 64)∨(-(2 ^ 64) < j∧j < 2 ^ 64)
theorem CMul.ok {i j:Int}(h:CMul i j):IntMulOk i j:=by
 rcases h with ⟨h1,h2⟩ | ⟨h1,h2⟩
 ·exact .of_left (intBits_le_64 h1 h2)
 ·exact .of_right (intBits_le_64 h1 h2)
theorem sR (k:Nat):(0:Int) ≤ 2 ^ k:=by
 rw [two_pow_cast]
 exact Int.natCast_nonneg _
theorem kW:vR X (binaryOp .Add) (oJ fun i j=>.int (i + j)):=opI0 fun _ _ _ _ _ _ _ q=>add_int q
theorem xR:vR X (binaryOp .Sub) (oJ fun i j=>.int (i - j)):=opI0 fun _ _ _ _ _ _ _ q=>sub_int q
theorem xU:vR X (binaryOp .Mult) (rI CMul fun i j=>.int (i * j)):=opI fun _ _ _ _ _ _ _ hc q=>mul_int q hc.ok
theorem xV:vR X (binaryOp .FloorDiv) (rI CDiv fun i j=>.int (i / j)):=opI fun i j _ _ _ _ _ hc q=>by
 have h1:(0:Int) < j:=hc.1
 have h2:j < 1073741824:=hc.2
 exact floordiv_int (by omega) (by rw [Int.fdiv_eq_ediv_of_nonneg i (by omega)];exact q) (.inl (PyProof.noPylong_small (by omega)))
theorem yU:vR X (binaryOp .Mod) (rI (fun _ j=>0 < j) fun i j=>.int (i % j)):=opI fun i j _ _ _ _ _ hc q=>by
 have h1:(0:Int) < j:=hc
 exact mod_int' (by omega) (by rw [Int.fmod_eq_emod_of_nonneg i (by omega)];exact q)
theorem op_pow:vR X (binaryOp .Pow) (rI CPow fun i j=>.int (i ^ j.toNat)):=opI fun _ _ _ _ _ _ _ hc q=>pow_int_small hc.1 hc.2.1 hc.2.2 q
theorem tP:vR X (binaryOp .LShift) (rI CPow fun i j=>.int (i * 2 ^ j.toNat)):=opI fun _ _ _ _ _ _ _ hc q=>lshift_int_small hc.1 hc.2.1 hc.2.2 q
theorem op_shr:vR X (binaryOp .RShift) (rI (fun _ j=>0 ≤ j) fun i j=>.int (i / 2 ^ j.toNat)):=opI fun i j _ _ _ _ _ hc q =>
 rshift_int hc (by rw [Int.fdiv_eq_ediv_of_nonneg i (sR _)];exact q)
theorem cH:vR X (binaryOp .BitAnd) (oJ fun i j=>.int (Builtin.bitAnd i j)):=opI0 fun _ _ _ _ _ _ _ q=>and_int q
theorem op_or:vR X (binaryOp .BitOr) (oJ fun i j=>.int (Builtin.bitOr i j)):=opI0 fun _ _ _ _ _ _ _ q=>or_int q
theorem op_xor:vR X (binaryOp .BitXor) (oJ fun i j=>.int (Builtin.bitXor i j)):=opI0 fun _ _ _ _ _ _ _ q=>xor_int q
theorem unI {f:Value→Sem Value}{g:Int→Int}
  (rule:∀ (i:Int) (t:Tok) (s:Shared) (Q:Value→Shared→Prop) (E:Value→Shared→Prop),Q (.int (g i) s.toks) { s with toks:=s.toks + 1 }→wpAny (model X.prog X.w) X.A (f (.int i t)) Q E s) :
  UnR X f (rU fun i=>.int (g i)):=by
 intro pins s σ H x v Q I rx h
 obtain ⟨i,rfl,q⟩:=h
 obtain ⟨t,rfl⟩:=rx
 exact rule i t s _ _ ⟨.int (g i),H,I.tok _,⟨_,rfl⟩,q⟩
theorem vT:UnR X (unaryOp .USub) (rU fun i=>.int (-i)):=unI fun _ _ _ _ _ q=>neg_int q
end
def yY:V→V→Bool
 | .non,.non=>true | .non,.int _=>true | .int _,.non=>true | .non,.bl _=>true | .bl _,.non=>true | .non,.str _=>true | .str _,.non=>true
 | .int _,.int _=>true | .bl _,.bl _=>true | .str _,.str _=>true | .byt _,.byt _=>true
 | .int _,.str _=>true | .str _,.int _=>true | .bl _,.str _=>true | .str _,.bl _=>true
 | _,_=>false
def rEq:R2:=fun x y H Q=>yY x y=true∧Q (.bl (decide (x=y))) H
def rNe:R2:=fun x y H Q=>yY x y=true∧Q (.bl (!decide (x=y))) H
theorem eH {i j:Int}:decide (V.int i=V.int j)=(i == j):=by
 rw [Bs]
 simp
theorem dec_bl {i j:Bool}:decide (V.bl i=V.bl j)=(i == j):=by
 rw [Bs]
 simp
theorem eF {i j:Str}:decide (V.str i=V.str j)=(i == j):=by
 rw [Bs]
 simp
theorem eI {i j:Array UInt8}:decide (V.byt i=V.byt j)=(i.toList == j.toList):=by
 rw [Bs]
 cases i
 cases j
 simp
section
variable {X:Cx}{a b c:Expr}{ta tb tc:TE}{pos:Pos}
theorem kO {pins:List (Addr × Obj)}{σ:St}{H:Hp}{s:Shared}{Q:VK}{k k':Bool}(I:Inv X pins σ H s)(q:Q (.bl k) H)(e:k=k'):EP X pins σ Q (.bool k') s:=by
 subst e
 exact ⟨.bl k,H,I,rfl,q⟩
theorem jW:vR X (compareOp .Eq) rEq:=by
 intro pins s σ H x y v u Q I rx ry h
 obtain ⟨hs,q⟩:=h
 cases x with
 | non =>
  cases rx
  cases y with
  | non=>cases ry;exact PySem.EqNone.eq_none_none (kO I q (by simp))
  | bl j=>cases ry;exact PySem.EqNone.eq_none_bool (kO I q (by simp))
  | int j=>obtain ⟨t',rfl⟩:=ry;exact PySem.EqNone.eq_none_int (kO I q (by simp))
  | str j=>obtain ⟨t',rfl⟩:=ry;exact PySem.EqNone.eq_none_str (kO I q (by simp))
  | _=>exact absurd (show false=true from hs) A0
 | bl i =>
  cases rx
  cases y with
  | non=>cases ry;exact PySem.EqNone.eq_bool_none (kO I q (by simp))
  | bl j=>cases ry;exact eq_bool (kO I q dec_bl)
  | str j=>obtain ⟨t',rfl⟩:=ry;exact PySem.EqMixed.eq_bool_str (kO I q (by simp))
  | _=>exact absurd (show false=true from hs) A0
 | int i =>
  obtain ⟨t,rfl⟩:=rx
  cases y with
  | non=>cases ry;exact PySem.EqNone.eq_int_none (kO I q (by simp))
  | int j=>obtain ⟨t',rfl⟩:=ry;exact eq_int (kO I q eH)
  | str j=>obtain ⟨t',rfl⟩:=ry;exact PySem.EqMixed.eq_int_str (kO I q (by simp))
  | _=>exact absurd (show false=true from hs) A0
 | str i =>
  obtain ⟨t,rfl⟩:=rx
  cases y with
  | non=>cases ry;exact PySem.EqNone.eq_str_none (kO I q (by simp))
  | bl j=>cases ry;exact PySem.EqMixed.eq_str_bool (kO I q (by simp))
  | int j=>obtain ⟨t',rfl⟩:=ry;exact PySem.EqMixed.eq_str_int (kO I q (by simp))
  | str j=>obtain ⟨t',rfl⟩:=ry;exact eq_str (kO I q eF)
  | _=>exact absurd (show false=true from hs) A0
 | byt i =>
  obtain ⟨t,rfl⟩:=rx
  cases y with
  | byt j=>obtain ⟨t',rfl⟩:=ry;exact PySem.W.eq_bytes (kO I q eI)
  | _=>exact absurd (show false=true from hs) A0
 | _=>cases y <;> exact absurd (show false=true from hs) A0
theorem cF:vR X (compareOp .NotEq) rNe:=by
 intro pins s σ H x y v u Q I rx ry h
 obtain ⟨hs,q⟩:=h
 cases x with
 | non =>
  cases rx
  cases y with
  | non=>cases ry;exact PySem.EqNone.ne_none_none (kO I q (by simp))
  | bl j=>cases ry;exact PySem.EqNone.ne_none_bool (kO I q (by simp))
  | int j=>obtain ⟨t',rfl⟩:=ry;exact PySem.EqNone.ne_none_int (kO I q (by simp))
  | str j=>obtain ⟨t',rfl⟩:=ry;exact PySem.EqNone.ne_none_str (kO I q (by simp))
  | _=>exact absurd (show false=true from hs) A0
 | bl i =>
  cases rx
  cases y with
  | non=>cases ry;exact PySem.EqNone.ne_bool_none (kO I q (by simp))
  | bl j=>cases ry;exact ne_bool (kO I q (AW not dec_bl))
  | str j=>obtain ⟨t',rfl⟩:=ry;exact PySem.EqMixed.ne_bool_str (kO I q (by simp))
  | _=>exact absurd (show false=true from hs) A0
 | int i =>
  obtain ⟨t,rfl⟩:=rx
  cases y with
  | non=>cases ry;exact PySem.EqNone.ne_int_none (kO I q (by simp))
  | int j=>obtain ⟨t',rfl⟩:=ry;exact ne_int (kO I q (AW not eH))
  | str j=>obtain ⟨t',rfl⟩:=ry;exact PySem.EqMixed.ne_int_str (kO I q (by simp))
  | _=>exact absurd (show false=true from hs) A0
 | str i =>
  obtain ⟨t,rfl⟩:=rx
  cases y with
  | non=>cases ry;exact PySem.EqNone.ne_str_none (kO I q (by simp))
  | bl j=>cases ry;exact PySem.EqMixed.ne_str_bool (kO I q (by simp))
  | int j=>obtain ⟨t',rfl⟩:=ry;exact PySem.EqMixed.ne_str_int (kO I q (by simp))
  | str j=>obtain ⟨t',rfl⟩:=ry;exact ne_str (kO I q (AW not eF))
  | _=>exact absurd (show false=true from hs) A0
 | byt i =>
  obtain ⟨t,rfl⟩:=rx
  cases y with
  | byt j=>obtain ⟨t',rfl⟩:=ry;exact PySem.W.ne_bytes (kO I q (AW not eI))
  | _=>exact absurd (show false=true from hs) A0
 | _=>cases y <;> exact absurd (show false=true from hs) A0
theorem op_lt:vR X (compareOp .Lt) (oJ fun i j=>.bl (decide (i < j))):=opB0 fun _ _ _ _ _ _ _ q=>lt_int q
theorem nF:vR X (compareOp .Gt) (oJ fun i j=>.bl (decide (j < i))):=opB0 fun _ _ _ _ _ _ _ q=>gt_int q
theorem op_ge:vR X (compareOp .GtE) (oJ fun i j=>.bl (decide (j ≤ i))):=opB0 fun _ _ _ _ _ _ _ q=>ge_int q
theorem cG:vR X (compareOp .Is) (fun x y H Q=>y = .non∧Q (.bl (decide (x = .non))) H):=by
 intro pins s σ H x y v u Q I rx ry h
 obtain ⟨rfl,q⟩:=h
 cases ry
 refine is_none_gen (kO I q ?_)
 cases x <;> first
  | (cases rx;rfl)
  | (obtain ⟨t,rfl⟩:=rx;rfl)
theorem lK:vR X (compareOp .IsNot) (fun x y H Q=>y = .non∧Q (.bl (!decide (x = .non))) H):=by
 intro pins s σ H x y v u Q I rx ry h
 obtain ⟨rfl,q⟩:=h
 cases ry
 refine isnot_none_gen (kO I q ?_)
 cases x <;> first
  | (cases rx;rfl)
  | (obtain ⟨t,rfl⟩:=rx;rfl)
theorem qZ (b:Expr){op:CmpOp}(h:op ≠ .In:=by decide)(h2:op ≠ .NotIn:=by decide):behindInMarks op b=false:=by
 have e1:(op == CmpOp.In)=false:=by cases op <;> first | rfl | exact absurd rfl h
 have e2:(op == CmpOp.NotIn)=false:=by cases op <;> first | rfl | exact absurd rfl h2
 cases b <;> simp [behindInMarks,e1,e2]
theorem jQ {op:CmpOp}{r:R2}(ho:vR X (compareOp op) r)(ha:PE X a ta)(hb:PE X b tb)(hm:behindInMarks op b=false):PE X (.Compare a [op] [b] pos) (tOp r ta tb):=by
 intro pins s σ H Q I h
 exact wpAny_Compare1 (binT ha hb I h fun v u s2 x y H2 I2 rx ry q=>ho pins s2 σ H2 x y v u Q I2 rx ry q) hm
def tTest (t:TE):TT:=fun σ H Q=>t σ H fun x H'=>∃ k,x = .bl k∧Q k H'
theorem q5 {op:CmpOp}{r:R2}(ho:vR X (compareOp op) r)(ha:PE X a ta)(hb:PE X b tb)(hm:behindInMarks op b=false):PT X (.Compare a [op] [b] pos) (tTest (tOp r ta tb)):=by
 intro pins s σ H Q I h
 refine wpAny_isTrue_Compare1 (jJ (ha pins s σ H _ I h) fun v s1 ⟨x,H1,I1,r1,q1⟩=>jJ (hb pins s1 σ H1 _ I1 q1) fun u s2 ⟨y,H2,I2,r2,q2⟩ =>
  jJ (ho pins s2 σ H2 x y v u _ I2 r1 r2 q2) fun c s3 ⟨z,H3,I3,r3,k,e,q3⟩=>?_) hm
 subst e
 cases r3
 exact wpAny_truthy_bool ⟨H3,I3,q3⟩
def tChain (r r':R2)(ta tb tc:TE):TE:=fun σ H Q=>ta σ H fun x H1=>tb σ H1 fun y H2=>r x y H2 fun z H3=>∃ k,z = .bl k ∧
 (if k=true then tc σ H3 fun w' H4=>r' y w' H4 Q else Q (.bl false) H3)
theorem lL:(sizeLine:Nat) < 2 ^ 63:=by rw [sizeLine_eq];decide
theorem vals1 {x:V}{us:List Value}(r:Vals [x] us):∃ u,us=[u]∧RelV x u:=by
 cases r with
 | cons r1 r2=>cases r2;exact ⟨_,rfl,r1⟩
theorem vals2 {x y:V}{us:List Value}(r:Vals [x,y] us):∃ u w',us=[u,w']∧RelV x u∧RelV y w':=by
 cases r with
 | cons r1 r2 =>
  cases r2 with
  | cons r3 r4=>cases r4;exact ⟨_,_,rfl,r1,r3⟩
theorem sJ:zD X (.builtin "abs") (fun xs H Q=>∃ i,xs=[.int i]∧Q (.int (if i < 0 then -i else i)) H):=by
 intro pins s σ H xs us Q I r h
 obtain ⟨i,rfl,q⟩:=h
 obtain ⟨u,rfl,t,rfl⟩:=vals1 r
 exact call_abs_int fun u tk=>⟨.int (if i < 0 then -i else i),H,I.tok _,⟨_,rfl⟩,q⟩
theorem nP (hc:X.calm=true):zD X (.builtin "max") (fun xs H Q=>∃ i j,xs=[.int i,.int j]∧Q (.int (if j > i then j else i)) H):=by
 intro pins s σ H xs us Q I r h
 obtain ⟨i,j,rfl,q⟩:=h
 obtain ⟨u,w',rfl,⟨t,rfl⟩,⟨t',rfl⟩⟩:=vals2 r
 refine max_two_ints (I.ok.hd hc) fun h' tk k=>⟨_,H,I.kept k,?_,q⟩
 by_cases hj:j > i
 ·rw [Au hj,Au hj];exact ⟨_,rfl⟩
 ·rw [Ax hj,Ax hj];exact ⟨_,rfl⟩
theorem oF:zD X (.type "int") (fun xs H Q=>(∃ i,xs=[.int i]∧Q (.int i) H)∨∃ k,xs=[.bl k]∧Q (.int (if k then 1 else 0)) H):=by
 intro pins s σ H xs us Q I r h
 rcases h with ⟨i,rfl,q⟩ | ⟨k,rfl,q⟩
 ·obtain ⟨u,rfl,t,rfl⟩:=vals1 r
  exact call_int_int ⟨.int i,H,I,⟨_,rfl⟩,q⟩
 ·obtain ⟨u,rfl,r1⟩:=vals1 r
  cases r1
  exact call_int_bool ⟨.int (if k then 1 else 0),H,I.tok _,⟨_,rfl⟩,q⟩
end
end L2
namespace L2
open PySem PySem.Spec PyProof.Rows
structure ObjM (h:Heap)(x dx C:Addr)(mA:Str→Option Value):Prop where
 obj:h.get? x=some (PySem.W.instObj C dx)
 ns:h.Ns1 dx mA
 ne:dx ≠ x
theorem iR {h:Heap}{dx:Addr}{mA:Str→Option Value}(n:h.Ns1 dx mA):∃ od,h.get? dx=some od∧∀ name,PySem.W.lookIn name od=some (mA name):=by
 obtain ⟨o,es,ep,ho,hd,hk,_,hm⟩:=n
 refine ⟨o,ho,fun name=>?_⟩
 have e:=hm name
 unfold nsFind findBy at e
 rw [← Array.find?_toList] at e
 unfold PySem.W.lookIn
 rw [hd]
 dsimp only
 split
 ·rename_i y q
  rw [q] at e
  exact AW some e
 ·rename_i q
  rw [q] at e
  have a:es.toList.any (·.refKey)=false:=by
   rw [List.any_eq_false]
   intro y hy
   obtain ⟨z,t,hkey⟩:=hk y (Array.mem_toList_iff.mp hy)
   simp [DictEntry.refKey,hkey]
  have a':¬ es.toList.any (·.refKey)=true:=by rw [a];exact A0
  rw [Ax a']
  exact AW some e
theorem ObjM.look {h:Heap}{x dx C:Addr}{mA:Str→Option Value}(I:ObjM h x dx C mA):∃ od,PySem.W.InstAt h x (PySem.W.instObj C dx) C (some od)∧∀ name,PySem.W.lookIn name od=some (mA name) :=
 let ⟨od,ho,hl⟩:=iR I.ns
 ⟨od,⟨I.obj,rfl,rfl,ho⟩,hl⟩
section
variable {prog:Program}{w:World}{A:Around}{E:Value→Shared→Prop}{s:Shared}{K:PySem.W.Frag}{x dx C f:Addr}{mA:Str→Option Value}{name:Str}{v:Value}
end
section
variable {P:Program}{w:World}{H H':Hp}{h h':Heap}{a C dx:Addr}{fs fs':List (Str × V)}
theorem ins_get (hok:HOk P w H h)(e:H a=some (.ins C dx fs)):∃ mA,ObjM h a dx C mA∧(∀ f,RelO (fs.lookup f) (mA f))∧PySem.Within mA (fs.map (·.1))∧fs.length ≤ 1000∧H dx=some (.own a):=by
 obtain ⟨d,z,ne,ob,mA,n,r,q⟩:=(show ObjOk P w H h a (.ins C dx fs) from hok a _ e)
 exact ⟨mA,⟨ob,n,ne⟩,r,q,z,d⟩
end
structure Cls (K:PySem.W.Frag)(C:Addr):Prop where
 pg:PySem.W.plainGet K C Str.empty=true
 hd:PySem.W.hasDictIn K C=true
 po:PySem.W.plainOver K C=true
 sa:PySem.W.findIn K (.ref C) "__setattr__" = some (some (.builtin "object.__setattr__"))
theorem Cls.get {K:PySem.W.Frag}{C:Addr}(c:Cls K C)(f:Str):PySem.W.plainGet K C f=true:=c.pg
structure Con (K:PySem.W.Frag)(C:Addr)(f:Str)(v:V)(u:Value):Prop where
 at_:PySem.W.findIn K (.ref C) f=some (some u)
 rel:RelV v u
 get:PySem.W.specialIn K u "__get__" = some none
 cp:PySem.W.copiedNames.contains f=false
structure Meth (K:PySem.W.Frag)(C:Addr)(m:Str)(f:Addr):Prop where
 at_:PySem.W.findIn K (.ref C) m=some (some (.ref f))
 fn:PySem.W.isFn K (.ref f)=true
 kp:PySem.W.keepIn K (.ref f)=true
section
variable {X:Cx}{pins:List (Addr × Obj)}{σ:St}{H:Hp}{s:Shared}{a C dx:Addr}{fs:List (Str × V)}{f:Str}{v:V}{A:Around}{E:Value→Shared→Prop}
theorem Inv.made (I:Inv X pins σ H s):Inv X pins σ (upd (upd H s.heap.objs.size (.own (s.heap.objs.size + 1))) (s.heap.objs.size + 1) (.ins C s.heap.objs.size []))
  { s with heap:=(s.heap.push PySem.W.emptyDict).push (PySem.W.instObj C s.heap.objs.size) }:=by
 have e1:(s.heap.push PySem.W.emptyDict).get? s.heap.objs.size=some PySem.W.emptyDict:=Ao s.heap rfl
 have e2:((s.heap.push PySem.W.emptyDict).push (PySem.W.instObj C s.heap.objs.size)).get? (s.heap.objs.size + 1)=some (PySem.W.instObj C s.heap.objs.size):=by
  have:=Ao (s.heap.push PySem.W.emptyDict) (o:=PySem.W.instObj C s.heap.objs.size) rfl
  rwa [AO] at this
 have e3:(s.heap.push PySem.W.emptyDict).Ns s.heap.objs.size (fun _=>none):=⟨PySem.W.emptyDict,#[],_,e1,rfl,(fun e he=>absurd he (by simp)),fun _=>rfl⟩
 have I1:=I.laid (a:=s.heap.objs.size) (o:=.own (s.heap.objs.size + 1)) (h':=s.heap.push PySem.W.emptyDict) (t':=s.toks) (fun b u q=>Ac _ q) (Ad _) ⟨_,e1⟩
 refine I1.laid (a:=s.heap.objs.size + 1) (o:=.ins C s.heap.objs.size []) (t':=s.toks) (fun b u q=>Ac _ q) (Nat.le_of_eq (AO _ _)) ?_
 have ne:s.heap.objs.size ≠ s.heap.objs.size + 1:=A6 (Ba _)
 refine ⟨by rw [qS ne,qH],Bh _,ne,e2,fun _=>none,(Heap.Ns1.of_empty e3).at fun o q=>Ac _ q,fun _=>True.intro,fun y hy=>absurd rfl hy⟩
end
section
variable {X:Cx}{o e value:Expr}{f:Str}{pos pos' tpos:Pos}{ta tv:TE}
end
section
variable {X:Cx}{pins:List (Addr × Obj)}{σ:St}{H:Hp}{s:Shared}{A:Around}{E:Value→Shared→Prop}{Q:Value→Shared→Prop}{c:Value}{b:Bool}
inductive TyOf (K:PySem.W.Frag)(H:Hp):V→Value→Prop where
 | non:TyOf K H .non (.type "NoneType")
 | bl (x:Bool):TyOf K H (.bl x) (.type "bool")
 | int (i:Int):TyOf K H (.int i) (.type "int")
 | str (x:Str):TyOf K H (.str x) (.type "str")
 | flt (x:UInt64):TyOf K H (.flt x) (.type "float")
 | lst {a:Addr} {xs:List V} (e:H a=some (.lst xs)):TyOf K H (.ref a) (.type "list")
 | frz {a:Addr} {o:Obj} {xs:List V} (e:H a=some (.frz o (.lst xs))):TyOf K H (.ref a) (.type "list")
 | tup {a:Addr} {xs:List V} (e:H a=some (.tup xs)):TyOf K H (.ref a) (.type "tuple")
 | dK {a:Addr} {kvs:List (Key × V)} (e:H a=some (.dK kvs)):TyOf K H (.ref a) (.type "dict")
 | dT {a:Addr} {kvs:List (List Key × V)} (e:H a=some (.dT kvs)):TyOf K H (.ref a) (.type "dict")
 | ins {a C dx:Addr} {fs:List (Str × V)} (e:H a=some (.ins C dx fs)) (cl:Cls K C) (ha:PySem.W.findIn K (.ref C) "__class__" = some (some (.builtin "object.__class__")))
   (hn:PySem.W.specialIn K (.builtin "object.__class__") "__get__" = some (some (.builtin "getset_descriptor.__get__"))) (htk:PySem.W.takesIn K (.builtin "object.__class__")=some true)
   (hm:PySem.W.mroIn K C (.type "object")=some true):TyOf K H (.ref a) (.ref C)
theorem iW {x:V}{u t:Value}(I:Inv X pins σ H s)(rx:RelV x u)(ty:TyOf X.K H x t)(e:PySem.W.kitOne X.K t c=some b)(h:∀ tk,Q (.bool b) { s with toks:=tk }) :
  wpAny (model X.prog X.w) A (call (.builtin "isinstance") [u,c]) Q E s:=by
 cases ty with
 | non=>cases (show u=Value.none from rx);exact Bo PySem.W.kitx_none I.kIn True.intro e (fun z=>nomatch z) h
 | bl y=>cases (show u=Value.bool y from rx);exact Bo PySem.W.kitx_bool I.kIn True.intro e (fun z=>nomatch z) h
 | int i=>obtain ⟨t,q⟩:=(show ∃ t,u=Value.int i t from rx);cases q;exact Bo PySem.W.kitx_int I.kIn True.intro e (fun z=>nomatch z) h
 | str y=>obtain ⟨t,q⟩:=(show ∃ t,u=Value.str y t from rx);cases q;exact Bo PySem.W.kitx_str I.kIn True.intro e (fun z=>nomatch z) h
 | flt y=>obtain ⟨t,q⟩:=(show ∃ t,u=Value.float y t from rx);cases q;exact Bo PySem.W.kitx_float I.kIn True.intro e (fun z=>nomatch z) h
 | @lst a xs ea =>
  cases (show u=Value.ref a from rx)
  obtain ⟨_,_,n,_,h1⟩:=(show ObjOk X.prog X.w H s.heap a (.lst xs) from I.hok a _ ea)
  exact Bo PySem.W.kitx_list I.kIn ⟨_,h1,rfl⟩ e (fun z=>nomatch z) h
 | @frz a ob xs ea =>
  cases (show u=Value.ref a from rx)
  obtain ⟨_,_,_,n,_,h1⟩:=(show ObjOk X.prog X.w H s.heap a (.frz ob (.lst xs)) from I.hok a _ ea)
  exact Bo PySem.W.kitx_list I.kIn ⟨_,h1,rfl⟩ e (fun z=>nomatch z) h
 | @tup a xs ea =>
  cases (show u=Value.ref a from rx)
  obtain ⟨_,_,_,p⟩:=(show ObjOk X.prog X.w H s.heap a (.tup xs) from I.hok a _ ea)
  obtain ⟨o,h1,h2,_⟩:=p
  exact Bo PySem.W.kitx_tuple I.kIn ⟨o,h1,h2⟩ e (fun z=>nomatch z) h
 | @dK a kvs ea =>
  cases (show u=Value.ref a from rx)
  obtain ⟨_,_,vs,_,p⟩:=(show ObjOk X.prog X.w H s.heap a (.dK kvs) from I.hok a _ ea)
  obtain ⟨o,es,ep,h1,h2,_⟩:=p
  exact Bo PySem.W.kitx_dict I.kIn ⟨o,h1,h2.1⟩ e (fun z=>nomatch z) h
 | @dT a kvs ea =>
  cases (show u=Value.ref a from rx)
  obtain ⟨_,_,xs,_,o,es,ep,h1,h2,_⟩:=(show ObjOk X.prog X.w H s.heap a (.dT kvs) from I.hok a _ ea)
  exact Bo PySem.W.kitx_dict I.kIn ⟨o,h1,h2.1⟩ e (fun z=>nomatch z) h
 | @ins a C dx fs ea cl ha hn htk hm =>
  cases (show u=Value.ref a from rx)
  obtain ⟨mA,O,_⟩:=ins_get I.hok ea
  obtain ⟨od,J,_⟩:=O.look
  exact Bo (PySem.W.kitx_own (cl.get _) cl.hd ha hn htk hm) I.kIn J e (fun z=>nomatch z) h
end
end L2
namespace L2
open PySem PySem.Spec PyProof.Rows
structure Room (k:Nat)(A:Around):Prop where
 hd:A.handled=none
 dp:A.depth + 3 * k + 5 < recursionLimit
 un:A.units + 16 * k + 200 < cLine
 gd:A.guards=some []
theorem Room.mono {j k:Nat}{A:Around}(r:Room k A)(h:j ≤ k):Room j A:=⟨r.hd,by have:=r.dp;omega,by have:=r.un;omega,by first | exact r.gd | (simp [Around.under,Code.guards,Code.isGuard,guardIds];exact r.gd)⟩
theorem Room.deeper {k:Nat}{A:Around}(r:Room (k + 1) A)(env:Env):Room k (A.deeper env) :=
 ⟨r.hd,by have:=r.dp;show A.depth + 1 + 3 * k + 5 < _;omega,by have:=r.un;show A.units + 3 + 16 * k + 200 < _;omega,by first | exact r.gd | (simp [Around.under,Code.guards,Code.isGuard,guardIds];exact r.gd)⟩
theorem Room.in1 {k:Nat}{A:Around}(r:Room (k + 1) A):Room k A.in1 :=
 ⟨r.hd,by have:=r.dp;show A.depth + 3 * k + 5 < _;omega,by have:=r.un;show A.units + 1 + 16 * k + 200 < _;omega,by first | exact r.gd | (simp [Around.under,Code.guards,Code.isGuard,guardIds];exact r.gd)⟩
theorem Room.depth {k:Nat}{A:Around}(r:Room k A):A.depth < recursionLimit:=by have:=r.dp;omega
theorem Room.units {k:Nat}{A:Around}(r:Room k A):A.units + 64 < cLine:=by have:=r.un;omega
theorem Room.units0 {k:Nat}{A:Around}(r:Room k A):A.units < cLine:=by have:=r.un;omega
def tNil:TA:=fun _ H Q=>Q [] H
def pQ (ta:TE)(tr:TA):TA:=fun σ H Q=>ta σ H fun x H1=>tr σ H1 fun xs H2=>Q (x :: xs) H2
section
variable {X:Cx}{e:Expr}{es:List Expr}{te:TE}{t:TA}{pos:Pos}
theorem qD:PA X [] tNil:=fun _ _ _ _ H Q I h=>Calls.spliced_nil ⟨[],H,I,.nil,h⟩
theorem lJ (ha:PE X e te)(hr:PA X es t)(hs:starEach (e :: es) X.env=(false,eval e X.env) :: starEach es X.env:=by rfl):PA X (e :: es) (pQ te t):=by
 intro pos pins s σ H Q I h
 rw [hs]
 show wpAny _ _ (spliced ((false,eval e X.env) :: backTo pos (starEach es X.env))) _ _ s
 refine Calls.spliced_cons (jJ (ha pins s σ H _ I h) fun u s1 ⟨x,H1,I1,r1,q1⟩=>?_)
 exact jJ (hr pos pins s1 σ H1 _ I1 q1) fun us s2 ⟨xs,H2,I2,r2,q2⟩=>⟨x :: xs,H2,I2,.cons r1 r2,q2⟩
def tLst (t:TA):TE:=fun σ H Q=>t σ H fun xs H1=>xs.length ≤ sizeLine∧∀ p,H1 p=none→Q (.ref p) (upd H1 p (.lst xs))
theorem pe_lst (h:PA X es t):PE X (.List es pos) (tLst t):=by
 intro pins s σ H Q I hq
 refine wpAny_List_spliced (jJ (h pos pins s σ H _ I hq) fun us s1 ⟨xs,H1,I1,r,z,q⟩=>⟨by rw [← r.length];exact z,?_⟩)
 have hf:H1 s1.heap.objs.size=none:=I1.hok.fresh (Ad _)
 refine ⟨.ref s1.heap.objs.size,upd H1 s1.heap.objs.size (.lst xs),I1.laid (t':=s1.toks) (fun b u e=>Ac _ e) (Ad _) ?_,rfl,q _ hf⟩
 exact ⟨z,us,0,r,Ao _ rfl⟩
end
abbrev Sp:=List V→Hp→VK→XK→Prop
abbrev CXT:=List Env→Hp→Shared→XK→Value→Shared→Prop
structure Env0 (P:Program)(w:World)(K:PySem.W.Frag)(mg:Str→Option Value)(base:Heap)(A:Around)(outer:List Env)(s:Shared)(H:Hp):Prop where
 frames:A.frames=some outer
 mod:Mod K mg base
 bs:∀ b o,base.get? b=some o→s.heap.get? b=some o∧H b=none
 bsz:base.objs.size ≤ s.heap.objs.size
 funs:s.heap.FunFrames base outer
 frf:∀ b ∈ i7 outer,H b=none
 hok:HOk P w H s.heap
 bare:AllBare s.gens
def CE (outer:List Env)(P:Program)(w:World)(H:Hp)(s:Shared)(Q:VK)(u:Value)(s':Shared):Prop :=
 ∃ v H',s'.os=s.os∧AllBare s'.gens∧Un (i7 outer) [] H H' s.heap s'.heap∧HOk P w H' s'.heap∧RelV v u∧Q v H'
def CR (CX:CXT)(outer:List Env)(P:Program)(w:World)(H:Hp)(s:Shared)(Q:VK)(E:XK)(r:Result)(s':Shared):Prop :=
 match r with
 | .ok (.ret u)=>CE outer P w H s Q u s'
 | .ok _=>False
 | .error e=>CX outer H s E e s'
structure FnOk (P:Program)(w:World)(K:PySem.W.Frag)(mg:Str→Option Value)(base:Heap)(CX:CXT)(k:Nat)(f:Addr)(fd:FuncData)(ps:List Str)(sp:Sp):Prop where
 len:∀ vs H Q E,sp vs H Q E→vs.length=ps.length
 run:∀ (A:Around) (outer:List Env) (s:Shared) (H:Hp) (args:Args) (us:List Value) (vs:List V) (Q:VK) (E:XK),Room k A→Env0 P w K mg base A outer s H→BindsTo s fd args (ps.zip us)→Vals vs us→sp vs H Q E →
  codeAny (model P w) A (.call (.ref f) args) (CR CX outer P w H s Q E) s
theorem FnOk.mono {P:Program}{w:World}{K:PySem.W.Frag}{mg:Str→Option Value}{base:Heap}{CX:CXT}{j k:Nat}{f:Addr}{fd:FuncData}{ps:List Str}{sp:Sp}(F:FnOk P w K mg base CX j f fd ps sp)(h:j ≤ k) :
  FnOk P w K mg base CX k f fd ps sp:=⟨F.len,fun A outer s H args us vs Q E hr=>F.run A outer s H args us vs Q E (hr.mono h)⟩
theorem FnOk.imp {P:Program}{w:World}{K:PySem.W.Frag}{mg:Str→Option Value}{base:Heap}{CX:CXT}{k:Nat}{f:Addr}{fd:FuncData}{ps:List Str}{sp sp':Sp}(F:FnOk P w K mg base CX k f fd ps sp)
  (h:∀ vs H Q E,sp' vs H Q E→sp vs H Q E):FnOk P w K mg base CX k f fd ps sp' :=
 ⟨fun vs H Q E q=>F.len vs H Q E (h _ _ _ _ q),fun A outer s H args us vs Q E hr he hb hv hs=>F.run A outer s H args us vs Q E hr he hb hv (h _ _ _ _ hs)⟩
theorem Env0.in1 {P:Program}{w:World}{K:PySem.W.Frag}{mg:Str→Option Value}{base:Heap}{A:Around}{outer:List Env}{s:Shared}{H:Hp}(e:Env0 P w K mg base A outer s H) :
  Env0 P w K mg base A.in1 outer s H:=⟨e.frames,e.mod,e.bs,e.bsz,e.funs,e.frf,e.hok,e.bare⟩
section
variable {X:Cx}{pins:List (Addr × Obj)}{σ:St}{H:Hp}{s s':Shared}
theorem Inv.env0 (I:Inv X pins σ H s):Env0 X.prog X.w X.K X.mg X.base X.A X.stack s H :=
 ⟨I.ok.frames,I.ok.mod,I.bs,AG I.ok.bsz I.sz,I.stack,I.stkFree,I.hok,I.bare⟩
theorem Inv.after {Q:VK}{u:Value}(I:Inv X pins σ H s)(h:CE X.stack X.prog X.w H s Q u s'):EP X pins σ Q u s':=by
 obtain ⟨v,H',os,bare,un,hok,r,q⟩:=h
 obtain ⟨hh,g,d,t,os'⟩:=s'
 obtain rfl:os'=s.os:=os
 exact ⟨v,H',I.call (h':=hh) (g':=g) (d':=d) (t':=t) (ch:=[]) un hok bare (fun b z=>absurd z (by simp)),r,q⟩
end
def tCall (sp:Sp)(dvs:List V)(E:XK)(t:TA):TE:=fun σ H Q=>t σ H fun vs H1=>sp (vs ++ dvs) H1 Q E
def Binds (K:PySem.W.Frag)(fd:FuncData)(ps:List Str)(ds:List Value):Prop :=
 ∀ (s:Shared) (us:List Value),K.In s.heap→(us ++ ds).length=ps.length→BindsTo s fd ⟨us,[]⟩ (ps.zip (us ++ ds))
theorem Binds.all {K:PySem.W.Frag}{fd:FuncData}{ps:List Str}(h:∀ us:List Value,us.length=ps.length→bindArgs fd ⟨us,[]⟩=pure (ps.zip us)):Binds K fd ps []:=fun s us _ hl=>by
 rw [Bm] at hl ⊢
 exact .of_eq (h us hl)
def pG (CX:CXT)(X:Cx)(E:XK):Prop:=∀ (pins:List (Addr × Obj)) (σ:St) (H:Hp) (s:Shared) (e:Value) (s':Shared),Inv X pins σ H s→CX X.stack H s E e s'→X.xe e s'
section
variable {X:Cx}{CX:CXT}{k:Nat}{f C:Addr}{fd:FuncData}{ps:List Str}{sp:Sp}{dvs:List V}{ds:List Value}{E:XK}{x m:Str}{p pos apos:Pos}{e o:Expr}{es:List Expr}{ta:TE}{t:TA}
theorem run_fn {pins:List (Addr × Obj)}{σ:St}{H:Hp}{s:Shared}{Q:VK}{us:List Value}{vs:List V}(F:FnOk X.prog X.w X.K X.mg X.base CX k f fd ps sp)(hr:Room k X.A)(hb:Binds X.K fd ps ds)(hd:Vals dvs ds)(hx:pG CX X E)
  (I:Inv X pins σ H s) (r:Vals vs us) (h:sp (vs ++ dvs) H Q E):wpAny (model X.prog X.w) X.A (call (.ref f) us) (EP X pins σ Q) X.xe s:=by
 have r2:Vals (vs ++ dvs) (us ++ ds):=r.append hd
 have hl:(us ++ ds).length=ps.length:=by rw [← r2.length];exact F.len _ _ _ _ h
 refine wpAny_call (codeAny_mono (F.run X.A X.stack s H ⟨us,[]⟩ (us ++ ds) (vs ++ dvs) Q E hr I.env0 (hb s us I.kIn hl) r2 h) fun r s' hq=>?_)
 cases r with
 | error e=>exact hx pins σ H s e s' I hq
 | ok fl =>
  cases fl with
  | ret u=>exact I.after hq
  | next=>exact False.elim hq
  | brk=>exact False.elim hq
  | cont=>exact False.elim hq
theorem pe_call (F:FnOk X.prog X.w X.K X.mg X.base CX k f fd ps sp)(hr:Room k X.A)(hg:Gl X x)(hm:X.mg x=some (.ref f))(hk:PySem.W.keepIn X.K (.ref f)=true)(hb:Binds X.K fd ps ds)(hd:Vals dvs ds)(hx:pG CX X E)
  (ha:PA X (e :: es) t) (hdb:(x == ("__debug__" : Str))=false:=by decide) (he:starEach (e :: es) X.env=(false,eval e X.env) :: starEach es X.env:=by rfl) (hpl:(backTo pos (starEach es X.env)).any (·.1)=false:=by rfl) :
  PE X (.Call (.Name x p) (e :: es) [] pos) (tCall sp dvs E t):=by
 intro pins s σ H Q I h
 refine wpAny_Call_Name_kw (aT I hg hm ?_ hdb)
 refine PySem.W.callWith_K (h₀:=X.base) I.ok.mod.kin hk (jJ (ha pos pins s σ H _ I h) fun us s1 ⟨vs,H1,I1,r,q⟩=>⟨I1.kIn,?_⟩) he hpl
 exact run_fn F hr hb hd hx I1 r q
structure Mk (K:PySem.W.Frag)(C f:Addr):Prop where
 makes:PySem.W.makesIn K C=true
 init:PySem.W.findIn K (.ref C) "__init__" = some (some (.ref f))
 fn:PySem.W.isFn K (.ref f)=true
 kp:PySem.W.keepIn K (.ref C)=true
end
def PK (X:Cx)(kws:List Keyword)(t:TA):Prop :=
 ∀ (pos:Pos) (pins:List (Addr × Obj)) (s:Shared) (σ:St) (H:Hp) (Q:List V→Hp→Prop),Inv X pins σ H s→t σ H Q→wpAny (model X.prog X.w) X.A (evalAll ((backToKw pos (keywordEach kws X.env)).map (·.2))) (AP X pins σ Q) X.xe s
section
variable {X:Cx}{CX:CXT}{k:Nat}{f C:Addr}{fd:FuncData}{ps ks:List Str}{sp:Sp}{E:XK}{x m:Str}{p pos apos kpos:Pos}{e o:Expr}{es:List Expr}{kws:List Keyword}{te ta:TE}{t tk:TA}{nm:Option Str}
theorem pk_nil:PK X [] tNil:=fun _ _ _ _ H Q I h=>wpAny_evalAll_nil ⟨[],H,I,.nil,h⟩
theorem aL (ha:PE X e te)(hr:PK X kws t):PK X (⟨nm,e,kpos⟩ :: kws) (pQ te t):=by
 intro pos pins s σ H Q I h
 show wpAny _ _ (evalAll ((do let v ← eval e X.env;standAt pos;pure v) :: (backToKw pos (keywordEach kws X.env)).map (·.2))) _ _ s
 refine wpAny_evalAll_cons (wpAny_bind (jJ (ha pins s σ H _ I h) fun u s1 ⟨x,H1,I1,r1,q1⟩=>wpAny_bind (wpAny_standAt (wpAny_pure ?_))))
 exact jJ (hr pos pins s1 σ H1 _ I1 q1) fun us s2 ⟨xs,H2,I2,r2,q2⟩=>⟨x :: xs,H2,I2,.cons r1 r2,q2⟩
structure KBinds (K:PySem.W.Frag)(fd:FuncData)(ps ks:List Str)(g:List Value→List Value→List Value)(gV:List V→List V→List V):Prop where
 to:∀ (s:Shared) (us ws:List Value),K.In s.heap→(g us ws).length=ps.length→BindsTo s fd ⟨us,ks.zip ws⟩ (ps.zip (g us ws))
 rel:∀ {vs:List V} {us:List Value} {zs:List V} {ws:List Value},Vals vs us→Vals zs ws→Vals (gV vs zs) (g us ws)
variable {g:List Value→List Value→List Value}{gV:List V→List V→List V}
theorem run_fnk {pins:List (Addr × Obj)}{σ:St}{H:Hp}{s:Shared}{Q:VK}{us ws:List Value}{vs zs:List V}(F:FnOk X.prog X.w X.K X.mg X.base CX k f fd ps sp)(hr:Room k X.A)(hb:KBinds X.K fd ps ks g gV)(hx:pG CX X E)
  (I:Inv X pins σ H s) (r:Vals vs us) (rz:Vals zs ws) (h:sp (gV vs zs) H Q E):wpAny (model X.prog X.w) X.A (call (.ref f) us (ks.zip ws)) (EP X pins σ Q) X.xe s:=by
 have r2:=hb.rel r rz
 have hl:(g us ws).length=ps.length:=by rw [← r2.length];exact F.len _ _ _ _ h
 refine wpAny_call (codeAny_mono (F.run X.A X.stack s H ⟨us,ks.zip ws⟩ (g us ws) (gV vs zs) Q E hr I.env0 (hb.to s us ws I.kIn hl) r2 h) fun r s' hq=>?_)
 cases r with
 | error e=>exact hx pins σ H s e s' I hq
 | ok fl =>
  cases fl with
  | ret u=>exact I.after hq
  | next=>exact False.elim hq
  | brk=>exact False.elim hq
  | cont=>exact False.elim hq
end
structure FnScope (N P:List Str)(sc:Scope):Prop where
 kind:sc.kind = .function
 co:sc.isCoroutine=false
 gen:sc.isGenerator=false
 nd:N.Nodup
 pre:N.take P.length=P
 par:∀ x ∈ P,sc.names.lookup x=some .local∨sc.names.lookup x=some .cell
 nofree:∀ y ∈ sc.names,y.2 ≠ .free
theorem nR {kindOf:Str→Option NameKind}{x:Str}:∀ {binds:List (Str × Value)} {m:Str→Option Value},(∀ v,(x,v) ∉ binds)→bindL kindOf binds m x=m x
 | [],_,_=>rfl
 | (n,v) :: r,m,h=>by
  unfold bindL
  rw [nR fun w hw=>h w (Ap _ hw)]
  split
  ·have:x ≠ n:=by rintro rfl;exact h v Am
   simp [this]
  ·rfl
theorem nU {kindOf:Str→Option NameKind}{x:Str}:∀ {binds:List (Str × Value)} {m:Str→Option Value},(∀ v,(x,v) ∉ binds)→bindC kindOf binds m x=m x
 | [],_,_=>rfl
 | (n,v) :: r,m,h=>by
  unfold bindC
  rw [nU fun w hw=>h w (Ap _ hw)]
  split
  ·rfl
  ·have:x ≠ n:=by rintro rfl;exact h v Am
   simp [this]
theorem nS {kindOf:Str→Option NameKind}{x:Str}{v:Value}:∀ {P:List Str} {vs:List Value} {i:Nat} {m:Str→Option Value},P.Nodup→P[i]? = some x→vs[i]? = some v→kindOf x=some .local →
  bindL kindOf (P.zip vs) m x=some v
 | [],_,_,_,_,h,_,_=>by simp at h
 | _ :: _,[],_,_,_,_,h,_=>by simp at h
 | p :: P,w :: vs,0,m,nd,h1,h2,hk=>by
  simp at h1 h2;subst h1;subst h2
  show bindL kindOf ((p,w) :: P.zip vs) m p=_
  unfold bindL
  rw [nR fun v hv=>(Bz.mp nd).1 (C1 hv).1,Au hk]
  simp
 | p :: P,w :: vs,i + 1,m,nd,h1,h2,hk=>by
  show bindL kindOf ((p,w) :: P.zip vs) m x=_
  unfold bindL
  exact nS (i:=i) (Bz.mp nd).2 (by simpa using h1) (by simpa using h2) hk
theorem nV {kindOf:Str→Option NameKind}{x:Str}{v:Value}:∀ {P:List Str} {vs:List Value} {i:Nat} {m:Str→Option Value},P.Nodup→P[i]? = some x→vs[i]? = some v→kindOf x ≠ some .local →
  bindC kindOf (P.zip vs) m x=some v
 | [],_,_,_,_,h,_,_=>by simp at h
 | _ :: _,[],_,_,_,_,h,_=>by simp at h
 | p :: P,w :: vs,0,m,nd,h1,h2,hk=>by
  simp at h1 h2;subst h1;subst h2
  show bindC kindOf ((p,w) :: P.zip vs) m p=_
  unfold bindC
  rw [nU fun v hv=>(Bz.mp nd).1 (C1 hv).1,Ax hk]
  simp
 | p :: P,w :: vs,i + 1,m,nd,h1,h2,hk=>by
  show bindC kindOf ((p,w) :: P.zip vs) m x=_
  unfold bindC
  exact nV (i:=i) (Bz.mp nd).2 (by simpa using h1) (by simpa using h2) hk
def start (N:List Str)(vs:List V):St:=vs.map some ++ List.replicate (N.length - vs.length) none
def uF (CX:CXT)(P:Program)(w:World)(K:PySem.W.Frag)(mg:Str→Option Value)(base:Heap)(N:List Str)(qual:Str)(scope:Scope)(f:Addr)(cd:Value)(A:Around)(outer:List Env)(s:Shared)(H:Hp)(E:XK):Cx where
 prog:=P
 w:=w
 K:=K
 mg:=mg
 base:=base
 A:=A.deeper (envOfC qual scope s.heap.objs.size f cd)
 N:=N
 s₀:=s
 H₀:=H
 env:=envOfC qual scope s.heap.objs.size f cd
 outer:=outer
 stack:=envOfC qual scope s.heap.objs.size f cd :: outer
 ex:=[]
 calm:=true
 fn:=fun _=>true
 pn:=[]
 xe:=fun e s'=>wpAny (model P w) (A.deeper (envOfC qual scope s.heap.objs.size f cd)) (leaving (envOfC qual scope s.heap.objs.size f cd) e) (fun _ s''=>CX outer H s E e s'') (fun e' s''=>CX outer H s E e' s'') s'
theorem sH {sc:Scope}{n:Nat}{x:Str}(h:sc.names.lookup x=some .cell):∃ c,(cellsFrom n sc.names []).lookup x=some c:=by
 have q:=PySem.W.cellsFrom_some sc.names n [] (.inl h)
 exact Option.isSome_iff_exists.mp q
theorem iX {CX:CXT}{P:Program}{w:World}{K:PySem.W.Frag}{mg:Str→Option Value}{base:Heap}{N ps:List Str}{qual:Str}{scope:Scope}{f:Addr}{cd:Value}{A:Around}{outer:List Env}{s s1:Shared}{H:Hp}{E:XK}{us:List Value}{vs:List V}
  (S:FnScope N ps scope) (hd:A.handled=none) (e0:Env0 P w K mg base A outer s H) (hl:vs.length=ps.length) (r:Vals vs us)
  (x:InCallC s s.heap.objs.size (bindL (envOfC qual scope s.heap.objs.size f cd).kindOf (ps.zip us) fun _=>none) (cellsFrom (s.heap.objs.size + 1) scope.names []) (bindC (envOfC qual scope s.heap.objs.size f cd).kindOf (ps.zip us) fun _=>none) s1) :
  Inv (uF CX P w K mg base N qual scope f cd A outer s H E) [] (start N vs) H s1:=by
 have hpl:ps.length ≤ N.length:=by have:=AW List.length S.pre;rw [An] at this;omega
 obtain ⟨h1,tk,rfl,hk⟩:=x.done
 have noA:∀ b:Addr,b ∉ (uF CX P w K mg base N qual scope f cd A outer s H E).ex:=fun b z=>absurd (show b ∈ ([] : List Addr) from z) (by simp)
 refine ⟨⟨e0.mod,S.kind,rfl,rfl,Ad _,fun y z c h1 h2=>?_,fun y hy=>?_,fun y c _ h=>?_,fun _=>hd,Around.frames_deeper e0.frames,.inr ⟨rfl,rfl⟩,fun b z=>absurd z (noA b),e0.bs,e0.bsz,fun b _ _=>noA b,fun b z=>absurd z (noA b),e0.funs,e0.frf⟩,
  rfl,e0.bare,Un.kept hk,⟨_,x.toInCall.ns,fun i y v h1 h2 h3=>?_⟩,fun y c h=>⟨_,x.cell y c h⟩,e0.hok.fresh (Ad _),fun y c h=>?_,fun p hp=>absurd (show p ∈ ([] : List (Addr × Obj)) from hp) (by simp),e0.hok.kept hk,?_⟩
 ·exact name_of_addr x.apart (Bq h1) (Bq h2)
 ·have hy:scope.names.lookup y=some .cell∨scope.names.lookup y=some .free:=hy
  rcases hy with hy | hy
  ·exact sH hy
  ·exact absurd rfl (S.nofree _ (Bq hy))
 ·exact Bj (x.above y c (Bq h))
 ·have hi:i < vs.length:=by
   unfold start at h2
   by_cases hi:i < vs.length
   ·exact hi
   ·rw [BE (by simpa using hi)] at h2
    rw [List.getElem?_replicate] at h2
    split at h2 <;> cases h2
  have ha:vs[i]? = some v:=by
   unfold start at h2
   rw [BF (by simpa using hi),Af] at h2
   cases e:vs[i]? with
   | none=>rw [e] at h2;cases h2
   | some a=>rw [e] at h2;cases h2;rfl
  obtain ⟨u,hu,rv⟩:=r.get ha
  have hp:ps[i]? = some y:=by
   rw [← S.pre,List.getElem?_take_of_lt (by omega)];exact h1
  have ndP:ps.Nodup:=by rw [← S.pre];exact S.nd.sublist (List.take_sublist _ _)
  refine ⟨u,rv,?_⟩
  rcases S.par y (Aq hp) with k | k
  ·exact .inl ⟨k,nS ndP hp hu k⟩
  ·obtain ⟨c,e⟩:=sH (n:=s.heap.objs.size + 1) k
   refine .inr ⟨.inl k,c,e,?_⟩
   have q:=x.cell y c e
   rw [nV ndP hp hu (by show scope.names.lookup y ≠ _;rw [k];decide)] at q
   exact q
 ·exact e0.hok.fresh (Bj (x.above y c (Bq h)))
 ·unfold start
  show _=N.length
  rw [Ar,Aa,Cr]
  omega
theorem fn_of {CX:CXT}{P:Program}{w:World}{K:PySem.W.Frag}{mg:Str→Option Value}{base:Heap}{k:Nat}{f:Addr}{name qual:Str}{params:Arguments}{body:List Stmt}{scope:Scope}{dV kV doc pm cdv ct oc:Value}{an od:Option Addr}
  {osl:Array (Option Value)} {N ps:List Str} {sp:Sp} (lk:K.lookup f=some ⟨oc,od,.func (PySem.W.fnOf name qual params body scope dV kV doc pm an cdv ct),osl⟩) (hcd:PySem.W.codeIn K cdv qual=true) (S:FnScope N ps scope)
  (len:∀ vs H Q E,sp vs H Q E→vs.length=ps.length)
  (hbody:∀ (A:Around) (outer:List Env) (s:Shared) (H:Hp) (vs:List V) (Q:VK) (E:XK),Room k (A.deeper (envOfC qual scope s.heap.objs.size f cdv))→sp vs H Q E →
   ∃ t,PSs (uF CX P w K mg base N qual scope f cdv A outer s H E) body t∧t { nx:=fun _ H'=>Q .non H',rt:=Q } (start N vs) H) :
  FnOk P w K mg base CX (k + 1) f (PySem.W.fnOf name qual params body scope dV kV doc pm an cdv ct) ps sp:=by
 refine ⟨len,fun A outer s H args us vs Q E hr e0 hb r hsp=>?_⟩
 have hl:=len _ _ _ _ hsp
 have KX:K.In s.heap:=e0.mod.kin.keeps fun b o e=>(e0.bs b o e).1
 have lim:s.heap.NoLimit:=e0.mod.nolimit.keeps fun b o e=>(e0.bs b o e).1
 have hkind:∀ y ∈ ps.zip us,scope.names.lookup y.1=some .local∨(scope.names.lookup y.1=some .cell∧((cellsFrom (s.heap.objs.size + 1) scope.names []).lookup y.1).isSome=true):=fun ⟨n,v⟩ hy=>by
  rcases S.par n (C1 hy).1 with q | q
  ·exact .inl q
  ·exact .inr ⟨q,PySem.W.cellsFrom_some _ _ _ (.inl q)⟩
 refine codeAny_call_function hr.depth (KX _ _ lk) rfl S.co S.gen rfl (PySem.W.codeRec_of KX hcd) (hb _ _ _ _ ?_)
 refine wpAny_newFunctionEnv_cells S.kind hkind fun env he s1 x=>?_
 subst he
 refine ⟨lim.keeps x.toInCall.keep,codeAny_func ?_⟩
 obtain ⟨t,ht,hq⟩:=hbody A outer s H vs Q E (hr.deeper _) hsp
 have I:Inv (uF CX P w K mg base N qual scope f cdv A outer s H E) [] (start N vs) H s1:=iX S hr.hd e0 hl r x
 refine wpAny_mono (ht [] s1 (start N vs) H _ I hq) (fun fl s' hs=>?_) fun e s' hs=>hs
 have fin:∀ {σ':St} {H':Hp} {v:V} {u:Value},Inv (uF CX P w K mg base N qual scope f cdv A outer s H E) [] σ' H' s'→RelV v u→Q v H'→CE outer P w H s Q u s' :=
  fun {σ' H' v u} J rv q=>⟨v,H',J.os,J.bare,J.base,J.hok,rv,q⟩
 cases fl with
 | ret u =>
  obtain ⟨v,σ',H',J,rv,q⟩:=hs
  exact fin J rv q
 | next =>
  obtain ⟨σ',H',J,q⟩:=hs
  exact fin (v:=V.non) (u:=Value.none) J rfl q
 | brk =>
  obtain ⟨_,_,_,q⟩:=hs
  exact False.elim q
 | cont =>
  obtain ⟨_,_,_,q⟩:=hs
  exact False.elim q
end L2
namespace L2
open PySem PySem.Spec PyProof.Rows
section
variable {X:Cx}{x:Str}{p pos:Pos}{e:Expr}{es:List Expr}{t:TA}{id T:String}{r:List V→Hp→VK→Prop}
def tCB (r:List V→Hp→VK→Prop)(t:TA):TE:=fun σ H Q=>t σ H fun vs H1=>r vs H1 Q
theorem qM (hc:zD X (.builtin id) r)(hg:Gl X x)(hm:X.mg x=none)(hv:bootBuiltins x=some (.builtin id))(ha:PA X (e :: es) t)(hn:x ≠ "__name__" := by decide) (hdb:(x == ("__debug__" : Str))=false:=by decide)
  (he:starEach (e :: es) X.env=(false,eval e X.env) :: starEach es X.env:=by rfl) (hpl:(backTo pos (starEach es X.env)).any (·.1)=false:=by rfl):PE X (.Call (.Name x p) (e :: es) [] pos) (tCB r t):=by
 intro pins s σ H Q I h
 refine wpAny_Call_Name_kw (gD I hg hm hv ?_ hn hdb)
 exact PyProof.Rows.callWith_builtin1 (jJ (ha pos pins s σ H _ I h) fun us s1 ⟨vs,H1,I1,r1,q1⟩=>hc pins s1 σ H1 vs us Q I1 r1 q1) he hpl
theorem kM (hc:zD X (.type T) r)(hg:Gl X x)(hm:X.mg x=none)(hv:bootBuiltins x=some (.type T))(ha:PA X (e :: es) t)(hn:x ≠ "__name__" := by decide) (hdb:(x == ("__debug__" : Str))=false:=by decide)
  (he:starEach (e :: es) X.env=(false,eval e X.env) :: starEach es X.env:=by rfl) (hpl:(backTo pos (starEach es X.env)).any (·.1)=false:=by rfl):PE X (.Call (.Name x p) (e :: es) [] pos) (tCB r t):=by
 intro pins s σ H Q I h
 refine wpAny_Call_Name_kw (gD I hg hm hv ?_ hn hdb)
 exact Bk (jJ (ha pos pins s σ H _ I h) fun us s1 ⟨vs,H1,I1,r1,q1⟩=>hc pins s1 σ H1 vs us Q I1 r1 q1) he hpl
end
end L2
namespace HT
open PySem PyProof.Rows
def lexLt:List Int→List Int→Bool
 | [],[]=>false
 | [],_ :: _=>true
 | _ :: _,[]=>false
 | x :: xs,y :: ys=>if x=y then lexLt xs ys else decide (x < y)
theorem lexLt_cons (x y:Int)(xs ys:List Int):lexLt (x :: xs) (y :: ys)=if x=y then lexLt xs ys else decide (x < y):=rfl
theorem lexLt_nil_nil:lexLt [] [] = false:=rfl
section
open PySem.SeqAt
open PySem.AutoSeq1 (wpAny_loadPart')
open PySem.MeetsSeq PySem.MeetsSeq2 PySem.MeetsSeq3
end
section
variable {prog:Program}{w:World}{A:Around}{E:Value→Shared→Prop}{s:Shared}
theorem cat_tup {t b:Addr}{vs ws:List Value}{Q:Value→Shared→Prop}(ht:IsTup s.heap t vs.toArray)(hb:IsTup s.heap b ws.toArray)(hv:vs ≠ [])
  (h1:ws=[]→Q (.ref t) s) (h2:ws ≠ []→Q (.ref s.heap.objs.size) { s with heap:=s.heap.push { cls:=.type "tuple",data:=.seq (vs ++ ws).toArray } })
  (hsz:vs.length + ws.length ≤ sizeLine):wpAny (model prog w) A (binaryOp .Add (.ref t) (.ref b)) Q E s:=by
 obtain ⟨⟨cls,dd,data,sl⟩,ho,hc,n,hd⟩:=id ht
 obtain ⟨⟨cls2,dd2,data2,sl2⟩,ho2,hc2,n2,hd2⟩:=id hb
 simp only at hc hd hc2 hd2
 subst hc hd hc2 hd2
 have e:vs.toArray ++ ws.toArray=(vs ++ ws).toArray:=by simp
 by_cases hw:ws=[]
 ·exact concat_meets ⟨_,ho,rfl⟩ ⟨_,ho2,rfl⟩ noFill_tuple_add seq_tuple_add PySem.F.slot_tuple_add PySem.F.entry_tuple_add (PySem.F.args_tuple_add_2 _ _)
   (tuple_addW1 t b vs.toArray ws.toArray n n2 dd dd2 sl sl2 (by simpa using hv) (by simp [hw])) ⟨ho,ho2,h1 hw⟩
 ·refine concat_meets ⟨_,ho,rfl⟩ ⟨_,ho2,rfl⟩ noFill_tuple_add seq_tuple_add PySem.F.slot_tuple_add PySem.F.entry_tuple_add (PySem.F.args_tuple_add_2 _ _)
   (tuple_addW2 t b vs.toArray ws.toArray n n2 dd dd2 sl sl2 (by simpa using hv) (by simpa using hw) (by rw [Ak,Ak];exact hsz)) ⟨ho,ho2,?_⟩
  rw [e]
  exact h2 hw
def sIx (n d:Nat):Option Int→Nat
 | none=>d
 | some v=>if v < 0 then (v + (n:Int)).toNat else min v.toNat n
theorem sIx_none (n d:Nat):sIx n d none=d:=rfl
theorem sIx_nat (n d k:Nat):sIx n d (some (k:Int))=min k n:=by
 show (if (k:Int) < 0 then ((k:Int) + (n:Int)).toNat else min (k:Int).toNat n)=min k n
 rw [Ax (by omega),Ay]
theorem sIx_le (n d:Nat)(hd:d ≤ n)(o:Option Int):sIx n d o ≤ n:=by
 cases o with
 | none=>exact hd
 | some v =>
  show (if v < 0 then (v + (n:Int)).toNat else min v.toNat n) ≤ n
  by_cases hv:v < 0
  ·rw [Au hv];omega
  ·rw [Ax hv];exact Nat.min_le_right _ _
theorem eK (v:Int)(n d:Nat):(if v < 0 then max (v + (n:Int)) 0 else min v (n:Int))=((sIx n d (some v):Nat):Int):=by
 show (if v < 0 then max (v + (n:Int)) 0 else min v (n:Int))=(((if v < 0 then (v + (n:Int)).toNat else min v.toNat n):Nat):Int)
 by_cases hv:v < 0
 ·simp only [Au hv];omega
 ·simp only [Ax hv];omega
theorem uL (lo hi:Option Int)(n:Nat):Builtin.Slice.sliceAdjust lo hi 1 (n:Int)=(((sIx n 0 lo:Nat):Int),((sIx n n hi:Nat):Int)):=by
 have h1:¬ ((1:Int) < 0):=by omega
 unfold Builtin.Slice.sliceAdjust
 simp only [h1,B8]
 refine Prod.ext ?_ ?_
 ·cases lo with
  | none=>rfl
  | some v=>exact eK v n 0
 ·cases hi with
  | none=>rfl
  | some v=>exact eK v n n
theorem tL (i j:Nat):Builtin.Slice.slicePlaces (i:Int) (j:Int) 1=j - i:=by
 unfold Builtin.Slice.slicePlaces
 have h1:(1:Int) > 0:=by omega
 simp only [h1,BK,Int.ediv_one]
 split <;> omega
theorem bP {v:Value}{o:Option Int}{Q:Option Int→Shared→Prop}(p:IsPart v o)(h:Q o s):wpAny (model prog w) A (Builtin.Slice.slicePartIndex v) Q E s:=by
 cases p with
 | none=>exact slicePart_none h
 | int i t=>exact slicePart_int h
theorem sliceApplied_gen {sl:Addr}{vl vu:Value}{lo hi:Option Int}{n:Nat}{Q:Int × Int × Nat→Shared→Prop}(hs:s.heap.IsSliceOf sl vl vu .none)(pl:IsPart vl lo)(pu:IsPart vu hi)
  (h:Q (((sIx n 0 lo:Nat):Int),1,sIx n n hi - sIx n 0 lo) s):wpAny (model prog w) A (Builtin.Slice.sliceApplied (.ref sl) (pure (n:Int))) Q E s:=by
 obtain ⟨os,gY,hcs,hds⟩:=id hs
 unfold Builtin.Slice.sliceApplied Builtin.Slice.sliceFields
 refine wpAny_bind (wpAny_bind (wpAny_field gY hds (x:=vl) rfl (wpAny_bind (wpAny_field gY hds (x:=vu) rfl (wpAny_bind (wpAny_field gY hds (x:=.none) rfl (wpAny_pure ?_)))))))
 refine wpAny_bind (slicePart_none ?_)
 show wpAny _ _ (if ((1:Int) == 0)=true then _ else _) _ _ s
 rw [Ax (by decide)]
 refine wpAny_bind (bP pl (wpAny_bind (bP pu (wpAny_bind (wpAny_pure ?_)))))
 show wpAny _ _ (match Builtin.Slice.sliceAdjust lo hi 1 (n:Int) with | (lo,hi)=>pure (lo,(1:Int),Builtin.Slice.slicePlaces lo hi 1)) _ _ s
 rw [uL lo hi n]
 show wpAny _ _ (pure (((sIx n 0 lo:Nat):Int),(1:Int),Builtin.Slice.slicePlaces ((sIx n 0 lo:Nat):Int) ((sIx n n hi:Nat):Int) 1)) _ _ s
 rw [tL]
 exact wpAny_pure h
theorem pick_gen (xs:Array Value)(i k:Nat):((List.range k).filterMap fun (m:Nat)=>xs[((i:Int) + (m:Int) * 1).toNat]?).toArray=((xs.toList.drop i).take k).toArray:=by
 have e:(fun (m:Nat)=>xs[((i:Int) + (m:Int) * 1).toNat]?)=fun m=>xs[i + m]? := by
  funext m
  have:((i:Int) + (m:Int) * 1).toNat=i + m:=by omega
  rw [this]
 rw [e]
 have:=pick_run xs i k
 rw [List.filterMap_map] at this
 have e2:((fun x=>xs[x]?) ∘ fun x=>i + x)=fun m=>xs[i + m]? := rfl
 rw [e2] at this
 rw [this]
theorem getItem_tuple_cut {t sl:Addr}{items:Array Value}{vl vu:Value}{lo hi:Option Int}{Q:Value→Shared→Prop}(ht:IsTup s.heap t items)(hs:s.heap.IsSliceOf sl vl vu .none)(pl:IsPart vl lo)(pu:IsPart vu hi)
  (hw:¬ (sIx items.size 0 lo=0∧sIx items.size items.size hi=items.size))
  (h:Q (.ref s.heap.objs.size) { s with heap:=s.heap.push { cls:=.type "tuple",data:=.seq ((items.toList.drop (sIx items.size 0 lo)).take (sIx items.size items.size hi - sIx items.size 0 lo)).toArray } })
  (hsz:items.size ≤ sizeLine):wpAny (model prog w) A (getItem (.ref t) (.ref sl)) Q E s:=by
 have htake:sizeOk (.seq ((items.toList.drop (sIx items.size 0 lo)).take (sIx items.size items.size hi - sIx items.size 0 lo)).toArray):=by
  show ((items.toList.drop (sIx items.size 0 lo)).take (sIx items.size items.size hi - sIx items.size 0 lo)).toArray.size ≤ sizeLine
  rw [Ak,An,Bg,Cc]
  omega
 have hj:sIx items.size items.size hi ≤ items.size:=sIx_le _ _ (Ad _) hi
 obtain ⟨os,gY,hcs,hds⟩:=id hs
 have hTs:s.TypeIs (.ref sl) "slice" := ⟨os,gY,hcs⟩
 unfold getItem
 try with_reducible refine wpAny_holding ?_
 first | refine wpAny_bind (wpAny_pure ?_) | skip
 refine wpAny_bind (wpAny_sequenceKey ht.typeIs (by decide) ?_)
 refine wpAny_bind (wpAny_callSpecial?_slot (name:=Str.ofString "__getitem__") ht.typeIs BH
  (wpAny_call_entry BH ht.typeIs entry_tuple_getitem ?_ (args_tuple_getitem _ _)))
 show wpAny _ _ (Builtin.Tuple.tupleItemsOf (.ref t) >>= _) _ _ s
 refine wpAny_bind (tupleItemsOf_ ht ?_)
 refine wpAny_bind (wpAny_typeOf hTs ?_)
 rw [Au (by decide)]
 refine wpAny_bind (sliceApplied_gen hs pl pu ?_)
 have hno:¬ ((((sIx items.size 0 lo:Nat):Int) == 0 && (1:Int) == 1 && (sIx items.size items.size hi - sIx items.size 0 lo) == items.size)=true):=by
  intro q
  rw [AE,AE] at q
  have q1:((sIx items.size 0 lo:Nat):Int)=0:=eq_of_beq q.1.1
  have q2:sIx items.size items.size hi - sIx items.size 0 lo=items.size:=eq_of_beq q.2
  exact hw ⟨by omega,by omega⟩
 show wpAny _ _ (if (((sIx items.size 0 lo:Nat):Int) == 0 && (1:Int) == 1 && (sIx items.size items.size hi - sIx items.size 0 lo) == items.size)=true then _ else _) _ _ s
 rw [Ax hno,pick_gen]
 first
  | exact wpAny_bind (m:=Builtin.Tuple.tupleExact _) (wpAny_newObj_type (wpAny_pure ⟨_,rfl,wpAny_pure h⟩) htake)
  | exact wpAny_bind (m:=Builtin.Tuple.tupleExact _) (wpAny_newObj_type (wpAny_bind (wpAny_pure (wpAny_pure ⟨_,rfl,wpAny_pure h⟩))) htake)
  | exact wpAny_bind (wpAny_bind (m:=Builtin.Tuple.tupleExact _) (wpAny_newObj_type (wpAny_pure (wpAny_pure ⟨_,rfl,wpAny_pure h⟩)) htake))
  | exact wpAny_bind (wpAny_bind (m:=Builtin.Tuple.tupleExact _) (wpAny_newObj_type (wpAny_pure ⟨_,rfl,wpAny_pure h⟩) htake))
end
end HT
namespace L2
open PySem PySem.Spec PyProof.Rows
abbrev TO:=St→Hp→(Option Int→Hp→Prop)→Prop
def PO (X:Cx)(e:Option Expr)(t:TO):Prop :=
 ∀ (pins:List (Addr × Obj)) (s:Shared) (σ:St) (H:Hp) (Q:Option Int→Hp→Prop),Inv X pins σ H s→t σ H Q →
  wpAny (model X.prog X.w) X.A (evalPart e X.env) (fun u s'=>∃ o H',Inv X pins σ H' s'∧IsPart u o∧Q o H') X.xe s
def uV:TO:=fun _ H Q=>Q none H
def tPart (t:TE):TO:=fun σ H Q=>t σ H fun x H1=>∃ i,x = .int i∧Q (some i) H1
theorem intsAre_of {ns:List Int}:∀ {us:List Value},Vals (ns.map V.int) us→IntsAre us ns:=by
 induction ns with
 | nil=>intro us r;rw [CF] at r;cases r;exact .nil
 | cons n ns ih =>
  intro us r
  rw [AN] at r
  cases r with
  | cons r1 r2 =>
   obtain ⟨t,e⟩:=r1
   subst e
   exact .cons n t (ih r2)
section
variable {X:Cx}{e:Expr}{te:TE}{lo hi:Option Expr}{tl th:TO}{pos p2:Pos}
theorem zR:PO X none uV:=by
 intro pins s σ H Q I h
 rw [evalPart_none]
 exact wpAny_pure ⟨none,H,I,.none,h⟩
theorem zQ (h:PE X e te):PO X (some e) (tPart te):=by
 intro pins s σ H Q I hw
 rw [evalPart_some]
 refine jJ (h pins s σ H _ I hw) fun u s1 ⟨x,H1,I1,r1,q1⟩=>?_
 obtain ⟨i,rfl,q⟩:=q1
 obtain ⟨t,rfl⟩:=r1
 exact ⟨some i,H1,I1,.int i t,q⟩
def SlR (X:Cx)(r:V→Option Int→Option Int→Hp→VK→Prop):Prop :=
 ∀ (pins:List (Addr × Obj)) (s:Shared) (σ:St) (H:Hp) (x:V) (v vl vu:Value) (lo hi:Option Int) (sl:Addr) (Q:VK),Inv X pins σ H s→RelV x v→s.heap.IsSliceOf sl vl vu .none→IsPart vl lo→IsPart vu hi→r x lo hi H Q →
  ∃ T id,typeLookup (.type T) "__getitem__" = pure (some (.builtin id))∧s.TypeIs v T∧wpAny (model X.prog X.w) X.A (getItem v (.ref sl)) (EP X pins σ Q) X.xe s
def tSl (r:V→Option Int→Option Int→Hp→VK→Prop)(te:TE)(tl th:TO):TE:=fun σ H Q=>te σ H fun x H1=>tl σ H1 fun l H2=>th σ H2 fun u H3=>r x l u H3 Q
theorem j9 {r:V→Option Int→Option Int→Hp→VK→Prop}(hr:SlR X r)(he:PE X e te)(hl:PO X lo tl)(hu:PO X hi th):PE X (.Subscript e (.Slice lo hi none p2) pos) (tSl r te tl th):=by
 intro pins s σ H Q I h
 refine Subscript_ (jJ (he pins s σ H _ I h) fun v s1 ⟨x,H1,I1,r1,q1⟩=>?_)
 refine wpAny_Slice (jJ (hl pins s1 σ H1 _ I1 q1) fun vl s2 ⟨l,H2,I2,pl,q2⟩=>jJ (hu pins s2 σ H2 _ I2 q2) fun vu s3 ⟨u,H3,I3,pu,q3⟩=>?_)
 rw [evalPart_none]
 refine wpAny_pure ?_
 have I4:Inv X pins σ H3 { s3 with heap:=s3.heap.push { cls:=.type "slice",data:=.fields #[vl,vu,.none] } }:=I3.kept (t':=s3.toks) fun b ob q=>Ac _ q
 obtain ⟨T,id,hT,ht,hg⟩:=hr pins { s3 with heap:=s3.heap.push { cls:=.type "slice",data:=.fields #[vl,vu,.none] } } σ H3 x v vl vu l u s3.heap.objs.size Q I4 r1 (Heap.IsSliceOf.new ..) pl pu q3
 show wpAny (model X.prog X.w) X.A (subscriptTail e (.Slice lo hi none p2) v (.ref s3.heap.objs.size)) (EP X pins σ Q) X.xe { s3 with heap:=s3.heap.push { cls:=.type "slice",data:=.fields #[vl,vu,.none] } }
 exact tail_any (ops:=[.ref s3.heap.objs.size,v]) ht hT hg (by with_unfolding_all rfl)
def zP (xs:List V)(lo hi:Option Int):List V:=(xs.drop (HT.sIx xs.length 0 lo)).take (HT.sIx xs.length xs.length hi - HT.sIx xs.length 0 lo)
theorem wK (xs:List V)(lo hi:Option Int):(zP xs lo hi).length ≤ xs.length:=by
 unfold zP
 rw [An,Bg]
 exact AG (Nat.min_le_right _ _) (Nat.sub_le _ _)
def rSlT (K:PySem.W.Frag):V→Option Int→Option Int→Hp→VK→Prop:=fun x lo hi H Q=>∃ a xs,x = .ref a∧SqT K H a xs ∧
 ¬ (HT.sIx xs.length 0 lo=0∧HT.sIx xs.length xs.length hi=xs.length)∧∀ p,H p=none→Q (.ref p) (upd H p (.tup (zP xs lo hi)))
theorem sl_tup:SlR X (rSlT X.K):=by
 intro pins s σ H x v vl vu lo hi sl Q I rx hs pl pu h
 obtain ⟨a,xs,rfl,hx,hw,q⟩:=h
 cases rx
 obtain ⟨its,r,ht,hz⟩:=I.tuple hx
 have hlen:its.toArray.size=xs.length:=by rw [Ak];exact r.length.symm
 refine ⟨"tuple",_,BH.lookup,ht.typeIs,?_⟩
 refine HT.getItem_tuple_cut ht hs pl pu (by rw [hlen];exact hw) ?_ (by rw [hlen];exact hz)
 rw [hlen]
 refine ⟨.ref s.heap.objs.size,_,I.laid (t':=s.toks) (o:=.tup (zP xs lo hi)) (fun b ob q=>Ac _ q) (Ad _) ?_,rfl,q _ (I.hok.fresh (Ad _))⟩
 exact ⟨AG (wK xs lo hi) hz,_,(r.drop (HT.sIx xs.length 0 lo)).take (HT.sIx xs.length xs.length hi - HT.sIx xs.length 0 lo),Ct _ _⟩
def rCatT (K:PySem.W.Frag):R2:=fun x y H Q=>∃ a b xs ys,x = .ref a∧y = .ref b∧SqT K H a xs∧SqT K H b ys∧xs ≠ []∧xs.length + ys.length ≤ sizeLine ∧
 (ys=[]→Q (.ref a) H)∧(ys ≠ []→∀ p,H p=none→Q (.ref p) (upd H p (.tup (xs ++ ys))))
theorem Vals.nil_iff {xs:List V}{us:List Value}(r:Vals xs us):us=[] ↔ xs=[]:=by
 cases r with
 | nil=>simp
 | cons _ _=>simp
theorem op_catT:vR X (binaryOp .Add) (rCatT X.K):=by
 intro pins s σ H x y v u Q I rx ry h
 obtain ⟨a,b,xs,ys,rfl,rfl,ha,hb,hx,hz,q1,q2⟩:=h
 cases rx
 cases ry
 obtain ⟨its,r1,p1,_⟩:=I.tuple ha
 obtain ⟨its2,r2,p2,_⟩:=I.tuple hb
 refine HT.cat_tup p1 p2 (fun z=>hx (r1.nil_iff.mp z)) (fun z=>⟨.ref a,H,I,rfl,q1 (r2.nil_iff.mp z)⟩) (fun z=>?_) (by rw [← r1.length,← r2.length];exact hz)
 refine ⟨.ref s.heap.objs.size,_,I.laid (t':=s.toks) (o:=.tup (xs ++ ys)) (fun b ob q=>Ac _ q) (Ad _) ?_,rfl,q2 (fun w=>z (r2.nil_iff.mpr w)) _ (I.hok.fresh (Ad _))⟩
 exact ⟨by rw [Ar];exact hz,_,r1.append r2,Ct _ _⟩
end
end L2
namespace L2
open PySem PySem.Spec PyProof.Rows
def rX (n:Nat)(i:Int):Option Nat:=if 0 ≤ i then (if i < n then some i.toNat else none) else if -(n:Int) ≤ i then some (i + n).toNat else none
def xH {α:Type}(xs:List α)(i:Int):Option α:=(rX xs.length i).bind fun j=>xs[j]?
theorem aV {n:Nat}{i:Int}{j:Nat}(h:rX n i=some j):seqIndex? i n=some j∧j < n∧-(n:Int) ≤ i∧i < n:=by
 unfold rX at h
 by_cases h0:0 ≤ i
 ·rw [Au h0] at h
  by_cases h1:i < n
  ·rw [Au h1] at h
   have e:i.toNat=j:=A9 h
   exact ⟨by rw [seqIndex_of h0 h1,e],by omega,by omega,h1⟩
  ·rw [Ax h1] at h;cases h
 ·rw [Ax h0] at h
  by_cases h1 : -(n:Int) ≤ i
  ·rw [Au h1] at h
   have e:(i + n).toNat=j:=A9 h
   exact ⟨by rw [seqIndex_neg (by omega) h1,e],by omega,h1,by omega⟩
  ·rw [Ax h1] at h;cases h
theorem eR {α:Type}{xs:List α}{i:Int}{v:α}(h:xH xs i=some v):∃ j,seqIndex? i xs.length=some j∧xs[j]? = some v∧j < xs.length∧-(xs.length:Int) ≤ i∧i < xs.length:=by
 unfold xH at h
 cases e:rX xs.length i with
 | none=>rw [e] at h;cases h
 | some j =>
  rw [e] at h
  obtain ⟨h1,h2,h3,h4⟩:=aV e
  exact ⟨j,h1,h,h2,h3,h4⟩
theorem zL {α:Type}{xs:List α}{j:Nat}{v:α}(h:xs[j]? = some v):xH xs (j:Int)=some v:=by
 have hj:j < xs.length:=(Ae.mp h).1
 have e:rX xs.length (j:Int)=some j:=by
  unfold rX
  rw [Au (by omega),Au (by omega)];simp
 unfold xH;rw [e];exact h
theorem atI_last {α:Type}(xs:List α)(v:α):xH (xs ++ [v]) (-1)=some v:=by
 have hl:(xs ++ [v]).length=xs.length + 1:=by simp
 have e:rX (xs ++ [v]).length (-1)=some xs.length:=by
  unfold rX
  rw [hl,Ax (by decide),Au (by omega)]
  congr 1
  omega
 unfold xH
 rw [e]
 show (xs ++ [v])[xs.length]? = some v
 simp
def eU (b:Expr):Prop:=∀ o i,subscripted b false o i=operate [o,i] (getItem o i)
def IxR (X:Cx)(r:R2):Prop :=
 ∀ (value slice:Expr) (pins:List (Addr × Obj)) (s:Shared) (σ:St) (H:Hp) (x y:V) (v u:Value) (Q:VK),Inv X pins σ H s→RelV x v→RelV y u→r x y H Q →
  subscripted slice false v u=operate [v,u] (getItem v u)→wpAny (model X.prog X.w) X.A (subscriptTail value slice v u) (EP X pins σ Q) X.xe s
section
variable {X:Cx}{a b:Expr}{ta tb:TE}{pos:Pos}
theorem q9 {r:R2}(hr:IxR X r)(ha:PE X a ta)(hb:PE X b tb)(hs:eU b):PE X (.Subscript a b pos) (tOp r ta tb):=by
 intro pins s σ H Q I h
 exact Subscript_ (binT ha hb I h fun v u s2 x y H2 I2 rx ry q=>hr a b pins s2 σ H2 x y v u Q I2 rx ry q (hs _ _))
def rIxL (K:PySem.W.Frag):R2:=fun x y H Q=>∃ p xs i v,x = .ref p∧y = .int i∧SqL K H p xs∧xH xs i=some v∧Q v H
def rIxT (K:PySem.W.Frag):R2:=fun x y H Q=>∃ p xs i v,x = .ref p∧y = .int i∧SqT K H p xs∧xH xs i=some v∧Q v H
theorem ix_list:IxR X (rIxL X.K):=by
 intro value slice pins s σ H x y v u Q I rx ry h hs
 obtain ⟨p,xs,i,z,rfl,rfl,hq,he,q⟩:=h
 cases rx
 obtain ⟨t,rfl⟩:=ry
 obtain ⟨its,r,pl,hz⟩:=I.list hq
 obtain ⟨j,h1,h2,h3,h4,h5⟩:=eR he
 obtain ⟨w,ew,rw'⟩:=r.get h2
 have hl:=r.length
 have hn:=lL
 have fin:EP X pins σ Q w s:=⟨z,H,I,rw',q⟩
 by_cases h0:0 ≤ i
 ·have hj:i.toNat=j:=by
   rw [seqIndex_of h0 h5] at h1
   exact A9 h1
  exact item_listR pl.isList h0 (by omega) (by rw [hj];simpa using ew) fin hs
 ·have hj:(i + (its.toArray.size:Int)).toNat=j:=by
   rw [seqIndex_neg (by omega) h4] at h1
   rw [Ak,← hl]
   exact A9 h1
  exact subscriptTail_builtinR (x:=w) pl.isList.typeIs slot_list_getitem.lookup
   (wpAny_getItem_list_neg (Q:=fun r s'=>r=w∧EP X pins σ Q r s') pl.isList (by omega) (by rw [Ak] <;> omega) (by omega) (by rw [hj];simpa using ew) ⟨rfl,fin⟩) hs
theorem ix_tup:IxR X (rIxT X.K):=by
 intro value slice pins s σ H x y v u Q I rx ry h hs
 obtain ⟨p,xs,i,z,rfl,rfl,hq,he,q⟩:=h
 cases rx
 obtain ⟨t,rfl⟩:=ry
 obtain ⟨its,r,pl,hz⟩:=I.tuple hq
 obtain ⟨j,h1,h2,h3,h4,h5⟩:=eR he
 obtain ⟨w,ew,rw'⟩:=r.get h2
 have hl:=r.length
 have hn:=lL
 have fin:EP X pins σ Q w s:=⟨z,H,I,rw',q⟩
 exact subscriptTail_builtinR (x:=w) pl.typeIs slot_tuple_getitem.lookup
  (getItem_tuple (j:=j) (Q:=fun r s'=>r=w∧EP X pins σ Q r s') pl (by omega) (by omega) (by rw [Ak,← hl];exact h1) (by simpa using ew) ⟨rfl,fin⟩) hs
theorem tY (its:List Value)(n j:Nat)(u:Value):Obj.mapSeq (·.setIfInBounds j u) { cls:=.type "list",data:=.seq its.toArray n } = { cls:=.type "list",data:=.seq (its.set j u).toArray n }:=by
 simp [Obj.mapSeq]
theorem Inv.lst {pins:List (Addr × Obj)}{σ:St}{H:Hp}{s:Shared}{p:Addr}{xs:List V}(I:Inv X pins σ H s)(h:H p=some (.lst xs)) :
  ∃ (its:List Value) (n:Nat),Vals xs its∧s.heap.get? p=some { cls:=.type "list",data:=.seq its.toArray n }∧xs.length ≤ sizeLine:=by
 obtain ⟨z,its,n,r,e⟩:=I.hok p _ h
 exact ⟨its,n,r,e,z⟩
theorem Inv.lstUpd {pins:List (Addr × Obj)}{σ:St}{H:Hp}{s:Shared}{p:Addr}{xs ys:List V}{its its':List Value}{n n':Nat}{f:Obj→Obj}(I:Inv X pins σ H s)(h:H p=some (.lst xs))
  (ho:s.heap.get? p=some { cls:=.type "list",data:=.seq its.toArray n }) (hf:f { cls:=.type "list",data:=.seq its.toArray n } = { cls:=.type "list",data:=.seq its'.toArray n' }) (r:Vals ys its') (hz:ys.length ≤ sizeLine) (t:Nat) :
  Inv X pins σ (upd H p (.lst ys)) { s with heap:=s.heap.update p f,toks:=t }:=by
 have e:(s.heap.update p f).get? p=some { cls:=.type "list",data:=.seq its'.toArray n' }:=by
  rw [BV f ho (by rw [hf] <;> rfl),hf]
 refine I.write (x:=p) (e:=p) (by rw [h];trivial) (.inl rfl) (fun b u hb q=>(AX _ _ (Cq hb)).trans q) ⟨_,e⟩ ?_
 exact ⟨hz,its',n',r,e⟩
def rSetL:V→V→V→Hp→(Hp→Prop)→Prop:=fun o i v H Q=>∃ p xs k j,o = .ref p∧i = .int k∧H p=some (.lst xs)∧rX xs.length k=some j∧Q (upd H p (.lst (xs.set j v)))
theorem set_list:PSet X rSetL:=by
 intro pins s σ H o i v ov iv u Q I ro ri rv h
 obtain ⟨p,xs,k,j,rfl,rfl,hp,hj,q⟩:=h
 cases ro
 obtain ⟨t,rfl⟩:=ri
 obtain ⟨its,n,r,ho,hz⟩:=I.lst hp
 obtain ⟨h1,h2,h3,h4⟩:=aV hj
 have hl:=r.length
 have hn:=lL
 have I':Inv X pins σ (upd H p (.lst (xs.set j v))) { s with heap:=s.heap.update p (Obj.mapSeq (·.setIfInBounds j u)) } :=
  I.lstUpd hp ho (tY its n j u) (r.set rv j) (by rw [List.length_set];exact hz) s.toks
 by_cases h0:0 ≤ k
 ·have hk:k.toNat=j:=by
   rw [seqIndex_of h0 h4] at h1
   exact A9 h1
  exact PySem.W.ki_setAt ho h0 (by omega) (by rw [Ak,← hl];exact h4) (by rw [hk];exact ⟨_,I',q⟩)
 ·have hk:(k + (its.toArray.size:Int)).toNat=j:=by
   rw [seqIndex_neg (by omega) h3] at h1
   rw [Ak,← hl]
   exact A9 h1
  exact PySem.W.ki_setBack ho (by omega) (by rw [Ak,← hl];exact h3) (by omega) (by rw [hk];exact ⟨_,I',q⟩)
theorem clip0 (i:Int)(n:Nat):max 0 (min (if i < 0 then i + (n:Int) else i) (n:Int))=(((if i < 0 then (i + (n:Int)).toNat else min i.toNat n):Nat):Int):=by
 by_cases h:i < 0
 ·rw [Au h,Au h,Int.min_eq_left (by omega),Int.ofNat_toNat,Int.max_comm]
 ·have z:0 ≤ i:=Int.not_lt.mp h
  obtain ⟨k,rfl⟩:=AL z
  rw [Ax h,Ax h,Ay];exact (Int.max_eq_right (Int.le_min.mpr ⟨z,Int.natCast_nonneg n⟩)).trans (by omega)
theorem lE (lo hi:Option Int)(n:Nat):(sliceBounds lo hi none n).1=((HT.sIx n 0 lo:Nat):Int)∧(sliceBounds lo hi none n).2.1=((HT.sIx n n hi:Nat):Int)∧(sliceBounds lo hi none n).2.2=1:=by
 exact ⟨by cases lo with | none=>simp [sliceBounds,HT.sIx] | some i=>exact clip0 i n,by cases hi with | none=>simp [sliceBounds,HT.sIx] | some i=>exact clip0 i n,rfl⟩
theorem mH (its:List Value)(lo hi:Option Int):slicePick its.toArray lo hi none=((its.drop (HT.sIx its.length 0 lo)).take (HT.sIx its.length its.length hi - HT.sIx its.length 0 lo)).toArray:=by
 obtain ⟨h1,h2,h3⟩:=lE lo hi its.toArray.size
 unfold slicePick
 rw [h1,h2,h3]
 simp only [sliceRange_one,pick_run,Ak] <;> rfl
def rSlL (K:PySem.W.Frag):V→Option Int→Option Int→Hp→VK→Prop:=fun x lo hi H Q=>∃ a xs,x = .ref a∧SqL K H a xs∧∀ p,H p=none→Q (.ref p) (upd H p (.lst (zP xs lo hi)))
theorem sl_list:SlR X (rSlL X.K):=by
 intro pins s σ H x v vl vu lo hi sl Q I rx hs pl pu h
 obtain ⟨a,xs,rfl,hx,q⟩:=h
 cases rx
 obtain ⟨its,r,ht,hz⟩:=I.list hx
 have hlen:=r.length
 refine ⟨"list",_,slot_list_getitem.lookup,ht.isList.typeIs,?_⟩
 refine wpAny_getItem_list_slice ht.isList hs pl pu .none (by simp) ?_ (by rw [Ak] <;> omega)
 rw [mH,← hlen]
 refine ⟨.ref s.heap.objs.size,_,I.laid (t':=s.toks) (o:=.lst (zP xs lo hi)) (fun b ob q=>Ac _ q) (Ad _) ?_,rfl,q _ (I.hok.fresh (Ad _))⟩
 exact ⟨AG (wK xs lo hi) hz,_,0,(r.drop (HT.sIx xs.length 0 lo)).take (HT.sIx xs.length xs.length hi - HT.sIx xs.length 0 lo),Ao _ rfl⟩
def vQ:V→Bool
 | .non=>true
 | .bl _=>true
 | .int _=>true
 | .str _=>true
 | _=>false
def sP:V→V→Bool
 | .non,.non=>true
 | .bl a,.bl b=>a == b
 | .bl a,.int b=>(if a then 1 else 0) == b
 | .int a,.bl b=>a == (if b then 1 else 0)
 | .int a,.int b=>a == b
 | .str a,.str b=>a == b
 | _,_=>false
theorem fV {A:Around}{s:Shared}{y x:V}{u v:Value}(ry:RelV y u)(rx:RelV x v)(fy:vQ y=true)(fx:vQ x=true):SeqAt.EqAt A s u v (sP y x):=by
 cases y with
 | non =>
  cases ry
  cases x with
  | non=>cases rx;exact C2 _
  | bl b=>cases rx;exact SeqAt.EqAt.none_bool b
  | int b=>obtain ⟨t,rfl⟩:=rx;exact SeqAt.EqAt.none_int b t
  | str b=>obtain ⟨t,rfl⟩:=rx;exact SeqAt.EqAt.none_str b t
  | _=>exact absurd (show false=true from fx) A0
 | bl a =>
  cases ry
  cases x with
  | non=>cases rx;exact SeqAt.EqAt.bool_none a
  | bl b=>cases rx;exact SeqAt.EqAt.bool_bool a b
  | int b=>obtain ⟨t,rfl⟩:=rx;exact SeqAt.EqAt.bool_int a b t
  | str b=>obtain ⟨t,rfl⟩:=rx;exact SeqAt.EqAt.bool_str a b t
  | _=>exact absurd (show false=true from fx) A0
 | int a =>
  obtain ⟨t',rfl⟩:=ry
  cases x with
  | non=>cases rx;exact SeqAt.EqAt.int_none a t'
  | bl b=>cases rx;exact SeqAt.EqAt.int_bool a t' b
  | int b=>obtain ⟨t,rfl⟩:=rx;exact SeqAt.EqAt.int_int a t' b t
  | str b=>obtain ⟨t,rfl⟩:=rx;exact SeqAt.EqAt.int_str a t' b t
  | _=>exact absurd (show false=true from fx) A0
 | str a =>
  obtain ⟨t',rfl⟩:=ry
  cases x with
  | non=>cases rx;exact SeqAt.EqAt.str_none a t'
  | bl b=>cases rx;exact SeqAt.EqAt.str_bool a t' b
  | int b=>obtain ⟨t,rfl⟩:=rx;exact SeqAt.EqAt.str_int a t' b t
  | str b=>obtain ⟨t,rfl⟩:=rx;exact SeqAt.EqAt.str_str a t' b t
  | _=>exact absurd (show false=true from fx) A0
 | _=>exact absurd (show false=true from fy) A0
def eqU (x:V)(u:Value):Bool:=match u with
 | .none=>sP .non x
 | .bool b=>sP (.bl b) x
 | .int i _=>sP (.int i) x
 | .str z _=>sP (.str z) x
 | _=>false
theorem eqU_of {x y:V}{u:Value}(r:RelV y u)(f:vQ y=true):eqU x u=sP y x:=by
 cases y with
 | non=>cases r;rfl
 | bl b=>cases r;rfl
 | int i=>obtain ⟨t,rfl⟩:=r;rfl
 | str z=>obtain ⟨t,rfl⟩:=r;rfl
 | _=>exact absurd (show false=true from f) A0
theorem pE {x:V}:∀ {xs:List V} {us:List Value},Vals xs us→xs.all vQ=true→us.any (eqU x)=xs.any fun y=>sP y x
 | _,_,.nil,_=>rfl
 | y :: xs,u :: us,.cons r t,f=>by
  rw [Cf,AE] at f
  rw [List.any_cons,List.any_cons,eqU_of r f.1,pE t f.2]
theorem cO {A:Around}{s:Shared}{x:V}{v:Value}(rx:RelV x v)(fx:vQ x=true):∀ {xs:List V} {us:List Value},Vals xs us→xs.all vQ=true→∀ u ∈ us,SeqAt.EqAt A s u v (eqU x u)
 | _,_,.nil,_=>fun u hu=>by cases hu
 | y :: xs,u :: us,.cons r t,f=>fun u' hu=>by
  rw [Cf,AE] at f
  rcases A3.mp hu with rfl | hu
  ·rw [eqU_of r f.1];exact fV r rx f.1 fx
  ·exact cO rx fx t f.2 u' hu
def inV (x:V)(xs:List V):Bool:=xs.any fun y=>sP y x
def rIn (K:PySem.W.Frag)(neg:Bool):R2:=fun x y H Q=>∃ p xs,y = .ref p∧(SqL K H p xs∨SqT K H p xs)∧vQ x=true∧xs.all vQ=true∧Q (.bl (if neg then !inV x xs else inV x xs)) H
theorem iG:vR X (compareOp .In) (rIn X.K false):=by
 intro pins s σ H x y v u Q I rx ry h
 obtain ⟨p,xs,rfl,hq,fx,fs,q⟩:=h
 cases ry
 rcases hq with hq | hq
 ·obtain ⟨its,r,pl,hz⟩:=I.list hq
  refine SeqAt.in_listAt (eqU x) pl.isList (fun w hw=>cO rx fx r fs w (by simpa using hw)) ⟨.bl _,H,I,rfl,?_⟩
  rw [show its.toArray.any (eqU x)=its.any (eqU x) by simp,pE r fs]
  exact q
 ·obtain ⟨its,r,pl,hz⟩:=I.tuple hq
  refine SeqAt.in_tupleAt (eqU x) pl (fun w hw=>cO rx fx r fs w (by simpa using hw)) ⟨.bl _,H,I,rfl,?_⟩
  rw [show its.toArray.any (eqU x)=its.any (eqU x) by simp,pE r fs]
  exact q
theorem lW:zD X (.builtin "len") (fun xs H Q=>∃ p ys,xs=[.ref p]∧(SqL X.K H p ys∨SqT X.K H p ys)∧Q (.int ys.length) H):=by
 intro pins s σ H xs us Q I r h
 obtain ⟨p,ys,rfl,hq,q⟩:=h
 obtain ⟨u,rfl,rx⟩:=vals1 r
 cases rx
 have hn:=lL
 rcases hq with hq | hq
 ·obtain ⟨its,r',pl,hz⟩:=I.list hq
  have hlen:=r'.length
  exact Calls.call_len_list pl.isList (by simp only [Ak] <;> omega) ⟨.int ys.length,H,I.tok _,⟨s.toks + 1,by rw [Ak,hlen]⟩,q⟩
 ·obtain ⟨its,r',pl,hz⟩:=I.tuple hq
  have hlen:=r'.length
  exact len_tuple pl (by simp only [Ak] <;> omega) ⟨.int ys.length,H,I.tok _,⟨s.toks + 1,by rw [Ak,hlen]⟩,q⟩
theorem fB:zD X (.type "list") (fun xs H Q=>∃ p ys,xs=[.ref p]∧(SqL X.K H p ys∨SqT X.K H p ys)∧∀ l,H l=none→Q (.ref l) (upd H l (.lst ys))):=by
 intro pins s σ H xs us Q I r h
 obtain ⟨p,ys,rfl,hq,q⟩:=h
 obtain ⟨u,rfl,rx⟩:=vals1 r
 cases rx
 have fin:∀ (its:List Value),Vals ys its→ys.length ≤ sizeLine→∀ (h':Heap) (c':Nat),(∀ b o',s.heap.get? b=some o'→h'.get? b=some o') →
   h'.get? s.heap.objs.size=some { cls:=.type "list",dict:=none,data:=.seq its.toArray c',slots := #[] }→EP X pins σ Q (.ref s.heap.objs.size) { s with heap:=h' }:=fun its r' hz h' c' kp e =>
  ⟨.ref s.heap.objs.size,_,I.laid (t':=s.toks) kp (Ad _) (show ObjOk X.prog X.w _ h' _ (.lst ys) from ⟨hz,its,c',r',e⟩),rfl,q _ (I.hok.fresh (Ad _))⟩
 rcases hq with hq | hq
 ·obtain ⟨its,r',pl,hz⟩:=I.list hq
  have hlen:=r'.length
  obtain ⟨o,ho,hc,n,hd⟩:=pl.isList
  exact call_list_seq p (.inl rfl) ho hc hd (fun h' c' kp e=>fin its r' hz h' c' kp e) (by simp only [Ak] <;> omega)
 ·obtain ⟨its,r',pl,hz⟩:=I.tuple hq
  have hlen:=r'.length
  obtain ⟨o,ho,hc,n,hd⟩:=pl
  exact call_list_seq p (.inr rfl) ho hc hd (fun h' c' kp e=>fin its r' hz h' c' kp e) (by simp only [Ak] <;> omega)
theorem mK:zD X (.type "tuple") (fun xs H Q=>∃ p ys,xs=[.ref p]∧((SqL X.K H p ys∧∀ l,H l=none→Q (.ref l) (upd H l (.tup ys)))∨(SqT X.K H p ys∧Q (.ref p) H))):=by
 intro pins s σ H xs us Q I r h
 obtain ⟨p,ys,rfl,h⟩:=h
 obtain ⟨u,rfl,rx⟩:=vals1 r
 cases rx
 rcases h with ⟨hq,q⟩ | ⟨hq,q⟩
 ·obtain ⟨its,r',pl,hz⟩:=I.list hq
  have hlen:=r'.length
  refine call_tuple_list pl.isList (fun h' kp=>?_) (by simp only [Ak] <;> omega)
  have I1:Inv X pins σ H { s with heap:=h' }:=I.kept (t':=s.toks) kp
  have I2:Inv X pins σ (upd H h'.objs.size (.tup ys)) { s with heap:=h'.push { cls:=.type "tuple",data:=.seq its.toArray } } :=
   I1.laid (t':=s.toks) (fun b o e=>Ac _ e) (Ad _) (show ObjOk X.prog X.w _ _ _ (.tup ys) from ⟨hz,its,r',Ct _ _⟩)
  exact ⟨.ref h'.objs.size,_,I2,rfl,q _ (I1.hok.fresh (Ad _))⟩
 ·obtain ⟨its,r',pl,hz⟩:=I.tuple hq
  exact call_tuple_same pl ⟨.ref p,H,I,rfl,q⟩
def tyV (K:PySem.W.Frag)(T:String)(x:V)(H:Hp):Prop:=match x with
 | .str _=>T = "str"
 | .int _=>T = "int"
 | .ref p=>(T = "list" ∧ ∃ xs,SqL K H p xs)∨(T = "tuple" ∧ ∃ o,K.lookup p=some o∧o.cls = .type "tuple" ∧ o.dict=none) ∨
   (T = "dict" ∧ ((∃ kvs,H p=some (.dK kvs))∨∃ kvs,H p=some (.dT kvs)))∨(T = "set" ∧ ∃ S n,H p=some (.set S n))
 | _=>False
theorem oS {pins:List (Addr × Obj)}{σ:St}{H:Hp}{s:Shared}{T:String}{x:V}{v:Value}(I:Inv X pins σ H s)(r:RelV x v)(ty:tyV X.K T x H) :
  s.TypeIs v T∧∀ a,v = .ref a→∃ ob,s.heap.get? a=some ob∧ob.dict=none:=by
 cases x with
 | str z =>
  obtain ⟨t,rfl⟩:=r
  cases (show T = "str" from ty)
  exact ⟨typeIs_str s z t,fun _ e=>nomatch e⟩
 | int i =>
  obtain ⟨t,rfl⟩:=r
  cases (show T = "int" from ty)
  exact ⟨typeIs_int s i t,fun _ e=>nomatch e⟩
 | ref p =>
  cases r
  rcases ty with ⟨rfl,xs,hq⟩ | ⟨rfl,o,hk,hc,hd⟩ | ⟨rfl,hk⟩ | ⟨rfl,S,n,hk⟩
  ·obtain ⟨its,_,pl,_⟩:=I.list hq
   refine ⟨pl.isList.typeIs,fun a e=>?_⟩
   cases e
   obtain ⟨o,n,e,c,hd,_⟩:=pl
   exact ⟨o,e,hd⟩
  ·refine ⟨⟨o,I.kIn p o hk,hc⟩,fun a e=>?_⟩
   cases e
   exact ⟨o,I.kIn _ o hk,hd⟩
  ·have z:∃ o,s.heap.get? p=some o∧o.ExactDict:=by
    rcases hk with ⟨kvs,hk⟩ | ⟨kvs,hk⟩
    ·obtain ⟨_,_,_,_,o,_,_,e,ex,_⟩:=I.hok p _ hk
     exact ⟨o,e,ex⟩
    ·obtain ⟨_,_,_,_,o,_,_,e,ex,_⟩:=I.hok p _ hk
     exact ⟨o,e,ex⟩
   obtain ⟨o,e,ex⟩:=z
   refine ⟨⟨o,e,ex.1⟩,fun a e2=>?_⟩
   cases e2
   exact ⟨o,e,ex.2.1⟩
  ·obtain ⟨o,_,_,_,e,ex,_⟩:=I.hok p _ hk
   refine ⟨⟨o,e,ex.1⟩,fun a e2=>?_⟩
   cases e2
   exact ⟨o,e,ex.2.1⟩
 | _=>exact False.elim ty
variable {o e:Expr}{es:List Expr}{to:TE}{t:TA}{name:Str}{apos cpos:Pos}{T id:String}{r:V→List V→Hp→VK→Prop}
end
end L2
namespace L2
open PySem PySem.Spec PyProof.Rows
def MtM (X:Cx)(id:String)(r:V→List V→Hp→VK→Prop):Prop :=
 ∀ (pins:List (Addr × Obj)) (s:Shared) (σ:St) (H:Hp) (x:V) (xs:List V) (v:Value) (us:List Value) (Q:VK),Inv X pins σ H s→RelV x v→Vals xs us→r x xs H Q →
  wpAny (model X.prog X.w) X.A (call (.builtin id) (v :: us)) (EP X pins σ Q) X.xe s
theorem Vals.one {x:V}{us:List Value}(h:Vals [x] us):∃ u,us=[u]∧RelV x u:=by
 cases h with
 | cons r t=>cases t;exact ⟨_,rfl,r⟩
theorem Vals.two {x y:V}{us:List Value}(h:Vals [x,y] us):∃ u v,us=[u,v]∧RelV x u∧RelV y v:=by
 cases h with
 | cons r t =>
  cases t with
  | cons q z=>cases z;exact ⟨_,_,rfl,r,q⟩
theorem Vals.zero:∀ {us:List Value},Vals [] us→us=[]
 | _,.nil=>rfl
theorem Vals.dropLast {xs:List V}{us:List Value}(h:Vals xs us):Vals xs.dropLast us.dropLast:=by
 induction h with
 | nil=>exact .nil
 | cons r t ih =>
  cases t with
  | nil=>exact .nil
  | cons q t'=>exact .cons r ih
theorem Vals.eraseIdx:∀ {xs:List V} {us:List Value} (i:Nat),Vals xs us→Vals (xs.eraseIdx i) (us.eraseIdx i)
 | _,_,_,.nil=>.nil
 | _,_,0,.cons _ t=>t
 | _,_,i + 1,.cons r t=>.cons r (Vals.eraseIdx i t)
theorem Vals.reverse {xs:List V}{us:List Value}(h:Vals xs us):Vals xs.reverse us.reverse:=by
 induction h with
 | nil=>exact .nil
 | cons r t ih=>rw [List.reverse_cons,List.reverse_cons];exact Vals.append ih (.cons r .nil)
theorem Vals.rep {xs:List V}{us:List Value}(h:Vals xs us):∀ k:Nat,Vals (List.replicate k xs).flatten (List.replicate k us).flatten
 | 0=>.nil
 | k + 1=>by
  rw [By,By,B5,B5]
  exact Vals.append h (Vals.rep h k)
theorem nK {α:Type}:∀ (l:List α) (i:Nat),(l.eraseIdx i).length ≤ l.length
 | [],_=>Ad _
 | _ :: _,0=>B4 _
 | _ :: r,i + 1=>Nat.succ_le_succ (nK r i)
theorem foldl_rep (its:List Value):∀ (k:Nat) (acc:List Value),
  List.foldl (fun x1 x2=>x1 ++ x2) acc.toArray (List.replicate k its.toArray)=(acc ++ (List.replicate k its).flatten).toArray
 | 0,acc=>by simp
 | k + 1,acc=>by
  have e:acc.toArray ++ its.toArray=(acc ++ its).toArray:=by simp
  have e2:(acc ++ its) ++ (List.replicate k its).flatten=acc ++ (List.replicate (k + 1) its).flatten:=by
   rw [By,B5,CB]
  rw [← e2,← foldl_rep its k (acc ++ its),← e,By,List.foldl_cons]
section
variable {X:Cx}{pins:List (Addr × Obj)}{σ:St}{H:Hp}{s:Shared}{l b:Addr}{xs ys zs:List V}
theorem Inv.lset {its its':List Value}{n:Nat}{f:Array Value→Array Value}{t':Nat}(I:Inv X pins σ H s)(hH:H l=some (.lst xs))
  (e:s.heap.get? l=some { cls:=.type "list",data:=.seq its.toArray n }) (hf:f its.toArray=its'.toArray) (hv:Vals ys its') (hz:ys.length ≤ sizeLine) :
  Inv X pins σ (upd H l (.lst ys)) { s with heap:=s.heap.update l (Obj.mapSeq f),toks:=t' }:=by
 have q:=PySem.IsL.update e f
 rw [hf] at q
 refine I.write (x:=l) (e:=l) (by rw [hH];exact trivial) (.inl rfl) (fun b' u hb hu=>(AX s.heap (Obj.mapSeq f) (Cq hb)).trans hu) ⟨_,q⟩ ?_
 exact ⟨hz,its',_,hv,q⟩
theorem Inv.lnew {its:List Value}{t':Nat}(I:Inv X pins σ H s)(hv:Vals ys its)(hz:ys.length ≤ sizeLine) :
  Inv X pins σ (upd H s.heap.objs.size (.lst ys)) { s with heap:=s.heap.push { cls:=.type "list",data:=.seq its.toArray },toks:=t' } :=
 I.laid (fun _ _ q=>Ac _ q) (Ad _) ⟨hz,its,0,hv,Ao _ rfl⟩
theorem Inv.fresh (I:Inv X pins σ H s):H s.heap.objs.size=none:=I.hok.fresh (Ad _)
theorem Inv.lstM (I:Inv X pins σ H s)(hH:H l=some (.lst xs)):xs.length ≤ sizeLine∧∃ (its:List Value) (n:Nat),Vals xs its∧xs.length=its.length∧s.heap.get? l=some { cls:=.type "list",data:=.seq its.toArray n }:=by
 obtain ⟨z,its,n,r,e⟩:=I.hok l _ hH
 exact ⟨z,its,n,r,r.length,e⟩
end
section
variable {X:Cx}
def rAppend:V→List V→Hp→VK→Prop:=fun x vs H Q=>∃ l xs y,x = .ref l∧vs=[y]∧H l=some (.lst xs)∧xs.length < sizeLine∧Q .non (upd H l (.lst (xs ++ [y])))
theorem nI:MtM X "list.append" rAppend:=by
 intro pins s σ H x vs v us Q I rx rv h
 obtain ⟨l,xs,y,rfl,rfl,hH,hz,q⟩:=h
 cases rx
 obtain ⟨u,rfl,ru⟩:=rv.one
 obtain ⟨z,its,n,r,hl,e⟩:=I.lstM hH
 refine call_meets F.slot_list_append ⟨_,e,rfl⟩ F.entry_list_append (F.args_list_append_2 _ _) (PySem.list_append l its.toArray n u (by rw [Ak];omega)) ⟨e,?_⟩
 refine ⟨.non,_,I.lset (its':=its ++ [u]) hH e (by simp) (r.append (.cons ru .nil)) ?_,rfl,q⟩
 rw [Ar,A7]
 omega
def rPopAt:V→List V→Hp→VK→Prop:=fun x vs H Q=>∃ l xs i k y,x = .ref l∧vs=[.int i]∧H l=some (.lst xs)∧-(2 ^ 63) ≤ i∧i < 2 ^ 63∧seqIndex? i xs.length=some k∧xs[k]? = some y∧Q y (upd H l (.lst (xs.eraseIdx k)))
theorem mt_popAt:MtM X "list.pop" rPopAt:=by
 intro pins s σ H x vs v us Q I rx rv h
 obtain ⟨l,xs,i,k,y,rfl,rfl,hH,h1,h2,hk,hy,q⟩:=h
 cases rx
 obtain ⟨u,rfl,ru⟩:=rv.one
 obtain ⟨t,rfl⟩:=ru
 obtain ⟨z,its,n,r,hl,e⟩:=I.lstM hH
 obtain ⟨w,hw,rw'⟩:=r.get hy
 refine call_meets F.slot_list_pop ⟨_,e,rfl⟩ F.entry_list_pop (F.args_list_pop_2 _ _)
  (MeetsSeq.list_pop_at l its.toArray n i t k w (fitsIndex_both h1 h2) (by rw [Ak,← hl];exact hk) (by rw [← Array.getElem?_toList];exact hw) (by rw [Ak];omega)) ⟨e,?_⟩
 refine ⟨y,_,I.lset (its':=its.eraseIdx k) hH e ?_ (r.eraseIdx k) ?_,rw',q⟩
 ·show its.toArray.eraseIdxIfInBounds k=(its.eraseIdx k).toArray
  rw [List.eraseIdxIfInBounds_toArray]
 ·have:=nK xs k
  omega
def rCat:R2:=fun x y H Q=>∃ l b xs zs,x = .ref l∧y = .ref b∧H l=some (.lst xs)∧H b=some (.lst zs)∧xs.length + zs.length ≤ sizeLine∧∀ p,H p=none→Q (.ref p) (upd H p (.lst (xs ++ zs)))
theorem op_cat:vR X (binaryOp .Add) rCat:=by
 intro pins s σ H x y v u Q I rx ry h
 obtain ⟨l,b,xs,zs,rfl,rfl,hH,hB,hz,q⟩:=h
 cases rx
 cases ry
 obtain ⟨z,its,n,r,hl,e⟩:=I.lstM hH
 obtain ⟨z2,its2,n2,r2,hl2,e2⟩:=I.lstM hB
 refine PySem.P.add_list e e2 ?_ (by rw [Ak,Ak];omega)
 have ea:its.toArray ++ its2.toArray=(its ++ its2).toArray:=by simp
 rw [ea]
 exact ⟨.ref _,_,I.lnew (t':=s.toks) (r.append r2) (by rw [Ar];omega),rfl,q _ I.fresh⟩
theorem len_rep {α:Type}(xs:List α)(k:Nat):(List.replicate k xs).flatten.length=k * xs.length:=by
 induction k with
 | zero=>simp
 | succ k ih=>rw [By,B5,Ar,ih,Nat.succ_mul,Nat.add_comm]
end
section
variable {prog:Program}{w:World}{A:Around}{E:Value→Shared→Prop}{s:Shared}
end
section
variable {X:Cx}
end
end L2
namespace Att
open PySem PySem.W PySem.Calls PyProof.Rows
theorem wL {P:Params}{h:Heap}:∀ (ns:List Int) (vs:List Value),WellAll P h vs (ns.map WData.int)→IntsAre vs ns:=by
 intro ns
 induction ns with
 | nil =>
  intro vs w
  rw [CF] at w
  cases w
  exact .nil
 | cons n ns ih =>
  intro vs w
  rw [AN] at w
  cases w with
  | cons a b =>
   cases a
   exact .cons _ _ (ih _ b)
theorem iD {l:OpenLaw}{n:Nat}(hn:l.most=some n){P:Params}{h:Heap}{args:List WData}{vals:List Value}
  (hpre:l.row.toRowW.claim.pre args=true) (hwl:WellAll P h vals args) :
  ∃ a vs ns,vals=[Value.ref a]∧args=[WData.list (ns.map WData.int)]∧h.get? a=some { cls:=.type "list",data:=.seq vs.toArray }∧IntsAre vs ns∧ns.length ≤ n:=by
 have hsh:WShape.hasAll [] args [.list .int] = true:=(pre_splitW hpre).1
 have hc:l.pre.holds [] { args:=args } = true:=(pre_splitW hpre).2
 obtain ⟨d,r,rfl,h1,h2⟩:=hasAllW_cons hsh
 obtain rfl:=hasAllW_nil h2
 obtain ⟨xs,rfl,h3⟩:=hasW_list h1
 obtain ⟨ns,rfl⟩:=items_int h3
 have hlen:ns.length ≤ n:=by
  unfold OpenLaw.pre at hc
  have h4:(WTm.not (.lt (.lit (.int (n:Int))) (.len (.arg 0)))).holds [] { args:=[.list (ns.map .int)] } = true:=by
   have h4:=(holds_andW hc).1
   rw [hn] at h4
   exact h4
  have h5:=condW_of h4 (w_not (w_lt w_lit (w_len_list (w_arg rfl))))
  rw [Aa] at h5
  refine Nat.le_of_not_lt fun q=>?_
  have q':(n:Int) < ((ns.length:Nat):Int):=by omega
  first
   | (rw [A2 q'] at h5;exact absurd h5 (by decide))
   | (simp at h5;omega)
 cases hwl with
 | cons w1 w2 =>
  cases w2
  cases w1 with
  | list ho hall=>exact ⟨_,_,ns,rfl,rfl,ho,wL ns _ hall,hlen⟩
theorem iF (l:OpenLaw)(args:List WData):l.row.toRowW.claim.post args (.bool true) args=true :=
 postW_of (r:=l.row.toRowW) (X:=(true == true))
  (show WShape.has [] (.bool true) .bool=true by first | rfl | decide | simp [WShape.has,WShape.arms,WShape.armsAll])
  (show (WTm.eq .res (.lit (.bool true))).value [] { args:=args,res:=some (.bool true),after:=args } = some (.bool (true == true)) from w_eq_bool (w_res rfl) w_lit) rfl
theorem attach_call {l:OpenLaw}{n:Nat}{q:Program}{loose:List Str}{XP:(Str→Option Value)→Heap→Prop}{YP:World→Heap→Prop}{d:DefRec}
  (hn:l.most=some n) (hdf:d.params.defaults=[])
  (call:∀ (w:World) (s₀ s₁:Shared) (mg mb:Str→Option Value) (fa:Addr) (o:Obj) (pm cd doc:Value) (a:Addr) (vs:List Value) (ns:List Int),
   Ground q loose [] XP w s₀ mg mb s₁.heap→YP w s₁.heap →
   s₁.heap.get? fa=some o→o.data = .func (docDef d.name d.params d.body d.scope pm cd doc)→s₁.heap.CodeRec cd d.name→mg d.name=some (.ref fa) →
   s₁.heap.get? a=some { cls:=.type "list",data:=.seq vs.toArray }→IntsAre vs ns→ns.length ≤ n→s₁.gens = #[] →
   codeAny (model l.prog w) callerA (.call (.ref fa) ⟨[.ref a],[]⟩) (fun r s'=>r = .ok (.ret (.bool true))∧OldK s₁.heap s'.heap∧s'.os=s₁.os∧AllBare s'.gens) s₁) :
  WalkO q loose XP YP l.row.toRowW d [] (fun f vs=>PySem.call f vs):=by
 intro w s₀ s₁ mg mb G Y fa o pm cd doc dV kV ho hd hcd hD hmg hg args vals as hpre hlay hrd hwl hlo
 obtain rfl:dV = .none:=Dflts.none hD hdf
 obtain rfl:kV = .none:=Dflts.noKw hD
 obtain ⟨a,vs,ns,rfl,rfl,hobj,hints,hlen⟩:=iD hn hpre hwl
 refine enter_call (codeAny_mono (call w s₀ s₁ mg mb fa o pm cd doc a vs ns G Y ho (fd_plain hd) hcd hmg hobj hints hlen hg) fun r s' hq=>?_)
 obtain ⟨rfl,h2,h3,h4⟩:=hq
 exact ⟨.inl ⟨.bool true,.bool true,[],rfl,fun _=>rfl,.bool true,iF l _,fun _=>⟨List.Pairwise.nil,fun _ hm=>(nomatch hm)⟩⟩,h2,h3,h4⟩
section
variable {prog:Program}{w:World}{A:Around}{E:Value→Shared→Prop}{s:Shared}{K:Frag}
end
end Att
namespace L2
open PySem PySem.Spec PyProof.Rows
theorem fK:∀ {vs:List Value} {ns:List Int},IntsAre vs ns→Vals (ns.map V.int) vs
 | _,_,.nil=>.nil
 | _,_,.cons n t h=>.cons ⟨t,rfl⟩ (fK h)
def Only (H:Hp):Prop:=∀ b,H b=none∨∃ o xs,H b=some (.frz o (.lst xs))
theorem law_call {P:Program}{w:World}{K:PySem.W.Frag}{mg mb:Str→Option Value}{CX:CXT}{k:Nat}{fa a:Addr}{fd:FuncData}{x:Str}{sp:Sp}{s₁:Shared}{vs:List Value}{ns:List Int}
  (KX:K.In s₁.heap) (hns:s₁.heap.Ns mainGlobals mg) (hb:s₁.heap.Ns builtinsNs mb) (hbb:∀ x:Str,x ≠ "__name__" → mb x=bootBuiltins x) (hlim:s₁.heap.NoLimit) (hg:s₁.gens = #[])
  (ha:s₁.heap.get? a=some { cls:=.type "list",data:=.seq vs.toArray }) (hi:IntsAre vs ns) (hl:ns.length ≤ sizeLine) (hr:Room k callerA)
  (F:∀ base:Heap,K.In base→base.Ns mainGlobals mg→FnOk P w K mg base CX k fa fd [x] sp) (hbind:∀ (s:Shared) (u:Value),BindsTo s fd ⟨[u],[]⟩ [(x,u)])
  (hsp:∀ H:Hp,Only H→SqL K H a (ns.map V.int)→sp [.ref a] H (fun v _=>v = .bl true) fun _ _ _=>False)
  (hCX:∀ H e s',CX [] H s₁ (fun _ _ _=>False) e s'→False) :
  codeAny (model P w) callerA (.call (.ref fa) ⟨[.ref a],[]⟩) (fun r s'=>r = .ok (.ret (.bool true))∧OldK s₁.heap s'.heap∧s'.os=s₁.os∧AllBare s'.gens) s₁:=by
 have rv:=fK hi
 have lenV:=hi.length
 have core:∀ H:Hp,Only H→SqL K H a (ns.map V.int)→HOk P w H s₁.heap→(∀ b,H b ≠ none→b=a)→(H a ≠ none→K.lookup a=none) →
   codeAny (model P w) callerA (.call (.ref fa) ⟨[.ref a],[]⟩) (fun r s'=>r = .ok (.ret (.bool true))∧OldK s₁.heap s'.heap∧s'.os=s₁.os∧AllBare s'.gens) s₁:=by
  intro H hO hS hok hA hK
  have base_of:∀ {b:Addr} {o:Obj},s₁.heap.get? b=some o→H b=none→(lQ s₁.heap H).get? b=some o:=fun e n=>hidT_get e n
  have noA:∀ {b:Addr} {o:Obj} {es:Array DictEntry} {ep:Nat},s₁.heap.get? b=some o→o.data = .dict es ep→H b=none:=fun {b o es ep} e d=>by
   cases q:H b with
   | none=>rfl
   | some u =>
    have e':b=a:=hA b (by rw [q];simp)
    subst e'
    rw [ha] at e;cases e
    have d':Data.seq vs.toArray _=Data.dict es ep:=d
    cases d'
  have nsK:∀ {b:Addr} {m:Str→Option Value},s₁.heap.Ns b m→(lQ s₁.heap H).Ns b m:=fun {b m} ⟨o,es,ep,e,d,r⟩=>⟨o,es,ep,base_of e (noA e d),d,r⟩
  have hKb:K.In (lQ s₁.heap H):=fun b o e=>base_of (KX b o e) (by
   cases q:H b with
   | none=>rfl
   | some u =>
    have e':b=a:=hA b (by rw [q];simp)
    subst e'
    rw [hK (by rw [q];simp)] at e;cases e)
  have hM:Mod K mg (lQ s₁.heap H):=⟨hKb,nsK hns,⟨mb,nsK hb,hbb⟩,let ⟨mc,h1,h2⟩:=hlim;⟨mc,nsK h1,h2⟩⟩
  have e0:Env0 P w K mg (lQ s₁.heap H) callerA [] s₁ H:=⟨rfl,hM,fun b o e=>of_hidT e,Nat.le_of_eq (iZ _ _),trivial,fun b hb=>absurd (show b ∈ ([] : List Addr) from hb) (by simp),hok,.of_eq hg⟩
  refine codeAny_mono ((F _ hKb (nsK hns)).run callerA [] s₁ H ⟨[.ref a],[]⟩ [.ref a] [.ref a] _ _ hr e0 (hbind s₁ (.ref a)) (.cons rfl .nil) (hsp H hO hS)) fun r s' h=>?_
  cases r with
  | error e=>exact (hCX H e s' h).elim
  | ok fl =>
   cases fl with
   | next=>exact False.elim h
   | brk=>exact False.elim h
   | cont=>exact False.elim h
   | ret u =>
    obtain ⟨v,H',os,bare,un,hok',r',q⟩:=h
    have q':v = .bl true:=q
    subst q'
    obtain rfl:u=Value.bool true:=r'
    refine ⟨rfl,OldK.of_keep fun b o e=>?_,os,bare⟩
    cases q:H b with
    | none=>exact un.keep b o e q (by intro z;exact absurd (show b ∈ ([] : List Addr) from z) (by simp)) (by simp)
    | some u =>
     rcases hO b with z | ⟨ob,xs,z⟩
     ·rw [q] at z;cases z
     ·have z2:=un.frzs b ob _ z
      obtain ⟨e1,_⟩:=hok b _ z
      obtain ⟨e2,_⟩:=hok' b _ z2
      rw [e] at e1;cases e1
      exact e2
 cases hk:K.lookup a with
 | some o =>
  have e:=KX a o hk
  rw [ha] at e
  cases e
  refine core (fun _=>none) (fun _=>.inl rfl) (.inr ⟨_,vs.toArray,_,hk,rfl,rfl,rfl,by rw [Ak,lenV];exact hl,by simpa using rv⟩) (fun b u z=>by have z':(none:Option HO)=some u:=z;cases z') (fun b z=>absurd rfl z) fun z=>absurd rfl z
 | none =>
  refine core (fun b=>if b=a then some (.frz { cls:=.type "list",data:=.seq vs.toArray } (.lst (ns.map V.int))) else none) (fun b=>?_) (.inl (.inr ⟨{ cls:=.type "list",data:=.seq vs.toArray },Au rfl⟩)) (fun b u z=>?_) (fun b z=>?_) fun _=>hk
  ·by_cases hb:b=a
   ·exact .inr ⟨_,_,Au hb⟩
   ·exact .inl (Ax hb)
  ·by_cases hb:b=a
   ·have z':=(Au hb).symm.trans z
    cases z'
    subst hb
    exact ⟨ha,by rw [Aa];exact hl,vs,_,rv,ha⟩
   ·have z':=(Ax hb).symm.trans z
    cases z'
  ·by_cases hb:b=a
   ·exact hb
   ·exact absurd (Ax hb) z
end L2
namespace L2
open PySem PySem.Spec PyProof.Rows
theorem walk_of {l:PySem.W.OpenLaw}{n k:Nat}{q:Program}{loose:List Str}{XP:(Str→Option Value)→Heap→Prop}{YP:World→Heap→Prop}{d:DefRec}{K:Params→PySem.W.Frag}{CX:World→CXT}{sp:World→Sp}{x:Str}
  (hn:l.most=some n) (hn2:n ≤ sizeLine) (hdf:d.params.defaults=[]) (hr:Room k callerA)
  (hY:∀ (w:World) (h:Heap),YP w h→(K w.params).In h)
  (F:∀ (w:World) (mg:Str→Option Value) (fa:Addr) (h:Heap),(K w.params).In h→h.Ns mainGlobals mg→mg d.name=some (.ref fa) →
   ∃ fd:FuncData,(∀ (s:Shared) (u:Value),BindsTo s fd ⟨[u],[]⟩ [(x,u)]) ∧
    ∀ base:Heap,(K w.params).In base→base.Ns mainGlobals mg→FnOk l.prog w (K w.params) mg base (CX w) k fa fd [x] (sp w))
  (hsp:∀ (w:World) (H:Hp) (a:Addr) (ns:List Int),ns.length ≤ n→Only H→SqL (K w.params) H a (ns.map V.int)→sp w [.ref a] H (fun v _=>v = .bl true) fun _ _ _=>False)
  (hCX:∀ (w:World) (H:Hp) (s:Shared) (e:Value) (s':Shared),CX w [] H s (fun _ _ _=>False) e s'→False) :
  PySem.W.WalkO q loose XP YP l.row.toRowW d [] (fun f vs=>PySem.call f vs):=by
 refine Att.attach_call hn hdf fun w s₀ s₁ mg mb fa o pm cd doc a vs ns G Y ho hd hcd hmg hobj hints hlen hg=>?_
 have KX:=hY w _ Y
 obtain ⟨fd,hb,hF⟩:=F w mg fa _ KX G.T.g hmg
 exact law_call KX G.T.g G.T.b G.T.builtins G.T.nolimit hg hobj hints (AG hlen hn2) hr hF hb (fun H hO hS=>hsp w H a ns hlen hO hS) fun H e s'=>hCX w H s₁ e s'
end L2
namespace L2
open PySem PySem.Spec PyProof.Rows
def qR (s:Stmt):Arguments:=match s with
 | .FunctionDef _ a _ _ _ _ _ _ _ _=>a
 | _=>{ posonlyargs:=[],args:=[],vararg:=none,kwonlyargs:=[],kw_defaults:=[],kwarg:=none,defaults:=[] }
def qQ (s:Stmt):List Stmt:=match s with
 | .FunctionDef _ _ b _ _ _ _ _ _ _=>b
 | _=>[]
def qF (s:Stmt):Scope:=match s with
 | .FunctionDef _ _ _ _ _ _ sc _ _ _=>sc
 | _=>{ kind:=.function,names:=[],isGenerator:=false,isCoroutine:=false }
abbrev CX0:CXT:=fun _ _ _ _ _ _=>False
abbrev E0:XK:=fun _ _ _=>False
theorem pass0 {X:Cx}:pG CX0 X E0:=fun _ _ _ _ _ _ _ h=>h.elim
structure Fun (K:PySem.W.Frag)(x qual:Str)(st:Stmt)(f:Addr)(fd:FuncData):Prop where
 ex:∃ (oc:Value) (od:Option Addr) (kV doc pm:Value) (an:Option Addr) (cdv ct:Value) (osl:Array (Option Value)),
  fd=PySem.W.fnOf x qual (qR st) (qQ st) (qF st) .none kV doc pm an cdv ct∧K.lookup f=some ⟨oc,od,.func fd,osl⟩∧PySem.W.codeIn K cdv qual=true
 kp:PySem.W.keepIn K (.ref f)=true
section
variable {P:Program}{w:World}{K:PySem.W.Frag}{mg:Str→Option Value}{base:Heap}
theorem Fun.ok {x qual:Str}{st:Stmt}{f:Addr}{fd:FuncData}{N ps:List Str}{k:Nat}{sp:Sp}(F:Fun K x qual st f fd)(S:FnScope N ps (qF st))(len:∀ vs H Q E,sp vs H Q E→vs.length=ps.length)
  (hbody:∀ (cdv:Value) (A:Around) (outer:List Env) (s:Shared) (H:Hp) (vs:List V) (Q:VK) (E:XK),Room k (A.deeper (envOfC qual (qF st) s.heap.objs.size f cdv))→sp vs H Q E →
   ∃ t,PSs (uF CX0 P w K mg base N qual (qF st) f cdv A outer s H E).nox (qQ st) t∧t { nx:=fun _ H'=>Q .non H',rt:=Q } (start N vs) H):FnOk P w K mg base CX0 (k + 1) f fd ps sp:=by
 obtain ⟨oc,od,kV,doc,pm,an,cdv,ct,osl,rfl,lk,hcd⟩:=F.ex
 refine fn_of lk hcd S len fun A outer s H vs Q E hr hsp=>?_
 obtain ⟨t,h,q⟩:=hbody cdv A outer s H vs Q E hr hsp
 exact ⟨t,h.nox,q⟩
theorem Fun.binds {x qual:Str}{st:Stmt}{f:Addr}{fd:FuncData}{ps:List Str}(F:Fun K x qual st f fd)
  (h:∀ (kV doc pm:Value) (an:Option Addr) (cdv ct:Value) (us:List Value),us.length=ps.length→bindArgs (PySem.W.fnOf x qual (qR st) (qQ st) (qF st) .none kV doc pm an cdv ct) ⟨us,[]⟩=pure (ps.zip us)):Binds K fd ps []:=by
 obtain ⟨oc,od,kV,doc,pm,an,cdv,ct,osl,rfl,lk,hcd⟩:=F.ex
 exact .all (h kV doc pm an cdv ct)
theorem q0 {x qual:Str}{st:Stmt}{f:Addr}{oc:Value}{od an:Option Addr}{osl:Array (Option Value)}{kV doc pm cdv ct:Value}(l:K.lookup f=some ⟨oc,od,.func (PySem.W.fnOf x qual (qR st) (qQ st) (qF st) .none kV doc pm an cdv ct),osl⟩)
  (c:PySem.W.codeIn K cdv qual=true) (k:PySem.W.keepIn K (.ref f)=true):Fun K x qual st f (PySem.W.fnOf x qual (qR st) (qQ st) (qF st) .none kV doc pm an cdv ct):=⟨⟨oc,od,kV,doc,pm,an,cdv,ct,osl,rfl,l,c⟩,k⟩
end
theorem qO {n:Nat}(h:n ≤ 1000):n < sizeLine:=Ck h (by decide)
section
variable {X:Cx}
theorem pv (i:Nat){x:Str}{pos:Pos}(hN:X.N[i]? = some x:=by rfl)(hv:Vis X.env.scope x:=by first | exact Or.inl rfl | exact Or.inr (Or.inl rfl) | exact Or.inr (Or.inr rfl))(hd:(x == ("__debug__" : Str))=false:=by decide)
  (hcd:(x == ("__classdict__" : Str))=false:=by decide):PE X (.Name x pos) (g8 i):=pe_var hN hv hd hcd
end
def Same (H H':Hp):Prop:=∀ b o,H b=some o→H' b=some o
theorem Same.refl (H:Hp):Same H H:=fun _ _ h=>h
theorem Same.trans {H H1 H2:Hp}(a:Same H H1)(b:Same H1 H2):Same H H2:=fun c o h=>b c o (a c o h)
theorem Same.free {H H':Hp}(e:Same H H'){l:Addr}(h:H' l=Option.none):H l=Option.none:=by
 cases q:H l with
 | none=>rfl
 | some o =>
  rw [e l o q] at h
  cases h
theorem Same.seq {K:PySem.W.Frag}{H H':Hp}{a:Addr}{xs:List V}(e:Same H H')(h:SqL K H a xs):SqL K H' a xs:=by
 rcases h with (h | ⟨o,h⟩) | h
 ·exact .inl (.inl (e _ _ h))
 ·exact .inl (.inr ⟨o,e _ _ h⟩)
 ·exact .inr h
def yV:List (Str × NameKind)→List (Str × Addr)→List (Str × Addr)→Option (List (Str × Addr))
 | [],_,acc=>some acc
 | (n,k) :: r,cs,acc=>if k == .free then (match cs.lookup n with | some c=>yV r cs ((n,c) :: acc) | none=>none) else yV r cs acc
theorem mC {env:Env}:∀ (names:List (Str × NameKind)) (acc cl:List (Str × Addr)),yV names env.cells acc=some cl →
  (forIn names acc fun (x:Str × NameKind) (cs:List (Str × Addr))=>(if (x.2 == NameKind.free)=true then (do let c ← cellOf env x.1;pure (ForInStep.yield ((x.1,c) :: cs))) else pure (ForInStep.yield cs):Sem (ForInStep (List (Str × Addr)))))=(pure cl:Sem _)
 | [],acc,cl,h=>by
  have e:acc=cl:=A9 h
  subst e;rfl
 | (n,k) :: r,acc,cl,h=>by
  unfold yV at h
  rw [Cg]
  cases hk:k == NameKind.free with
  | false =>
   rw [hk] at h
   have ih:=mC (env:=env) r acc cl (by simpa using h)
   simp only [hk,AI,B8,pure_bind]
   exact ih
  | true =>
   rw [hk] at h
   simp only [BK] at h
   cases hc:env.cells.lookup n with
   | none=>rw [hc] at h;cases h
   | some c =>
    rw [hc] at h
    have ih:=mC (env:=env) r ((n,c) :: acc) cl h
    have e:cellOf env n=pure c:=by unfold cellOf;rw [hc]
    simp only [hk,BK,e,pure_bind]
    exact ih
theorem zV {scope:Scope}{env:Env}{cl:List (Str × Addr)}(h:yV scope.names env.cells [] = some cl):closureFor scope env=pure cl:=by
 have q:=mC scope.names [] cl h
 unfold closureFor
 show (do let r ← _;pure r)=_
 refine Eq.trans ?_ (AW (fun z=>z >>= fun r=>pure r) q) |>.trans ?_
 ·rfl
 ·rfl
theorem mB {cs:List (Str × Addr)}:∀ (names:List (Str × NameKind)) (acc cl:List (Str × Addr)),yV names cs acc=some cl→(∀ n c,(n,c) ∈ acc→cs.lookup n=some c)→∀ n c,(n,c) ∈ cl→cs.lookup n=some c
 | [],acc,cl,h,ha,n,c,hm=>by
  have e:acc=cl:=A9 h
  subst e;exact ha n c hm
 | (n0,k) :: r,acc,cl,h,ha,n,c,hm=>by
  unfold yV at h
  split at h
  ·split at h
   ·rename_i c0 hc
    refine mB r _ cl h (fun n' c' h'=>?_) n c hm
    rcases A3.mp h' with e | h'
    ·cases e;exact hc
    ·exact ha n' c' h'
   ·cases h
  ·exact mB r acc cl h ha n c hm
theorem fW {cs:List (Str × Addr)}:∀ (names:List (Str × NameKind)) (acc cl:List (Str × Addr)),yV names cs acc=some cl→∀ p ∈ acc,p ∈ cl
 | [],acc,cl,h,p,hp=>by
  have e:acc=cl:=A9 h
  subst e;exact hp
 | (n0,k) :: r,acc,cl,h,p,hp=>by
  unfold yV at h
  split at h
  ·split at h
   ·exact fW r _ cl h p (Ap _ hp)
   ·cases h
  ·exact fW r acc cl h p hp
theorem xG {cs:List (Str × Addr)}:∀ (names:List (Str × NameKind)) (acc cl:List (Str × Addr)),yV names cs acc=some cl→∀ n,(n,NameKind.free) ∈ names→∃ c,(n,c) ∈ cl
 | (n0,k) :: r,acc,cl,h,n,hn=>by
  unfold yV at h
  rcases A3.mp hn with e | hn
  ·cases e
   simp only [Cb,BK] at h
   split at h
   ·rename_i c0 hc
    exact ⟨c0,fW r _ cl h _ Am⟩
   ·cases h
  ·split at h
   ·split at h
    ·exact xG r _ cl h n hn
    ·cases h
   ·exact xG r acc cl h n hn
theorem zA {β:Type}:∀ {l:List (Str × β)} {n:Str} {c:β},(n,c) ∈ l→∃ c',l.lookup n=some c'
 | (m,d) :: r,n,c,h=>by
  rw [AM]
  cases e:n == m with
  | true=>exact ⟨d,rfl⟩
  | false =>
   rcases A3.mp h with q | q
   ·cases q;simp at e
   ·exact zA q
theorem kH {cs cl:List (Str × Addr)}{names:List (Str × NameKind)}(h:yV names cs [] = some cl){x:Str}{c:Addr}(q:cl.lookup x=some c):cs.lookup x=some c :=
 mB names [] cl h (fun _ _ z=>absurd z (by simp)) x c (Bq q)
theorem dZ {env : Env} : ∀ {names : List (Str × NameKind)} {x : Str}, (∀ y ∈ names, y.2 ≠ NameKind.cell) →
    ((names.map fun (n, k) => if (k == NameKind.free && env.scope.kind == .function && env.kindOf n == some .cell) then (n, NameKind.cell) else (n, k)).lookup x = some .cell ∨
     (names.map fun (n, k) => if (k == NameKind.free && env.scope.kind == .function && env.kindOf n == some .cell) then (n, NameKind.cell) else (n, k)).lookup x = some .free) → (x, NameKind.free) ∈ names
  | [], x, _, h => by simp at h
  | (n, k) :: r, x, hc, h => by
    have ih := @dZ env r x (fun y hy => hc y (Ap _ hy))
    rw [AN] at h
    cases hx : x == n with
    | true =>
      have e : x = n := by simpa using hx
      subst e
      by_cases hk : k = NameKind.free
      · subst hk; exact Am
      · have hb : (k == NameKind.free) = false := by simpa using hk
        simp only [hb, BC, AI, B8, AM, Cb] at h
        rcases h with h | h
        · exact absurd (A9 h) (hc (x, k) Am)
        · exact absurd (A9 h) hk
    | false =>
      refine Ap _ (ih ?_)
      by_cases hcnd : (k == NameKind.free && env.scope.kind == .function && env.kindOf n == some .cell) = true
      · simp only [hcnd, BK, AM, hx] at h; exact h
      · simp only [hcnd, B8, AM, hx, AI] at h; exact h
theorem relabel_free' {sc:Scope}{env:Env}{x:Str}(hc:∀ y ∈ sc.names,y.2 ≠ NameKind.cell)(h:(relabel sc env).names.lookup x=some .cell∨(relabel sc env).names.lookup x=some .free):(x,NameKind.free) ∈ sc.names:=dZ hc h
def wZ (X:Cx)(N:List Str)(sc:Scope)(cl:List (Str × Addr))(s:Shared)(H:Hp)(ex:List Addr):Cx where
 prog:=X.prog
 w:=X.w
 K:=X.K
 mg:=X.mg
 base:=X.base
 A:=X.A
 N:=N
 s₀:=s
 H₀:=H
 env:=compEnvC sc cl s.heap.objs.size X.env
 outer:=X.stack
 stack:=X.stack
 ex:=ex
 fn:=fun _=>false
 calm:=X.calm
 pn:=[]
 xe:=fun _ _=>False
def mJ (fr:List (Option Nat))(σ:St):St:=fr.map fun o=>o.bind fun j=>(σ[j]?).bind id
def pH (X:Cx)(ifs:List Expr)(t:TT):Prop :=
 ∀ (pins:List (Addr × Obj)) (s:Shared) (σ:St) (H:Hp) (Q:Bool→Hp→Prop),Inv X pins σ H s→t σ H Q →
  wpAny (model X.prog X.w) X.A (forIn ifs true fun c r=>if r=true then do let ok ← isTrue c X.env (eval c X.env);pure (ForInStep.yield ok) else pure (ForInStep.yield r)) (TP X pins σ Q) X.xe s
def tTrue:TT:=fun _ H Q=>Q true H
theorem kN {X:Cx}:pH X [] tTrue:=fun _ _ _ _ _ I h=>wpAny_tests_nil ⟨_,I,h⟩
theorem zS {X:Cx}{c:Expr}{t:TT}(h:PT X c t):pH X [c] t:=fun pins s σ H Q I q=>wpAny_tests_one (h pins s σ H Q I q)
abbrev TB:=St→Hp→(St→Hp→Prop)→Prop
def PB (X:Cx)(body:Sem Unit)(t:TB):Prop :=
 ∀ (pins:List (Addr × Obj)) (s:Shared) (σ:St) (H:Hp) (N:St→Hp→Prop),Inv X pins σ H s→t σ H N →
  wpAny (model X.prog X.w) X.A body (fun _ s'=>∃ σ' H',Inv X pins σ' H' s'∧N σ' H') X.xe s
def yW (p:Addr)(te:TE):TB:=fun σ H N=>te σ H fun y H1=>∃ ys,H1 p=some (.lst ys)∧ys.length < sizeLine∧N σ (upd H1 p (.lst (ys ++ [y])))
theorem wV {X:Cx}{elt:Expr}{te:TE}{p:Addr}(h:PE X elt te):PB X (do let _ ← call (.builtin "list.append") [.ref p,← eval elt X.env]) (yW p te):=by
 intro pins s σ H N I q
 refine wpAny_bind (jJ (h pins s σ H _ I q) fun u s1 ⟨y,H1,I1,r,ys,hp,hz,n⟩=>?_)
 refine wpAny_bind (jJ (nI (X:=X) pins s1 σ H1 (.ref p) [y] (.ref p) [u] (fun _ H2=>N σ H2) I1 rfl (.cons r .nil) ⟨p,ys,y,rfl,rfl,hp,hz,n⟩) fun _ s2 ⟨_,H2,I2,_,n2⟩=>wpAny_pure ⟨σ,H2,I2,n2⟩)
def pJ (J:It)(g:TG)(tc:TT)(tb:TB):(St→Hp→Prop)→St→Hp→Prop:=fun D σ H=>∃ W:Nat→Nat→St→Hp→Prop,(∃ m,W 0 m σ H)∧∀ i m σ H,W i m σ H →
 (J.stop i H∧D σ H)∨(J.go i H∧∃ N:St→Hp→Prop,(∀ σ' H',N σ' H'→∃ m',m' < m∧W (i + 1) m' σ' H')∧∀ x H',J.yld i H x H'→g x σ H' fun σ2 H2=>tc σ2 H2 fun b H3=>if b=true then tb σ2 H3 N else N σ2 H3)
theorem xF {X:Cx}{e tg:Expr}{d:Nat}{ip:Pos}{ifs:List Expr}{body:Sem Unit}{acc:Value}{it:Addr}{fp:List Addr}{tn:Nat→Heap→Prop}{J:It}{g:TG}{tc:TT}{tb:TB}{D:St→Hp→Prop}{pins:List (Addr × Obj)}{σ:St}{H:Hp}{s:Shared}
  (hc:X.calm=true) (hx:X.xe=fun _ _=>False)
  (heq:compTurn e d (.ref it) acc X.env=(do
   standAt ip
   match ← pyNext (.ref it) with
   | none=>pure (.done .next)
   | some v =>
    letOwnedTupleGo tg (.ref it) v
    assign tg X.env v
    let mut ok:=true
    for c in ifs do
     if ok then ok ← isTrue c X.env (eval c X.env)
    if ok then body
    again (.compLoop e d (.ref it) acc X.env)))
  (hfrm:(Code.compLoop e d (.ref it) acc X.env).isFrame=false) (hund:X.A.under (Code.compLoop e d (.ref it) acc X.env)=X.A) (hq:(Code.compLoop e d (.ref it) acc X.env).quiet=true)
  (T:Turn X.prog X.w X.K tg J fp it tn) (hg:PG X tg g) (hi:pH X ifs tc) (hb:PB X body tb)
  (I:Inv X pins σ H s) (st:tn 0 s.heap) (f:∀ b ∈ fp,yB X pins H b) (h:pJ J g tc tb D σ H) :
  codeAny (model X.prog X.w) X.A (.compLoop e d (.ref it) acc X.env) (fun r s'=>r = .ok .next∧∃ σ' H',Inv X pins σ' H' s'∧D σ' H') s:=by
 obtain ⟨W,⟨m0,w0⟩,turn⟩:=h
 have stat:∀ {H':Hp},(∀ b ∈ fp,H' b=none)→∀ b ∈ fp,yB X pins H' b:=fun hn b hb=>⟨hn b hb,(f b hb).2⟩
 refine codeAny_loop hq (fun n s'=>∃ i σ' H',Inv X pins σ' H' s'∧tn i s'.heap∧(∀ b ∈ fp,H' b=none)∧W i n σ' H') ?_ m0 ⟨0,σ,H,I,st,fun b hb=>(f b hb).1,w0⟩
 rintro n s3 ⟨i,σ3,H3,I3,st3,fr3,w3⟩
 rw [hund]
 show wpAny _ X.A (if (Code.compLoop e d (.ref it) acc X.env).isFrame then _ else (compTurn e d (.ref it) acc X.env).onRaise (fun x=>do noteFrame x X.env;theTreesLotGoes x)) _ _ s3
 rw [hfrm]
 show wpAny _ X.A ((compTurn e d (.ref it) acc X.env).onRaise (fun x=>do noteFrame x X.env;theTreesLotGoes x)) _ _ s3
 refine wpAny_noted ?_
 rw [heq]
 have no:∀ {α:Type} {t:Sem α} {Q:α→Shared→Prop} {E:Value→Shared→Prop} {s:Shared},wpAny (model X.prog X.w) X.A t Q X.xe s→wpAny (model X.prog X.w) X.A t Q E s:=fun h=>wpAny_mono h (fun _ _ q=>q) fun _ _ z=>by rw [hx] at z;exact z.elim
 refine wpAny_bind (wpAny_standAt (wpAny_bind ?_))
 rcases turn i n σ3 H3 w3 with ⟨stop,qn⟩ | ⟨go,N,hN,step⟩
 ·refine jJ (T.done X rfl rfl rfl hc i pins s3 σ3 H3 _ I3 (stat fr3) st3 stop) fun r s4 ⟨hr,I4⟩=>?_
  subst hr
  exact wpAny_pure ⟨rfl,σ3,H3,I4,qn⟩
 ·refine jJ (T.item X rfl rfl rfl hc i pins s3 σ3 H3 _ I3 (stat fr3) st3 go) fun r s4 ⟨u,hr,h4⟩=>?_
  subst hr
  refine wpAny_bind (jJ h4 fun _ s5 ⟨x,H5,I5,r5,y5,st5,fr5⟩=>?_)
  have I5':=I5.pinned (stat fr5) (T.obj _ _ st5)
  have again:∀ {s7:Shared} {σ7:St} {H7:Hp},Inv X (pins ++ cD fp s5.heap) σ7 H7 s7→N σ7 H7→∃ m,m < n∧∃ i σ' H',Inv X pins σ' H' s7∧tn i s7.heap∧(∀ b ∈ fp,H' b=none)∧W i m σ' H':=fun {s7 σ7 H7} I7 n7=>by
   obtain ⟨m',hm,w7⟩:=hN σ7 H7 n7
   refine ⟨m',hm,i + 1,σ7,H7,I7.unpinned,T.keep _ _ _ st5 fun b hb o e=>(I7.pin (b,o) (AH _ (AH _ (xZ hb e)))).1,fun b hb=>?_,w7⟩
   obtain ⟨o,e,d⟩:=T.obj _ _ st5 b hb
   exact (I7.pin (b,o) (AH _ (AH _ (xZ hb e)))).2.1
  refine wpAny_bind (no (jJ (hg _ s5 σ3 H5 x u _ I5' r5 (step x H5 y5)) fun _ s6 ⟨σ6,H6,I6,q6⟩=>?_))
  refine wpAny_bind (no (jJ (hi _ s6 σ6 H6 _ I6 q6) fun ok s7 ⟨H7,I7,q7⟩=>?_))
  cases ok with
  | false=>exact wpAny_pure ⟨rfl,again I7 q7⟩
  | true =>
   refine wpAny_bind (no (jJ (hb _ s7 σ6 H7 _ I7 q7) fun _ s8 ⟨σ8,H8,I8,n8⟩=>?_))
   exact wpAny_pure ⟨rfl,again I8 n8⟩
theorem jY {env : Env} : ∀ {names : List (Str × NameKind)} {x : Str}, names.lookup x = some .free →
    ((names.map fun (n, k) => if (k == NameKind.free && env.scope.kind == .function && env.kindOf n == some .cell) then (n, NameKind.cell) else (n, k)).lookup x = some .cell ∨
     (names.map fun (n, k) => if (k == NameKind.free && env.scope.kind == .function && env.kindOf n == some .cell) then (n, NameKind.cell) else (n, k)).lookup x = some .free)
  | [], _, h => by simp at h
  | (n, k) :: r, x, h => by
    have ih := @jY env r x
    rw [AN]
    cases hx : x == n with
    | true =>
      simp only [AM, hx] at h
      cases h
      by_cases hc : (NameKind.free == NameKind.free && env.scope.kind == .function && env.kindOf n == some .cell) = true
      · left; simp only [hc, BK, AM, hx]
      · right; simp only [hc, B8, AM, hx, AI]
    | false =>
      simp only [AM, hx] at h
      by_cases hc : (k == NameKind.free && env.scope.kind == .function && env.kindOf n == some .cell) = true
      · simp only [hc, BK, AM, hx]; exact ih h
      · simp only [hc, B8, AM, hx, AI]; exact ih h
structure CScope (X:Cx)(N:List Str)(fr:List (Option Nat))(sc:Scope):Prop where
 kind:sc.kind = .function
 nocell:∀ y ∈ sc.names,y.2 ≠ NameKind.cell
 loc:∀ y ∈ sc.names,y.2 = .local→sc.names.lookup y.1=some .local
 len:fr.length=N.length
 fr:∀ (i j:Nat),fr[i]? = some (some j)→∃ x,N[i]? = some x∧X.N[j]? = some x∧sc.names.lookup x=some .free∧(X.env.kindOf x=some .cell∨X.env.kindOf x=some .free)
def rP (XN:List Str)(XS names:List (Str × NameKind)):List Str→List (Option Nat)→Bool
 | [],[]=>true
 | x :: N,o :: fr=>(match o with
  | none=>true
  | some j=>XN[j]? == some x && names.lookup x == some .free && (XS.lookup x == some .cell || XS.lookup x == some .free)) && rP XN XS names N fr
 | _,_=>false
theorem cI {XN:List Str}{XS names:List (Str × NameKind)}:∀ {N:List Str} {fr:List (Option Nat)},rP XN XS names N fr=true→fr.length=N.length
 | [],[],_=>rfl
 | x :: N,o :: fr,h=>by
  unfold rP at h
  rw [AE] at h
  rw [Bf,Bf,cI h.2]
 | [],_ :: _,h=>by cases h
 | _ :: _,[],h=>by cases h
theorem cJ {XN:List Str}{XS names:List (Str × NameKind)}:∀ {N:List Str} {fr:List (Option Nat)} {i j:Nat},rP XN XS names N fr=true→fr[i]? = some (some j)→∃ x,N[i]? = some x∧XN[j]? = some x∧names.lookup x=some .free∧(XS.lookup x=some .cell∨XS.lookup x=some .free)
 | [],[],_,_,_,e=>by simp at e
 | x :: N,o :: fr,0,j,h,e=>by
  unfold rP at h
  rw [AE] at h
  simp at e
  subst e
  have h1:=h.1
  simp only [AE,Cz,beq_iff_eq] at h1
  exact ⟨x,rfl,h1.1.1,h1.1.2,h1.2⟩
 | x :: N,o :: fr,i + 1,j,h,e=>by
  unfold rP at h
  rw [AE] at h
  obtain ⟨y,q⟩:=cJ (i:=i) (j:=j) h.2 (by simpa using e)
  exact ⟨y,by simpa using q.1,q.2⟩
 | [],_ :: _,_,_,h,_=>by cases h
 | _ :: _,[],_,_,h,_=>by cases h
def okLoc (names:List (Str × NameKind)):Bool:=names.all fun y=>!(y.2 == .cell) && (!(y.2 == .local) || names.lookup y.1 == some .local)
theorem CScope.of {X:Cx}{N:List Str}{fr:List (Option Nat)}{sc:Scope}(h1:sc.kind = .function)(h2:okLoc sc.names=true)(h3:rP X.N X.env.scope.names sc.names N fr=true):CScope X N fr sc:=by
 have h2':=Bu.mp h2
 refine ⟨h1,fun y hy e=>?_,fun y hy e=>?_,cI h3,fun i j e=>cJ h3 e⟩
 ·have q:=h2' y hy
  rw [e] at q
  simp at q
 ·have q:=h2' y hy
  rw [e] at q
  simpa using q
theorem eC {fr:List (Option Nat)}{σ:St}{i:Nat}{v:V}(h:(mJ fr σ)[i]? = some (some v)):∃ j,fr[i]? = some (some j)∧σ[j]? = some (some v):=by
 unfold mJ at h
 rw [Af] at h
 cases e:fr[i]? with
 | none=>rw [e] at h;cases h
 | some o =>
  rw [e] at h
  cases o with
  | none=>cases h
  | some j =>
   refine ⟨j,rfl,?_⟩
   have h':(σ[j]?).bind id=some v:=A9 h
   cases q:σ[j]? with
   | none=>rw [q] at h';cases h'
   | some o=>rw [q] at h';exact AW some h'
section
variable {X:Cx}{pins:List (Addr × Obj)}{σ:St}{H H':Hp}{s:Shared}
theorem Inv.block {N:List Str}{fr:List (Option Nat)}{sc:Scope}{cl:List (Str × Addr)}{ex:List Addr}{h1:Heap}{tk:Nat}(I:Inv X pins σ H s)(S:CScope X N fr sc)(hcl:yV sc.names X.env.cells [] = some cl)
  (hex:∀ b ∈ ex,yB X pins H b∧b < s.heap.objs.size) (hns:h1.Ns s.heap.objs.size (fun _=>none)) (hk:∀ b u,s.heap.get? b=some u→h1.get? b=some u) :
  Inv (wZ X N sc cl s H ex) [] (mJ fr σ) H { s with heap:=h1,toks:=tk }:=by
 have hfree:H s.heap.objs.size=none:=I.hok.fresh (Ad _)
 have cne:∀ x c,cl.lookup x=some c→c ≠ s.heap.objs.size:=fun x c e z=>by
  obtain ⟨v,q⟩:=I.cell x c (kH hcl e)
  exact absurd q.lt (by rw [z];exact AR _)
 refine ⟨⟨I.ok.mod,S.kind,I.ok.glob,I.ok.blt,Ad _,fun x y c h1 h2=>I.ok.inj x y c (kH hcl h1) (kH hcl h2),fun x hx=>?_,fun x c z=>absurd (show false=true from z) (by decide),I.ok.hd,I.ok.frames,Or.inl rfl,fun b hb=>?_,I.bs,AG I.ok.bsz I.sz,fun b o e hb=>?_,fun b hb hf=>?_,I.stack,I.stkFree⟩,
  rfl,I.bare,Un.kept hk,⟨_,hns,fun i x v h1 h2 h3=>?_⟩,fun x c e=>?_,hfree,fun x c e=>I.freeC x c (kH hcl e),fun p hp=>absurd (show p ∈ ([] : List (Addr × Obj)) from hp) (by simp),I.hok.kept hk,?_⟩
 ·have hx':(relabel sc X.env).names.lookup x=some .cell∨(relabel sc X.env).names.lookup x=some .free:=hx
  obtain ⟨c,hc⟩:=xG sc.names [] cl hcl x (relabel_free' S.nocell hx')
  exact zA hc
 ·obtain ⟨⟨f0,f1,f2,f3,f4,f5⟩,lt⟩:=hex b hb
  exact ⟨A6 lt,fun x c e=>f4 x c (kH hcl e)⟩
 ·obtain ⟨⟨f0,f1,f2,f3,f4,f5⟩,lt⟩:=hex b hb
  rcases f3 with f3 | f3
  ·exact I.ok.noex b o e f3
  ·exact absurd (A5 (As e) I.ok.bsz) (BY.mpr f3)
 ·obtain ⟨⟨f0,f1,f2,f3,f4,f5⟩,lt⟩:=hex b hb
  rcases A3.mp (I.stkSub b hf) with e | e
  ·exact f1 e
  ·exact f2 e
 ·obtain ⟨j,hj,hv⟩:=eC h2
  obtain ⟨x',e1,e2,e3,e4⟩:=S.fr i j hj
  have hN:N[i]? = some x:=h1
  rw [hN] at e1
  cases e1
  obtain ⟨c,hc⟩:=xG sc.names [] cl hcl x (Bq e3)
  obtain ⟨c',hc'⟩:=zA hc
  have hcX:=kH hcl hc'
  obtain ⟨m,hn,hl⟩:=I.loc
  have kc:(relabel sc X.env).names.lookup x=some .cell∨(relabel sc X.env).names.lookup x=some .free:=jY e3
  have vis:Vis X.env.scope x∧(X.env.kindOf x ≠ some .local):=by
   rcases e4 with q | q
   ·exact ⟨.inr (.inl q),by rw [q];decide⟩
   ·exact ⟨.inr (.inr q),by rw [q];decide⟩
  obtain ⟨u,r,l⟩:=hl j x v e2 hv vis.1
  refine ⟨u,r,.inr ⟨kc,c',hc',?_⟩⟩
  rcases l with ⟨q,_⟩ | ⟨_,d,hd,hcell⟩
  ·exact absurd q vis.2
  ·rw [hcX] at hd
   cases hd
   exact hcell.keeps hk
 ·obtain ⟨v,q⟩:=I.cell x c (kH hcl e)
  exact ⟨v,q.keeps hk⟩
 ·show (mJ fr σ).length=N.length
  unfold mJ
  rw [Aa];exact S.len
end
section
variable {X:Cx}{pins:List (Addr × Obj)}{σ:St}{H H':Hp}{s:Shared}
theorem Inv.unblock {N:List Str}{sc:Scope}{cl:List (Str × Addr)}{ex:List Addr}{pins':List (Addr × Obj)}{σ':St}{s':Shared}{h':Heap}(I:Inv X pins σ H s)(J:Inv (wZ X N sc cl s H ex) pins' σ' H' s')
  (hex:∀ b ∈ ex,yB X pins H b) (sb:Heap.SameBut s.heap.objs.size s'.heap h'):Inv X pins σ H' { s' with heap:=h' }:=by
 have free:H' s.heap.objs.size=none:=J.free
 have eq:∀ b,b ≠ s.heap.objs.size→h'.get? b=s'.heap.get? b:=sb.2
 have ne:∀ b o,s.heap.get? b=some o→b ≠ s.heap.objs.size:=fun b o e=>A6 (As e)
 have B:Un (i7 X.stack) ex H H' s.heap s'.heap:=J.base
 refine I.call' (s':={ s' with heap:=h' }) (ch:=ex) J.os ⟨fun b o q n hb hx=>(eq b (ne b o q)).trans (B.keep b o q n hb hx),fun b o q n hb hx=>?_,B.free,fun b o q hx=>?_,B.tups,B.frzs,B.tbls⟩ (fun a o e=>?_) J.bare (fun b hb=>?_)
 ·obtain ⟨sl,e⟩:=B.slot b o q n hb hx
  exact ⟨sl,(eq b (ne b o q)).trans e⟩
 ·obtain ⟨o',e⟩:=B.there b o q hx
  exact ⟨o',(eq b (ne b o q)).trans e⟩
 ·refine (J.hok a o e).stay (fun b u hb q=>?_) (fun _ q=>q) fun _ _ q=>q
  refine (eq b ?_).trans q
  rcases hb with rfl | hb
  ·exact qE e free
  ·exact qE hb free
 ·obtain ⟨f0,f1,f2,f3,f4,f5⟩:=hex b hb
  exact ⟨f3,f1,f4,f5⟩
end
section
variable {X:Cx}
def tLC (fr:List (Option Nat))(wi:TI)(g:TG)(tc:TT)(te:TE):TE:=fun σ H Q=>wi σ H fun J H1=>∀ p,H1 p=none→pJ J g tc (yW p te) (fun _ H2=>Q (.ref p) H2) (mJ fr σ) (upd H1 p (.lst []))
theorem rV {N:List Str}{fr:List (Option Nat)}{e tg iter:Expr}{ifs:List Expr}{gs:List Comprehension}{sc:Scope}{ip:Pos}{cl:List (Str × Addr)}{wi:TI}{D:It→Addr→St→Hp→Prop}{pins:List (Addr × Obj)}{σ:St}{H:Hp}{s:Shared}{Q:VK}
  (he:clausesOf e=⟨tg,iter,ifs,0⟩ :: gs) (hi:PI X tg iter wi) (S:CScope X N fr sc) (hcl:yV sc.names X.env.cells [] = some cl) (I:Inv X pins σ H s)
  (h:wi σ H fun J H1=>∀ p,H1 p=none→D J p (mJ fr σ) (upd H1 p (.lst [])))
  (loop:∀ (it p:Addr) (fp:List Addr) (tn:Nat→Heap→Prop) (J:It) (s1 s2:Shared) (H1:Hp) (σ1:St),Turn X.prog X.w X.K tg J fp it tn→Inv (wZ X N sc cl s1 H1 fp) [] σ1 H1 s2→tn 0 s2.heap→(∀ b ∈ fp,yB (wZ X N sc cl s1 H1 fp) [] H1 b)→D J p σ1 H1 →
   codeAny (model X.prog X.w) X.A (.compStart e 0 (.ref it) (.ref p) (compEnvC sc cl s1.heap.objs.size X.env)) (fun r s'=>r = .ok .next∧∃ σ' H',Inv (wZ X N sc cl s1 H1 fp) [] σ' H' s'∧Q (.ref p) H') s2)
  (hs:∀ x,foldedSetIterable iter X.env x=pure x) :
  wpAny (model X.prog X.w) X.A (comprehension e sc X.env ip (newList []) false (eval iter X.env)) (EP X pins σ Q) X.xe s:=by
 refine wpAny_comprehension_free (use:=none) he hs (zV hcl) S.kind S.loc ?_
 refine jJ (hi pins s σ H _ I h) fun v s1 h1=>jJ h1 fun itv s2 ⟨it,fp,tn,J,H2,e2,I2,T,st2,f2,q⟩=>?_
 subst e2
 refine wpAny_newObj_type ?_
 have hp:H2 s2.heap.objs.size=none:=I2.hok.fresh (Ad _)
 have I3:Inv X pins σ (upd H2 s2.heap.objs.size (.lst [])) { s2 with heap:=s2.heap.push { cls:=.type "list",data:=.seq ([] : List Value).toArray },toks:=s2.toks }:=I2.lnew (its:=[]) (ys:=[]) .nil (Bh _)
 have lt2:∀ b ∈ fp,b < s2.heap.objs.size:=fun b hb=>let ⟨o,e,_⟩:=T.obj 0 _ st2 b hb;As e
 have f3:∀ b ∈ fp,yB X pins (upd H2 s2.heap.objs.size (.lst [])) b:=fun b hb=>⟨by rw [qS (A6 (lt2 b hb))];exact (f2 b hb).1,(f2 b hb).2⟩
 have st3:tn 0 (s2.heap.push { cls:=.type "list",data:=.seq ([] : List Value).toArray }):=T.keep _ _ _ st2 fun b _ o e=>Ac _ e
 refine wpAny_newFunctionEnv S.nocell (by intro y hy;simp at hy) (fun h₁ hns₁ hsb₁=>?_) S.kind
 generalize hs3:({ s2 with heap:=s2.heap.push { cls:=.type "list",data:=.seq ([] : List Value).toArray } }:Shared)=s3 at hns₁ hsb₁ ⊢
 have I3':Inv X pins σ (upd H2 s2.heap.objs.size (.lst [])) s3:=by rw [← hs3];exact I3
 have st3':tn 0 s3.heap:=by rw [← hs3];exact st3
 have lt3:∀ b ∈ fp,b < s3.heap.objs.size:=fun b hb=>let ⟨o,e,_⟩:=T.obj 0 _ st3' b hb;As e
 have hk:∀ b u,s3.heap.get? b=some u→h₁.get? b=some u:=fun b u e=>hsb₁.extBut b u (A6 (As e)) (Ac _ e)
 have hns:h₁.Ns s3.heap.objs.size (fun _=>none):=by simpa using hns₁
 have B:=I3'.block (N:=N) (fr:=fr) (sc:=sc) (cl:=cl) (ex:=fp) (h1:=h₁) (tk:=s3.toks + ([] : List (Str × Value)).length) S hcl (fun b hb=>⟨f3 b hb,lt3 b hb⟩) hns hk
 have stB:tn 0 h₁:=T.keep _ _ _ st3' fun b _ o e=>hk b o e
 refine codeAny_mono (loop it s2.heap.objs.size fp tn J s3 _ (upd H2 s2.heap.objs.size (.lst [])) (mJ fr σ) T B stB (fun b hb=>?_) (q _ hp)) fun r s' hr=>?_
 ·obtain ⟨f0,f1,f2',f3',f4,f5⟩:=f3 b hb
  refine ⟨f0,A6 (lt3 b hb),fun z=>?_,.inl hb,fun x c e=>f4 x c (kH hcl e),fun p hp'=>absurd (show p ∈ ([] : List (Addr × Obj)) from hp') (by simp)⟩
  rcases A3.mp (I3'.stkSub b z) with e | e
  ·exact f1 e
  ·exact f2' e
 ·obtain ⟨rfl,σ',H',J',q'⟩:=hr
  obtain ⟨m,hn,_⟩:=J'.loc
  exact ⟨m,hn,fun h' sb=>⟨.ref s2.heap.objs.size,H',I3'.unblock J' f3 sb,rfl,q'⟩⟩
theorem jI {N:List Str}{fr:List (Option Nat)}{tg iter elt:Expr}{ifs:List Expr}{sc:Scope}{pos:Pos}{cl:List (Str × Addr)}{wi:TI}{g:TG}{tc:TT}{te:TE}(hc:X.calm=true)(hi:PI X tg iter wi)(S:CScope X N fr sc)(hcl:yV sc.names X.env.cells [] = some cl)
  (hb:∀ s H ex,PG (wZ X N sc cl s H ex) tg g∧pH (wZ X N sc cl s H ex) ifs tc∧PE (wZ X N sc cl s H ex) elt te) (hs:∀ x,foldedSetIterable iter X.env x=pure x:=by intro _;rfl) :
  PE X (.ListComp elt [⟨tg,iter,ifs,0⟩] sc pos) (tLC fr wi g tc te):=by
 intro pins s σ H Q I h
 rw [eval_ListComp]
 refine rV (D:=fun J p σ H=>pJ J g tc (yW p te) (fun _ H2=>Q (.ref p) H2) σ H) rfl hi S hcl I h (fun it p fp tn J s1 s2 H1 σ1 T B st f d=>?_) hs
 obtain ⟨hg,hifs,helt⟩:=hb s1 H1 fp
 have L:=xF (X:=wZ X N sc cl s1 H1 fp) (e:=.ListComp elt [⟨tg,iter,ifs,0⟩] sc pos) (d:=0) (acc:=.ref p) (D:=fun _ H2=>Q (.ref p) H2) (s:=s2) hc rfl (compTurn_list elt tg iter ifs sc pos (.ref it) (.ref p) _) rfl rfl rfl T hg hifs (wV helt) B st f d
 exact codeAny_compStart_list L (T.self X.A 0 s2 _ _ st L)
end
def sq (H:Hp)(a:Addr):Option (List V):=match H a with
 | some (.lst xs)=>some xs
 | some (.tup xs)=>some xs
 | some (.frz _ (.lst xs))=>some xs
 | some (.frz _ (.tup xs))=>some xs
 | _=>none
theorem kD {H:Hp}{a:Addr}{xs:List V}(h:H a=some (.lst xs)):sq H a=some xs:=by unfold sq;rw [h]
theorem qX {H:Hp}{a:Addr}{xs:List V}(h:H a=some (.tup xs)):sq H a=some xs:=by unfold sq;rw [h]
theorem sq_updL {H:Hp}{a:Addr}{xs:List V}:sq (upd H a (.lst xs)) a=some xs:=kD qH
theorem sq_updT {H:Hp}{a:Addr}{xs:List V}:sq (upd H a (.tup xs)) a=some xs:=qX qH
theorem sq_rd {H:Hp}{a:Addr}{xs:List V}(h:sq H a=some xs):Rd H a (.lst xs)∨Rd H a (.tup xs):=by
 unfold sq at h
 cases e:H a with
 | none=>rw [e] at h;cases h
 | some o =>
  rw [e] at h
  cases o with
  | lst ys=>cases h;exact .inl (.inl e)
  | tup ys=>cases h;exact .inr (.inl e)
  | frz ob u =>
   cases u with
   | lst ys=>cases h;exact .inl (.inr ⟨ob,e⟩)
   | tup ys=>cases h;exact .inr (.inr ⟨ob,e⟩)
   | _=>cases h
  | _=>cases h
theorem fO {K:PySem.W.Frag}{H:Hp}{a:Addr}{xs:List V}(h:sq H a=some xs):SqL K H a xs∨SqT K H a xs:=by
 rcases sq_rd h with h | h
 ·exact .inl (.inl h)
 ·exact .inr (.inl h)
section
variable {X:Cx}
def rIx0:R2:=fun x y H Q=>∃ p xs i v,x = .ref p∧y = .int i∧sq H p=some xs∧xH xs i=some v∧Q v H
theorem zF:IxR X rIx0:=by
 intro value slice pins s σ H x y v u Q I rx ry h hs
 obtain ⟨p,xs,i,z,e1,e2,hq,ha,q⟩:=h
 rcases fO (K:=X.K) hq with k | k
 ·exact ix_list value slice pins s σ H x y v u Q I rx ry ⟨p,xs,i,z,e1,e2,k,ha,q⟩ hs
 ·exact ix_tup value slice pins s σ H x y v u Q I rx ry ⟨p,xs,i,z,e1,e2,k,ha,q⟩ hs
theorem len0:zD X (.builtin "len") (fun xs H Q=>∃ p ys,xs=[.ref p]∧sq H p=some ys∧Q (.int ys.length) H):=by
 intro pins s σ H xs us Q I r h
 obtain ⟨p,ys,e,hq,q⟩:=h
 exact lW pins s σ H xs us Q I r ⟨p,ys,e,fO hq,q⟩
theorem tupL0:zD X (.type "tuple") (fun xs H Q=>∃ p ys,xs=[.ref p]∧H p=some (.lst ys)∧∀ l,H l=none→Q (.ref l) (upd H l (.tup ys))):=by
 intro pins s σ H xs us Q I r h
 obtain ⟨p,ys,e,hq,q⟩:=h
 exact mK pins s σ H xs us Q I r ⟨p,ys,e,.inl ⟨SqL.of hq,q⟩⟩
theorem list0:zD X (.type "list") (fun xs H Q=>∃ p ys,xs=[.ref p]∧sq H p=some ys∧∀ l,H l=none→Q (.ref l) (upd H l (.lst ys))):=by
 intro pins s σ H xs us Q I r h
 obtain ⟨p,ys,e,hq,q⟩:=h
 exact fB pins s σ H xs us Q I r ⟨p,ys,e,fO hq,q⟩
def rIn0 (neg:Bool):R2:=fun x y H Q=>∃ p xs,y = .ref p∧sq H p=some xs∧vQ x=true∧xs.all vQ=true∧Q (.bl (if neg then !inV x xs else inV x xs)) H
theorem in0:vR X (compareOp .In) (rIn0 false):=by
 intro pins s σ H x y v u Q I rx ry h
 obtain ⟨p,xs,e,hq,f1,f2,q⟩:=h
 exact iG pins s σ H x y v u Q I rx ry ⟨p,xs,e,fO hq,f1,f2,q⟩
def gTup0 (n:Nat)(t:TGs):TG:=fun v σ H Q=>∃ a xs,v = .ref a∧H a=some (.tup xs)∧xs.length=n∧t xs σ H Q
theorem kU {es:List Expr}{k:Nat}{t:TGs}{n:Nat}{pos:Pos}(hc:X.calm=true)(h:PGs X es t)
  (hn:(assignEach es X.env).length=n:=by rfl) (hst:(assignEach es X.env).findIdx? (·.1)=none:=by rfl):PG X (.Tuple es k pos) (gTup0 n t):=by
 intro pins s σ H v u Q I r hw
 obtain ⟨a,xs,e1,hq,hl,hw⟩:=hw
 exact pg_tup hc h hn hst pins s σ H v u Q I r ⟨a,xs,e1,SqT.of hq,hl,hw⟩
theorem PG.mono {tg:Expr}{g g':TG}(h:PG X tg g)(m:∀ v σ H Q,g' v σ H Q→g v σ H Q):PG X tg g':=fun pins s σ H v u Q I r q=>h pins s σ H v u Q I r (m _ _ _ _ q)
def uM (f:Hp→Prop)(xs:List V):It:=⟨fun i H=>f H∧i < xs.length,fun i H x H'=>H'=H∧xs[i]? = some x,fun i H=>f H∧xs.length ≤ i⟩
theorem Turn.weak {P:Program}{w:World}{K:PySem.W.Frag}{tg:Expr}{J J':It}{fp:List Addr}{it:Addr}{tn:Nat→Heap→Prop}(T:Turn P w K tg J fp it tn)(hg:∀ i H,J'.go i H→J.go i H)(hs:∀ i H,J'.stop i H→J.stop i H)
  (hy:∀ i H x H',J'.go i H→J.yld i H x H'→J'.yld i H x H'):Turn P w K tg J' fp it tn where
 mem:=T.mem
 obj:=T.obj
 keep:=T.keep
 item:=fun X h1 h2 h3 hc i pins s σ H E I f st go=>jJ (T.item X h1 h2 h3 hc i pins s σ H E I f st (hg i H go)) fun r s1 ⟨u,e,q⟩=>⟨u,e,jJ q fun _ s2 ⟨x,H',I2,r2,y,t,n⟩=>⟨x,H',I2,r2,hy i H x H' go y,t,n⟩⟩
 done:=fun X h1 h2 h3 hc i pins s σ H E I f st go=>T.done X h1 h2 h3 hc i pins s σ H E I f st (hs i H go)
 self:=T.self
theorem PI.weak {tg iter:Expr}{wi wi':TI}(h:PI X tg iter wi)(m:∀ σ H R,wi' σ H R→wi σ H fun J H1=>∃ J',R J' H1∧(∀ i H,J'.go i H→J.go i H)∧(∀ i H,J'.stop i H→J.stop i H)∧(∀ i H x H',J'.go i H→J.yld i H x H'→J'.yld i H x H')):PI X tg iter wi':=by
 intro pins s σ H R I q
 refine jJ (h pins s σ H _ I (m σ H R q)) fun v s1 h1=>jJ h1 fun itv s2 ⟨it,fp,tn,J,H',e,I2,T,st,f,J',r,a,b,c⟩=>?_
 exact ⟨it,fp,tn,J',H',e,I2,T.weak a b c,st,f,r⟩
def iT0 (tl:TE):TI:=fun σ H R=>tl σ H fun x H1=>∃ a xs,x = .ref a∧H1 a=some (.tup xs)∧R (uM (fun H=>H a=some (.tup xs)) xs) H1
def iL0 (tl:TE):TI:=fun σ H R=>tl σ H fun x H1=>∃ a xs,x = .ref a∧H1 a=some (.lst xs)∧R (uM (fun H=>H a=some (.lst xs)) xs) H1
theorem vA {xs:List V}{i:Nat}(h:i < xs.length):∃ x,xs[i]? = some x:=⟨xs[i],by simp [h]⟩
theorem xE {tg l:Expr}{tl:TE}(hl:PE X l tl):PI X tg l (iT0 tl):=by
 intro pins s σ H R I h
 refine jJ (hl pins s σ H _ I h) fun v s1 ⟨x,H1,I1,r1,q1⟩=>?_
 obtain ⟨a,xs,e,hq,q⟩:=q1
 subst e
 cases r1
 obtain ⟨its,rv,p,hz⟩:=I1.tuple (SqT.of hq)
 refine wpAny_pyIter_tuple (show s1.heap.IsTuple a its.toArray from p) ?_
 refine ⟨s1.heap.objs.size,[s1.heap.objs.size],_,_,H1,rfl,I1.kept (t':=s1.toks) fun b o e=>Ac _ e,(bC a _).weak (J':=uM (fun H=>H a=some (.tup xs)) xs) (fun i H ⟨k,hi⟩=>?_) (fun i H ⟨k,hi⟩=>⟨xs,SqT.of k,hi⟩) (fun i H x H' ⟨k,hi⟩ ⟨y1,y2⟩=>⟨y1,y2 xs (SqT.of k)⟩),⟨_,Ao _ rfl,rfl,rfl⟩,fun b hb=>?_,q⟩
 ·obtain ⟨x,hx⟩:=vA hi
  exact ⟨xs,x,SqT.of k,hx⟩
 ·have e:b=s1.heap.objs.size:=by simpa using hb
  subst e
  exact I1.fpOk (Ad _) (I1.hok.fresh (Ad _))
theorem yG {tg l:Expr}{tl:TE}(hl:PE X l tl):PI X tg l (iL0 tl):=by
 intro pins s σ H R I h
 refine jJ (hl pins s σ H _ I h) fun v s1 ⟨x,H1,I1,r1,q1⟩=>?_
 obtain ⟨a,xs,e,hq,q⟩:=q1
 subst e
 cases r1
 obtain ⟨its,rv,p,hz⟩:=I1.list (SqL.of hq)
 refine wpAny_pyIter_list p.isList ?_
 refine ⟨s1.heap.objs.size,[s1.heap.objs.size],_,_,H1,rfl,I1.kept (t':=s1.toks) fun b o e=>Ac _ e,(mM a _).weak (J':=uM (fun H=>H a=some (.lst xs)) xs) (fun i H ⟨k,hi⟩=>?_) (fun i H ⟨k,hi⟩=>⟨xs,SqL.of k,hi⟩) (fun i H x H' ⟨k,hi⟩ ⟨y1,y2⟩=>⟨y1,y2 xs (SqL.of k)⟩),⟨_,Ao _ rfl,rfl,rfl⟩,fun b hb=>?_,q⟩
 ·obtain ⟨x,hx⟩:=vA hi
  exact ⟨xs,x,SqL.of k,hx⟩
 ·have e:b=s1.heap.objs.size:=by simpa using hb
  subst e
  exact I1.fpOk (Ad _) (I1.hok.fresh (Ad _))
def Cal (P:Program)(w:World)(K:PySem.W.Frag)(mg:Str→Option Value)(base:Heap)(x:Str)(ps:List Str)(k:Nat)(sp:Sp):Prop :=
 ∃ f fd,FnOk P w K mg base CX0 k f fd ps sp∧mg x=some (.ref f)∧PySem.W.keepIn K (.ref f)=true∧Binds K fd ps []
theorem Cal.imp {P:Program}{w:World}{K:PySem.W.Frag}{mg:Str→Option Value}{base:Heap}{x:Str}{ps:List Str}{k:Nat}{sp sp':Sp}(c:Cal P w K mg base x ps k sp)(h:∀ vs H Q E,sp' vs H Q E→sp vs H Q E):Cal P w K mg base x ps k sp' :=
 let ⟨f,fd,F,r⟩:=c;⟨f,fd,F.imp h,r⟩
theorem Cal.mono {P:Program}{w:World}{K:PySem.W.Frag}{mg:Str→Option Value}{base:Heap}{x:Str}{ps:List Str}{j k:Nat}{sp:Sp}(c:Cal P w K mg base x ps j sp)(h:j ≤ k):Cal P w K mg base x ps k sp :=
 let ⟨f,fd,F,r⟩:=c;⟨f,fd,F.mono h,r⟩
def tCal (sp:Sp)(t:TA):TE:=fun σ H Q=>t σ H fun vs H1=>sp vs H1 Q E0
theorem qL {k j:Nat}{x:Str}{ps:List Str}{sp:Sp}{t:TA}{e:Expr}{es:List Expr}{p pos:Pos}(c:Cal X.prog X.w X.K X.mg X.base x ps k sp)(hr:Room j X.A)(ha:PA X (e :: es) t)(hg:Gl X x:=by rfl)(hk:k ≤ j:=by decide)
  (hdb:(x == ("__debug__" : Str))=false:=by decide) (he:starEach (e :: es) X.env=(false,eval e X.env) :: starEach es X.env:=by rfl) (hpl:(backTo pos (starEach es X.env)).any (·.1)=false:=by rfl) :
  PE X (.Call (.Name x p) (e :: es) [] pos) (tCal sp t):=by
 obtain ⟨f,fd,F,hm,kp,hb⟩:=c
 intro pins s σ H Q I h
 refine pe_call (E:=E0) (dvs:=[]) F (hr.mono hk) hg hm kp hb .nil pass0 ha hdb he hpl pins s σ H Q I ?_
 show t σ H fun vs H1=>sp (vs ++ []) H1 Q E0
 have h':t σ H fun vs H1=>sp vs H1 Q E0:=h
 simpa using h'
theorem q4 {P:Program}{w:World}{K:PySem.W.Frag}{mg:Str→Option Value}{base:Heap}{x:Str}{st:Stmt}{f:Addr}{fd:FuncData}{N ps:List Str}{k:Nat}{sp:Sp}(F:Fun K x x st f fd)(hm:mg x=some (.ref f))(hb:Binds K fd ps [])
  (S:FnScope N ps (qF st)) (len:∀ vs H Q E,sp vs H Q E→vs.length=ps.length)
  (hbody:∀ (cdv:Value) (A:Around) (outer:List Env) (s:Shared) (H:Hp) (vs:List V) (Q:VK) (E:XK),Room k (A.deeper (envOfC x (qF st) s.heap.objs.size f cdv))→sp vs H Q E →
   ∃ t,PSs (uF CX0 P w K mg base N x (qF st) f cdv A outer s H E).nox (qQ st) t∧t { nx:=fun _ H'=>Q .non H',rt:=Q } (start N vs) H):Cal P w K mg base x ps (k + 1) sp :=
 ⟨f,fd,F.ok S len hbody,hm,F.kp,hb⟩
def tBits (to:TE):TE:=fun σ H Q=>to σ H fun x H1=>∃ i,x = .int i∧Q (.int (Builtin.Int.intBits i:Nat)) H1
theorem is_bl:vR X (compareOp .Is) (fun x y H Q=>∃ a b,x = .bl a∧y = .bl b∧Q (.bl (a == b)) H):=by
 intro pins s σ H x y v u Q I rx ry h
 obtain ⟨a,b,rfl,rfl,q⟩:=h
 cases rx
 cases ry
 exact is_bool ⟨.bl (a == b),H,I,rfl,q⟩
section
variable {pins:List (Addr × Obj)}{σ:St}{H:Hp}{s:Shared}
theorem Inv.walk {p:Addr}{xs:List V}{E:Value→Shared→Prop}{R:Value→Shared→Prop}(I:Inv X pins σ H s)(hc:X.calm=true)(hq:sq H p=some xs)
  (h:∀ (it:Addr) (its:List Value) (s2:Shared) (St:Nat→Heap→Prop) (fp:List Addr),Vals xs its→Walks X.prog X.w X.A.in1 it fp [it] its.length (fun i v=>its[i]? = some v) St→St 0 s2.heap→(∀ b ∈ fp,b < s2.heap.objs.size)→s2.heap.objs.size=it + 1 →
   (∀ h' tk,(∀ b o,b ∉ [it]→s2.heap.get? b=some o→h'.get? b=some o)→Inv X pins σ H { s2 with heap:=h',toks:=tk })→R (.ref it) s2) :
  wpAny (model X.prog X.w) X.A.in1 (pyIter (.ref p)) R E s:=by
 have hd:X.A.in1.handled=none:=I.ok.hd hc
 have key:∀ (ob:Obj),Inv X pins σ H { s with heap:=s.heap.push ob }∧∀ h' tk,(∀ b o,b ∉ [s.heap.objs.size]→(s.heap.push ob).get? b=some o→h'.get? b=some o)→Inv X pins σ H { s with heap:=h',toks:=tk }:=fun ob=>by
  refine ⟨I.kept (t':=s.toks) fun b o e=>Ac _ e,fun h' tk k=>I.kept fun b o e=>k b o (fun z=>?_) (Ac _ e)⟩
  have e':b=s.heap.objs.size:=by simpa using z
  exact AR _ (e' ▸ As e)
 rcases fO (K:=X.K) hq with k | k
 ·obtain ⟨its,rv,pl,hz⟩:=I.list k
  have ne:p ≠ s.heap.objs.size:=A6 (let ⟨_,e,_⟩:=pl.isList;As e)
  refine wpAny_pyIter_list pl.isList ?_
  refine h s.heap.objs.size its _ (fun i h=>h.IsListIter s.heap.objs.size p i∧h.IsList p its.toArray) [s.heap.objs.size,p] rv (by simpa using Walks.list hd s.heap.objs.size p ne its.toArray) ⟨⟨_,Ao _ rfl,rfl,rfl⟩,pl.isList.at fun o e=>Ac _ e⟩ (fun b hb=>?_) (AO ..) (key _).2
  rw [AO]
  rcases A3.mp hb with rfl | hb
  ·exact Ba _
  ·have e:b=p:=by simpa using hb
   subst e
   exact Cp (let ⟨_,e,_⟩:=pl.isList;As e)
 ·obtain ⟨its,rv,pl,hz⟩:=I.tuple k
  have lt:p < s.heap.objs.size:=pl.lt
  have ne:p ≠ s.heap.objs.size:=A6 lt
  refine wpAny_pyIter_tuple (show s.heap.IsTuple p its.toArray from pl) ?_
  refine h s.heap.objs.size its _ (fun i h=>h.IsTupleIter s.heap.objs.size p i∧h.IsTuple p its.toArray) [s.heap.objs.size,p] rv (by simpa using Walks.tuple hd s.heap.objs.size p ne its.toArray) ⟨⟨_,Ao _ rfl,rfl,rfl⟩,(show s.heap.IsTuple p its.toArray from pl).at fun o e=>Ac _ e⟩ (fun b hb=>?_) (AO ..) (key _).2
  rw [AO]
  rcases A3.mp hb with rfl | hb
  ·exact Ba _
  ·have e:b=p:=by simpa using hb
   subst e
   exact Cp lt
end
theorem preSum_eq (ns:List Int):∀ n,n ≤ ns.length→preSum (fun i=>ns.getD i 0) n=(ns.take n).sum
 | 0,_=>rfl
 | n + 1,h=>by
  show preSum (fun i=>ns.getD i 0) n + ns.getD n 0=_
  rw [preSum_eq ns n (by omega),Az,Ag (by omega),Ci]
  simp [Ab,Ag (show n < ns.length by omega)]
theorem jF {ns:List Int}{its:List Value}(r:Vals (ns.map V.int) its){i:Nat}{v:Value}(h:its[i]? = some v):∃ t,v = .int (ns.getD i 0) t:=by
 have hl:=r.length
 rw [Aa] at hl
 have hi:i < ns.length:=by rw [hl];exact (Ae.mp h).1
 obtain ⟨u,hu,t,rfl⟩:=r.get (i:=i) (x:=V.int ns[i]) (by simp [hi])
 rw [h] at hu
 cases hu
 exact ⟨t,by simp [Ab,hi]⟩
def lB (ns:List Int):Prop:=(∀ n ∈ ns,-(2 ^ 62) ≤ n∧n < 2 ^ 62)∧∀ j,j ≤ ns.length→InLong (ns.take j).sum
theorem tD (hc:X.calm=true):zD X (.builtin "sum") (fun xs H Q=>∃ (p:Addr) (ns:List Int),xs=[.ref p]∧sq H p=some (ns.map V.int)∧lB ns∧Q (.int ns.sum) H):=by
 intro pins s σ H xs us Q I r h
 obtain ⟨p,ns,rfl,hq,fit,q⟩:=h
 obtain ⟨u,rfl,ru⟩:=r.one
 cases ru
 refine call_sum_walk (I.walk hc hq fun it its s2 St fp rv W st hfp hsz J=>?_)
 have hl:=rv.length
 rw [Aa] at hl
 refine ⟨it,fp,[it],its.length,_,St,fun i=>ns.getD i 0,rfl,W,st,hfp,fun i v hv=>jF rv hv,fun j hj=>⟨?_,?_⟩,fun h' tk t' k=>⟨.int ns.sum,H,J h' tk k,?_,q⟩⟩
 ·have hj':j < ns.length:=by omega
  have e:ns.getD j 0=ns[j]:=by simp [Ab,hj']
  show InLong (ns.getD j 0)
  rw [e]
  obtain ⟨a,b⟩:=fit.1 ns[j] (AK hj')
  exact ⟨by omega,by omega⟩
 ·rw [preSum_eq ns (j + 1) (by omega)]
  exact fit.2 (j + 1) (by omega)
 ·rw [← hl,preSum_eq ns _ (Ad _),AF]
  exact ⟨_,rfl⟩
theorem pM {bs:List Bool}{its:List Value}(r:Vals (bs.map V.bl) its){i:Nat}{v:Value}(h:its[i]? = some v):v = .bool (bs.getD i true):=by
 have hl:=r.length
 rw [Aa] at hl
 have hi:i < bs.length:=by rw [hl];exact (Ae.mp h).1
 obtain ⟨u,hu,e⟩:=r.get (i:=i) (x:=V.bl bs[i]) (by simp [hi])
 rw [h] at hu
 cases hu
 rw [show v=Value.bool bs[i] from e]
 simp [Ab,hi]
theorem oX {bs:List Bool}{its:List Value}(r:Vals (bs.map V.bl) its)(A:Around):TruthOf X.prog X.w A (fun i v=>its[i]? = some v) (fun i=>bs.getD i true):=fun i v s Q E h q=>by
 rw [pM r h]
 exact wpAny_truthy_bool q
theorem range_all (bs:List Bool):(List.range bs.length).all (fun i=>bs.getD i true)=bs.all id:=by
 rw [Bs,Bu,Bu]
 constructor
 ·intro h b hb
  obtain ⟨i,hi,rfl⟩:=BX.mp hb
  have:=h i (AU.mpr hi)
  simpa [Ab,hi] using this
 ·intro h i hi
  have hi':=AU.mp hi
  have:=h bs[i] (AK hi')
  simpa [Ab,hi'] using this
theorem all0 (hc:X.calm=true):zD X (.builtin "all") (fun xs H Q=>∃ (p:Addr) (bs:List Bool),xs=[.ref p]∧sq H p=some (bs.map V.bl)∧Q (.bl (bs.all id)) H):=by
 intro pins s σ H xs us Q I r h
 obtain ⟨p,bs,rfl,hq,q⟩:=h
 obtain ⟨u,rfl,ru⟩:=r.one
 cases ru
 refine call_all_walk (I.walk hc hq fun it its s2 St fp rv W st hfp hsz J=>?_)
 have hl:=rv.length
 rw [Aa] at hl
 refine ⟨it,fp,[it],its.length,_,St,fun i=>bs.getD i true,rfl,W,st,oX rv _,fun h' tk k=>⟨.bl (bs.all id),H,J h' tk k,?_,q⟩⟩
 rw [← hl,range_all]
 exact rfl
def zM (H:Hp):V→Option String
 | .non=>some "NoneType"
 | .bl _=>some "bool"
 | .int _=>some "int"
 | .str _=>some "str"
 | .ref a=>match H a with
  | some (.lst _)=>some "list"
  | some (.tup _)=>some "tuple"
  | some (.dK _)=>some "dict"
  | _=>none
 | _=>none
def subN (t T:String):Bool:=t == T || (t == "bool" && T == "int")
theorem oT {K:PySem.W.Frag}{H:Hp}{x:V}{t:String}(h:zM H x=some t):TyOf K H x (.type t)∧(t = "NoneType" ∨ t = "bool" ∨ t = "int" ∨ t = "str" ∨ t = "list" ∨ t = "tuple" ∨ t = "dict"):=by
 cases x with
 | non=>cases h;exact ⟨.non,by simp⟩
 | bl b=>cases h;exact ⟨.bl b,by simp⟩
 | int i=>cases h;exact ⟨.int i,by simp⟩
 | str i=>cases h;exact ⟨.str i,by simp⟩
 | ref a =>
  cases e:H a with
  | none=>simp [zM,e] at h
  | some o =>
   cases o with
   | lst xs=>simp [zM,e] at h;subst h;exact ⟨.lst e,by simp⟩
   | tup xs=>simp [zM,e] at h;subst h;exact ⟨.tup e,by simp⟩
   | dK xs=>simp [zM,e] at h;subst h;exact ⟨.dK e,by simp⟩
   | _=>simp [zM,e] at h
 | _=>cases h
theorem kit_of {K:PySem.W.Frag}{t T:String}(h:t = "NoneType" ∨ t = "bool" ∨ t = "int" ∨ t = "str" ∨ t = "list" ∨ t = "tuple" ∨ t = "dict") (hT:T = "int" ∨ T = "bool" ∨ T = "tuple" ∨ T = "str" ∨ T = "list"):PySem.W.kitOne K (.type t) (.type T)=some (subN t T):=by
 rcases h with rfl | rfl | rfl | rfl | rfl | rfl | rfl <;> rcases hT with rfl | rfl | rfl | rfl | rfl <;> rfl
theorem dF:zD X (.builtin "isinstance") (fun xs H Q=>∃ x T t,xs=[x,.ty T]∧zM H x=some t∧(T = "int" ∨ T = "bool" ∨ T = "tuple" ∨ T = "str" ∨ T = "list")∧Q (.bl (subN t T)) H):=by
 intro pins s σ H xs us Q I r h
 obtain ⟨x,T,t,rfl,ht,hT,q⟩:=h
 obtain ⟨u,v,rfl,ru,rv⟩:=r.two
 cases (show v=Value.type T from rv)
 obtain ⟨ty,ht'⟩:=oT (K:=X.K) ht
 exact iW I ru ty (kit_of ht' hT) fun tk=>⟨.bl (subN t T),H,I.tok tk,rfl,q⟩
end
theorem kX:bootBuiltins "len" = some (.builtin "len"):=by decide +kernel
theorem dJ:bootBuiltins "sum" = some (.builtin "sum"):=by decide +kernel
theorem mF:bootBuiltins "all" = some (.builtin "all"):=by decide +kernel
theorem kA:bootBuiltins "isinstance" = some (.builtin "isinstance"):=by decide +kernel
theorem bt_abs:bootBuiltins "abs" = some (.builtin "abs"):=by decide +kernel
theorem uJ:bootBuiltins "min" = some (.builtin "min"):=by decide +kernel
theorem gH:bootBuiltins "max" = some (.builtin "max"):=by decide +kernel
theorem oH:bootBuiltins "sorted" = some (.builtin "sorted"):=by decide +kernel
theorem kL:bootBuiltins "tuple" = some (.type "tuple"):=by decide +kernel
theorem pA:bootBuiltins "list" = some (.type "list"):=by decide +kernel
theorem pC:bootBuiltins "int" = some (.type "int"):=by decide +kernel
theorem w4:bootBuiltins "bool" = some (.type "bool"):=by decide +kernel
theorem for_seq {f:Hp→Prop}{xs:List V}{g:TG}{tb:TS}{D:Ends}{σ:St}{H:Hp}(Pv:Nat→St→Hp→Prop)(h0:Pv 0 σ H)(hl:∀ i σ H,i ≤ xs.length→Pv i σ H→f H)
  (hs:∀ i x σ H,xs[i]? = some x→Pv i σ H→g x σ H fun σ2 H2=>tb { D with nx:=Pv (i + 1),ct:=Pv (i + 1),bk:=D.nx } σ2 H2) (hd:∀ σ H,Pv xs.length σ H→D.nx σ H) :
  ∃ W:Nat→Nat→St→Hp→Prop,(∃ m,W 0 m σ H)∧∀ i m σ H,W i m σ H →
   ((uM f xs).stop i H∧D.nx σ H)∨((uM f xs).go i H∧∃ N:St→Hp→Prop,(∀ σ' H',N σ' H'→∃ m',m' < m∧W (i + 1) m' σ' H')∧∀ x H',(uM f xs).yld i H x H'→g x σ H' fun σ2 H2=>tb { D with nx:=N,ct:=N,bk:=D.nx } σ2 H2):=by
 refine ⟨fun i m σ H=>m=xs.length - i∧i ≤ xs.length∧Pv i σ H,⟨xs.length,by simp,Bh _,h0⟩,?_⟩
 rintro i m σ H ⟨rfl,hi,p⟩
 have q:=hl i σ H hi p
 by_cases hlt:i < xs.length
 ·refine .inr ⟨⟨q,hlt⟩,Pv (i + 1),fun σ' H' p'=>⟨xs.length - (i + 1),by omega,rfl,hlt,p'⟩,fun x H' y=>?_⟩
  obtain ⟨e,y⟩:=y
  subst e
  exact hs i x σ _ y p
 ·have e:i=xs.length:=by omega
  subst e
  exact .inl ⟨⟨q,Ad _⟩,hd σ H p⟩
theorem jS {f:Hp→Prop}{xs:List V}{g:TG}{tc:TT}{tb:TB}{D:St→Hp→Prop}{σ:St}{H:Hp}(Pv:Nat→St→Hp→Prop)(h0:Pv 0 σ H)(hl:∀ i σ H,i ≤ xs.length→Pv i σ H→f H)
  (hs:∀ i x σ H,xs[i]? = some x→Pv i σ H→g x σ H fun σ2 H2=>tc σ2 H2 fun b H3=>if b=true then tb σ2 H3 (Pv (i + 1)) else Pv (i + 1) σ2 H3) (hd:∀ σ H,Pv xs.length σ H→D σ H):pJ (uM f xs) g tc tb D σ H:=by
 refine ⟨fun i m σ H=>m=xs.length - i∧i ≤ xs.length∧Pv i σ H,⟨xs.length,by simp,Bh _,h0⟩,?_⟩
 rintro i m σ H ⟨rfl,hi,p⟩
 have q:=hl i σ H hi p
 by_cases hlt:i < xs.length
 ·refine .inr ⟨⟨q,hlt⟩,Pv (i + 1),fun σ' H' p'=>⟨xs.length - (i + 1),by omega,rfl,hlt,p'⟩,fun x H' y=>?_⟩
  obtain ⟨e,y⟩:=y
  subst e
  exact hs i x σ _ y p
 ·have e:i=xs.length:=by omega
  subst e
  exact .inl ⟨⟨q,Ad _⟩,hd σ H p⟩
theorem yA {lo:Int}{n:Nat}{g:TG}{tc:TT}{tb:TB}{D:St→Hp→Prop}{σ:St}{H:Hp}(Pv:Nat→St→Hp→Prop)(h0:Pv 0 σ H)
  (hs:∀ i σ H,i < n→Pv i σ H→g (.int (lo + i)) σ H fun σ2 H2=>tc σ2 H2 fun b H3=>if b=true then tb σ2 H3 (Pv (i + 1)) else Pv (i + 1) σ2 H3) (hd:∀ σ H,Pv n σ H→D σ H):pJ (Itr lo n) g tc tb D σ H:=by
 refine ⟨fun i m σ H=>m=n - i∧i ≤ n∧Pv i σ H,⟨n,by simp,Bh _,h0⟩,?_⟩
 rintro i m σ H ⟨rfl,hi,p⟩
 by_cases hlt:i < n
 ·refine .inr ⟨hlt,Pv (i + 1),fun σ' H' p'=>⟨n - (i + 1),by omega,rfl,hlt,p'⟩,fun x H' y=>?_⟩
  obtain ⟨e,y⟩:=y
  subst e y
  exact hs i σ _ hlt p
 ·have e:i=n:=by omega
  subst e
  exact .inl ⟨Ad _,hd σ H p⟩
def Box (H:Hp)(p:Addr):Prop:=∃ g m c:Int,H p=some (.lst [.int g,.int m,.int c])
def But (p:Addr)(H H':Hp):Prop:=∀ b,b ≠ p→H' b=H b
theorem But.refl {p:Addr}{H:Hp}:But p H H:=fun _ _=>rfl
theorem But.trans {p:Addr}{H H1 H2:Hp}(a:But p H H1)(b:But p H1 H2):But p H H2:=fun c h=>(b c h).trans (a c h)
theorem But.upd {p:Addr}{H:Hp}{o:HO}:But p H (upd H p o):=fun _ h=>qS h
theorem But.sq {p a:Addr}{H H':Hp}(h:But p H H')(n:a ≠ p):sq H' a=sq H a:=by unfold L2.sq;rw [h a n]
def Scr (K:PySem.W.Frag)(a:Addr)(ns:List Int)(H:Hp):Prop:=SqL K H a (ns.map V.int)
theorem kQ {H:Hp}{p:Addr}{o:HO}(n:H p=none):Same H (upd H p o):=fun b u e=>by rw [qS (qE e n)];exact e
section
variable {X:Cx}
def oY (t:TA):TE:=fun σ H Q=>t σ H fun xs H1=>xs.length ≤ sizeLine∧∀ (p:Addr) (H2:Hp),H1 p=none→Same H1 H2→H2 p=some (.tup xs)→Q (.ref p) H2
theorem jK {es:List Expr}{t:TA}{x1}{pos:Pos}(h:PA X es t):PE X (.Tuple es x1 pos) (oY t):=by
 intro pins s σ H Q I hq
 refine Tuple_ (jJ (h pos pins s σ H _ I hq) fun us s1 ⟨xs,H1,I1,r,z,q⟩=>?_)
 have hf:H1 s1.heap.objs.size=none:=I1.hok.fresh (Ad _)
 refine wpAny_newObj_type ?_ (by show us.toArray.size ≤ sizeLine;rw [Ak,← r.length];exact z)
 refine ⟨.ref s1.heap.objs.size,upd H1 s1.heap.objs.size (.tup xs),I1.laid (t':=s1.toks) (fun b u e=>Ac _ e) (Ad _) ?_,rfl,q _ _ hf (kQ hf) qH⟩
 exact ⟨z,us,r,Ct s1.heap _⟩
theorem zZ:zD X (.type "tuple") (fun xs H Q=>∃ p ys,xs=[.ref p]∧H p=some (.lst ys)∧∀ (l:Addr) (H2:Hp),H l=none→Same H H2→H2 l=some (.tup ys)→Q (.ref l) H2):=by
 intro pins s σ H xs us Q I r h
 obtain ⟨p,ys,e,hq,q⟩:=h
 exact tupL0 pins s σ H xs us Q I r ⟨p,ys,e,hq,fun l n=>q l _ n (kQ n) qH⟩
theorem a_tTupA {t:TA}{σ:St}{H:Hp}{Q:VK}:oY t σ H Q=t σ H fun xs H1=>xs.length ≤ sizeLine∧∀ (p:Addr) (H2:Hp),H1 p=none→Same H1 H2→H2 p=some (.tup xs)→Q (.ref p) H2:=rfl
end
section
variable {D:Ends}{σ:St}{H:Hp}{Q:VK}{QB:Bool→Hp→Prop}{QA:List V→Hp→Prop}{QG:St→Hp→Prop}{R:It→Hp→Prop}
theorem a_tSeq {t u:TS}:tSeq t u D σ H=t { D with nx:=u D } σ H:=rfl
theorem a_tRet {te:TE}:tRet te D σ H=te σ H D.rt:=rfl
theorem a_tRetN:tRetN D σ H=D.rt .non H:=rfl
theorem a_tNext:tNext D σ H=D.nx σ H:=rfl
theorem a_tDrop {te:TE}:tDrop te D σ H=te σ H fun _ H1=>D.nx σ H1:=rfl
theorem a_tAsg {te:TE}{g:TG}:eZ te g D σ H=te σ H fun x H1=>g x σ H1 D.nx:=rfl
theorem a_tIfS {c:TT}{t u:TS}:tIfS c t u D σ H=c σ H fun b H1=>if b=true then t D σ H1 else u D σ H1:=rfl
theorem a_tPar {i j:Nat}{ta:TA}:tPar i j ta D σ H=ta σ H fun vs H1=>∃ v w,vs=[v,w]∧D.nx ((σ.set i (some v)).set j (some w)) H1:=rfl
theorem a_gName {i:Nat}{v:V}:zJ i v σ H QG=QG (σ.set i (some v)) H:=rfl
theorem a_gNil {vs:List V}:gNil vs σ H QG=(vs=[]∧QG σ H):=rfl
theorem a_gCons {t:TG}{u:TGs}{vs:List V}:gCons t u vs σ H QG = ∃ v r,vs=v :: r∧t v σ H fun σ' H'=>u r σ' H' QG:=rfl
theorem a_gTup0 {n:Nat}{t:TGs}{v:V}:gTup0 n t v σ H QG = ∃ a xs,v = .ref a∧H a=some (.tup xs)∧xs.length=n∧t xs σ H QG:=rfl
theorem a_gSub {to ti:TE}{t:TSet}{v:V}:gSub to ti t v σ H QG=to σ H fun o H1=>ti σ H1 fun i H2=>t o i v H2 fun H3=>QG σ H3:=rfl
theorem a_rSetL {o i v:V}{q:Hp→Prop}:rSetL o i v H q = ∃ p xs k j,o = .ref p∧i = .int k∧H p=some (.lst xs)∧rX xs.length k=some j∧q (upd H p (.lst (xs.set j v))):=rfl
theorem a_tAnd {t u:TT}:tAnd t u σ H QB=t σ H fun c H1=>if c=true then u σ H1 QB else QB false H1:=rfl
theorem a_tOr {t u:TT}:tOr t u σ H QB=t σ H fun c H1=>if c=true then QB true H1 else u σ H1 QB:=rfl
theorem a_tNot {t:TT}:tNot t σ H QB=t σ H fun c H1=>QB (!c) H1:=rfl
theorem a_tTest {t:TE}:tTest t σ H QB=t σ H fun x H'=>∃ k,x = .bl k∧QB k H':=rfl
theorem a_tB {t:TE}:tB t σ H QB=t σ H fun x H1=>∃ c,x = .bl c∧QB c H1:=rfl
theorem a_tTrue:tTrue σ H QB=QB true H:=rfl
theorem a_tIf {t:TT}{ta tb:TE}:tIf t ta tb σ H Q=t σ H fun c H1=>if c=true then ta σ H1 Q else tb σ H1 Q:=rfl
theorem a_tAndV {ta tb:TE}:tAndV ta tb σ H Q=ta σ H fun x H1=>∃ c,x = .bl c∧if c=true then tb σ H1 Q else Q (.bl false) H1:=rfl
theorem a_tOrV {ta tb:TE}:tOrV ta tb σ H Q=ta σ H fun x H1=>∃ c,x = .bl c∧if c=true then Q (.bl true) H1 else tb σ H1 Q:=rfl
theorem a_tNotV {ta:TE}:tNotV ta σ H Q=ta σ H fun x H1=>∃ c,x = .bl c∧Q (.bl (!c)) H1:=rfl
theorem a_tOp {r:R2}{ta tb:TE}:tOp r ta tb σ H Q=ta σ H fun x H1=>tb σ H1 fun y H2=>r x y H2 Q:=rfl
theorem a_tUn {r:V→Hp→VK→Prop}{ta:TE}:tUn r ta σ H Q=ta σ H fun x H1=>r x H1 Q:=rfl
theorem a_rU {g:Int→V}{x:V}:rU g x H Q = ∃ i,x = .int i∧Q (g i) H:=rfl
theorem a_tVar {i:Nat}:g8 i σ H Q = ∃ v,σ[i]? = some (some v)∧Q v H:=rfl
theorem a_tC {v:V}:tC v σ H Q=Q v H:=rfl
theorem a_rI0 {g:Int→Int→V}{x y:V}:oJ g x y H Q = ∃ i j,x = .int i∧y = .int j∧Q (g i j) H:=rfl
theorem a_rI {C:Int→Int→Prop}{g:Int→Int→V}{x y:V}:rI C g x y H Q = ∃ i j,x = .int i∧y = .int j∧C i j∧Q (g i j) H:=rfl
theorem a_rEq {x y:V}:rEq x y H Q=(yY x y=true∧Q (.bl (decide (x=y))) H):=rfl
theorem a_rNe {x y:V}:rNe x y H Q=(yY x y=true∧Q (.bl (!decide (x=y))) H):=rfl
theorem a_rIx0 {x y:V}:rIx0 x y H Q = ∃ p xs i v,x = .ref p∧y = .int i∧sq H p=some xs∧xH xs i=some v∧Q v H:=rfl
theorem a_rIn0 {neg:Bool}{x y:V}:rIn0 neg x y H Q = ∃ p xs,y = .ref p∧sq H p=some xs∧vQ x=true∧xs.all vQ=true∧Q (.bl (if neg then !inV x xs else inV x xs)) H:=rfl
theorem a_tCB {r:List V→Hp→VK→Prop}{t:TA}:tCB r t σ H Q=t σ H fun vs H1=>r vs H1 Q:=rfl
theorem a_tCal {sp:Sp}{t:TA}:tCal sp t σ H Q=t σ H fun vs H1=>sp vs H1 Q E0:=rfl
theorem a_tCons {ta:TE}{tr:TA}:pQ ta tr σ H QA=ta σ H fun x H1=>tr σ H1 fun xs H2=>QA (x :: xs) H2:=rfl
theorem a_tNil:tNil σ H QA=QA [] H:=rfl
theorem a_tLst {t:TA}:tLst t σ H Q=t σ H fun xs H1=>xs.length ≤ sizeLine∧∀ p,H1 p=none→Q (.ref p) (upd H1 p (.lst xs)):=rfl
theorem a_tBits {to:TE}:tBits to σ H Q=to σ H fun x H1=>∃ i,x = .int i∧Q (.int (Builtin.Int.intBits i:Nat)) H1:=rfl
theorem a_tLC {fr:List (Option Nat)}{wi:TI}{g:TG}{tc:TT}{te:TE}:tLC fr wi g tc te σ H Q=wi σ H fun J H1=>∀ p,H1 p=none→pJ J g tc (yW p te) (fun _ H2=>Q (.ref p) H2) (mJ fr σ) (upd H1 p (.lst [])):=rfl
theorem a_iRng1 {ta:TA}:iRng1 ta σ H R=ta σ H fun vs H1=>∃ j:Int,vs=[.int j]∧-(2 ^ 62) ≤ j∧j < 2 ^ 62∧R (Itr 0 j.toNat) H1:=rfl
theorem a_iRng2 {ta:TA}:iRng2 ta σ H R=ta σ H fun vs H1=>∃ i j:Int,vs=[.int i,.int j]∧(-(2 ^ 62) ≤ i∧i < 2 ^ 62∧-(2 ^ 62) ≤ j∧j < 2 ^ 62)∧R (Itr i (j - i).toNat) H1:=rfl
theorem a_iT0 {tl:TE}:iT0 tl σ H R=tl σ H fun x H1=>∃ a xs,x = .ref a∧H1 a=some (.tup xs)∧R (uM (fun H=>H a=some (.tup xs)) xs) H1:=rfl
theorem a_iL0 {tl:TE}:iL0 tl σ H R=tl σ H fun x H1=>∃ a xs,x = .ref a∧H1 a=some (.lst xs)∧R (uM (fun H=>H a=some (.lst xs)) xs) H1:=rfl
theorem a_tEmit {p:Addr}{te:TE}:yW p te σ H QG=te σ H fun y H1=>∃ ys,H1 p=some (.lst ys)∧ys.length < sizeLine∧QG σ (upd H1 p (.lst (ys ++ [y]))):=rfl
end
def FL (J:It)(g:TG)(tb:TS)(D:Ends)(σ:St)(H1:Hp):Prop:=∃ W:Nat→Nat→St→Hp→Prop,(∃ m,W 0 m σ H1)∧∀ i m σ H,W i m σ H →
 (J.stop i H∧D.nx σ H)∨(J.go i H∧∃ N:St→Hp→Prop,(∀ σ' H',N σ' H'→∃ m',m' < m∧W (i + 1) m' σ' H')∧∀ x H',J.yld i H x H'→g x σ H' fun σ2 H2=>tb { D with nx:=N,ct:=N,bk:=D.nx } σ2 H2)
theorem a_tFor {wi:TI}{g:TG}{tb:TS}{D:Ends}{σ:St}{H:Hp}:tFor wi g tb D σ H=wi σ H fun J H1=>FL J g tb D σ H1:=rfl
theorem gF {f:Hp→Prop}{xs:List V}{g:TG}{tb:TS}{D:Ends}{σ:St}{H:Hp}(Pv:Nat→St→Hp→Prop)(h0:Pv 0 σ H)(hl:∀ i σ H,i ≤ xs.length→Pv i σ H→f H)
  (hs:∀ i x σ H,xs[i]? = some x→Pv i σ H→g x σ H fun σ2 H2=>tb { D with nx:=Pv (i + 1),ct:=Pv (i + 1),bk:=D.nx } σ2 H2) (hd:∀ σ H,Pv xs.length σ H→D.nx σ H):FL (uM f xs) g tb D σ H:=for_seq Pv h0 hl hs hd
theorem z9 {lo:Int}{n:Nat}{g:TG}{tb:TS}{D:Ends}{σ:St}{H:Hp}(Pv:Nat→St→Hp→Prop)(h0:Pv 0 σ H)
  (hs:∀ i σ H,i < n→Pv i σ H→g (.int (lo + i)) σ H fun σ2 H2=>tb { D with nx:=Pv (i + 1),ct:=Pv (i + 1),bk:=D.nx } σ2 H2) (hd:∀ σ H,Pv n σ H→D.nx σ H):FL (Itr lo n) g tb D σ H:=i8 Pv h0 hs hd
def SameX (c:Addr)(H H':Hp):Prop:=∀ b o,b ≠ c→H b=some o→H' b=some o
theorem SameX.refl {c:Addr}{H:Hp}:SameX c H H:=fun _ _ _ h=>h
theorem SameX.trans {c:Addr}{H H1 H2:Hp}(a:SameX c H H1)(b:SameX c H1 H2):SameX c H H2:=fun d o n h=>b d o n (a d o n h)
theorem SameX.upd {c:Addr}{H:Hp}{o:HO}:SameX c H (upd H c o):=fun b u n h=>by rw [qS n];exact h
theorem Same.x {c:Addr}{H H':Hp}(h:Same H H'):SameX c H H':=fun b o _ e=>h b o e
theorem SameX.same {c:Addr}{H H':Hp}(h:SameX c H H')(n:H c=none):Same H H':=fun b o e=>h b o (qE e n) e
theorem But.x {p:Addr}{H H':Hp}(h:But p H H'):SameX p H H':=fun b o n e=>by rw [h b n];exact e
theorem Same.sq {H H':Hp}(h:Same H H'){a:Addr}{xs:List V}(e:L2.sq H a=some xs):L2.sq H' a=some xs:=by
 unfold L2.sq at e ⊢
 cases q:H a with
 | none=>rw [q] at e;cases e
 | some o=>rw [q] at e;rw [h a o q];exact e
theorem SameX.sq {c:Addr}{H H':Hp}(h:SameX c H H'){a:Addr}{xs:List V}(n:a ≠ c)(e:L2.sq H a=some xs):L2.sq H' a=some xs:=by
 unfold L2.sq at e ⊢
 cases q:H a with
 | none=>rw [q] at e;cases e
 | some o=>rw [q] at e;rw [h a o n q];exact e
theorem Scr.keep {K:PySem.W.Frag}{a p:Addr}{ns:List Int}{H H':Hp}(h:Scr K a ns H)(n:H p=none)(s:SameX p H H'):Scr K a ns H':=Same.seq (s.same n) h
theorem a_rIxL {K:PySem.W.Frag}{x y:V}{H:Hp}{Q:VK}:rIxL K x y H Q = ∃ p xs i v,x = .ref p∧y = .int i∧SqL K H p xs∧xH xs i=some v∧Q v H:=rfl
theorem sum_bound {b:Int}:∀ {ns:List Int},(∀ n ∈ ns,-b ≤ n∧n ≤ b)→-(b * (ns.length:Int)) ≤ ns.sum∧ns.sum ≤ b * (ns.length:Int)
 | [],_=>by simp
 | n :: ns,h=>by
  have h1:=h n Am
  have h2:=sum_bound (ns:=ns) fun m hm=>h m (Ap _ hm)
  rw [B3,Bf,Int.natCast_add,Int.mul_add]
  simp only [Int.natCast_one,Int.mul_one]
  omega
theorem g9 {ns:List Int}(h:∀ n ∈ ns,-(2 ^ 40) ≤ n∧n ≤ 2 ^ 40)(hl:ns.length ≤ 1000):lB ns:=by
 refine ⟨fun n hn=>⟨by have:=(h n hn).1;omega,by have:=(h n hn).2;omega⟩,fun j hj=>?_⟩
 have q:=sum_bound (b:=2 ^ 40) (ns:=ns.take j) fun n hn=>h n (Bl hn)
 have e:(ns.take j).length ≤ 1000:=by rw [An];omega
 have e':(2:Int) ^ 40 * ((ns.take j).length:Int) ≤ 2 ^ 40 * 1000:=Int.mul_le_mul_of_nonneg_left (by omega) (by decide)
 constructor
 ·have:(2:Int) ^ 40 * 1000 < 2 ^ 63:=by decide
  omega
 ·have:(2:Int) ^ 40 * 1000 < 2 ^ 63:=by decide
  omega
theorem ixN30:rX 3 0=some 0:=rfl
theorem ixN31:rX 3 1=some 1:=rfl
theorem ixN32:rX 3 2=some 2:=rfl
theorem atI0 {α:Type}(a:α)(l:List α):xH (a :: l) 0=some a:=zL (j:=0) (xs:=a :: l) rfl
theorem atI1 {α:Type}(a b:α)(l:List α):xH (a :: b :: l) 1=some b:=zL (j:=1) (xs:=a :: b :: l) rfl
theorem atI2 {α:Type}(a b c:α)(l:List α):xH (a :: b :: c :: l) 2=some c:=zL (j:=2) (xs:=a :: b :: c :: l) rfl
def SeqOf (h:Heap)(c:String)(l:Addr)(xs:Array Value):Prop:=(c = "list_iterator" ∧ h.IsList l xs)∨(c = "tuple_iterator" ∧ h.IsTuple l xs)
def Src (h:Heap)(c:String)(it l:Addr)(xs:Array Value)(k:Nat):Prop:=(c = "list_iterator" ∧ h.IsListIter it l k∧h.IsList l xs)∨(c = "tuple_iterator" ∧ h.IsTupleIter it l k∧h.IsTuple l xs)
theorem SeqOf.at {h h':Heap}{c:String}{l:Addr}{xs:Array Value}(x:SeqOf h c l xs)(k:∀ o,h.get? l=some o→h'.get? l=some o):SeqOf h' c l xs:=by
 rcases x with ⟨e,x⟩ | ⟨e,x⟩
 ·exact .inl ⟨e,x.at k⟩
 ·exact .inr ⟨e,x.at k⟩
theorem SeqOf.lt {h:Heap}{c:String}{l:Addr}{xs:Array Value}(x:SeqOf h c l xs):l < h.objs.size:=by
 rcases x with ⟨_,o,e,_⟩ | ⟨_,o,e,_⟩ <;> exact As e
theorem Src.at {h h':Heap}{c:String}{it l:Addr}{xs:Array Value}{k:Nat}(x:Src h c it l xs k)(k1:∀ o,h.get? it=some o→h'.get? it=some o)(k2:∀ o,h.get? l=some o→h'.get? l=some o):Src h' c it l xs k:=by
 rcases x with ⟨e,⟨o,a,r⟩,y⟩ | ⟨e,⟨o,a,r⟩,y⟩
 ·exact .inl ⟨e,⟨o,k1 o a,r⟩,y.at k2⟩
 ·exact .inr ⟨e,⟨o,k1 o a,r⟩,y.at k2⟩
theorem Src.ext {h h':Heap}{c:String}{it l b:Addr}{xs:Array Value}{k:Nat}(x:Src h c it l xs k)(hs:Heap.SameBut b h h')(n1:it ≠ b)(n2:l ≠ b):Src h' c it l xs k :=
 x.at (fun o e=>hs.extBut _ _ n1 e) fun o e=>hs.extBut _ _ n2 e
theorem Src.itlt {h:Heap}{c:String}{it l:Addr}{xs:Array Value}{k:Nat}(x:Src h c it l xs k):∃ o,h.get? it=some o∧∀ v,o.data ≠ .cell v:=by
 rcases x with ⟨_,⟨o,e,_,d⟩,_⟩ | ⟨_,⟨o,e,_,d⟩,_⟩ <;> exact ⟨o,e,fun v z=>by rw [d] at z;cases z⟩
section
variable {prog:Program}{w:World}{A:Around}{E:Value→Shared→Prop}{s:Shared}
theorem rY {c:String}{l:Addr}{xs:Array Value}{Q:Value→Shared→Prop}(x:SeqOf s.heap c l xs)(h:Q (.ref s.heap.objs.size) { s with heap:=s.heap.push { cls:=.type c,data:=.fields #[.ref l,.int 0 0] } }):wpAny (model prog w) A (pyIter (.ref l)) Q E s:=by
 rcases x with ⟨rfl,x⟩ | ⟨rfl,x⟩
 ·exact wpAny_pyIter_list x h
 ·exact wpAny_pyIter_tuple x h
theorem tU {it l:Addr}{i:Nat}{items:Array Value}{x:Value}{Q:Value→Shared→Prop}(hit:s.heap.IsTupleIter it l i)(ht:s.heap.IsTuple l items)(hx:items[i]? = some x)
  (hQ:∀ h',h'.IsTupleIter it l (i + 1)→Heap.SameBut it s.heap h'→Q x { s with heap:=h' }):wpAny (model prog w) A (Builtin.SmallTypes.nextOf (.ref it)) Q E s:=by
 obtain ⟨o,ho,hc,hd⟩:=id hit
 obtain ⟨ot,hot,_,nt,hdt⟩:=ht
 unfold Builtin.SmallTypes.nextOf
 refine wpAny_bind (wpAny_callSpecial?_slot (name:=Str.ofString "__next__") hit.typeIs BD (wpAny_call_entry BD hit.typeIs F.entry_tuple_iterator_next ?_ (F.args_tuple_iterator_next_1 _)))
 refine wpAny_bind (m:=field (.ref it) 0) (wpAny_field ho hd (x:=.ref l) rfl ?_)
 rw [Ax (show ¬ ((Value.ref l == Value.none)=true) from A0)]
 refine wpAny_bind (m:=field (.ref it) 1) (wpAny_field ho hd (x:=.int i 0) rfl ?_)
 refine wpAny_bind (m:=seqItems? (.ref l)) (wpAny_seqItems hot hdt ?_)
 simp only [Ay,hx]
 refine wpAny_bind (wpAny_setField ho hd (by simp) (wpAny_pure ⟨x,rfl,wpAny_pure (hQ _ ?_ (Heap.SameBut.update ..))⟩))
 refine ⟨_,BV _ ho (Obj.isFreed_of_fields (Obj.data_mapFields hd _)),(Obj.cls_mapFields ..).trans hc,?_⟩
 rw [Obj.data_mapFields hd];simp [rawInt]
theorem xY {c:String}{it l:Addr}{xs:Array Value}{k:Nat}{x:Value}{Q:Value→Shared→Prop}(S:Src s.heap c it l xs k)(ne:l ≠ it)(hx:xs[k]? = some x)
  (hQ:∀ h',Src h' c it l xs (k + 1)→Heap.SameBut it s.heap h'→Q x { s with heap:=h' }):wpAny (model prog w) A (Builtin.SmallTypes.nextOf (.ref it)) Q E s:=by
 rcases S with ⟨e,a,b⟩ | ⟨e,a,b⟩
 ·exact wpAny_nextOf_list_item a b hx fun h' a' sb=>hQ h' (.inl ⟨e,a',b.extBut sb.extBut ne⟩) sb
 ·exact tU a b hx fun h' a' sb=>hQ h' (.inr ⟨e,a',b.at fun o q=>sb.extBut _ _ ne q⟩) sb
theorem cN {it l:Addr}{i:Nat}{items:Array Value}{Q:Value→Shared→Prop}(hh:A.handled=none)(hit:s.heap.IsTupleIter it l i)(ht:s.heap.IsTuple l items)(hx:items[i]? = none)
  (hE:∀ h' e,Heap.ExtBut it s.heap h'→(∃ o,h'.get? e=some o∧o.cls = .type "StopIteration")→E (.ref e) { s with heap:=h' }):wpAny (model prog w) A (Builtin.SmallTypes.nextOf (.ref it)) Q E s:=by
 obtain ⟨o,ho,hc,hd⟩:=id hit
 obtain ⟨ot,hot,_,nt,hdt⟩:=ht
 unfold Builtin.SmallTypes.nextOf
 refine wpAny_bind (wpAny_callSpecial?_slot (name:=Str.ofString "__next__") hit.typeIs BD (wpAny_call_entry BD hit.typeIs F.entry_tuple_iterator_next ?_ (F.args_tuple_iterator_next_1 _)))
 refine wpAny_bind (m:=field (.ref it) 0) (wpAny_field ho hd (x:=.ref l) rfl ?_)
 rw [Ax (show ¬ ((Value.ref l == Value.none)=true) from A0)]
 refine wpAny_bind (m:=field (.ref it) 1) (wpAny_field ho hd (x:=.int i 0) rfl ?_)
 refine wpAny_bind (m:=seqItems? (.ref l)) (wpAny_seqItems hot hdt ?_)
 simp only [Ay,hx]
 refine wpAny_bind (wpAny_rule (wpAny_bind (wpAny_setField ho hd (by simp) ?_)))
 refine wpAny_bind (m:=newExc (.type "StopIteration") []) ?_
 simp only [newExc,newTuple]
 refine wpAny_bind (wpAny_newObj_type ?_ (by size_fits))
 refine wpAny_bind (m:=firstArgMember _ _) (wpAny_of_eq (a:=Value.none) (by first | rfl | (simp only [firstArgMember];rfl)) ?_)
 refine wpAny_newObj_type ?_ (by size_fits)
 simp only [raiseNew]
 refine wpAny_bind (wpAny_handled ?_)
 first | rw [show A.in1.handled=none from hh] | rw [hh]
 refine wpAny_bind (wpAny_pure (wpAny_throw ?_))
 exact hE _ _ (((Heap.SameBut.update ..).extBut.push _).push _) ⟨_,Ao _ rfl,rfl⟩
theorem cL {c:String}{it l:Addr}{xs:Array Value}{k:Nat}{Q:Value→Shared→Prop}(hh:A.handled=none)(S:Src s.heap c it l xs k)(hx:xs[k]? = none)
  (hE:∀ h' e,Heap.ExtBut it s.heap h'→(∃ o,h'.get? e=some o∧o.cls = .type "StopIteration")→E (.ref e) { s with heap:=h' }):wpAny (model prog w) A (Builtin.SmallTypes.nextOf (.ref it)) Q E s:=by
 rcases S with ⟨e,a,b⟩ | ⟨e,a,b⟩
 ·exact wpAny_nextOf_list_end hh a b hx hE
 ·exact cN hh a b hx hE
structure Zs (h:Heap)(z TI TO i1 i2:Addr)(c1 c2:String)(l1 l2:Addr)(xs ys:Array Value)(k:Nat):Prop where
 zip:IsZip h z TI TO .none
 ti:IsPair h TI (.ref i1) (.ref i2)
 to:∃ a b,IsPair h TO a b
 s1:Src h c1 i1 l1 xs k
 s2:Src h c2 i2 l2 ys k
def mL (h:Heap)(z TI TO:Addr)(f g:Value):Prop:=h.get? z=some { cls:=.type "zip",dict:=none,data:=.fields #[f,g,.bool false,.ref TI,.ref TO],slots := #[] }
def pI (f:Value):Prop:=f = .none∨∃ n:Nat,f=rawInt (n:Int)
theorem oQ {a:Addr}{Q:Option Obj→Shared→Prop}(h:Q (s.heap.get? a) s):wpAny (model prog w) A (loadIfAlive a) Q E s:=fun _ _ _=>h
theorem oO {z TI TO:Addr}{f g:Value}{Q:Bool→Shared→Prop}(hz:mL s.heap z TI TO f g)(hf:pI f)(h1:Q true s)(h2:∀ h' g',f ≠ .none→mL h' z TI TO f g'→Heap.SameBut z s.heap h'→Q false { s with heap:=h' }):wpAny (model prog w) A (Builtin.SmallTypes.ownedTupleIsFree (.ref z)) Q E s:=by
 unfold Builtin.SmallTypes.ownedTupleIsFree
 refine wpAny_bind (wpAny_field hz rfl (x:=f) rfl ?_)
 rcases hf with rfl | ⟨n,rfl⟩
 ·exact wpAny_pure h1
 ·show wpAny (model prog w) A (loadIfAlive (n:Int).toNat >>= _) _ _ _
  refine wpAny_bind (oQ ?_)
  cases e:s.heap.get? (n:Int).toNat with
  | none =>
   show wpAny (model prog w) A (if (none:Option Obj).isNone=true then pure true else _) _ _ _
   rw [Au (show (none:Option Obj).isNone=true from rfl)]
   exact wpAny_pure h1
  | some o =>
   show wpAny (model prog w) A (if (some o).isNone=true then pure true else _) _ _ _
   rw [Ax (by simp)]
   refine wpAny_bind (wpAny_field hz rfl (x:=g) rfl ?_)
   by_cases c:(g != Value.bool true)=true
   ·simp only [c,BK]
    refine wpAny_bind (wpAny_setField_rec hz (by simp) fun h' hz' hs=>wpAny_pure (h2 h' _ (fun q=>by cases q) hz' hs))
   ·simp only [c,B8]
    refine wpAny_pure ?_
    have:=h2 s.heap g (fun q=>by cases q) hz ⟨rfl,fun _ _=>rfl⟩
    exact this
theorem uO {z TI TO i1 i2 l1 l2:Addr}{c1 c2:String}{k:Nat}{xs ys:Array Value}{x y f g:Value}{Q:Fin→Shared→Prop}(D:ZipApart z TI TO i1 i2 l1 l2)(hz:mL s.heap z TI TO f g)(hf:pI f)(hTI:IsPair s.heap TI (.ref i1) (.ref i2))(hTO:∃ a b,IsPair s.heap TO a b)(h1:Src s.heap c1 i1 l1 xs k)(h2:Src s.heap c2 i2 l2 ys k)(hx:xs[k]? = some x)(hy:ys[k]? = some y)
  (hQ:∀ h' f' g',(f = .none→f'=rawInt s.heap.objs.size∧g' = .bool false∧IsPair h' TO x y)→mL h' z TI TO f' g'→pI f'→IsPair h' TI (.ref i1) (.ref i2)→(∃ a b,IsPair h' TO a b)→Src h' c1 i1 l1 xs (k + 1)→Src h' c2 i2 l2 ys (k + 1)→IsPair h' s.heap.objs.size x y→h'.objs.size=s.heap.objs.size + 1 →
   (∀ c o,c ∉ [z,TO,i1,i2]→s.heap.get? c=some o→h'.get? c=some o)→Q (.done (.ret (.ref s.heap.objs.size))) { s with heap:=h' }):wpAny (model prog w) A (Builtin.«zip.__next__» { pos:=[.ref z] }) Q E s:=by
 obtain ⟨a,b,hTO⟩:=hTO
 refine wpAny_bind (m:=field (.ref z) 2) (wpAny_field hz rfl (x:=.bool false) rfl ?_)
 refine wpAny_bind (m:=field (.ref z) 3) (wpAny_field hz rfl (x:=.ref TI) rfl ?_)
 refine wpAny_bind (wpAny_seqItems hTI rfl ?_)
 refine wpAny_bind (m:=Builtin.SmallTypes.ownedTupleIsFree (.ref z)) (oO hz hf ?_ fun h0 g' fn hz0 hs0=>?_)
 ·simp only [BK]
  refine wpAny_bind (wpAny_rule ?_)
  refine wpAny_bind (wpAny_field hz rfl (x:=.ref TO) rfl ?_)
  refine wpAny_bind (wpAny_setField_rec hz (by simp) fun ha hza hsa=>?_)
  replace hza:mL ha z TI TO .ellipsis g:=hza
  refine wpAny_bind ?_
  simp only [List.zipIdx_cons,List.zipIdx_nil,Cg,Co]
  refine wpAny_bind (wpAny_bind (wpAny_onRaise ?_))
  refine wpAny_bind (m:=Builtin.SmallTypes.nextOf (.ref i1)) (xY (s:={ s with heap:=ha }) (h1.ext hsa D.i1z D.l1z) D.l1i1 hx fun hb h1b hsb=>wpAny_pure ?_)
  have hTOb:IsPair hb TO a b:=hsb.extBut _ _ D.TOi1 (hsa.extBut _ _ D.TOz hTO)
  refine wpAny_bind (wpAny_seqItems hTOb rfl ?_)
  refine wpAny_bind (wpAny_updateSeq_pair hTOb fun hc hTOc hsc=>?_)
  replace hTOc:IsPair hc TO x b:=hTOc
  refine wpAny_bind (wpAny_letGo (wpAny_pure ?_))
  refine wpAny_bind (wpAny_bind (wpAny_onRaise ?_))
  refine wpAny_bind (m:=Builtin.SmallTypes.nextOf (.ref i2)) (xY (s:={ s with heap:=hc }) (((h2.ext hsa D.i2z D.l2z).ext hsb D.i12.symm D.l2i1).ext hsc D.TOi2.symm D.l2TO) D.l2i2 hy fun hd h2d hsd=>wpAny_pure ?_)
  have hTOd:IsPair hd TO x b:=hsd.extBut _ _ D.TOi2 hTOc
  refine wpAny_bind (wpAny_seqItems hTOd rfl ?_)
  refine wpAny_bind (wpAny_updateSeq_pair hTOd fun he hTOe hse=>?_)
  replace hTOe:IsPair he TO x y:=hTOe
  refine wpAny_bind (wpAny_letGo (wpAny_pure (wpAny_pure ?_)))
  refine wpAny_bind (wpAny_seqItems hTOe rfl ?_)
  refine wpAny_bind (wpAny_newTuple ?_)
  have sz:he.objs.size=s.heap.objs.size:=by rw [hse.1,hsd.1,hsc.1,hsb.1,hsa.1]
  have ze:mL he z TI TO .ellipsis g:=hse.extBut _ _ D.TOz.symm (hsd.extBut _ _ D.i2z.symm (hsc.extBut _ _ D.TOz.symm (hsb.extBut _ _ D.i1z.symm hza)))
  have ke:∀ c o,c ≠ z→c ≠ TO→c ≠ i1→c ≠ i2→s.heap.get? c=some o→he.get? c=some o:=fun c o n1 n2 n3 n4 e=>hse.extBut _ _ n2 (hsd.extBut _ _ n4 (hsc.extBut _ _ n2 (hsb.extBut _ _ n3 (hsa.extBut _ _ n1 e))))
  have h1e:Src he c1 i1 l1 xs (k + 1):=((h1b.ext hsc D.TOi1.symm D.l1TO).ext hsd D.i12 D.l1i2).ext hse D.TOi1.symm D.l1TO
  have h2e:Src he c2 i2 l2 ys (k + 1):=h2d.ext hse D.TOi2.symm D.l2TO
  have zlt:z < he.objs.size:=As ze
  refine wpAny_bind (m:=Builtin.SmallTypes.ownedTupleHandOut (.ref z) (.ref he.objs.size)) ?_
  unfold Builtin.SmallTypes.ownedTupleHandOut
  refine wpAny_bind (wpAny_setField_rec (show mL (he.push { cls:=.type "tuple",data:=.seq #[x,y] }) z TI TO .ellipsis g from Ac _ ze) (by simp) fun hf' hzf hsf=>?_)
  replace hzf:mL hf' z TI TO (rawInt he.objs.size) g:=hzf
  refine wpAny_setField_rec hzf (by simp) fun hg hzg hsg=>?_
  replace hzg:mL hg z TI TO (rawInt he.objs.size) (.bool false):=hzg
  have up:∀ c o,c ≠ z→he.get? c=some o→hg.get? c=some o:=fun c o n e=>hsg.extBut _ _ n (hsf.extBut _ _ n (Ac _ e))
  have new:IsPair hg he.objs.size x y:=hsg.extBut _ _ (CK zlt) (hsf.extBut _ _ (CK zlt) (Ao _ rfl))
  have szg:hg.objs.size=he.objs.size + 1:=by rw [hsg.1,hsf.1,AO]
  refine wpAny_pure ?_
  rw [sz] at hzg new szg ⊢
  refine hQ hg _ _ (fun _=>⟨rfl,rfl,up _ _ D.TOz hTOe⟩) hzg (.inr ⟨_,rfl⟩) (up _ _ D.TIz (ke _ _ D.TIz D.TITO D.TIi1 D.TIi2 hTI)) ⟨_,_,up _ _ D.TOz hTOe⟩ (h1e.at (fun o e=>up _ o D.i1z e) fun o e=>up _ o D.l1z e) (h2e.at (fun o e=>up _ o D.i2z e) fun o e=>up _ o D.l2z e) new szg fun c o hc' e=>?_
  have n1:c ≠ z:=fun q=>hc' (by simp [q])
  exact up c o n1 (ke c o n1 (fun q=>hc' (by simp [q])) (fun q=>hc' (by simp [q])) (fun q=>hc' (by simp [q])) e)
 ·simp only [AI,B8]
  rw [← Array.forIn_toList]
  simp only [Cg,Co]
  refine wpAny_bind (wpAny_bind (wpAny_bind (wpAny_holding ?_)))
  refine wpAny_bind (m:=Builtin.SmallTypes.nextOf (.ref i1)) (xY (s:={ s with heap:=h0 }) (h1.ext hs0 D.i1z D.l1z) D.l1i1 hx fun hb h1b hsb=>wpAny_pure ?_)
  refine wpAny_pure ?_
  refine wpAny_bind (wpAny_bind (wpAny_holding ?_))
  refine wpAny_bind (m:=Builtin.SmallTypes.nextOf (.ref i2)) (xY (s:={ s with heap:=hb }) ((h2.ext hs0 D.i2z D.l2z).ext hsb D.i12.symm D.l2i1) D.l2i2 hy fun hd h2d hsd=>wpAny_pure ?_)
  refine wpAny_pure (wpAny_pure ?_)
  refine wpAny_bind (m:=newTuple [x,y]) (wpAny_newTuple ?_)
  have sz:hd.objs.size=s.heap.objs.size:=by rw [hsd.1,hsb.1,hs0.1]
  have ke:∀ c o,c ≠ z→c ≠ i1→c ≠ i2→s.heap.get? c=some o→hd.get? c=some o:=fun c o n1 n3 n4 e=>hsd.extBut _ _ n4 (hsb.extBut _ _ n3 (hs0.extBut _ _ n1 e))
  have zd:mL hd z TI TO f g':=hsd.extBut _ _ D.i2z.symm (hsb.extBut _ _ D.i1z.symm hz0)
  have up:∀ c o,hd.get? c=some o→(hd.push { cls:=.type "tuple",data:=.seq #[x,y] }).get? c=some o:=fun c o e=>Ac _ e
  have new:IsPair (hd.push { cls:=.type "tuple",data:=.seq #[x,y] }) hd.objs.size x y:=Ao _ rfl
  have szg:(hd.push { cls:=.type "tuple",data:=.seq #[x,y] }).objs.size=hd.objs.size + 1:=AO ..
  refine wpAny_pure ?_
  have h1d:Src hd c1 i1 l1 xs (k + 1):=h1b.ext hsd D.i12 D.l1i2
  rw [sz] at new szg
  show Q (.done (.ret (.ref hd.objs.size))) _
  rw [sz]
  refine hQ _ _ _ (fun q=>absurd q fn) (up _ _ zd) hf (up _ _ (ke _ _ D.TIz D.TIi1 D.TIi2 hTI)) ⟨_,_,up _ _ (ke _ _ D.TOz D.TOi1 D.TOi2 hTO)⟩ (h1d.at (fun o e=>up _ o e) fun o e=>up _ o e) (h2d.at (fun o e=>up _ o e) fun o e=>up _ o e) new szg fun c o hc' e=>?_
  exact up c o (ke c o (fun q=>hc' (by simp [q])) (fun q=>hc' (by simp [q])) (fun q=>hc' (by simp [q])) e)
theorem oN {z TI TO i1 i2 l1 l2:Addr}{c1 c2:String}{k:Nat}{xs ys:Array Value}{f g:Value}{Q:Fin→Shared→Prop}(hh:A.handled=none)(D:ZipApart z TI TO i1 i2 l1 l2)(hz:mL s.heap z TI TO f g)(hf:pI f)(hTI:IsPair s.heap TI (.ref i1) (.ref i2))(hTO:∃ a b,IsPair s.heap TO a b)(h1:Src s.heap c1 i1 l1 xs k)(h2:Src s.heap c2 i2 l2 ys k)(hend:xs[k]? = none∨ys[k]? = none)
  (hE:∀ h' e,(∀ c o,c ∉ [z,TO,i1,i2]→s.heap.get? c=some o→h'.get? c=some o)→(∃ o,h'.get? e=some o∧o.cls = .type "StopIteration")→E (.ref e) { s with heap:=h' }):wpAny (model prog w) A (Builtin.«zip.__next__» { pos:=[.ref z] }) Q E s:=by
 obtain ⟨a,b,hTO⟩:=hTO
 have fin:∀ h' e,(∀ c o,c ≠ z→c ≠ TO→c ≠ i1→c ≠ i2→s.heap.get? c=some o→h'.get? c=some o)→(∃ o,h'.get? e=some o∧o.cls = .type "StopIteration")→E (.ref e) { s with heap:=h' }:=fun h' e k ho =>
  hE h' e (fun c o hc' x=>k c o (fun q=>hc' (by simp [q])) (fun q=>hc' (by simp [q])) (fun q=>hc' (by simp [q])) (fun q=>hc' (by simp [q])) x) ho
 refine wpAny_bind (m:=field (.ref z) 2) (wpAny_field hz rfl (x:=.bool false) rfl ?_)
 refine wpAny_bind (m:=field (.ref z) 3) (wpAny_field hz rfl (x:=.ref TI) rfl ?_)
 refine wpAny_bind (wpAny_seqItems hTI rfl ?_)
 refine wpAny_bind (m:=Builtin.SmallTypes.ownedTupleIsFree (.ref z)) (oO hz hf ?_ fun h0 g' _ hz0 hs0=>?_)
 ·simp only [BK]
  refine wpAny_bind (wpAny_rule ?_)
  refine wpAny_bind (wpAny_field hz rfl (x:=.ref TO) rfl ?_)
  refine wpAny_bind (wpAny_setField_rec hz (by simp) fun ha hza hsa=>?_)
  replace hza:mL ha z TI TO .ellipsis g:=hza
  refine wpAny_bind ?_
  simp only [List.zipIdx_cons,List.zipIdx_nil,Cg,Co]
  refine wpAny_bind (wpAny_bind (wpAny_onRaise ?_))
  cases hx:xs[k]? with
  | none =>
   refine wpAny_bind (m:=Builtin.SmallTypes.nextOf (.ref i1)) (cL (s:={ s with heap:=ha }) hh (h1.ext hsa D.i1z D.l1z) hx fun hb e hsb he=>?_)
   obtain ⟨oe,hoe,hce⟩:=he
   have hzb:mL hb z TI TO .ellipsis g:=hsb _ _ D.i1z.symm hza
   have hez:e ≠ z:=fun q=>by subst q;unfold mL at hzb;rw [hzb] at hoe;cases hoe;simp at hce
   refine wpAny_setField_rec hzb (by simp) fun hc _ hsc=>fin hc e (fun c o n1 _ n3 _ q=>hsc.extBut _ _ n1 (hsb _ _ n3 (hsa.extBut _ _ n1 q))) ⟨oe,hsc.extBut _ _ hez hoe,hce⟩
  | some x =>
   have hy:ys[k]? = none:=by rcases hend with h | h;rw [hx] at h;cases h;exact h
   refine wpAny_bind (m:=Builtin.SmallTypes.nextOf (.ref i1)) (xY (s:={ s with heap:=ha }) (h1.ext hsa D.i1z D.l1z) D.l1i1 hx fun hb h1b hsb=>wpAny_pure ?_)
   have hTOb:IsPair hb TO a b:=hsb.extBut _ _ D.TOi1 (hsa.extBut _ _ D.TOz hTO)
   refine wpAny_bind (wpAny_seqItems hTOb rfl ?_)
   refine wpAny_bind (wpAny_updateSeq_pair hTOb fun hc hTOc hsc=>?_)
   refine wpAny_bind (wpAny_letGo (wpAny_pure ?_))
   refine wpAny_bind (wpAny_bind (wpAny_onRaise ?_))
   refine wpAny_bind (m:=Builtin.SmallTypes.nextOf (.ref i2)) (cL (s:={ s with heap:=hc }) hh (((h2.ext hsa D.i2z D.l2z).ext hsb D.i12.symm D.l2i1).ext hsc D.TOi2.symm D.l2TO) hy fun hd e hsd he=>?_)
   obtain ⟨oe,hoe,hce⟩:=he
   have hzd:mL hd z TI TO .ellipsis g:=hsd _ _ D.i2z.symm (hsc.extBut _ _ D.TOz.symm (hsb.extBut _ _ D.i1z.symm hza))
   have hez:e ≠ z:=fun q=>by subst q;unfold mL at hzd;rw [hzd] at hoe;cases hoe;simp at hce
   refine wpAny_setField_rec hzd (by simp) fun he _ hse=>fin he e (fun c o n1 n2 n3 n4 q=>hse.extBut _ _ n1 (hsd _ _ n4 (hsc.extBut _ _ n2 (hsb.extBut _ _ n3 (hsa.extBut _ _ n1 q))))) ⟨oe,hse.extBut _ _ hez hoe,hce⟩
 ·simp only [AI,B8]
  rw [← Array.forIn_toList]
  simp only [Cg,Co]
  refine wpAny_bind (wpAny_bind (wpAny_bind (wpAny_holding ?_)))
  cases hx:xs[k]? with
  | none =>
   refine wpAny_bind (m:=Builtin.SmallTypes.nextOf (.ref i1)) (cL (s:={ s with heap:=h0 }) hh (h1.ext hs0 D.i1z D.l1z) hx fun hb e hsb he=>?_)
   exact fin hb e (fun c o n1 _ n3 _ q=>hsb _ _ n3 (hs0.extBut _ _ n1 q)) he
  | some x =>
   have hy:ys[k]? = none:=by rcases hend with h | h;rw [hx] at h;cases h;exact h
   refine wpAny_bind (m:=Builtin.SmallTypes.nextOf (.ref i1)) (xY (s:={ s with heap:=h0 }) (h1.ext hs0 D.i1z D.l1z) D.l1i1 hx fun hb h1b hsb=>wpAny_pure ?_)
   refine wpAny_pure ?_
   refine wpAny_bind (wpAny_bind (wpAny_holding ?_))
   refine wpAny_bind (m:=Builtin.SmallTypes.nextOf (.ref i2)) (cL (s:={ s with heap:=hb }) hh ((h2.ext hs0 D.i2z D.l2z).ext hsb D.i12.symm D.l2i1) hy fun hd e hsd he=>?_)
   exact fin hd e (fun c o n1 _ n3 n4 q=>hsd _ _ n4 (hsb.extBut _ _ n3 (hs0.extBut _ _ n1 q))) he
theorem zs_item {z TI TO i1 i2 l1 l2:Addr}{c1 c2:String}{k:Nat}{xs ys:Array Value}{x y:Value}{Q:Option Value→Shared→Prop}(D:ZipApart z TI TO i1 i2 l1 l2)(Z:Zs s.heap z TI TO i1 i2 c1 c2 l1 l2 xs ys k)(hx:xs[k]? = some x)(hy:ys[k]? = some y)
  (hQ:∀ h',IsZip h' z TI TO (rawInt s.heap.objs.size)→IsPair h' TI (.ref i1) (.ref i2)→IsPair h' TO x y→Src h' c1 i1 l1 xs (k + 1)→Src h' c2 i2 l2 ys (k + 1)→IsPair h' s.heap.objs.size x y→h'.objs.size=s.heap.objs.size + 1 →
   (∀ c o,c ∉ [z,TO,i1,i2]→s.heap.get? c=some o→h'.get? c=some o)→Q (some (.ref s.heap.objs.size)) { s with heap:=h' }):wpAny (model prog w) A (pyNext (.ref z)) Q E s:=by
 refine wpAny_bind (wpAny_attempt (wpAny_callSpecial?_slot (name:=Str.ofString "__next__") ⟨_,Z.zip,rfl⟩ B6 (wpAny_call_entry B6 ⟨_,Z.zip,rfl⟩ Cs (uO D Z.zip (.inl rfl) Z.ti Z.to Z.s1 Z.s2 hx hy fun h' f' g' fn iz _ ti _ s1 s2 new sz k=>?_) (Cm _))))
 obtain ⟨rfl,rfl,to⟩:=fn rfl
 exact ⟨_,rfl,wpAny_pure (hQ h' iz ti to s1 s2 new sz k)⟩
end
section
variable {prog:Program}{w:World}{A:Around}{E:Value→Shared→Prop}{s:Shared}
theorem zs_end {z TI TO i1 i2 l1 l2:Addr}{c1 c2:String}{k:Nat}{xs ys:Array Value}{Q:Option Value→Shared→Prop}(hh:A.handled=none)(D:ZipApart z TI TO i1 i2 l1 l2)(Z:Zs s.heap z TI TO i1 i2 c1 c2 l1 l2 xs ys k)(hend:xs[k]? = none∨ys[k]? = none)
  (hQ:∀ h',(∀ c o,c ∉ [z,TO,i1,i2]→s.heap.get? c=some o→h'.get? c=some o)→Q none { s with heap:=h' }):wpAny (model prog w) A (pyNext (.ref z)) Q E s:=by
 refine wpAny_bind (wpAny_attempt (wpAny_callSpecial?_slot (name:=Str.ofString "__next__") ⟨_,Z.zip,rfl⟩ B6 (wpAny_call_entry B6 ⟨_,Z.zip,rfl⟩ Cs (oN hh D Z.zip (.inl rfl) Z.ti Z.to Z.s1 Z.s2 hend fun h' e k ⟨o,ho,hc⟩=>?_) (Cm _))))
 exact wpAny_bind (wpAny_isInstance (T := "StopIteration") (b:=true) ⟨o,ho,hc⟩ isSubtype_stop (wpAny_pure (hQ _ k)))
abbrev zH1 (h:Heap)(c1:String)(l1:Addr):Heap:=h.push { cls:=.type c1,data:=.fields #[.ref l1,.int 0 0] }
abbrev zH2 (h:Heap)(c1 c2:String)(l1 l2:Addr):Heap:=(zH1 h c1 l1).push { cls:=.type c2,data:=.fields #[.ref l2,.int 0 0] }
abbrev zH3 (h:Heap)(c1 c2:String)(l1 l2:Addr):Heap:=(zH2 h c1 c2 l1 l2).push { cls:=.type "tuple",data:=.seq #[.ref h.objs.size,.ref (zH1 h c1 l1).objs.size] }
abbrev zH4 (h:Heap)(c1 c2:String)(l1 l2:Addr):Heap:=(zH3 h c1 c2 l1 l2).push { cls:=.type "tuple",data:=.seq #[.none,.none] }
abbrev zH5 (h:Heap)(c1 c2:String)(l1 l2:Addr):Heap:=(zH4 h c1 c2 l1 l2).push { cls:=.type "zip",data:=.fields #[.none,.bool false,.bool false,.ref (zH2 h c1 c2 l1 l2).objs.size,.ref (zH3 h c1 c2 l1 l2).objs.size] }
theorem iP (c1 c2:String)(l1 l2:Addr)(xs ys:Array Value) :
  Meets (Builtin.«zip.__new__» ⟨[.type "zip",.ref l1,.ref l2],[]⟩) (fun _ R s=>SeqOf s.heap c1 l1 xs∧SeqOf s.heap c2 l2 ys∧R (.ok (.ret (.ref (zH4 s.heap c1 c2 l1 l2).objs.size))) { s with heap:=zH5 s.heap c1 c2 l1 l2 }) :=
 .of_wp fun prog w A R s h=>by
  obtain ⟨hp,g,d,tk,os⟩:=s
  obtain ⟨hl1,hl2,h⟩:=h
  have hsub:=PySem.sub_zip
  have hL1:SeqOf (Shared.heap ⟨hp,g,d,tk,os⟩) c1 l1 xs:=hl1
  have hL2:SeqOf (Shared.heap ⟨hp.push { cls:=.type c1,data:=.fields #[.ref l1,.int 0 0] },g,d,tk,os⟩) c2 l2 ys:=hl2.at fun o e=>Ac _ e
  wp_walk using rY hL1,rY hL2
  exact ⟨_,rfl,h⟩
theorem sI {c1 c2:String}{l1 l2:Addr}{xs ys:Array Value}{Q:Value→Shared→Prop}(hl1:SeqOf s.heap c1 l1 xs)(hl2:SeqOf s.heap c2 l2 ys)
  (h:∀ h',Zs h' (s.heap.objs.size + 4) (s.heap.objs.size + 2) (s.heap.objs.size + 3) s.heap.objs.size (s.heap.objs.size + 1) c1 c2 l1 l2 xs ys 0→h'.objs.size=s.heap.objs.size + 5 →
   (∀ c o,s.heap.get? c=some o→h'.get? c=some o)→Q (.ref (s.heap.objs.size + 4)) { s with heap:=h' }):wpAny (model prog w) A (call (.type "zip") [.ref l1,.ref l2]) Q E s:=by
 refine callType_new F.called_zip (by decide) (F.typeCall_zip_2 _ _) (F.newCall_zip_2 _ _) (fun obj=>F.args_object_init_3 obj _ _) F.entry_zip_new (iP c1 c2 l1 l2 xs ys) ⟨hl1,hl2,?_⟩
 have z1:(zH1 s.heap c1 l1).objs.size=s.heap.objs.size + 1:=AO ..
 have z2:(zH2 s.heap c1 c2 l1 l2).objs.size=s.heap.objs.size + 2:=by rw [AO,z1]
 have z3:(zH3 s.heap c1 c2 l1 l2).objs.size=s.heap.objs.size + 3:=by rw [AO,z2]
 have z4:(zH4 s.heap c1 c2 l1 l2).objs.size=s.heap.objs.size + 4:=by rw [AO,z3]
 have z5:(zH5 s.heap c1 c2 l1 l2).objs.size=s.heap.objs.size + 5:=by rw [AO,z4]
 have g5:(zH5 s.heap c1 c2 l1 l2).get? (zH4 s.heap c1 c2 l1 l2).objs.size=some _:=Ao _ rfl
 have g4:(zH5 s.heap c1 c2 l1 l2).get? (zH3 s.heap c1 c2 l1 l2).objs.size=some _:=Ac _ (Ao _ rfl)
 have g3:(zH5 s.heap c1 c2 l1 l2).get? (zH2 s.heap c1 c2 l1 l2).objs.size=some _:=Ac _ (Ac _ (Ao _ rfl))
 have g2:(zH5 s.heap c1 c2 l1 l2).get? (zH1 s.heap c1 l1).objs.size=some _:=Ac _ (Ac _ (Ac _ (Ao _ rfl)))
 have g1:(zH5 s.heap c1 c2 l1 l2).get? s.heap.objs.size=some _:=Ac _ (Ac _ (Ac _ (Ac _ (Ao _ rfl))))
 show _∧_
 rw [z2,z3,z4] at g5
 rw [z1,z2] at g3
 rw [z3] at g4
 rw [z1] at g2
 rw [z4]
 have old:∀ c o,s.heap.get? c=some o→(zH5 s.heap c1 c2 l1 l2).get? c=some o:=fun c o x=>Ac _ (Ac _ (Ac _ (Ac _ (Ac _ x))))
 refine ⟨⟨_,g5,rfl⟩,h _ ⟨g5,g3,⟨_,_,g4⟩,?_,?_⟩ z5 old⟩
 ·rcases hl1 with ⟨rfl,x⟩ | ⟨rfl,x⟩
  ·exact .inl ⟨rfl,⟨_,g1,rfl,rfl⟩,x.at fun o e=>old _ o e⟩
  ·exact .inr ⟨rfl,⟨_,g1,rfl,rfl⟩,x.at fun o e=>old _ o e⟩
 ·rcases hl2 with ⟨rfl,x⟩ | ⟨rfl,x⟩
  ·exact .inl ⟨rfl,⟨_,g2,rfl,rfl⟩,x.at fun o e=>old _ o e⟩
  ·exact .inr ⟨rfl,⟨_,g2,rfl,rfl⟩,x.at fun o e=>old _ o e⟩
end
theorem Inv.turnedT {X:Cx}{pins:List (Addr × Obj)}{σ:St}{H:Hp}{s:Shared}{fp:List Addr}{h':Heap}{T:Addr}{xs:List V}{us:List Value}{t':Nat}(I:Inv X pins σ H s)(f:∀ b ∈ fp,yB X pins H b)
  (k:∀ c o,c ∉ fp→s.heap.get? c=some o→h'.get? c=some o) (hT:s.heap.objs.size ≤ T) (hz:xs.length ≤ sizeLine) (r:Vals xs us) (hp:IsTup h' T us.toArray) (hTf:T ∉ fp) :
  Inv X pins σ (upd H T (.tup xs)) { s with heap:=h',toks:=t' }:=by
 have hn:H T=none:=I.hok.fresh hT
 have nfp:∀ a o,H a=some o→a ∉ fp:=fun a o e hb=>by have:=(f a hb).1;rw [e] at this;cases this
 have hTn:∀ b o,s.heap.get? b=some o→b ≠ T:=fun b o e=>A6 (A5 (As e) hT)
 refine I.call' (s':={ s with heap:=h',toks:=t' }) (ch:=fp) rfl ⟨fun b o q n _ hx=>k b o hx q,fun b o q n _ hx=>⟨o.slots,k b o hx q⟩,fun b o q n _=>by rw [qS (hTn b o q)];exact n,fun b o q hx=>⟨o,k b o hx q⟩,
  fun b ys q=>by rw [qS (qE q hn)];exact q,fun b o ys q=>by rw [qS (qE q hn)];exact q,fun b ps q=>⟨#[],by rw [qS (qE q hn),q];simp⟩⟩ (fun a o e=>?_) I.bare (fun b hb=>?_)
 ·by_cases ha:a=T
  ·subst ha
   rw [qH] at e
   cases e
   exact ⟨hz,us,r,hp⟩
  ·rw [qS ha] at e
   refine (I.hok a o e).stay (fun b u hb q=>k b u ?_ q) (fun b q=>by rw [qS (qE q hn)];exact q) fun b ys q=>by rw [qS (qE q hn)];exact q
   rcases hb with rfl | hb
   ·exact nfp b o e
   ·exact nfp b _ hb
 ·obtain ⟨f0,f1,f2,f3,f4,f5⟩:=f b hb
  exact ⟨f3,f1,f4,f5⟩
theorem Inv.turnedN {X:Cx}{pins:List (Addr × Obj)}{σ:St}{H:Hp}{s:Shared}{fp:List Addr}{h':Heap}{t':Nat}(I:Inv X pins σ H s)(f:∀ b ∈ fp,yB X pins H b)
  (k:∀ c o,c ∉ fp→s.heap.get? c=some o→h'.get? c=some o):Inv X pins σ H { s with heap:=h',toks:=t' }:=by
 have nfp:∀ a o,H a=some o→a ∉ fp:=fun a o e hb=>by have:=(f a hb).1;rw [e] at this;cases this
 refine I.call' (s':={ s with heap:=h',toks:=t' }) (ch:=fp) rfl ⟨fun b o q n _ hx=>k b o hx q,fun b o q n _ hx=>⟨o.slots,k b o hx q⟩,fun b o q n _=>n,fun b o q hx=>⟨o,k b o hx q⟩,fun b ys q=>q,fun b o ys q=>q,fun b ps q=>⟨#[],by rw [q];simp⟩⟩ (fun a o e=>?_) I.bare (fun b hb=>?_)
 ·refine (I.hok a o e).stay (fun b u hb q=>k b u ?_ q) (fun b q=>q) fun b ys q=>q
  rcases hb with rfl | hb
  ·exact nfp b o e
  ·exact nfp b _ hb
 ·obtain ⟨f0,f1,f2,f3,f4,f5⟩:=f b hb
  exact ⟨f3,f1,f4,f5⟩
def fY (H:Hp)(c:String)(a:Addr)(xs:List V):Prop:=(c = "list_iterator" ∧ H a=some (.lst xs))∨(c = "tuple_iterator" ∧ H a=some (.tup xs))
theorem Inv.seqOf {X:Cx}{pins:List (Addr × Obj)}{σ:St}{H:Hp}{s:Shared}{c:String}{a:Addr}{xs:List V}(I:Inv X pins σ H s)(h:fY H c a xs):∃ its:List Value,Vals xs its∧SeqOf s.heap c a its.toArray:=by
 rcases h with ⟨rfl,h⟩ | ⟨rfl,h⟩
 ·obtain ⟨its,r,p,_⟩:=I.list (SqL.of h)
  exact ⟨its,r,.inl ⟨rfl,p.isList⟩⟩
 ·obtain ⟨its,r,p,_⟩:=I.tuple (SqT.of h)
  exact ⟨its,r,.inr ⟨rfl,p⟩⟩
def Itz (c1 c2:String)(a b:Addr)(xs ys:List V):It :=
 ⟨fun i H=>fY H c1 a xs∧fY H c2 b ys∧i < xs.length∧i < ys.length,fun i H x H'=>∃ T u v,x = .ref T∧H T=none∧H'=upd H T (.tup [u,v])∧xs[i]? = some u∧ys[i]? = some v,fun i H=>fY H c1 a xs∧fY H c2 b ys∧(xs.length ≤ i∨ys.length ≤ i)⟩
structure Zt (h:Heap)(z TI TO i1 i2:Addr)(c1 c2:String)(l1 l2:Addr)(k:Nat):Prop where
 zip:IsZip h z TI TO .none
 ti:IsPair h TI (.ref i1) (.ref i2)
 to:∃ a b,IsPair h TO a b
 s1:(c1 = "list_iterator" ∧ h.IsListIter i1 l1 k)∨(c1 = "tuple_iterator" ∧ h.IsTupleIter i1 l1 k)
 s2:(c2 = "list_iterator" ∧ h.IsListIter i2 l2 k)∨(c2 = "tuple_iterator" ∧ h.IsTupleIter i2 l2 k)
theorem yP {h:Heap}{c:String}{it l:Addr}{xs:Array Value}{k:Nat}(a:(c = "list_iterator" ∧ h.IsListIter it l k)∨(c = "tuple_iterator" ∧ h.IsTupleIter it l k)) (b:SeqOf h c l xs):Src h c it l xs k:=by
 rcases a with ⟨rfl,a⟩ | ⟨rfl,a⟩ <;> rcases b with ⟨e,b⟩ | ⟨e,b⟩
 ·exact .inl ⟨rfl,a,b⟩
 ·exact absurd e (by decide)
 ·exact absurd e (by decide)
 ·exact .inr ⟨rfl,a,b⟩
theorem xW {h:Heap}{c:String}{it l:Addr}{xs:Array Value}{k:Nat}(a:Src h c it l xs k):(c = "list_iterator" ∧ h.IsListIter it l k)∨(c = "tuple_iterator" ∧ h.IsTupleIter it l k):=by
 rcases a with ⟨e,a,_⟩ | ⟨e,a,_⟩
 ·exact .inl ⟨e,a⟩
 ·exact .inr ⟨e,a⟩
theorem vP {h h':Heap}{c:String}{it l:Addr}{k:Nat}(a:(c = "list_iterator" ∧ h.IsListIter it l k)∨(c = "tuple_iterator" ∧ h.IsTupleIter it l k)) (q:∀ o,h.get? it=some o→h'.get? it=some o):(c = "list_iterator" ∧ h'.IsListIter it l k)∨(c = "tuple_iterator" ∧ h'.IsTupleIter it l k):=by
 rcases a with ⟨e,o,a,r⟩ | ⟨e,o,a,r⟩
 ·exact .inl ⟨e,o,q o a,r⟩
 ·exact .inr ⟨e,o,q o a,r⟩
theorem fU {h:Heap}{c:String}{it l:Addr}{k:Nat}(a:(c = "list_iterator" ∧ h.IsListIter it l k)∨(c = "tuple_iterator" ∧ h.IsTupleIter it l k)):∃ o,h.get? it=some o∧∀ v,o.data ≠ .cell v:=by
 rcases a with ⟨_,o,e,_,d⟩ | ⟨_,o,e,_,d⟩ <;> exact ⟨o,e,fun v z=>by rw [d] at z;cases z⟩
theorem mm1 {α:Type}{a b:α}{l:List α}:b ∈ a :: b :: l:=.tail _ (.head _)
theorem mm2 {α:Type}{a b c:α}{l:List α}:c ∈ a :: b :: c :: l:=.tail _ mm1
theorem mm3 {α:Type}{a b c d:α}{l:List α}:d ∈ a :: b :: c :: d :: l:=.tail _ mm2
theorem mm4 {α:Type}{a b c d e:α}{l:List α}:e ∈ a :: b :: c :: d :: e :: l:=.tail _ mm3
theorem mm5 {α:Type}{a b c d e f:α}{l:List α}:f ∈ a :: b :: c :: d :: e :: f :: l:=.tail _ mm4
theorem mm45 {α:Type}{c z t:α}{l:List α}(h:c ∈ z :: l):c ∈ z :: t :: l:=by
 cases h with
 | head=>exact .head _
 | tail _ h=>exact .tail _ (.tail _ h)
theorem fG {α:Type}{l:List α}{n i:Nat}(e:n=l.length)(q:n ≤ i):l.toArray[i]? = none:=by subst e;simp;omega
theorem dat_f {v:Option Value}{xs:Array Value}:Data.fields xs ≠ Data.cell v:=fun q=>by cases q
theorem oM {h:Heap}{z TI TO i1 i2 l1 l2:Addr}{c1 c2:String}{i:Nat}(st:Zt h z TI TO i1 i2 c1 c2 l1 l2 i):∀ b ∈ [z,TI,TO,i1,i2],∃ o,h.get? b=some o∧∀ v,o.data ≠ .cell v:=by
 obtain ⟨hz,hti,⟨a,c,hto⟩,h1,h2⟩:=st
 exact AQ.2 ⟨⟨_,hz,fun _=>dat_f⟩,AQ.2 ⟨⟨_,hti,fun v q=>by cases (show Data.seq _ _=Data.cell v from q)⟩,AQ.2 ⟨⟨_,hto,fun v q=>by cases (show Data.seq _ _=Data.cell v from q)⟩,AQ.2 ⟨fU h1,AQ.2 ⟨fU h2,fun _ q=>nomatch q⟩⟩⟩⟩⟩
theorem ob_lt {h:Heap}{fp:List Addr}(k:∀ b ∈ fp,∃ o,h.get? b=some o∧∀ v,o.data ≠ .cell v):∀ b ∈ fp,b < h.objs.size:=fun b hb=>let ⟨_,e,_⟩:=k b hb;As e
theorem oV {P:Program}{w:World}{K:PySem.W.Frag}{es:List Expr}{tk:_}{tp:Pos}(z TI TO i1 i2 l1 l2:Addr)(c1 c2:String)(xs ys:List V)(D:ZipApart z TI TO i1 i2 l1 l2) :
  Turn P w K (.Tuple es tk tp) (Itz c1 c2 l1 l2 xs ys) [z,TI,TO,i1,i2] z (fun i h=>Zt h z TI TO i1 i2 c1 c2 l1 l2 i) where
 mem:=.head _
 obj:=fun i h st=>oM st
 keep:=fun i h h' st k=>by
  obtain ⟨hz,hti,⟨a,c,hto⟩,h1,h2⟩:=st
  exact ⟨k z (.head _) _ hz,k TI mm1 _ hti,⟨a,c,k TO mm2 _ hto⟩,vP h1 fun o e=>k i1 mm3 o e,vP h2 fun o e=>k i2 mm4 o e⟩
 item:=by
  intro X hP hw hK hc i pins s σ H E I hf st hg
  subst hP hw hK
  obtain ⟨q1,q2,hi1,hi2⟩:=hg
  obtain ⟨its1,r1,e1⟩:=I.seqOf q1
  obtain ⟨its2,r2,e2⟩:=I.seqOf q2
  obtain ⟨x,hx⟩:=vA hi1
  obtain ⟨y,hy⟩:=vA hi2
  obtain ⟨u,hu,ru⟩:=r1.get hx
  obtain ⟨v,hv,rv⟩:=r2.get hy
  obtain ⟨hz,hti,hto,h1,h2⟩:=id st
  refine zs_item D ⟨hz,hti,hto,yP h1 e1,yP h2 e2⟩ (by simpa using hu) (by simpa using hv) fun h' z' ti' to' s1' s2' new szn k=>?_
  have kk:∀ c o,c ∉ [z,TI,TO,i1,i2]→s.heap.get? c=some o→h'.get? c=some o:=fun c o hc e=>k c o (fun q=>hc (mm45 q)) e
  have lt:=ob_lt (oM st)
  refine ⟨_,rfl,wpAny_letOwnedTupleGo_zip z' fun h'' z'' sb=>?_⟩
  have nT:s.heap.objs.size ∉ [z,TI,TO,i1,i2]:=fun hb=>AR _ (lt _ hb)
  have nTz:s.heap.objs.size ≠ z:=fun q=>nT (q ▸ .head _)
  have J:=I.turnedT (fp:=[z,TI,TO,i1,i2]) (h':=h'') (T:=s.heap.objs.size) (xs:=[x,y]) (us:=[u,v]) (t':=s.toks) hf (fun c o hc e=>sb.extBut _ _ (fun q=>hc (q ▸ .head _)) (kk c o hc e)) (Ad _) (by show 2 ≤ sizeLine;decide) (.cons ru (.cons rv .nil))
   ⟨_,sb.extBut _ _ nTz new,rfl,_,rfl⟩ nT
  refine ⟨.ref s.heap.objs.size,_,J,rfl,⟨_,x,y,rfl,I.hok.fresh (Ad _),rfl,hx,hy⟩,⟨z'',sb.extBut _ _ D.TIz ti',⟨_,_,sb.extBut _ _ D.TOz to'⟩,vP (xW s1') fun o e=>sb.extBut _ _ D.i1z e,vP (xW s2') fun o e=>sb.extBut _ _ D.i2z e⟩,fun b hb=>?_⟩
  rw [qS (A6 (lt b hb))]
  exact (hf b hb).1
 done:=by
  intro X hP hw hK hc i pins s σ H E I hf st hg
  subst hP hw hK
  obtain ⟨q1,q2,hend⟩:=hg
  obtain ⟨its1,r1,e1⟩:=I.seqOf q1
  obtain ⟨its2,r2,e2⟩:=I.seqOf q2
  obtain ⟨hz,hti,hto,h1,h2⟩:=id st
  refine zs_end (I.ok.hd hc) D ⟨hz,hti,hto,yP h1 e1,yP h2 e2⟩ (hend.imp (fG r1.length) (fG r2.length)) fun h' k=>?_
  exact ⟨rfl,I.turnedN (fp:=[z,TI,TO,i1,i2]) hf fun c o hc e=>k c o (fun q=>hc (mm45 q)) e⟩
 self:=fun A i s Q E st h=>wpAny_pyIter_zip st.zip h
theorem bt_zip:bootBuiltins "zip" = some (.type "zip"):=by decide +kernel
section
variable {X:Cx}
def iZip (ta:TA):TI:=fun σ H R=>ta σ H fun vs H1=>∃ a b c1 c2 xs ys,vs=[.ref a,.ref b]∧fY H1 c1 a xs∧fY H1 c2 b ys∧R (Itz c1 c2 a b xs ys) H1
theorem lH {es:List Expr}{kk:_}{tp:Pos}{a b:Expr}{ta:TA}{p pos:Pos}(hg:Gl X "zip") (hm:X.mg "zip" = none) (ha:PA X [a,b] ta) (hs:starEach [a,b] X.env=[(false,eval a X.env),(false,eval b X.env)]:=by rfl) (hs2:starEach [b] X.env=[(false,eval b X.env)]:=by rfl) :
  PI X (.Tuple es kk tp) (.Call (.Name "zip" p) [a,b] [] pos) (iZip ta):=by
 intro pins s σ H R I h
 refine Call_ (gD I hg hm bt_zip (Bk (jJ (ha pos pins s σ H _ I h) fun us s1 ⟨vs,H1,I1,r1,q1⟩=>?_) (by rw [hs,hs2]) (by rw [hs2];rfl)))
 obtain ⟨l1,l2,c1,c2,xs,ys,e,k1,k2,q⟩:=q1
 subst e
 obtain ⟨u1,u2,rfl,e1,e2⟩:=r1.two
 cases e1
 cases e2
 obtain ⟨its1,v1,o1⟩:=I1.seqOf k1
 obtain ⟨its2,v2,o2⟩:=I1.seqOf k2
 have lt1:(l1:Nat) < (s1.heap.objs.size:Nat):=o1.lt
 have lt2:(l2:Nat) < (s1.heap.objs.size:Nat):=o2.lt
 refine sI o1 o2 fun h' Z sz old=>wpAny_pyIter_zip Z.zip ?_
 have D:ZipApart (s1.heap.objs.size + 4) (s1.heap.objs.size + 2) (s1.heap.objs.size + 3) s1.heap.objs.size (s1.heap.objs.size + 1) l1 l2:=PySem.W.ktu_apart _ _ _ o1.lt o2.lt
 have J:Inv X pins σ H1 { s1 with heap:=h' }:=I1.kept (t':=s1.toks) old
 refine ⟨s1.heap.objs.size + 4,_,_,_,H1,rfl,J,oV _ _ _ _ _ l1 l2 c1 c2 xs ys D,⟨Z.zip,Z.ti,Z.to,xW Z.s1,xW Z.s2⟩,fun b hb=>?_,q⟩
 have hb':s1.heap.objs.size ≤ b:=by
  simp only [A3,AZ,or_false] at hb
  rcases hb with rfl | rfl | rfl | rfl | rfl <;> omega
 exact I1.fpOk hb' (I1.hok.fresh hb')
theorem a_iZip {ta:TA}{σ:St}{H:Hp}{R:It→Hp→Prop}:iZip ta σ H R=ta σ H fun vs H1=>∃ a b c1 c2 xs ys,vs=[.ref a,.ref b]∧fY H1 c1 a xs∧fY H1 c2 b ys∧R (Itz c1 c2 a b xs ys) H1:=rfl
end
theorem uG {c1 c2:String}{a b:Addr}{xs ys:List V}{g:TG}{tc:TT}{tb:TB}{D:St→Hp→Prop}{σ:St}{H:Hp}(Pv:Nat→St→Hp→Prop)(h0:Pv 0 σ H)(hl:∀ i σ H,Pv i σ H→fY H c1 a xs∧fY H c2 b ys)
  (hs:∀ (i:Nat) u v (T:Addr) σ H H',xs[i]? = some u→ys[i]? = some v→Pv i σ H→H T=none→Same H H'→H' T=some (.tup [u,v])→g (.ref T) σ H' fun σ2 H2=>tc σ2 H2 fun b H3=>if b=true then tb σ2 H3 (Pv (i + 1)) else Pv (i + 1) σ2 H3)
  (hd:∀ σ H,Pv (min xs.length ys.length) σ H→D σ H):pJ (Itz c1 c2 a b xs ys) g tc tb D σ H:=by
 refine ⟨fun i m σ H=>m=min xs.length ys.length - i∧i ≤ min xs.length ys.length∧Pv i σ H,⟨min xs.length ys.length,by simp,Bh _,h0⟩,?_⟩
 rintro i m σ H ⟨rfl,hi,p⟩
 obtain ⟨q1,q2⟩:=hl i σ H p
 by_cases hlt:i < min xs.length ys.length
 ·refine .inr ⟨⟨q1,q2,by omega,by omega⟩,Pv (i + 1),fun σ' H' p'=>⟨min xs.length ys.length - (i + 1),by omega,rfl,hlt,p'⟩,fun x H' y=>?_⟩
  obtain ⟨T,u,v,rfl,n,rfl,e1,e2⟩:=y
  exact hs i u v T σ H _ e1 e2 p n (kQ n) qH
 ·have e:i=min xs.length ys.length:=by omega
  subst e
  exact .inl ⟨⟨q1,q2,by omega⟩,hd σ H p⟩
section
variable {X:Cx}
def tSortR (ta:TA)(tk:TA):TE:=fun σ H Q=>ta σ H fun vs H1=>tk σ H1 fun zs H2=>∃ (p:Addr) (ns:List Int) (b:Bool),vs=[.ref p]∧zs=[.bl b]∧H2 p=some (.lst (ns.map V.int))∧ns.length < 64 ∧
 ∀ (l:Addr) (ms:List Int),H2 l=none→ms.Perm ns→Ordered b ms→Q (.ref l) (upd H2 l (.lst (ms.map V.int)))
theorem a_tSortR {ta tk:TA}{σ:St}{H:Hp}{Q:VK}:tSortR ta tk σ H Q=ta σ H fun vs H1=>tk σ H1 fun zs H2=>∃ (p:Addr) (ns:List Int) (b:Bool),vs=[.ref p]∧zs=[.bl b]∧H2 p=some (.lst (ns.map V.int))∧ns.length < 64 ∧
 ∀ (l:Addr) (ms:List Int),H2 l=none→ms.Perm ns→Ordered b ms→Q (.ref l) (upd H2 l (.lst (ms.map V.int))):=rfl
def rSlL0:V→Option Int→Option Int→Hp→VK→Prop:=fun x lo hi H Q=>∃ a xs,x = .ref a∧H a=some (.lst xs)∧∀ p,H p=none→Q (.ref p) (upd H p (.lst (zP xs lo hi)))
theorem slL0:SlR X rSlL0:=fun pins s σ H x v vl vu lo hi sl Q I rx hs pl pu h=>by
 obtain ⟨a,xs,e,k,q⟩:=h
 exact sl_list pins s σ H x v vl vu lo hi sl Q I rx hs pl pu ⟨a,xs,e,SqL.of k,q⟩
theorem a_tSl {r:V→Option Int→Option Int→Hp→VK→Prop}{te:TE}{tl th:TO}{σ:St}{H:Hp}{Q:VK}:tSl r te tl th σ H Q=te σ H fun x H1=>tl σ H1 fun l H2=>th σ H2 fun u H3=>r x l u H3 Q:=rfl
theorem a_rSlL0 {x:V}{lo hi:Option Int}{H:Hp}{Q:VK}:rSlL0 x lo hi H Q = ∃ a xs,x = .ref a∧H a=some (.lst xs)∧∀ p,H p=none→Q (.ref p) (upd H p (.lst (zP xs lo hi))):=rfl
theorem oI {σ:St}{H:Hp}{q:Option Int→Hp→Prop}:uV σ H q=q none H:=rfl
theorem a_tPart {t:TE}{σ:St}{H:Hp}{q:Option Int→Hp→Prop}:tPart t σ H q=t σ H fun x H1=>∃ i,x = .int i∧q (some i) H1:=rfl
def tApp (to:TE)(t:TA):TE:=fun σ H Q=>to σ H fun x H1=>∃ l xs0,x = .ref l∧H1 l=some (.lst xs0)∧t σ H1 fun vs H2=>∃ xs y,vs=[y]∧H2 l=some (.lst xs)∧xs.length < sizeLine∧Q .non (upd H2 l (.lst (xs ++ [y])))
theorem jX {o e:Expr}{to:TE}{t:TA}{apos cpos:Pos}(ho:PE X o to)(ha:PA X [e] t)(hbase:attributeBase o "append" X.env (eval o X.env)=eval o X.env:=by rfl)
  (hfew:((backTo cpos (starEach [e] X.env)).all (fun x=>!x.1) && (backToKw cpos (keywordEach [] X.env)).all (fun x=>x.1.isSome) && decide ([e].length + ([] : List Keyword).length + (if ([] : List Keyword).isEmpty then 0 else 1) < 30))=true:=by rfl)
  (hline:(apos.endLine == cpos.line)=true:=by rfl) (hs:starEach [e] X.env=(false,eval e X.env) :: starEach [] X.env:=by rfl):PE X (.Call (.Attribute o "append" apos) [e] [] cpos) (tApp to t):=by
 intro pins s σ H Q I h
 refine wpAny_Call_method_late hbase hfew hline rfl (jJ (ho pins s σ H _ I h) fun v s1 ⟨x,H1,I1,r1,q1⟩=>?_)
 obtain ⟨l,xs0,rfl,hl,q1⟩:=q1
 have ty:tyV X.K "list" (.ref l) H1:=.inl ⟨rfl,_,SqL.of hl⟩
 obtain ⟨h1,h2⟩:=oS I1 r1 ty
 refine ⟨"list", "list.append",PySem.F.plainAttrs_list,PySem.F.slot_list_append,PySem.F.type_list_append,h1,h2,?_⟩
 have hA:=ha cpos pins s1 σ H1 _ I1 q1
 rw [hs] at hA ⊢
 refine Calls.callWith_builtin (by rfl) (Calls.evalArgs_plain ?_)
 exact jJ hA fun us s2 ⟨vs,H2,I2,r2,xs,y,e,k,z,q⟩=>nI pins s2 σ H2 (.ref l) vs v us Q I2 r1 r2 ⟨l,xs,y,rfl,e,k,z,q⟩
theorem a_tApp {to:TE}{t:TA}{σ:St}{H:Hp}{Q:VK}:tApp to t σ H Q=to σ H fun x H1=>∃ l xs0,x = .ref l∧H1 l=some (.lst xs0)∧t σ H1 fun vs H2=>∃ xs y,vs=[y]∧H2 l=some (.lst xs)∧xs.length < sizeLine∧Q .non (upd H2 l (.lst (xs ++ [y]))):=rfl
end
section
variable {X:Cx}
def insV (xs:List V)(i:Nat)(y:V):List V:=xs.take i ++ y :: xs.drop i
def tIns (to:TE)(t:TA):TE:=fun σ H Q=>to σ H fun x H1=>∃ l xs0,x = .ref l∧H1 l=some (.lst xs0)∧t σ H1 fun vs H2=>∃ xs y,∃ i:Nat,vs=[.int (i:Int),y]∧H2 l=some (.lst xs)∧i ≤ xs.length∧xs.length < sizeLine∧Q .non (upd H2 l (.lst (insV xs i y)))
theorem a_tIns {to:TE}{t:TA}{σ:St}{H:Hp}{Q:VK}:tIns to t σ H Q=to σ H fun x H1=>∃ l xs0,x = .ref l∧H1 l=some (.lst xs0)∧t σ H1 fun vs H2=>∃ xs y,∃ i:Nat,vs=[.int (i:Int),y]∧H2 l=some (.lst xs)∧i ≤ xs.length∧xs.length < sizeLine∧Q .non (upd H2 l (.lst (insV xs i y))):=rfl
theorem max_gen (hc:X.calm=true){pins:List (Addr × Obj)}{σ:St}{H:Hp}{s:Shared}{p:Addr}{ns:List Int}{Q:VK}(I:Inv X pins σ H s)(hq:sq H p=some (ns.map V.int))(hne:ns ≠ [])
  (q:∀ m,m ∈ ns→(∀ x ∈ ns,x ≤ m)→Q (.int m) H):wpAny (model X.prog X.w) X.A (call (.builtin "max") [.ref p]) (EP X pins σ Q) X.xe s:=by
 have hp:0 < ns.length:=C4.mpr hne
 refine call_max_walk (I.walk hc hq fun it its s2 St fp rv W st hfp hsz J=>?_)
 have hl:=rv.length
 rw [Aa] at hl
 refine ⟨it,fp,[it],its.length,_,St,_,rfl,W,st,hfp,by omega,CmpOf.ints_gt (fun i=>ns.getD i 0) fun i v hv=>jF rv hv,fun v h' tk hv k=>?_⟩
 obtain ⟨a1,a2⟩:=argBest_gt (fun i=>ns.getD i 0) (its.length - 1)
 obtain ⟨t,rfl⟩:=jF rv hv
 generalize argBest (fun i j=>decide (ns.getD i 0 > ns.getD j 0)) (its.length - 1)=j at a1 a2 hv ⊢
 have hj:j < ns.length:=by omega
 have e:ns.getD j 0=ns[j]:=by simp [Ab,hj]
 refine ⟨.int ns[j],H,J h' tk k,⟨t,by rw [e]⟩,q _ (AK hj) fun x hx=>?_⟩
 obtain ⟨i,hi,rfl⟩:=BX.mp hx
 have:=a2 i (by omega)
 simp only [Ab,Ag hi,Ag hj,BB] at this
 exact this
theorem iQ (hc:X.calm=true):zD X (.builtin "max") (fun xs H Q=>∃ (p:Addr) (ns:List Int),xs=[.ref p]∧sq H p=some (ns.map V.int)∧ns ≠ []∧∀ m,m ∈ ns→(∀ x ∈ ns,x ≤ m)→Q (.int m) H):=by
 intro pins s σ H xs us Q I r h
 obtain ⟨p,ns,rfl,hq,hne,q⟩:=h
 obtain ⟨u,rfl,ru⟩:=r.one
 cases ru
 exact max_gen hc I hq hne q
theorem min0 (hc:X.calm=true):zD X (.builtin "min") (fun xs H Q=>∃ (p:Addr) (ns:List Int),xs=[.ref p]∧sq H p=some (ns.map V.int)∧ns ≠ []∧∀ m,m ∈ ns→(∀ x ∈ ns,m ≤ x)→Q (.int m) H):=by
 intro pins s σ H xs us Q I r h
 obtain ⟨p,ns,rfl,hq,hne,q⟩:=h
 obtain ⟨u,rfl,ru⟩:=r.one
 cases ru
 have hp:0 < ns.length:=C4.mpr hne
 refine call_min_walk (I.walk hc hq fun it its s2 St fp rv W st hfp hsz J=>?_)
 have hl:=rv.length
 rw [Aa] at hl
 refine ⟨it,fp,[it],its.length,_,St,_,rfl,W,st,hfp,by omega,CmpOf.ints_lt (fun i=>ns.getD i 0) fun i v hv=>jF rv hv,fun v h' tk hv k=>?_⟩
 obtain ⟨a1,a2⟩:=argBest_lt (fun i=>ns.getD i 0) (its.length - 1)
 obtain ⟨t,rfl⟩:=jF rv hv
 generalize argBest (fun i j=>decide (ns.getD i 0 < ns.getD j 0)) (its.length - 1)=j at a1 a2 hv ⊢
 have hj:j < ns.length:=by omega
 have e:ns.getD j 0=ns[j]:=by simp [Ab,hj]
 refine ⟨.int ns[j],H,J h' tk k,⟨t,by rw [e]⟩,q _ (AK hj) fun x hx=>?_⟩
 obtain ⟨i,hi,rfl⟩:=BX.mp hx
 have:=a2 i (by omega)
 simp only [Ab,Ag hi,Ag hj,BB] at this
 exact this
def rCatA:R2:=fun x y H Q=>∃ a b xs ys,x = .ref a∧y = .ref b∧H a=some (.tup xs)∧H b=some (.tup ys)∧xs.length + ys.length ≤ sizeLine∧∀ (p:Addr) (H':Hp),Same H H'→H' p=some (.tup (xs ++ ys))→Q (.ref p) H'
theorem mE:vR X (binaryOp .Add) rCatA:=by
 intro pins s σ H x y v u Q I rx ry h
 obtain ⟨a,b,xs,ys,rfl,rfl,ha,hb,hz,q⟩:=h
 by_cases hx:xs=[]
 ·cases rx
  cases ry
  obtain ⟨its,r1,p1,_⟩:=I.tuple (SqT.of ha)
  obtain ⟨its2,r2,p2,_⟩:=I.tuple (SqT.of hb)
  have e1:its=[]:=r1.nil_iff.mpr hx
  obtain ⟨⟨c1,d1,da1,sl1⟩,o1,k1,n1,g1⟩:=id p1
  obtain ⟨⟨c2,d2,da2,sl2⟩,o2,k2,n2,g2⟩:=id p2
  simp only at k1 g1 k2 g2
  subst k1 g1 k2 g2
  refine concat_meets ⟨_,o1,rfl⟩ ⟨_,o2,rfl⟩ noFill_tuple_add seq_tuple_add F.slot_tuple_add F.entry_tuple_add (F.args_tuple_add_2 _ _) (tuple_addW0 a b its.toArray its2.toArray n1 n2 d1 d2 sl1 sl2 (by simp [e1])) ⟨o1,o2,?_⟩
  subst hx
  exact ⟨.ref b,H,I,rfl,q b H (Same.refl H) hb⟩
 ·refine op_catT pins s σ H (.ref a) (.ref b) v u Q I rx ry ⟨a,b,xs,ys,rfl,rfl,SqT.of ha,SqT.of hb,hx,hz,fun e=>?_,fun _ p np=>q p _ (kQ np) qH⟩
  subst e
  exact q a H (Same.refl H) (by rw [Bm];exact ha)
theorem a_rCatA {x y:V}{H:Hp}{Q:VK}:rCatA x y H Q = ∃ a b xs ys,x = .ref a∧y = .ref b∧H a=some (.tup xs)∧H b=some (.tup ys)∧xs.length + ys.length ≤ sizeLine∧∀ (p:Addr) (H':Hp),Same H H'→H' p=some (.tup (xs ++ ys))→Q (.ref p) H':=rfl
def rCatL:R2:=fun x y H Q=>∃ l b xs zs,x = .ref l∧y = .ref b∧H l=some (.lst xs)∧H b=some (.lst zs)∧xs.length + zs.length ≤ sizeLine∧∀ (p:Addr) (H':Hp),H p=none→Same H H'→H' p=some (.lst (xs ++ zs))→Q (.ref p) H'
theorem mD:vR X (binaryOp .Add) rCatL:=fun pins s σ H x y v u Q I rx ry h=>by
 obtain ⟨l,b,xs,zs,e1,e2,h1,h2,hz,q⟩:=h
 exact op_cat pins s σ H x y v u Q I rx ry ⟨l,b,xs,zs,e1,e2,h1,h2,hz,fun p np=>q p _ np (kQ np) qH⟩
theorem a_rCatL {x y:V}{H:Hp}{Q:VK}:rCatL x y H Q = ∃ l b xs zs,x = .ref l∧y = .ref b∧H l=some (.lst xs)∧H b=some (.lst zs)∧xs.length + zs.length ≤ sizeLine∧∀ (p:Addr) (H':Hp),H p=none→Same H H'→H' p=some (.lst (xs ++ zs))→Q (.ref p) H':=rfl
end
section
variable {prog:Program}{w:World}{A:Around}{E:Value→Shared→Prop}{s:Shared}
theorem eY {t sl:Addr}{items:Array Value}{vl vu:Value}{lo hi:Option Int}{Q:Value→Shared→Prop}(ht:IsTup s.heap t items)(hs:s.heap.IsSliceOf sl vl vu .none)(pl:IsPart vl lo)(pu:IsPart vu hi)
  (hw:HT.sIx items.size 0 lo=0∧HT.sIx items.size items.size hi=items.size) (h:Q (.ref t) s):wpAny (model prog w) A (getItem (.ref t) (.ref sl)) Q E s:=by
 obtain ⟨os,gY,hcs,hds⟩:=id hs
 have kind:s.TypeIs (.ref sl) "slice" := ⟨os,gY,hcs⟩
 unfold getItem
 try with_reducible refine wpAny_holding ?_
 first | refine wpAny_bind (wpAny_pure ?_) | skip
 refine wpAny_bind (wpAny_sequenceKey ht.typeIs (by decide) ?_)
 refine wpAny_bind (wpAny_callSpecial?_slot (name:=Str.ofString "__getitem__") ht.typeIs slot_tuple_getitem (wpAny_call_entry slot_tuple_getitem ht.typeIs entry_tuple_getitem ?_ (args_tuple_getitem _ _)))
 show wpAny _ _ (Builtin.Tuple.tupleItemsOf (.ref t) >>= _) _ _ s
 refine wpAny_bind (tupleItemsOf_ ht (wpAny_bind (wpAny_typeOf kind ?_)))
 rw [Au (by decide)]
 refine wpAny_bind (HT.sliceApplied_gen hs pl pu ?_)
 rw [hw.1,hw.2]
 have yes:((((0:Nat):Int) == 0 && (1:Int) == 1 && (items.size - 0) == items.size)=true):=by simp
 show wpAny _ _ (if ((((0:Nat):Int) == 0 && (1:Int) == 1 && (items.size - 0) == items.size)=true) then _ else _) _ _ s
 rw [Au yes]
 unfold Builtin.Tuple.tupleIsExact
 refine wpAny_bind (wpAny_bind (wpAny_typeOf ht.typeIs (wpAny_pure ?_)))
 rw [Au (by decide)]
 exact wpAny_bind (wpAny_rule (wpAny_pure ⟨_,rfl,wpAny_pure h⟩))
theorem rev_pick (xs:Array Value):((List.range xs.size).filterMap fun (k:Nat)=>xs[(((xs.size:Int) - 1) + (k:Int) * (-1)).toNat]?)=xs.toList.reverse:=by
 have e:∀ k ∈ List.range xs.size,xs[(((xs.size:Int) - 1) + (k:Int) * (-1)).toNat]? = xs[xs.size - 1 - k]? := fun k hk=>by
  have:=AU.mp hk
  congr 1
  omega
 have cg:∀ (l:List Nat),(∀ k ∈ l,k < xs.size)→l.filterMap (fun (k:Nat)=>xs[(((xs.size:Int) - 1) + (k:Int) * (-1)).toNat]?)=l.filterMap fun k=>xs[xs.size - 1 - k]? := fun l=>by
  induction l with
  | nil=>intro _;rfl
  | cons a r ih =>
   intro hl
   rw [BJ,BJ,e a (AU.mpr (hl a Am)),ih fun k hk=>hl k (Ap _ hk)]
 rw [cg _ fun k hk=>AU.mp hk]
 have e2:(fun k=>xs[xs.size - 1 - k]?)=(fun x=>xs[x]?) ∘ fun k=>xs.size - 1 - k:=rfl
 rw [e2,← List.filterMap_map,PySem.W.krv_range,List.filterMap_reverse,PySem.W.krv_all]
theorem tup_rev {t sl:Addr}{items:Array Value}{tk:Tok}{Q:Value→Shared→Prop}(ht:IsTup s.heap t items)(hs:s.heap.IsSliceOf sl .none .none (.int (-1) tk))
  (h:Q (.ref s.heap.objs.size) { s with heap:=s.heap.push { cls:=.type "tuple",data:=.seq items.toList.reverse.toArray } }) (hsz:items.size ≤ sizeLine):wpAny (model prog w) A (getItem (.ref t) (.ref sl)) Q E s:=by
 have fits:sizeOk (.seq items.toList.reverse.toArray):=by
  show items.toList.reverse.toArray.size ≤ sizeLine
  rw [Ak,B7,Cc]
  exact hsz
 obtain ⟨os,gY,hcs,hds⟩:=id hs
 have kind:s.TypeIs (.ref sl) "slice" := ⟨os,gY,hcs⟩
 unfold getItem
 try with_reducible refine wpAny_holding ?_
 first | refine wpAny_bind (wpAny_pure ?_) | skip
 refine wpAny_bind (wpAny_sequenceKey ht.typeIs (by decide) ?_)
 refine wpAny_bind (wpAny_callSpecial?_slot (name:=Str.ofString "__getitem__") ht.typeIs slot_tuple_getitem (wpAny_call_entry slot_tuple_getitem ht.typeIs entry_tuple_getitem ?_ (args_tuple_getitem _ _)))
 show wpAny _ _ (Builtin.Tuple.tupleItemsOf (.ref t) >>= _) _ _ s
 refine wpAny_bind (tupleItemsOf_ ht (wpAny_bind (wpAny_typeOf kind ?_)))
 rw [Au (by decide)]
 refine wpAny_bind ?_
 unfold Builtin.Slice.sliceApplied Builtin.Slice.sliceFields
 refine wpAny_bind (wpAny_bind (wpAny_field gY hds (x:=.none) rfl (wpAny_bind (wpAny_field gY hds (x:=.none) rfl (wpAny_bind (wpAny_field gY hds (x:=.int (-1) tk) rfl (wpAny_pure ?_)))))))
 refine wpAny_bind (slicePart_int ?_)
 show wpAny _ _ (if ((-1:Int) == 0)=true then _ else _) _ _ s
 rw [Ax (by decide)]
 refine wpAny_bind (slicePart_none (wpAny_bind (slicePart_none (wpAny_bind (wpAny_pure ?_)))))
 have adj:Builtin.Slice.sliceAdjust none none (-1) (items.size:Int)=((items.size:Int) - 1,-1):=rfl
 have plc:Builtin.Slice.slicePlaces ((items.size:Int) - 1) (-1) (-1)=items.size:=by
  unfold Builtin.Slice.slicePlaces
  rw [Ax (by decide)]
  split
  ·rw [show (- -1:Int)=1 by decide,Int.ediv_one];omega
  ·omega
 show wpAny _ _ (match Builtin.Slice.sliceAdjust none none (-1) (items.size:Int) with | (lo,hi)=>pure (lo,(-1:Int),Builtin.Slice.slicePlaces lo hi (-1))) _ _ s
 rw [adj]
 show wpAny _ _ (pure (((items.size:Int) - 1),(-1:Int),Builtin.Slice.slicePlaces ((items.size:Int) - 1) (-1) (-1))) _ _ s
 rw [plc]
 refine wpAny_pure ?_
 show wpAny _ _ (if ((((items.size:Int) - 1) == 0 && (-1:Int) == 1 && items.size == items.size)=true) then _ else _) _ _ s
 rw [Ax (by simp),rev_pick]
 first
  | exact wpAny_bind (m:=Builtin.Tuple.tupleExact _) (wpAny_newObj_type (wpAny_pure ⟨_,rfl,wpAny_pure h⟩) fits)
  | exact wpAny_bind (wpAny_bind (m:=Builtin.Tuple.tupleExact _) (wpAny_newObj_type (wpAny_pure ⟨_,rfl,wpAny_pure h⟩) fits))
end
section
variable {X:Cx}
def rSlA:V→Option Int→Option Int→Hp→VK→Prop:=fun x lo hi H Q=>∃ a xs,x = .ref a∧H a=some (.tup xs)∧∀ (p:Addr) (H':Hp),Same H H'→H' p=some (.tup (zP xs lo hi))→Q (.ref p) H'
theorem oD {xs:List V}{lo hi:Option Int}(h:HT.sIx xs.length 0 lo=0∧HT.sIx xs.length xs.length hi=xs.length):zP xs lo hi=xs:=by
 unfold zP
 rw [h.1,h.2,BW,Nat.sub_zero,AF]
theorem p7:SlR X rSlA:=by
 intro pins s σ H x v vl vu lo hi sl Q I rx hs pl pu h
 obtain ⟨a,xs,rfl,hx,q⟩:=h
 by_cases hw:HT.sIx xs.length 0 lo=0∧HT.sIx xs.length xs.length hi=xs.length
 ·cases rx
  obtain ⟨its,r,ht,hz⟩:=I.tuple (SqT.of hx)
  have hlen:its.toArray.size=xs.length:=by rw [Ak];exact r.length.symm
  refine ⟨"tuple",_,slot_tuple_getitem.lookup,ht.typeIs,eY ht hs pl pu (by rw [hlen];exact hw) ?_⟩
  exact ⟨.ref a,H,I,rfl,q a H (Same.refl H) (by rw [oD hw];exact hx)⟩
 ·exact sl_tup pins s σ H (.ref a) v vl vu lo hi sl Q I rx hs pl pu ⟨a,xs,rfl,SqT.of hx,hw,fun p np=>q p _ (kQ np) qH⟩
theorem a_rSlA {x:V}{lo hi:Option Int}{H:Hp}{Q:VK}:rSlA x lo hi H Q = ∃ a xs,x = .ref a∧H a=some (.tup xs)∧∀ (p:Addr) (H':Hp),Same H H'→H' p=some (.tup (zP xs lo hi))→Q (.ref p) H':=rfl
def tRev (te:TE):TE:=fun σ H Q=>te σ H fun x H1=>∃ a xs,x = .ref a∧H1 a=some (.tup xs)∧∀ (p:Addr) (H':Hp),H1 p=none→Same H1 H'→H' p=some (.tup xs.reverse)→Q (.ref p) H'
theorem pe_rev {e m:Expr}{te tm:TE}{pos p2:Pos}(he:PE X e te)(hm:PE X m tm)(hv:∀ σ H (Q:VK),Q (.int (-1)) H→tm σ H Q):PE X (.Subscript e (.Slice none none (some m) p2) pos) (tRev te):=by
 intro pins s σ H Q I h
 refine Subscript_ (jJ (he pins s σ H _ I h) fun v s1 ⟨x,H1,I1,r1,q1⟩=>?_)
 refine wpAny_Slice ?_
 rw [evalPart_none]
 refine wpAny_pure (wpAny_pure ?_)
 rw [evalPart_some]
 refine jJ (hm pins s1 σ H1 (fun x H2=>x = .int (-1)∧H2=H1) I1 (hv _ _ _ ⟨rfl,rfl⟩)) fun vu s3 ⟨y,H3,I3,r3,e3,e4⟩=>?_
 subst e3 e4
 obtain ⟨tk,rfl⟩:=r3
 obtain ⟨a,xs,rfl,hx,q⟩:=q1
 cases r1
 have I4:Inv X pins σ H3 { s3 with heap:=s3.heap.push { cls:=.type "slice",data:=.fields #[.none,.none,.int (-1) tk] } }:=I3.kept (t':=s3.toks) fun b ob q=>Ac _ q
 obtain ⟨its,r,ht,hz⟩:=I4.tuple (SqT.of hx)
 have hlen:its.toArray.size=xs.length:=by rw [Ak];exact r.length.symm
 show wpAny (model X.prog X.w) X.A (subscriptTail e (.Slice none none (some m) p2) (.ref a) (.ref s3.heap.objs.size)) (EP X pins σ Q) X.xe { s3 with heap:=s3.heap.push { cls:=.type "slice",data:=.fields #[.none,.none,.int (-1) tk] } }
 refine tail_any (ops:=[.ref a,.ref s3.heap.objs.size]) ht.typeIs slot_tuple_getitem.lookup (tup_rev ht (Heap.IsSliceOf.new ..) ?_ (by rw [hlen];exact hz)) (by with_unfolding_all rfl)
 have hf:=I4.hok.fresh (Ad _)
 refine ⟨.ref _,_,I4.laid (t':=s3.toks) (o:=.tup xs.reverse) (fun b ob q=>Ac _ q) (Ad _) ?_,rfl,q _ _ hf (kQ hf) qH⟩
 exact ⟨by rw [B7];exact hz,_,r.reverse,Ct _ _⟩
theorem a_tRev {te:TE}{σ:St}{H:Hp}{Q:VK}:tRev te σ H Q=te σ H fun x H1=>∃ a xs,x = .ref a∧H1 a=some (.tup xs)∧∀ (p:Addr) (H':Hp),H1 p=none→Same H1 H'→H' p=some (.tup xs.reverse)→Q (.ref p) H':=rfl
end
section
variable {prog:Program}{w:World}{A:Around}{E:Value→Shared→Prop}{s:Shared}
theorem sG {t:Addr}{vs:List Value}{Q:List Value→Shared→Prop}(ht:IsTup s.heap t vs.toArray)(hz:vs.length ≤ sizeLine)
  (h:Q vs { s with heap:=(s.heap.push (seqObj "list" #[] 0)).update s.heap.objs.size (Obj.mapSeq (· ++ vs.toArray)) }):wpAny (model prog w) A (collect (.ref t)) Q E s:=by
 obtain ⟨ot,hot,kt,nt,dt⟩:=id ht
 unfold collect
 refine wpAny_bind (wpAny_runValue (codeAny_builtin entry_proto_collect' (show wpAny _ _ (do again (.builtin "list.__iadd__" ⟨[← newList [],.ref t],[]⟩)) _ _ s from ?_)))
 refine wpAny_bind (wpAny_newList (wpAny_pure ⟨Code.quiet_builtin _ (by decide +kernel),codeAny_builtin entry_list_iadd' (show wpAny _ _ (Builtin.List.listExtendWith (.ref s.heap.objs.size) (.ref t) (.ref s.heap.objs.size)) _ _ { s with heap:=s.heap.push (seqObj "list" #[] 0) } from ?_)⟩))
 unfold Builtin.List.listExtendWith
 have old:(s.heap.push (seqObj "list" #[] 0)).get? t=some ot:=Ac _ hot
 refine wpAny_bind (wpAny_typeOf (T := "tuple") ⟨ot,old,kt⟩ ?_)
 have yes:(Value.type "tuple" == Value.type "tuple")=true:=by rfl
 rw [Au (by rw [yes,Bool.or_true])]
 refine wpAny_bind (listItems_at old dt (wpAny_bind (listItems_at (xs := #[]) (n:=0) (Ao _ rfl) rfl ?_)))
 rw [Ax (by simp)]
 refine wpAny_bind (listUpdate_at (xs := #[]) (n:=0) (Ao _ rfl) rfl (wpAny_pure ?_) (Bh _) (by show (#[] ++ vs.toArray).size ≤ sizeLine + 1;rw [Array.size_append,Ak];simp;omega))
 show wpAny (model prog w) A (do { let o ← load s.heap.objs.size;match o.data with | .seq xs _=>pure xs.toList | _=>unsupported "internal:collect" }) Q E { s with heap:=(s.heap.push (seqObj "list" #[] 0)).update s.heap.objs.size (Obj.mapSeq (· ++ vs.toArray)) }
 refine wpAny_bind (wpAny_load (get?_update_seq (Ao _ rfl) _) (show wpAny _ _ (pure ((#[] : Array Value) ++ vs.toArray).toList) Q E _ from ?_))
 rw [show ((#[] : Array Value) ++ vs.toArray).toList=vs by simp]
 exact wpAny_pure h
theorem tF {t:Addr}{vs:List Value}{ns:List Int}{Q:Value→Shared→Prop}(ht:IsTup s.heap t vs.toArray)(hI:IntsAre vs ns)(h64:vs.length < 64)
  (h:∀ (out:Array Value) (ms:List Int),IntsAre out.toList ms→ms.Perm ns→ms.Pairwise (· ≤ ·)→Q (.ref (s.heap.objs.size + 1)) { s with heap:=sortedAll s.heap vs out }):wpAny (model prog w) A (call (.builtin "sorted") [.ref t]) Q E s:=by
 refine Calls.call_function_entry kind_sorted plain_sorted entry_sorted (args_sorted1 _) ?_
 unfold Builtin.«sorted»
 refine wpAny_bind (m:=checkCount "sorted" 1 1 _) (wpAny_pure (wpAny_bind (sG ht (by rw [sizeLine_eq];omega) (wpAny_bind (wpAny_newList ?_)))))
 have size1:((s.heap.push (seqObj "list" #[] 0)).update s.heap.objs.size (Obj.mapSeq (· ++ vs.toArray))).objs.size=s.heap.objs.size + 1:=(Heap.size_update ..).trans (size_push' ..)
 have new1:(((s.heap.push (seqObj "list" #[] 0)).update s.heap.objs.size (Obj.mapSeq (· ++ vs.toArray))).push (seqObj "list" vs.toArray 0)).get? (s.heap.objs.size + 1)=some (seqObj "list" vs.toArray 0):=by rw [← size1];exact Ao _ rfl
 show wpAny _ _ _ _ _ { s with heap:=(((s.heap.push (seqObj "list" #[] 0)).update s.heap.objs.size (Obj.mapSeq (· ++ vs.toArray))).push (seqObj "list" vs.toArray 0)) }
 rw [size1]
 exact wpAny_bind (wpAny_holding (wpAny_call_entry slot_list_sort ⟨_,new1,rfl⟩ entry_list_sort (list_sort_tree new1 hI h64 fun out ms a1 a2 a3=>⟨_,rfl,wpAny_pure ⟨_,rfl,h out ms a1 a2 a3⟩⟩) (args_list_sort _)))
end
section
variable {X:Cx}
theorem sorted0:zD X (.builtin "sorted") (fun xs H Q=>∃ (p:Addr) (ns:List Int),xs=[.ref p]∧sq H p=some (ns.map V.int)∧ns.length < 64∧∀ (l:Addr) (ms:List Int) (H':Hp),H l=none→Same H H'→ms.Perm ns→ms.Pairwise (· ≤ ·)→H' l=some (.lst (ms.map V.int))→Q (.ref l) H'):=by
 intro pins s σ H xs us Q I r h
 obtain ⟨p,ns,rfl,hq,h64,q⟩:=h
 obtain ⟨u,rfl,ru⟩:=r.one
 cases ru
 have hf:H (s.heap.objs.size + 1)=none:=I.hok.fresh (B4 _)
 have fin:∀ (its:List Value) (out:Array Value) (ms:List Int),Vals (ns.map V.int) its→IntsAre out.toList ms→ms.Perm ns→ms.Pairwise (· ≤ ·)→EP X pins σ Q (.ref (s.heap.objs.size + 1)) { s with heap:=sortedAll s.heap its out }:=fun its out ms vi h1 h2 h3=>by
  obtain ⟨e',he'⟩:=sortedAll_at s.heap its out
  have hml:ms.length=ns.length:=h2.length_eq
  refine ⟨.ref (s.heap.objs.size + 1),_,I.laid (o:=.lst (ms.map V.int)) (t':=s.toks) (fun b u e=>sortedAll_old e) (B4 _) ?_,rfl,q _ ms _ hf (kQ hf) h2 h3 qH⟩
  exact ⟨by rw [Aa,hml,sizeLine_eq];omega,out.toList,e',fK h1,by simpa [seqObj] using he'⟩
 rcases fO (K:=X.K) hq with k | k
 ·obtain ⟨its,vi,pl,hz⟩:=I.list k
  have hlen:=vi.length
  rw [Aa] at hlen
  exact sorted_ints pl.isList (intsAre_of vi) (by omega) fun out ms h1 h2 h3=>fin its out ms vi h1 h2 h3
 ·obtain ⟨its,vi,pl,hz⟩:=I.tuple k
  have hlen:=vi.length
  rw [Aa] at hlen
  exact tF pl (intsAre_of vi) (by omega) fun out ms h1 h2 h3=>fin its out ms vi h1 h2 h3
end
def gM (e iter:Expr)(d:Nat)(acc:Value)(env:Env):Sem Unit:=do
 let x ← eval iter env
 standAt iter.pos
 let x ← foldedSetIterable iter env x
 let _ ← runOwn (.compStart e d (← holding [x] (pyIter x)) acc env) env
theorem sT (elt tg iter tg2 iter2:Expr)(ifs ifs2:List Expr)(rest:List Comprehension)(sc:Scope)(pos:Pos)(it acc:Value)(env:Env) :
  compTurn (.ListComp elt (⟨tg,iter,ifs,0⟩ :: ⟨tg2,iter2,ifs2,0⟩ :: rest) sc pos) 0 it acc env=(do
   standAt iter.pos
   match ← pyNext it with
   | none=>pure (.done .next)
   | some v =>
    letOwnedTupleGo tg it v
    assign tg env v
    let mut ok:=true
    for c in ifs do
     if ok then ok ← isTrue c env (eval c env)
    if ok then gM (.ListComp elt (⟨tg,iter,ifs,0⟩ :: ⟨tg2,iter2,ifs2,0⟩ :: rest) sc pos) iter2 1 acc env
    again (.compLoop (.ListComp elt (⟨tg,iter,ifs,0⟩ :: ⟨tg2,iter2,ifs2,0⟩ :: rest) sc pos) 0 it acc env)):=by
 unfold gM
 simp only [bind_assoc,pure_bind]
 rfl
theorem sU (elt tg iter tg2 iter2:Expr)(ifs ifs2:List Expr)(sc:Scope)(pos:Pos)(it acc:Value)(env:Env) :
  compTurn (.ListComp elt [⟨tg,iter,ifs,0⟩,⟨tg2,iter2,ifs2,0⟩] sc pos) 1 it acc env=(do
   standAt iter2.pos
   match ← pyNext it with
   | none=>pure (.done .next)
   | some v =>
    letOwnedTupleGo tg2 it v
    assign tg2 env v
    let mut ok:=true
    for c in ifs2 do
     if ok then ok ← isTrue c env (eval c env)
    if ok then (do let _ ← call (.builtin "list.append") [acc,← eval elt env])
    again (.compLoop (.ListComp elt [⟨tg,iter,ifs,0⟩,⟨tg2,iter2,ifs2,0⟩] sc pos) 1 it acc env)):=by rfl
section
variable {prog:Program}{w:World}{A:Around}{R:Result→Shared→Prop}{s:Shared}
theorem pT {elt:Expr}{gs:List Comprehension}{sc:Scope}{pos:Pos}{d:Nat}{g:Comprehension}{it acc:Value}{env:Env}(hg:gs[d]? = some g)(ha:g.is_async=0)
  (h0:codeAny (model prog w) A (.compLoop (.ListComp elt gs sc pos) d it acc env) R s)
  (h:wpAny (model prog w) A (pyIter it) (fun it' s'=>codeAny (model prog w) A (.compLoop (.ListComp elt gs sc pos) d it' acc env) R s') (notedBy (model prog w) A env fun x s'=>R (.error x) s') s) :
  codeAny (model prog w) A (.compStart (.ListComp elt gs sc pos) d it acc env) R s:=by
 refine codeAny_of_tree (show wpAny _ _ ((compStart (.ListComp elt gs sc pos) d it acc env).onRaise (fun x=>do noteFrame x env;standAt theWindowsPlace)) _ _ s from wpAny_notedAt ?_)
 unfold compStart
 have e:(clausesOf (.ListComp elt gs sc pos))[d]? = some g:=hg
 rw [e]
 have ea:(some g).elim false (fun x:Comprehension=>x.is_async != 0)=false:=by show (g.is_async != 0)=false;rw [ha];rfl
 rw [ea]
 refine wpAny_bind (wpAny_askSetting (wpAny_ite ?_))
 split
 ·first
   | exact wpAny_pure ⟨rfl,h0⟩
   | exact wpAny_bind (wpAny_pure (wpAny_pure ⟨rfl,h0⟩))
 ·exact wpAny_bind (wpAny_rule (wpAny_bind (wpAny_standAt (wpAny_bind (wpAny_mono h (fun it' s' h'=>wpAny_pure ⟨rfl,h'⟩) fun _ _ x=>x)))))
end
def xJ (wi:TI)(g:TG)(tc:TT)(tb:TB):TB:=fun σ H N=>wi σ H fun J H1=>pJ J g tc tb N σ H1
theorem pb_inner {X:Cx}{elt tg iter:Expr}{ifs:List Expr}{gs:List Comprehension}{sc:Scope}{pos:Pos}{d:Nat}{acc:Value}{wi:TI}{g:TG}{tc:TT}{tb:TB}{body:Sem Unit}(hc:X.calm=true)(hx:X.xe=fun _ _=>False)(hgs:gs[d]? = some ⟨tg,iter,ifs,0⟩)
  (hi:PI X tg iter wi) (hg:PG X tg g) (hifs:pH X ifs tc) (hb:PB X body tb)
  (heq:∀ it:Addr,compTurn (.ListComp elt gs sc pos) d (.ref it) acc X.env=(do
   standAt iter.pos
   match ← pyNext (.ref it) with
   | none=>pure (.done .next)
   | some v =>
    letOwnedTupleGo tg (.ref it) v
    assign tg X.env v
    let mut ok:=true
    for c in ifs do
     if ok then ok ← isTrue c X.env (eval c X.env)
    if ok then body
    again (.compLoop (.ListComp elt gs sc pos) d (.ref it) acc X.env)))
  (hs:∀ x,foldedSetIterable iter X.env x=pure x):PB X (gM (.ListComp elt gs sc pos) iter d acc X.env) (xJ wi g tc tb):=by
 intro pins s σ H N I q
 unfold gM
 refine wpAny_bind (jJ (hi pins s σ H _ I q) fun v s1 h1=>?_)
 refine wpAny_bind (wpAny_standAt (wpAny_bind (wpAny_of_eq (hs v) (wpAny_bind (wpAny_holding (jJ h1 fun itv s2 h2=>?_))))))
 obtain ⟨it,fp,tn,J,H2,e2,I2,T,st2,f2,q2⟩:=h2
 subst e2
 have L:=xF (X:=X) (e:=.ListComp elt gs sc pos) (d:=d) (acc:=acc) (D:=N) (s:=s2) hc hx (heq it) rfl rfl rfl T hg hifs hb I2 st2 f2 q2
 refine wpAny_bind (wpAny_runOwn (pT hgs rfl ?_ ?_))
 ·refine codeAny_mono L fun r s' hr=>?_
  obtain ⟨rfl,σ',H',J',n'⟩:=hr
  exact wpAny_pure ⟨σ',H',J',n'⟩
 ·refine T.self X.A 0 s2 _ _ st2 ?_
  refine codeAny_mono L fun r s' hr=>?_
  obtain ⟨rfl,σ',H',J',n'⟩:=hr
  exact wpAny_pure ⟨σ',H',J',n'⟩
section
variable {X:Cx}
def tLC2 (fr:List (Option Nat))(wi:TI)(g:TG)(tc:TT)(wi2:TI)(g2:TG)(tc2:TT)(te:TE):TE:=fun σ H Q=>wi σ H fun J H1=>∀ p,H1 p=none→pJ J g tc (xJ wi2 g2 tc2 (yW p te)) (fun _ H2=>Q (.ref p) H2) (mJ fr σ) (upd H1 p (.lst []))
theorem pe_lc2 {N:List Str}{fr:List (Option Nat)}{tg iter tg2 iter2 elt:Expr}{ifs ifs2:List Expr}{sc:Scope}{pos:Pos}{cl:List (Str × Addr)}{wi wi2:TI}{g g2:TG}{tc tc2:TT}{te:TE}(hc:X.calm=true)(hi:PI X tg iter wi)(S:CScope X N fr sc)(hcl:yV sc.names X.env.cells [] = some cl)
  (hb:∀ s H ex,PG (wZ X N sc cl s H ex) tg g∧pH (wZ X N sc cl s H ex) ifs tc∧PI (wZ X N sc cl s H ex) tg2 iter2 wi2∧PG (wZ X N sc cl s H ex) tg2 g2∧pH (wZ X N sc cl s H ex) ifs2 tc2∧PE (wZ X N sc cl s H ex) elt te) (hs:∀ x,foldedSetIterable iter X.env x=pure x:=by intro _;rfl) (hs2:∀ env x,foldedSetIterable iter2 env x=pure x:=by intro _ _;rfl) :
  PE X (.ListComp elt [⟨tg,iter,ifs,0⟩,⟨tg2,iter2,ifs2,0⟩] sc pos) (tLC2 fr wi g tc wi2 g2 tc2 te):=by
 intro pins s σ H Q I h
 rw [eval_ListComp]
 refine rV (D:=fun J p σ H=>pJ J g tc (xJ wi2 g2 tc2 (yW p te)) (fun _ H2=>Q (.ref p) H2) σ H) rfl hi S hcl I h (fun it p fp tn J s1 s2 H1 σ1 T B st f d=>?_) hs
 obtain ⟨hg,hifs,hi2,hg2,hifs2,helt⟩:=hb s1 H1 fp
 have inn:=pb_inner (X:=wZ X N sc cl s1 H1 fp) (elt:=elt) (gs:=[⟨tg,iter,ifs,0⟩,⟨tg2,iter2,ifs2,0⟩]) (sc:=sc) (pos:=pos) (d:=1) (acc:=.ref p) hc rfl rfl hi2 hg2 hifs2 (wV (p:=p) helt) (fun it=>sU elt tg iter tg2 iter2 ifs ifs2 sc pos (.ref it) (.ref p) _) (hs2 _)
 have L:=xF (X:=wZ X N sc cl s1 H1 fp) (e:=.ListComp elt [⟨tg,iter,ifs,0⟩,⟨tg2,iter2,ifs2,0⟩] sc pos) (d:=0) (acc:=.ref p) (D:=fun _ H2=>Q (.ref p) H2) (s:=s2) hc rfl (sT elt tg iter tg2 iter2 ifs ifs2 [] sc pos (.ref it) (.ref p) _) rfl rfl rfl T hg hifs inn B st f d
 exact codeAny_compStart_list L (T.self X.A 0 s2 _ _ st L)
def tLC3 (fr:List (Option Nat))(wi:TI)(g:TG)(tc:TT)(wi2:TI)(g2:TG)(tc2:TT)(wi3:TI)(g3:TG)(tc3:TT)(te:TE):TE:=fun σ H Q=>wi σ H fun J H1=>∀ p,H1 p=none→pJ J g tc (xJ wi2 g2 tc2 (xJ wi3 g3 tc3 (yW p te))) (fun _ H2=>Q (.ref p) H2) (mJ fr σ) (upd H1 p (.lst []))
theorem a_tLC2 {fr:List (Option Nat)}{wi wi2:TI}{g g2:TG}{tc tc2:TT}{te:TE}{σ:St}{H:Hp}{Q:VK}:tLC2 fr wi g tc wi2 g2 tc2 te σ H Q=wi σ H fun J H1=>∀ p,H1 p=none→pJ J g tc (xJ wi2 g2 tc2 (yW p te)) (fun _ H2=>Q (.ref p) H2) (mJ fr σ) (upd H1 p (.lst [])):=rfl
theorem a_tLC3 {fr:List (Option Nat)}{wi wi2 wi3:TI}{g g2 g3:TG}{tc tc2 tc3:TT}{te:TE}{σ:St}{H:Hp}{Q:VK}:tLC3 fr wi g tc wi2 g2 tc2 wi3 g3 tc3 te σ H Q=wi σ H fun J H1=>∀ p,H1 p=none→pJ J g tc (xJ wi2 g2 tc2 (xJ wi3 g3 tc3 (yW p te))) (fun _ H2=>Q (.ref p) H2) (mJ fr σ) (upd H1 p (.lst [])):=rfl
theorem a_tInner {wi:TI}{g:TG}{tc:TT}{tb:TB}{σ:St}{H:Hp}{N:St→Hp→Prop}:xJ wi g tc tb σ H N=wi σ H fun J H1=>pJ J g tc tb N σ H1:=rfl
end
theorem range_drop {n i:Nat}(h:i < n):(List.range n).drop i=i :: (List.range n).drop (i + 1):=by simp [Bc,h]
theorem tuple_neAt (l b:Addr)(items items2:Array Value)(n n2:Nat)(dd dd2:Option Addr)(sl sl2:Array (Option Value))(e:Nat→Bool) :
  Meets (Builtin.«tuple.__ne__» ⟨[.ref l,.ref b],[]⟩) (fun A R s=>s.heap.get? l=some { cls:=.type "tuple",dict:=dd,data:=.seq items n,slots:=sl }∧s.heap.get? b=some { cls:=.type "tuple",dict:=dd2,data:=.seq items2 n2,slots:=sl2 } ∧
    (∀ j (h1:j < items.size) (h2:j < items2.size),SeqAt.EqAt A.in1 s items[j] items2[j] (e j))∧R (.ok (.ret (.bool (!((List.range (min items.size items2.size)).all e && items.size == items2.size))))) s) :=
 .of_wp fun prog w A R s h=>by
  obtain ⟨hp,g,d,tk,os⟩:=s;obtain ⟨hl,hb,he,h⟩:=h
  have f2:=Cd
  have zl:(items.toList.zip items2.toList).length=min items.size items2.size:=by simp
  wp_walk using wpAny_loadPart' hl,wpAny_loadPart' hb,wpAny_forIn_list _ (fun rest b s'=>b.1=none∧s'=⟨hp,g,d,tk,os⟩∧∃ i,rest=(items.toList.zip items2.toList).drop i∧R (.ok (.ret (.bool (!(((List.range (min items.size items2.size)).drop i).all e && items.size == items2.size))))) ⟨hp,g,d,tk,os⟩) _
  case turn =>
   rintro ⟨y,x⟩ rest b s' ⟨hb',rfl,i,hz,hR⟩
   have lt:i < (items.toList.zip items2.toList).length:=by
    rcases Be i (items.toList.zip items2.toList).length with q | q
    ·exact q
    ·rw [Bx q] at hz;cases hz
   have lm:i < min items.size items2.size:=zl ▸ lt
   have l1:i < items.size:=by omega
   have l2:i < items2.size:=by omega
   rw [Bc lt] at hz
   injection hz with z1 z2
   have hy:y=items[i]:=by have:=AW Prod.fst z1;simpa using this
   have hx:x=items2[i]:=by have:=AW Prod.snd z1;simpa using this
   subst hy hx
   have dr:=range_drop lm
   refine wpAny_bind (he i l1 l2 prog w _ _ ?_)
   cases hc:e i with
   | true =>
    rw [dr,Cf,hc,BS] at hR
    exact wpAny_pure ⟨rfl,rfl,i + 1,z2,hR⟩
   | false =>
    rw [dr,Cf,hc,BC,BC,Bool.not_false] at hR
    wp_walk
    exact ⟨_,rfl,hR⟩
  case fin =>
   rintro ⟨b1,b2⟩ s' ⟨hb',rfl,i,hz,hR⟩
   cases (show b1=none from hb')
   have ge:min items.size items2.size ≤ i:=by
    rcases Be i (items.toList.zip items2.toList).length with q | q
    ·rw [Bc q] at hz;cases hz
    ·exact zl ▸ q
   rw [Bx (by simpa using ge),List.all_nil,BS] at hR
   wp_walk
   exact ⟨_,rfl,hR⟩
  case h=>exact ⟨rfl,rfl,0,rfl,by rw [BW];exact h⟩
theorem cR:∀ (ns ms:List Int),((List.range (min ns.length ms.length)).all (fun j=>decide (ns.getD j 0=ms.getD j 0)) && ns.length == ms.length)=decide (ns=ms):=fun ns ms=>by
 rw [Bs,AE,Bu,Bb,beq_iff_eq]
 constructor
 ·rintro ⟨h1,h2⟩
  apply Ca h2
  intro i q1 q2
  have:=h1 i (AU.mpr (by omega))
  simpa [Ab,q1,q2] using this
 ·rintro rfl
  exact ⟨fun j _=>by simp,rfl⟩
section
variable {X:Cx}
theorem uQ {pins:List (Addr × Obj)}{σ:St}{H:Hp}{s:Shared}{a b:Addr}{ns ms:List Int}(I:Inv X pins σ H s)(ha:H a=some (.tup (ns.map V.int)))(hb:H b=some (.tup (ms.map V.int))) :
  ∃ its its2:List Value,IsTup s.heap a its.toArray∧IsTup s.heap b its2.toArray∧its.length=ns.length∧its2.length=ms.length∧∀ (A:Around) (j:Nat) (h1:j < its.toArray.size) (h2:j < its2.toArray.size),SeqAt.EqAt A s its.toArray[j] its2.toArray[j] (decide (ns.getD j 0=ms.getD j 0)):=by
 obtain ⟨its,r1,p1,_⟩:=I.tuple (SqT.of ha)
 obtain ⟨its2,r2,p2,_⟩:=I.tuple (SqT.of hb)
 have l1:=r1.length
 have l2:=r2.length
 rw [Aa] at l1 l2
 refine ⟨its,its2,p1,p2,l1.symm,l2.symm,fun A j h1 h2=>?_⟩
 have h1':j < its.length:=by simpa using h1
 have h2':j < its2.length:=by simpa using h2
 obtain ⟨t,e1⟩:=jF r1 (i:=j) (v:=its[j]) (by simp [h1'])
 obtain ⟨u,e2⟩:=jF r2 (i:=j) (v:=its2[j]) (by simp [h2'])
 have key:SeqAt.EqAt A s its[j] its2[j] (sP (.int (ns.getD j 0)) (.int (ms.getD j 0))):=fV ⟨t,e1⟩ ⟨u,e2⟩ rfl rfl
 have e:sP (.int (ns.getD j 0)) (.int (ms.getD j 0))=decide (ns.getD j 0=ms.getD j 0):=by
  show (ns.getD j 0 == ms.getD j 0)=_
  rfl
 rw [e] at key
 simpa using key
def rEqT (neg:Bool):R2:=fun x y H Q=>∃ (a b:Addr) (ns ms:List Int),x = .ref a∧y = .ref b∧H a=some (.tup (ns.map V.int))∧H b=some (.tup (ms.map V.int))∧Q (.bl (if neg then !decide (ns=ms) else decide (ns=ms))) H
theorem eqT0 (hu:X.A.units < cLine):vR X (compareOp .Eq) (rEqT false):=by
 intro pins s σ H x y v u Q I rx ry h
 obtain ⟨a,b,ns,ms,rfl,rfl,ha,hb,q⟩:=h
 cases rx
 cases ry
 obtain ⟨its,its2,p1,p2,l1,l2,he⟩:=uQ I ha hb
 refine SeqAt.eq_tupleAt (show s.heap.IsTuple a its.toArray from p1) (show s.heap.IsTuple b its2.toArray from p2) hu (fun j h1 h2=>he _ j h1 h2) ?_
 refine ⟨.bl (decide (ns=ms)),H,I,?_,q⟩
 rw [Ak,Ak,l1,l2,cR]
 rfl
theorem a_rEqT {neg:Bool}{x y:V}{H:Hp}{Q:VK}:rEqT neg x y H Q = ∃ (a b:Addr) (ns ms:List Int),x = .ref a∧y = .ref b∧H a=some (.tup (ns.map V.int))∧H b=some (.tup (ms.map V.int))∧Q (.bl (if neg then !decide (ns=ms) else decide (ns=ms))) H:=rfl
end
theorem rmul_tup (a:Int)(t:Tok)(l:Addr)(items:Array Value)(n:Nat)(dd:Option Addr)(sl:Array (Option Value)) :
  Meets (Builtin.«int.__rmul__» ⟨[.int a t,.ref l],[]⟩) (fun _ R s=>s.heap.get? l=some { cls:=.type "tuple",dict:=dd,data:=.seq items n,slots:=sl }∧R (.ok (.ret Value.notImplemented)) s) :=
 .of_wp fun prog w A R s h=>by
  obtain ⟨hp,g,d,tk,os⟩:=s
  obtain ⟨hl,h⟩:=h
  wp_walk
  exact ⟨_,rfl,h⟩
theorem cM:fillsNumberSlot (.type "tuple") "mul" = pure false :=
 PySem.fillsNumberSlot_seq (id := "tuple.__mul__") (r:=some (.builtin "tuple.__rmul__")) BZ.lookup (by decide +kernel) F.slot_tuple_rmul.lookup (by decide +kernel)
theorem tH:seqRepeat? (.type "tuple")=pure (some (.builtin "tuple.__mul__")):=by
 unfold seqRepeat?
 rw [PySem.seqSlot_of (T := "tuple") (name := "__mul__") (id := "tuple.__mul__") BZ.lookup (by decide +kernel),PySem.seqSlot_of (T := "tuple") (name := "__rmul__") (id := "tuple.__rmul__") F.slot_tuple_rmul.lookup (by decide +kernel)]
 rfl
theorem mul_one (t:Addr)(items:Array Value)(n:Nat)(dd:Option Addr)(sl:Array (Option Value))(k:Int)(u:Tok)(h1:¬ (decide (k < -(2 ^ 63)) || decide (k ≥ 2 ^ 63))=true)(hc:(items.isEmpty || k == 1)=true) :
  Meets (Builtin.«tuple.__mul__» ⟨[.ref t,.int k u],[]⟩) (fun _ R s=>s.heap.get? t=some { cls:=.type "tuple",dict:=dd,data:=.seq items n,slots:=sl }∧R (.ok (.ret (.ref t))) s) :=
 .of_wp fun prog w A R s h=>by
  obtain ⟨hp,g,d,tk,os⟩:=s
  obtain ⟨hl,h⟩:=h
  wp_walk
  refine wpAny_ite_split (fun q=>absurd q h1) fun _=>?_
  wp_walk
  exact ⟨_,rfl,h⟩
theorem mul_nil (t:Addr)(items:Array Value)(n:Nat)(dd:Option Addr)(sl:Array (Option Value))(k:Int)(u:Tok)(h1:¬ (decide (k < -(2 ^ 63)) || decide (k ≥ 2 ^ 63))=true)(hc:¬ (items.isEmpty || k == 1)=true)(hn:(decide (k ≤ 0) || items.isEmpty)=true) :
  Meets (Builtin.«tuple.__mul__» ⟨[.ref t,.int k u],[]⟩) (fun _ R s=>s.heap.get? t=some { cls:=.type "tuple",dict:=dd,data:=.seq items n,slots:=sl }∧R (.ok (.ret (.ref s.heap.objs.size))) { s with heap:=s.heap.push { cls:=.type "tuple",data:=.seq #[] } }) :=
 .of_wp fun prog w A R s h=>by
  obtain ⟨hp,g,d,tk,os⟩:=s
  obtain ⟨hl,h⟩:=h
  wp_walk
  refine wpAny_ite_split (fun q=>absurd q h1) fun _=>?_
  wp_walk
  exact ⟨_,rfl,h⟩
theorem mul_more (t:Addr)(items:Array Value)(n:Nat)(dd:Option Addr)(sl:Array (Option Value))(k:Int)(u:Tok)(h1:¬ (decide (k < -(2 ^ 63)) || decide (k ≥ 2 ^ 63))=true)(hc:¬ (items.isEmpty || k == 1)=true)(hn:¬ (decide (k ≤ 0) || items.isEmpty)=true)
  (hm:¬ (items.size * k > (2 ^ 63 - 1) / 8)) (hl':¬ Builtin.Tuple.tupleTooMany (items.size * k)=true) (hsz:((List.replicate k.toNat items).foldl (· ++ ·) #[]).size ≤ sizeLine) :
  Meets (Builtin.«tuple.__mul__» ⟨[.ref t,.int k u],[]⟩) (fun _ R s=>s.heap.get? t=some { cls:=.type "tuple",dict:=dd,data:=.seq items n,slots:=sl }∧R (.ok (.ret (.ref s.heap.objs.size))) { s with heap:=s.heap.push { cls:=.type "tuple",data:=.seq ((List.replicate k.toNat items).foldl (· ++ ·) #[]) } }) :=
 .of_wp fun prog w A R s h=>by
  obtain ⟨hp,g,d,tk,os⟩:=s
  obtain ⟨hl,h⟩:=h
  wp_walk
  refine wpAny_ite_split (fun q=>absurd q h1) fun _=>?_
  wp_walk
  refine wpAny_ite_split (fun q=>absurd q hm) fun _=>?_
  wp_walk
  exact ⟨_,rfl,h⟩
section
variable {X:Cx}
def rMulT:R2:=fun x y H Q=>∃ (a:Addr) (k:Nat) (xs:List V),x = .ref a∧y = .int (k:Int)∧H a=some (.tup xs)∧xs.length * k ≤ 1000∧k ≤ 1000∧∀ (p:Addr) (H':Hp),Same H H'→H' p=some (.tup (List.replicate k xs).flatten)→Q (.ref p) H'
theorem mulT0:vR X (binaryOp .Mult) rMulT:=by
 intro pins s σ H x y v u Q I rx ry h
 obtain ⟨a,k,xs,rfl,rfl,ha,hz,hk,q⟩:=h
 cases rx
 obtain ⟨t,rfl⟩:=ry
 obtain ⟨its,r,p1,_⟩:=I.tuple (SqT.of ha)
 have hlen:=r.length
 obtain ⟨⟨c1,d1,da1,sl1⟩,e,k1,n1,g1⟩:=id p1
 simp only at k1 g1
 subst k1 g1
 have h1:¬ (decide ((k:Int) < -(2 ^ 63)) || decide ((k:Int) ≥ 2 ^ 63))=true:=by
  rw [Cz,Bb,Bb]
  omega
 refine wpAny_binaryOp_repeat_ref (T := "tuple") (U := "int") (by decide) ⟨_,e,rfl⟩ (fun s'=>typeIs_int s' (k:Int) t) cM F.fills_int_mul F.slot_int_rmul tH F.slot_int_index.lookup
  (call_meets F.slot_int_rmul (typeIs_int s (k:Int) t) F.entry_int_rmul (F.args_int_rmul_2 _ _) (rmul_tup (k:Int) t a its.toArray n1 d1 sl1) ⟨e,rfl,⟨_,e,rfl⟩,?_⟩)
 by_cases hc:(its.toArray.isEmpty || (k:Int) == 1)=true
 ·refine call_meets BZ ⟨_,e,rfl⟩ F.entry_tuple_mul (F.args_tuple_mul_2 _ _) (mul_one a its.toArray n1 d1 sl1 (k:Int) t h1 hc) ⟨e,⟨.ref a,H,I,rfl,q a H (Same.refl H) ?_⟩⟩
  rw [ha]
  congr 2
  rw [Cz] at hc
  rcases hc with hc | hc
  ·have:its=[]:=by simpa using hc
   have:xs=[]:=r.nil_iff.mp this
   subst this
   induction k with
   | zero=>simp
   | succ k ih=>simp
  ·have:k=1:=by have:=eq_of_beq hc;omega
   subst this
   simp
 ·have ne:¬ its.toArray.isEmpty=true:=fun z=>hc (by rw [z];rfl)
  by_cases hk0:k=0
  ·subst hk0
   refine call_meets BZ ⟨_,e,rfl⟩ F.entry_tuple_mul (F.args_tuple_mul_2 _ _) (mul_nil a its.toArray n1 d1 sl1 ((0:Nat):Int) t h1 hc (by simp)) ⟨e,?_⟩
   have hf:=I.hok.fresh (Ad s.heap.objs.size)
   refine ⟨.ref s.heap.objs.size,upd H s.heap.objs.size (.tup []),I.laid (t':=s.toks) (fun b o z=>Ac _ z) (Ad _) ⟨Bh _,[],.nil,Ct _ _⟩,rfl,q _ _ (kQ hf) ?_⟩
   rw [qH]
   simp
  ·have fl:(List.replicate (k:Int).toNat its.toArray).foldl (· ++ ·) #[] = (List.replicate k its).flatten.toArray:=by
    have:=foldl_rep its k []
    rw [List.nil_append] at this
    rw [Ay]
    exact this
   have lr:(List.replicate k its).flatten.length=k * its.length:=len_rep its k
   have lx:(List.replicate k xs).flatten.length=k * xs.length:=len_rep xs k
   have hsm:k * its.length ≤ 1000:=by rw [← hlen,CH];exact hz
   have cast:((its.toArray.size:Nat):Int) * (k:Int)=((its.length * k:Nat):Int):=by rw [Ak];norm_cast
   have hsm2:its.length * k ≤ 1000:=by rw [CH];exact hsm
   refine call_meets BZ ⟨_,e,rfl⟩ F.entry_tuple_mul (F.args_tuple_mul_2 _ _) (mul_more a its.toArray n1 d1 sl1 (k:Int) t h1 hc ?_ ?_ ?_ ?_) ⟨e,?_⟩
   ·rw [Cz,Bb]
    rintro (z | z)
    ·omega
    ·exact ne z
   ·rw [cast];omega
   ·unfold Builtin.Tuple.tupleTooMany
    rw [cast,sizeLine_eq,Bb]
    omega
   ·rw [fl,Ak,lr,sizeLine_eq]
    omega
   ·rw [fl]
    have hf:=I.hok.fresh (Ad s.heap.objs.size)
    refine ⟨.ref s.heap.objs.size,upd H s.heap.objs.size (.tup (List.replicate k xs).flatten),I.laid (t':=s.toks) (fun b o z=>Ac _ z) (Ad _) ⟨?_,(List.replicate k its).flatten,?_,Ct _ _⟩,rfl,q _ _ (kQ hf) qH⟩
    ·rw [lx,hlen,sizeLine_eq];omega
    ·exact r.rep k
theorem a_rMulT {x y:V}{H:Hp}{Q:VK}:rMulT x y H Q = ∃ (a:Addr) (k:Nat) (xs:List V),x = .ref a∧y = .int (k:Int)∧H a=some (.tup xs)∧xs.length * k ≤ 1000∧k ≤ 1000∧∀ (p:Addr) (H':Hp),Same H H'→H' p=some (.tup (List.replicate k xs).flatten)→Q (.ref p) H':=rfl
end
theorem Box.ne {H:Hp}{p c:Addr}(bx:Box H p)(n:H c=none):p ≠ c:=by
 rintro rfl
 obtain ⟨_,_,_,e⟩:=bx
 rw [n] at e
 cases e
theorem Box.upd {H:Hp}{p c:Addr}{o:HO}(bx:Box H p)(n:p ≠ c):Box (L2.upd H c o) p:=by
 obtain ⟨g,m,z,e⟩:=bx
 exact ⟨g,m,z,by rw [qS n];exact e⟩
theorem Box.same {H H':Hp}{p:Addr}(bx:Box H p)(s:Same H H'):Box H' p:=by
 obtain ⟨g,m,z,e⟩:=bx
 exact ⟨g,m,z,s _ _ e⟩
section
variable {X:Cx}
def tK:Expr→Bool
 | .Starred _ _=>false
 | _=>true
theorem iC {e:Expr}{es:List Expr}{env:Env}(h:tK e=true):starEach (e :: es) env=(false,eval e env) :: starEach es env:=by
 cases e <;> first | rfl | cases h
theorem qA {e:Expr}{es:List Expr}{te:TE}{t:TA}(ha:PE X e te)(hr:PA X es t)(hp:tK e=true:=by rfl):PA X (e :: es) (pQ te t):=lJ ha hr (iC hp)
def tDict:TE:=fun _ H Q=>∀ (p:Addr) (H':Hp),H p=none→Same H H'→H' p=some (.dK [])→Q (.ref p) H'
theorem a_tChain {r r':R2}{ta tb tc:TE}{σ:St}{H:Hp}{Q:VK}:tChain r r' ta tb tc σ H Q=ta σ H fun x H1=>tb σ H1 fun y H2=>r x y H2 fun z H3=>∃ k,z = .bl k∧(if k=true then tc σ H3 fun w' H4=>r' y w' H4 Q else Q (.bl false) H3):=rfl
theorem a_tDict {σ:St}{H:Hp}{Q:VK}:tDict σ H Q = ∀ (p:Addr) (H':Hp),H p=none→Same H H'→H' p=some (.dK [])→Q (.ref p) H':=rfl
def o5 (t:TA):TE:=fun σ H Q=>t σ H fun xs H1=>xs.length ≤ sizeLine∧∀ (p:Addr) (H2:Hp),H1 p=none→Same H1 H2→H2 p=some (.lst xs)→Q (.ref p) H2
theorem kZ {es:List Expr}{t:TA}{pos:Pos}(h:PA X es t):PE X (.List es pos) (o5 t):=by
 intro pins s σ H Q I hq
 refine wpAny_List_spliced (jJ (h pos pins s σ H _ I hq) fun us s1 ⟨xs,H1,I1,r,z,q⟩=>⟨r.length ▸ z,?_⟩)
 have nf:=I1.hok.fresh (Ad s1.heap.objs.size)
 exact ⟨.ref s1.heap.objs.size,upd H1 s1.heap.objs.size (.lst xs),I1.laid (t':=s1.toks) (fun b u e=>Ac _ e) (Ad _) ⟨z,us,0,r,Ao _ rfl⟩,rfl,q _ _ nf (kQ nf) qH⟩
theorem a_tLstA {t:TA}{σ:St}{H:Hp}{Q:VK}:o5 t σ H Q=t σ H fun xs H1=>xs.length ≤ sizeLine∧∀ (p:Addr) (H2:Hp),H1 p=none→Same H1 H2→H2 p=some (.lst xs)→Q (.ref p) H2:=rfl
theorem listA0:zD X (.type "list") (fun xs H Q=>∃ p ys,xs=[.ref p]∧sq H p=some ys∧∀ (l:Addr) (H2:Hp),H l=none→Same H H2→H2 l=some (.lst ys)→Q (.ref l) H2):=by
 intro pins s σ H xs us Q I r h
 obtain ⟨p,ys,e,hq,q⟩:=h
 exact list0 pins s σ H xs us Q I r ⟨p,ys,e,hq,fun l n=>q l _ n (kQ n) qH⟩
end
def oZ (t u:TS):TS:=tSeq t u
theorem qJ {X:Cx}{st:Stmt}{sts:List Stmt}{t u:TS}(h:PS X st t)(hs:PSs X sts u):PSs X (st :: sts) (oZ t u):=kC h hs
structure QE (X:Cx)(e:Expr)(t:TE):Prop where
 get:PE X e t
structure QA (X:Cx)(es:List Expr)(t:TA):Prop where
 get:PA X es t
structure QS (X:Cx)(st:Stmt)(t:TS):Prop where
 get:PS X st t
structure QSs (X:Cx)(sts:List Stmt)(t:TS):Prop where
 get:PSs X sts t
section
variable {X:Cx}
theorem jN:QA X [] tNil:=⟨qD⟩
theorem qW {e:Expr}{es:List Expr}{te:TE}{t:TA}(ha:QE X e te)(hr:QA X es t)(hp:tK e=true:=by rfl):QA X (e :: es) (pQ te t):=⟨qA ha.get hr.get hp⟩
theorem q8 {e:Expr}{te:TE}(h:PE X e te):QE X e te:=⟨h⟩
theorem qs_of {st:Stmt}{t:TS}(h:PS X st t):QS X st t:=⟨h⟩
theorem xN {es:List Expr}{t:TA}{pos:Pos}(h:QA X es t):QE X (.List es pos) (o5 t):=⟨kZ h.get⟩
theorem dB {i:Nat}{x:Str}{e:Expr}{te:TE}{pos pos':Pos}(hN:X.N.Nodup)(hi:X.N[i]? = some x)(hx:Loc X.env.scope x)(he:QE X e te)(hs:swapsWith e (some (.Name x pos')) pos.line X.env=pure false:=by rfl)(hf:X.fn x=true∨X.env.scope.names.lookup x=some .local:=by first | exact .inl rfl | exact .inr rfl | assumption):QS X (.Assign [.Name x pos'] e pos) (eZ te (zJ i)):=⟨qY hN hi hx he.get hs hf⟩
theorem qss_one {st:Stmt}{t:TS}(h:QS X st t):QSs X [st] t:=⟨qI h.get⟩
theorem j7 {st:Stmt}{sts:List Stmt}{t u:TS}(h:QS X st t)(hs:QSs X sts u):QSs X (st :: sts) (oZ t u):=⟨qJ h.get hs.get⟩
end
section
variable {X:Cx}
theorem iT {N:List Str}{fr:List (Option Nat)}{e tg iter:Expr}{ifs:List Expr}{gs:List Comprehension}{sc:Scope}{ip pos':Pos}{cl:List (Str × Addr)}{wi:TI}{D:It→Addr→St→Hp→Prop}{pins:List (Addr × Obj)}{σ:St}{H:Hp}{s:Shared}{Q:VK}{i:Nat}{x:Str}
  (hN:X.N.Nodup) (hix:X.N[i]? = some x) (hx:Loc X.env.scope x) (hf:X.fn x=true∨X.env.scope.names.lookup x=some .local)
  (he:clausesOf e=⟨tg,iter,ifs,0⟩ :: gs) (hi:PI X tg iter wi) (S:CScope X N fr sc) (hcl:yV sc.names X.env.cells [] = some cl) (I:Inv X pins σ H s)
  (h:wi σ H fun J H1=>∀ p,H1 p=none→D J p (mJ fr σ) (upd H1 p (.lst [])))
  (loop:∀ (it p:Addr) (fp:List Addr) (tn:Nat→Heap→Prop) (J:It) (s1 s2:Shared) (H1:Hp) (σ1:St),Turn X.prog X.w X.K tg J fp it tn→Inv (wZ X N sc cl s1 H1 fp) [] σ1 H1 s2→tn 0 s2.heap→(∀ b ∈ fp,yB (wZ X N sc cl s1 H1 fp) [] H1 b)→D J p σ1 H1 →
   codeAny (model X.prog X.w) X.A (.compStart e 0 (.ref it) (.ref p) (compEnvC sc cl s1.heap.objs.size X.env)) (fun r s'=>r = .ok .next∧∃ σ' H',Inv (wZ X N sc cl s1 H1 fp) [] σ' H' s'∧Q (.ref p) H') s2)
  (hs:∀ x,foldedSetIterable iter X.env x=pure x) :
  wpAny (model X.prog X.w) X.A (comprehension e sc X.env ip (newList []) false (eval iter X.env) (some (assign (.Name x pos') X.env))) (fun _ s'=>∃ v H',Inv X pins (σ.set i (some v)) H' s'∧Q v H') X.xe s:=by
 refine wpAny_comprehension_free (use:=some (assign (.Name x pos') X.env)) he hs (zV hcl) S.kind S.loc ?_
 refine jJ (hi pins s σ H _ I h) fun v s1 h1=>jJ h1 fun itv s2 ⟨it,fp,tn,J,H2,e2,I2,T,st2,f2,q⟩=>?_
 subst e2
 refine wpAny_newObj_type ?_
 have hp:H2 s2.heap.objs.size=none:=I2.hok.fresh (Ad _)
 have I3:Inv X pins σ (upd H2 s2.heap.objs.size (.lst [])) { s2 with heap:=s2.heap.push { cls:=.type "list",data:=.seq ([] : List Value).toArray },toks:=s2.toks }:=I2.lnew (its:=[]) (ys:=[]) .nil (Bh _)
 have lt2:∀ b ∈ fp,b < s2.heap.objs.size:=fun b hb=>let ⟨o,e,_⟩:=T.obj 0 _ st2 b hb;As e
 have f3:∀ b ∈ fp,yB X pins (upd H2 s2.heap.objs.size (.lst [])) b:=fun b hb=>⟨by rw [qS (A6 (lt2 b hb))];exact (f2 b hb).1,(f2 b hb).2⟩
 have st3:tn 0 (s2.heap.push { cls:=.type "list",data:=.seq ([] : List Value).toArray }):=T.keep _ _ _ st2 fun b _ o e=>Ac _ e
 refine wpAny_newFunctionEnv S.nocell (by intro y hy;simp at hy) (fun h₁ hns₁ hsb₁=>?_) S.kind
 generalize hs3:({ s2 with heap:=s2.heap.push { cls:=.type "list",data:=.seq ([] : List Value).toArray } }:Shared)=s3 at hns₁ hsb₁ ⊢
 have I3':Inv X pins σ (upd H2 s2.heap.objs.size (.lst [])) s3:=by rw [← hs3];exact I3
 have st3':tn 0 s3.heap:=by rw [← hs3];exact st3
 have lt3:∀ b ∈ fp,b < s3.heap.objs.size:=fun b hb=>let ⟨o,e,_⟩:=T.obj 0 _ st3' b hb;As e
 have hk:∀ b u,s3.heap.get? b=some u→h₁.get? b=some u:=fun b u e=>hsb₁.extBut b u (A6 (As e)) (Ac _ e)
 have hns:h₁.Ns s3.heap.objs.size (fun _=>none):=by simpa using hns₁
 have B:=I3'.block (N:=N) (fr:=fr) (sc:=sc) (cl:=cl) (ex:=fp) (h1:=h₁) (tk:=s3.toks + ([] : List (Str × Value)).length) S hcl (fun b hb=>⟨f3 b hb,lt3 b hb⟩) hns hk
 have stB:tn 0 h₁:=T.keep _ _ _ st3' fun b _ o e=>hk b o e
 have fC:yB X pins (upd H2 s2.heap.objs.size (.lst [])) s3.heap.objs.size:=I3'.fpOk (Ad _) (I3'.hok.fresh (Ad _))
 refine codeAny_mono (loop it s2.heap.objs.size fp tn J s3 _ (upd H2 s2.heap.objs.size (.lst [])) (mJ fr σ) T B stB (fun b hb=>?_) (q _ hp)) fun r s' hr=>?_
 ·obtain ⟨f0,f1,f2',f3',f4,f5⟩:=f3 b hb
  refine ⟨f0,A6 (lt3 b hb),fun z=>?_,.inl hb,fun x c e=>f4 x c (kH hcl e),fun p hp'=>absurd (show p ∈ ([] : List (Addr × Obj)) from hp') (by simp)⟩
  rcases A3.mp (I3'.stkSub b z) with e | e
  ·exact f1 e
  ·exact f2' e
 ·obtain ⟨rfl,σ',H',J',q'⟩:=hr
  have I5:Inv X pins σ H' s':=I3'.unblock (h':=s'.heap) J' f3 ⟨rfl,fun _ _=>rfl⟩
  show wpAny _ X.A (assign (.Name x pos') X.env (.ref s2.heap.objs.size)) _ X.xe s'
  refine wpAny_assign_Name (fN (v:=.ref s2.heap.objs.size) I5 hN hix hx rfl (fun s4 I6 ⟨a,sb,ha⟩=>?_) hf)
  obtain ⟨m,hn,_⟩:=J'.loc
  have free:H' s3.heap.objs.size=none:=J'.free
  obtain ⟨g0,g1,g2,g3,g4,g5⟩:=fC
  have aC:s3.heap.objs.size ≠ a:=by
   rcases ha with rfl | ha
   ·exact g1
   ·exact fun z=>g4 x a ha z.symm
  refine ⟨m,hn.sameBut sb aC,fun h' sb'=>⟨.ref s2.heap.objs.size,H',?_,q'⟩⟩
  refine I6.turnedN (fp:=[s3.heap.objs.size]) (fun b hb=>?_) fun c o hc e=>sb'.extBut _ _ (fun z=>hc (A4.mpr z)) e
  have eb:b=s3.heap.objs.size:=by simpa using hb
  subst eb
  exact ⟨free,g1,g2,g3,g4,g5⟩
theorem rE {N:List Str}{fr:List (Option Nat)}{tg iter elt:Expr}{ifs:List Expr}{sc:Scope}{pos pos' cpos:Pos}{cl:List (Str × Addr)}{wi:TI}{g:TG}{tc:TT}{te:TE}{i:Nat}{x:Str}(hN:X.N.Nodup)(hix:X.N[i]? = some x)(hx:Loc X.env.scope x)
  (hc:X.calm=true) (hi:PI X tg iter wi) (S:CScope X N fr sc) (hcl:yV sc.names X.env.cells [] = some cl)
  (hb:∀ s H ex,PG (wZ X N sc cl s H ex) tg g∧pH (wZ X N sc cl s H ex) ifs tc∧PE (wZ X N sc cl s H ex) elt te) (hsw:swapsWith (.ListComp elt [⟨tg,iter,ifs,0⟩] sc cpos) (some (.Name x pos')) pos.line X.env=pure true:=by rfl)
  (hs:∀ x,foldedSetIterable iter X.env x=pure x:=by intro _;rfl) (hf:X.fn x=true∨X.env.scope.names.lookup x=some .local:=by first | exact .inl rfl | exact .inr rfl | assumption) :
  PS X (.Assign [.Name x pos'] (.ListComp elt [⟨tg,iter,ifs,0⟩] sc cpos) pos) (eZ (tLC fr wi g tc te) (zJ i)):=by
 intro pins s σ H D I h
 rw [exec_Assign_Name_used _ _ _ _ hsw]
 refine wpAny_bind (wpAny_standAt (wpAny_bind ?_))
 show wpAny _ X.A (do let _ ← comprehension (.ListComp elt [⟨tg,iter,ifs,0⟩] sc cpos) sc X.env _ (newList []) false (eval iter X.env) (some (assign (.Name x pos') X.env))) _ _ s
 refine wpAny_bind (jJ (iT (Q:=fun v H2=>D.nx (σ.set i (some v)) H2) (D:=fun J p σ1 H1=>pJ J g tc (yW p te) (fun _ H2=>D.nx (σ.set i (some (.ref p))) H2) σ1 H1) hN hix hx hf rfl hi S hcl I h (fun it p fp tn J s1 s2 H1 σ1 T B st f d=>?_) hs) fun _ s' ⟨v,H',I',q'⟩=>wpAny_pure (wpAny_pure ⟨_,H',I',q'⟩))
 obtain ⟨hg,hifs,helt⟩:=hb s1 H1 fp
 have L:=xF (X:=wZ X N sc cl s1 H1 fp) (e:=.ListComp elt [⟨tg,iter,ifs,0⟩] sc cpos) (d:=0) (acc:=.ref p) (D:=fun _ H2=>D.nx (σ.set i (some (.ref p))) H2) (s:=s2) hc rfl (compTurn_list elt tg iter ifs sc cpos (.ref it) (.ref p) _) rfl rfl rfl T hg hifs (wV helt) B st f d
 exact codeAny_compStart_list L (T.self X.A 0 s2 _ _ st L)
end
theorem fD:bootBuiltins "enumerate" = some (.type "enumerate"):=by decide +kernel
def Itr1 (h:Heap)(c:String)(it l:Addr)(k:Nat):Prop:=(c = "list_iterator" ∧ h.IsListIter it l k)∨(c = "tuple_iterator" ∧ h.IsTupleIter it l k)
theorem nO {prog:Program}{w:World}{A:Around}(hh:A.handled=none)(c:String)(it l:Addr)(ne:l ≠ it)(xs:Array Value):Draws prog w A it [it,l] xs.size (fun i v=>xs[i]? = some v) (fun i h=>Src h c it l xs i) where
 live:=fun _ _ st=>let ⟨o,ho,_⟩:=st.itlt;⟨o,ho⟩
 frame:=fun _ _ _ st hk=>st.at (fun o e=>hk it (by simp) o e) fun o e=>hk l (by simp) o e
 item:=fun i s Q E hi st hQ=>xY st ne (x:=xs[i]) (by simp [hi]) fun h' st' sb=>hQ _ h' s.toks (by simp [hi]) st' sb
 done:=fun s Q E st hE=>cL hh st (by simp) hE
theorem oC (l:Addr)(items:Array Value)(n:Nat)(dct:Option Addr)(sl:Array (Option Value)) :
  Meets (Builtin.«enumerate.__new__» ⟨[.type "enumerate",.ref l],[]⟩) (fun _ R s=>s.heap.get? l=some { cls:=.type "tuple",dict:=dct,data:=.seq items n,slots:=sl }∧R (.ok (.ret (.ref (s.heap.push { cls:=.type "tuple_iterator",data:=.fields #[.ref l,.int 0 0] }).objs.size)))
    { s with heap:=(s.heap.push { cls:=.type "tuple_iterator",data:=.fields #[.ref l,.int 0 0] }).push { cls:=.type "enumerate",data:=.fields #[.none,.bool false,.ref s.heap.objs.size,rawInt 0,.none,.none] } }) :=
 .of_wp fun prog w A R s h=>by
  obtain ⟨hp,g,d,tk,os⟩:=s
  obtain ⟨hl,h⟩:=h
  have sub:=sub_enumerate
  have isT:Heap.IsTuple (Shared.heap ⟨hp,g,d,tk,os⟩) l items:=⟨_,hl,rfl,n,rfl⟩
  wp_walk using Br hl
  refine wpAny_stack_any fun st=>wpAny_pure ?_
  split
  ·rename_i c _ _ _ _ _
   cases (c == Value.type "enumerate") <;> (wp_walk using Br hl,wpAny_pyIter_tuple isT;exact ⟨_,rfl,h⟩)
  ·wp_walk using Br hl,wpAny_pyIter_tuple isT
   exact ⟨_,rfl,h⟩
section
variable {prog:Program}{w:World}{A:Around}{E:Value→Shared→Prop}{s:Shared}
theorem oG {c:String}{l:Addr}{xs:Array Value}{Q:Value→Shared→Prop}(x:SeqOf s.heap c l xs)
  (h:∀ h',IsEnum h' (s.heap.objs.size + 1) s.heap.objs.size 0 .none→Itr1 h' c s.heap.objs.size l 0→(∀ b o,s.heap.get? b=some o→h'.get? b=some o)→Q (.ref (s.heap.objs.size + 1)) { s with heap:=h' }):wpAny (model prog w) A (call (.type "enumerate") [.ref l]) Q E s:=by
 rcases x with ⟨rfl,x⟩ | ⟨rfl,x⟩
 ·exact call_enumerate_list x fun h' he hi _ k=>h h' he (.inl ⟨rfl,hi⟩) k
 ·obtain ⟨⟨c,dct,dt,sl⟩,hl,hc,n,hd⟩:=x
  cases (show c = .type "tuple" from hc)
  cases (show dt = .seq xs n from hd)
  refine callType_new F.called_enumerate (by decide) (F.typeCall_enumerate_1 _) (F.newCall_enumerate_1 _) (fun obj=>F.args_object_init_2 obj _) F.entry_enumerate_new (oC l xs n dct sl) ⟨hl,?_⟩
  have size1:(s.heap.push { cls:=.type "tuple_iterator",data:=.fields #[.ref l,.int 0 0] }).objs.size=s.heap.objs.size + 1:=AO ..
  show _∧_
  rw [size1]
  have made:=Ao (s.heap.push { cls:=.type "tuple_iterator",data:=.fields #[.ref l,.int 0 0] }) (o:={ cls:=.type "enumerate",data:=.fields #[.none,.bool false,.ref s.heap.objs.size,rawInt 0,.none,.none] }) rfl
  rw [size1] at made
  exact ⟨⟨_,made,rfl⟩,h _ made (.inr ⟨rfl,_,Ac _ (Ao _ rfl),rfl,rfl⟩) fun b o z=>Ac _ (Ac _ z)⟩
end
def Ite (c:String)(l:Addr)(xs:List V):It:=⟨fun i H=>fY H c l xs∧i < xs.length,fun i H x H'=>∃ T v,x = .ref T∧H T=none∧H'=upd H T (.tup [.int (i:Int),v])∧xs[i]? = some v,fun i H=>fY H c l xs∧i=xs.length⟩
theorem eX {P:Program}{w:World}{K:PySem.W.Frag}{es:List Expr}{tk:_}{tp:Pos}(e it l:Addr)(c:String)(xs:List V)(hei:e ≠ it)(hle:l ≠ e)(hli:l ≠ it) :
  Turn P w K (.Tuple es tk tp) (Ite c l xs) [e,it] e (fun i h=>(∃ old,IsEnum h e it (i:Int) old)∧Itr1 h c it l i) where
 mem:=by simp
 obj:=fun i h st b hb=>by
  obtain ⟨⟨old,he⟩,hi⟩:=st
  simp only [A3,AZ,or_false] at hb
  rcases hb with rfl | rfl
  ·exact ⟨_,he,fun v q=>by cases (show Data.fields _=Data.cell v from q)⟩
  ·exact fU hi
 keep:=fun i h h' st k=>by
  obtain ⟨⟨old,he⟩,hi⟩:=st
  exact ⟨⟨old,k e (by simp) _ he⟩,vP hi fun o q=>k it (by simp) o q⟩
 item:=by
  intro X hP hw hK hc i pins s σ H E I hf st hg
  subst hP hw hK
  obtain ⟨q1,hi1⟩:=hg
  obtain ⟨its,r1,e1⟩:=I.seqOf q1
  obtain ⟨x,hx⟩:=vA hi1
  obtain ⟨u,hu,ru⟩:=r1.get hx
  obtain ⟨⟨old,he⟩,hi⟩:=id st
  have hl:=r1.length
  have hlt:i < its.toArray.size:=by rw [Ak,← hl];exact hi1
  refine wpAny_pyNext_enum_itemD (nO (A:=X.A.in1) (I.ok.hd hc) c it l hli its.toArray) he (yP hi e1) hlt hei (by simp;exact ⟨hei,hle.symm⟩) fun y h' tk' hy out st' new size k=>?_
  have yu:y=u:=by
   have hu':its.toArray[i]? = some u:=by simpa using hu
   have hy':its.toArray[i]? = some y:=hy
   rw [hu'] at hy'
   exact (A9 hy').symm
  subst yu
  refine ⟨_,rfl,wpAny_letOwnedTupleGo_enum out fun h'' z'' sb=>?_⟩
  have lt:∀ b ∈ [e,it],b < s.heap.objs.size:=fun b hb=>by
   simp only [A3,AZ,or_false] at hb
   rcases hb with rfl | rfl
   ·exact As he
   ·obtain ⟨o,q,_⟩:=fU hi;exact As q
  have nT:s.heap.objs.size ∉ [e,it]:=fun hb=>AR _ (lt _ hb)
  have nTe:s.heap.objs.size ≠ e:=fun q=>nT (by simp [q])
  have J:=I.turnedT (fp:=[e,it]) (h':=h'') (T:=s.heap.objs.size) (xs:=[.int (i:Int),x]) (us:=[.int i tk',y]) (t':=tk' + 1) hf (fun b o hb q=>sb.extBut _ _ (fun z=>hb (by simp [z])) (k b o (fun z=>hb (by simp [z])) (fun z=>hb (by simp [z])) q)) (Ad _) (by show 2 ≤ sizeLine;decide) (.cons ⟨tk',rfl⟩ (.cons ru .nil))
   ⟨_,sb.extBut _ _ nTe new,rfl,_,rfl⟩ nT
  refine ⟨.ref s.heap.objs.size,_,J,rfl,⟨_,x,rfl,I.hok.fresh (Ad _),rfl,hx⟩,⟨⟨y,z''⟩,vP (xW st') fun o q=>sb.extBut _ _ hei.symm q⟩,fun b hb=>?_⟩
  rw [qS (A6 (lt b hb))]
  exact (hf b hb).1
 done:=by
  intro X hP hw hK hc i pins s σ H E I hf st hg
  subst hP hw hK
  obtain ⟨q1,hend⟩:=hg
  obtain ⟨its,r1,e1⟩:=I.seqOf q1
  obtain ⟨⟨old,he⟩,hi⟩:=id st
  have hl:=r1.length
  have si:Src s.heap c it l its.toArray its.toArray.size:=by
   have:=yP hi e1
   rw [hend,hl] at this
   simpa using this
  refine wpAny_pyNext_enum_endD (nO (A:=X.A.in1) (I.ok.hd hc) c it l hli its.toArray) he si fun h' k=>?_
  exact ⟨rfl,I.turnedN (fp:=[e,it]) hf fun b o hb q=>k b o (fun z=>hb (by simp [z])) q⟩
 self:=fun A i s Q E st h=>by
  obtain ⟨⟨old,he⟩,hi⟩:=st
  exact wpAny_pyIter_enum he h
section
variable {X:Cx}
def iEnum (ta:TA):TI:=fun σ H R=>ta σ H fun vs H1=>∃ l c xs,vs=[.ref l]∧fY H1 c l xs∧R (Ite c l xs) H1
theorem gK {es:List Expr}{kk:_}{tp:Pos}{a:Expr}{ta:TA}{p pos:Pos}(hg:Gl X "enumerate") (hm:X.mg "enumerate" = none) (ha:PA X [a] ta) (hs:starEach [a] X.env=[(false,eval a X.env)]:=by rfl):PI X (.Tuple es kk tp) (.Call (.Name "enumerate" p) [a] [] pos) (iEnum ta):=by
 intro pins s σ H R I h
 refine Call_ (gD I hg hm fD (Bk (jJ (ha pos pins s σ H _ I h) fun us s1 ⟨vs,H1,I1,r1,q1⟩=>?_) hs rfl))
 obtain ⟨l,c,xs,e,k1,q⟩:=q1
 subst e
 obtain ⟨u,rfl,ru⟩:=r1.one
 cases ru
 obtain ⟨its,v1,o1⟩:=I1.seqOf k1
 have lt1:(l:Nat) < (s1.heap.objs.size:Nat):=o1.lt
 refine oG o1 fun h' he hi old=>wpAny_pyIter_enum he ?_
 have J:Inv X pins σ H1 { s1 with heap:=h' }:=I1.kept (t':=s1.toks) old
 refine ⟨s1.heap.objs.size + 1,_,_,_,H1,rfl,J,eX (s1.heap.objs.size + 1) s1.heap.objs.size l c xs (Nat.succ_ne_self _) (A6 (Cp lt1)) (A6 lt1),⟨⟨_,he⟩,hi⟩,fun b hb=>?_,q⟩
 have hb':s1.heap.objs.size ≤ b:=by
  simp only [A3,AZ,or_false] at hb
  rcases hb with rfl | rfl <;> omega
 exact I1.fpOk hb' (I1.hok.fresh hb')
theorem a_iEnum {ta:TA}{σ:St}{H:Hp}{R:It→Hp→Prop}:iEnum ta σ H R=ta σ H fun vs H1=>∃ l c xs,vs=[.ref l]∧fY H1 c l xs∧R (Ite c l xs) H1:=rfl
end
theorem eL {c:String}{l:Addr}{xs:List V}{g:TG}{tc:TT}{tb:TB}{D:St→Hp→Prop}{σ:St}{H:Hp}(Pv:Nat→St→Hp→Prop)(h0:Pv 0 σ H)(hl:∀ i σ H,Pv i σ H→fY H c l xs)
  (hs:∀ (i:Nat) v (T:Addr) σ H H',xs[i]? = some v→Pv i σ H→H T=none→Same H H'→H' T=some (.tup [.int (i:Int),v])→g (.ref T) σ H' fun σ2 H2=>tc σ2 H2 fun b H3=>if b=true then tb σ2 H3 (Pv (i + 1)) else Pv (i + 1) σ2 H3)
  (hd:∀ σ H,Pv xs.length σ H→D σ H):pJ (Ite c l xs) g tc tb D σ H:=by
 refine ⟨fun i m σ H=>m=xs.length - i∧i ≤ xs.length∧Pv i σ H,⟨xs.length,by simp,Bh _,h0⟩,?_⟩
 rintro i m σ H ⟨rfl,hi,p⟩
 have q:=hl i σ H p
 by_cases hlt:i < xs.length
 ·refine .inr ⟨⟨q,hlt⟩,Pv (i + 1),fun σ' H' p'=>⟨xs.length - (i + 1),by omega,rfl,hlt,p'⟩,fun x H' y=>?_⟩
  obtain ⟨T,v,rfl,n,rfl,e⟩:=y
  exact hs i v T σ H _ e p n (kQ n) qH
 ·have e:i=xs.length:=by omega
  subst e
  exact .inl ⟨⟨q,rfl⟩,hd σ H p⟩
theorem wY {c:String}{l:Addr}{xs:List V}{g:TG}{tb:TS}{D:Ends}{σ:St}{H:Hp}(Pv:Nat→St→Hp→Prop)(h0:Pv 0 σ H)(hl:∀ i σ H,Pv i σ H→fY H c l xs)
  (hs:∀ (i:Nat) v (T:Addr) σ H H',xs[i]? = some v→Pv i σ H→H T=none→Same H H'→H' T=some (.tup [.int (i:Int),v])→g (.ref T) σ H' fun σ2 H2=>tb { D with nx:=Pv (i + 1),ct:=Pv (i + 1),bk:=D.nx } σ2 H2)
  (hd:∀ σ H,Pv xs.length σ H→D.nx σ H):FL (Ite c l xs) g tb D σ H:=by
 refine ⟨fun i m σ H=>m=xs.length - i∧i ≤ xs.length∧Pv i σ H,⟨xs.length,by simp,Bh _,h0⟩,?_⟩
 rintro i m σ H ⟨rfl,hi,p⟩
 have q:=hl i σ H p
 by_cases hlt:i < xs.length
 ·refine .inr ⟨⟨q,hlt⟩,Pv (i + 1),fun σ' H' p'=>⟨xs.length - (i + 1),by omega,rfl,hlt,p'⟩,fun x H' y=>?_⟩
  obtain ⟨T,v,rfl,n,rfl,e⟩:=y
  exact hs i v T σ H _ e p n (kQ n) qH
 ·have e:i=xs.length:=by omega
  subst e
  exact .inl ⟨⟨q,rfl⟩,hd σ H p⟩
section
variable {X:Cx}
def rNeNil:R2:=fun x y H Q=>∃ (l b:Addr) (ns:List Int),x = .ref l∧y = .ref b∧H l=some (.lst (ns.map V.int))∧H b=some (.lst [])∧Q (.bl (!decide (ns=[]))) H
theorem neNil0 (hu:X.A.units < cLine):vR X (compareOp .NotEq) rNeNil:=by
 intro pins s σ H x y v u Q I rx ry h
 obtain ⟨l,b,ns,rfl,rfl,hl,hb,q⟩:=h
 cases rx
 cases ry
 obtain ⟨its,r1,p1,_⟩:=I.list (SqL.of hl)
 obtain ⟨its2,r2,p2,_⟩:=I.list (SqL.of hb)
 have l1:=r1.length
 have l2:=r2.length
 rw [Aa] at l1
 by_cases hn:ns=[]
 ·subst hn
  have e1:its=[]:=Bv.mp (by simpa using l1.symm)
  have e2:its2=[]:=Bv.mp (by simpa using l2.symm)
  subst e1 e2
  refine SeqAt.RcNeAt.lists (e:=fun _=>true) p1.isList p2.isList rfl hu (fun j h1 _=>absurd h1 (by simp)) X.prog X.w X.xe _ ?_
  exact ⟨.bl false,H,I,rfl,q⟩
 ·refine SeqAt.RcNeAt.lists_lengths p1.isList p2.isList ?_ hu X.prog X.w X.xe _ ?_
  ·have:its.length ≠ 0:=by
    intro z
    exact hn (Bv.mp (by omega))
   have e2:its2=[]:=Bv.mp (by simpa using l2.symm)
   subst e2
   simpa using this
  ·refine ⟨.bl true,H,I,rfl,?_⟩
   rw [Ai hn] at q
   exact q
theorem a_rNeNil {x y:V}{H:Hp}{Q:VK}:rNeNil x y H Q = ∃ (l b:Addr) (ns:List Int),x = .ref l∧y = .ref b∧H l=some (.lst (ns.map V.int))∧H b=some (.lst [])∧Q (.bl (!decide (ns=[]))) H:=rfl
def tRem (to:TE)(t:TA):TE:=fun σ H Q=>to σ H fun x H1=>∃ l xs0,x = .ref l∧H1 l=some (.lst xs0)∧t σ H1 fun vs H2=>∃ (ns:List Int) (v:Int),vs=[.int v]∧H2 l=some (.lst (ns.map V.int))∧v ∈ ns∧Q .non (upd H2 l (.lst ((ns.erase v).map V.int)))
theorem a_tRem {to:TE}{t:TA}{σ:St}{H:Hp}{Q:VK}:tRem to t σ H Q=to σ H fun x H1=>∃ l xs0,x = .ref l∧H1 l=some (.lst xs0)∧t σ H1 fun vs H2=>∃ (ns:List Int) (v:Int),vs=[.int v]∧H2 l=some (.lst (ns.map V.int))∧v ∈ ns∧Q .non (upd H2 l (.lst ((ns.erase v).map V.int))):=rfl
end
def gE {α:Type}(g:List α→List α):List α→List α→List α
 | [],ws=>g ws
 | _ :: _,_=>[]
def CalK (P:Program)(w:World)(K:PySem.W.Frag)(mg:Str→Option Value)(base:Heap)(x:Str)(ps ks:List Str)(gV:List V→List V)(k:Nat)(sp:Sp):Prop :=
 ∃ (f:Addr) (fd:FuncData) (g:List Value→List Value),FnOk P w K mg base CX0 k f fd ps sp∧mg x=some (.ref f)∧PySem.W.keepIn K (.ref f)=true∧KBinds K fd ps ks (gE g) (gE gV)
def tCalK (sp:Sp)(gV:List V→List V)(tk:TA):TE:=fun σ H Q=>tk σ H fun zs H2=>sp (gV zs) H2 Q E0
section
variable {X:Cx}
theorem pe_calK0 {k j:Nat}{x:Str}{ps ks:List Str}{gV:List V→List V}{sp:Sp}{tk:TA}{kws:List Keyword}{p pos:Pos}(c:CalK X.prog X.w X.K X.mg X.base x ps ks gV k sp)(hr:Room j X.A)(hkw:PK X kws tk)(hg:Gl X x:=by rfl)(hk:k ≤ j:=by decide)
  (hall:(backToKw pos (keywordEach kws X.env)).all (·.1.isSome)=true:=by rfl) (hks:(backToKw pos (keywordEach kws X.env)).filterMap (·.1)=ks:=by rfl) (hdb:(x == ("__debug__" : Str))=false:=by decide)
  (hpl:((backTo pos (starEach [] X.env)).any (·.1) || (backToKw pos (keywordEach kws X.env)).any (·.1.isNone))=false:=by rfl):PE X (.Call (.Name x p) [] kws pos) (tCalK sp gV tk):=by
 obtain ⟨f,fd,g,F,hm,kp,hb⟩:=c
 intro pins s σ H Q I h
 refine wpAny_Call_Name_kw (aT I hg hm ?_ hdb)
 refine PySem.W.callWith_KW0 (h₀:=X.base) I.ok.mod.kin kp hall (jJ (hkw pos pins s σ H _ I h) fun ws s2 ⟨zs,H2,I2,rz,q2⟩=>⟨I2.kIn,?_⟩) hpl
 rw [hks]
 exact run_fnk (E:=E0) F (hr.mono hk) hb pass0 I2 .nil rz q2
theorem a_tCalK {sp:Sp}{gV:List V→List V}{tk:TA}{σ:St}{H:Hp}{Q:VK}:tCalK sp gV tk σ H Q=tk σ H fun zs H2=>sp (gV zs) H2 Q E0:=rfl
end
def g1 {α:Type}:List α→List α
 | [a]=>[a]
 | _=>[]
def g2 {α:Type}:List α→List α
 | [a,b]=>[a,b]
 | _=>[]
def g2r {α:Type}:List α→List α
 | [a,b]=>[b,a]
 | _=>[]
theorem g2r_rel {zs:List V}{ws:List Value}(r:Vals zs ws):Vals (g2r zs) (g2r ws):=by
 cases r with
 | nil=>exact .nil
 | cons a t0 =>
  cases t0 with
  | nil=>exact .nil
  | cons b t1 =>
   cases t1 with
   | nil=>exact .cons b (.cons a .nil)
   | cons _ _=>exact .nil
theorem iV {K:PySem.W.Frag}{x qual:Str}{st:Stmt}{f:Addr}{fd:FuncData}{p:Str}{ps ks:List Str}{g:List Value→List Value}{gV:List V→List V}(F:Fun K x qual st f fd)(rel:∀ {zs:List V} {ws:List Value},Vals zs ws→Vals (gV zs) (g ws))
  (h:∀ (kV doc pm:Value) (an:Option Addr) (cdv ct:Value) (ws:List Value),(g ws).length=(p :: ps).length→bindArgs (PySem.W.fnOf x qual (qR st) (qQ st) (qF st) .none kV doc pm an cdv ct) ⟨[],ks.zip ws⟩=pure ((p :: ps).zip (g ws))):KBinds K fd (p :: ps) ks (gE g) (gE gV):=by
 obtain ⟨oc,od,kV,doc,pm,an,cdv,ct,osl,rfl,lk,hcd⟩:=F.ex
 refine ⟨fun s us ws _ hl=>?_,fun {vs us zs ws} r rz=>?_⟩
 ·cases us with
  | nil=>exact .of_eq (h kV doc pm an cdv ct ws hl)
  | cons u r=>simp [gE] at hl
 ·cases r with
  | nil=>exact rel rz
  | cons _ _=>exact .nil
theorem calK_of {P:Program}{w:World}{K:PySem.W.Frag}{mg:Str→Option Value}{base:Heap}{x:Str}{st:Stmt}{f:Addr}{fd:FuncData}{ps ks:List Str}{k:Nat}{sp:Sp}{g:List Value→List Value}{gV:List V→List V}(F:Fun K x x st f fd)(ok:FnOk P w K mg base CX0 k f fd ps sp)(hm:mg x=some (.ref f))(hb:KBinds K fd ps ks (gE g) (gE gV)):CalK P w K mg base x ps ks gV k sp:=⟨f,fd,g,ok,hm,F.kp,hb⟩
theorem lZ {P:Program}{w:World}{K:PySem.W.Frag}{mg:Str→Option Value}{base:Heap}{x:Str}{st:Stmt}{f:Addr}{fd:FuncData}{ps:List Str}{k:Nat}{sp:Sp}(F:Fun K x x st f fd)(ok:FnOk P w K mg base CX0 k f fd ps sp)(hm:mg x=some (.ref f))(hb:Binds K fd ps []):Cal P w K mg base x ps k sp:=⟨f,fd,ok,hm,F.kp,hb⟩
section
variable {X:Cx}
theorem d9 {pins:List (Addr × Obj)}{σ:St}{H:Hp}{s:Shared}{A:Around}{a b:Addr}{ns ms:List Int}(I:Inv X pins σ H s)(ha:H a=some (.tup (ns.map V.int)))(hb:H b=some (.tup (ms.map V.int)))(hu:A.units < cLine):SeqAt.EqAt A s (.ref a) (.ref b) (decide (ns=ms)):=by
 by_cases hab:a=b
 ·subst hab
  rw [ha] at hb
  have e:ns.map V.int=ms.map V.int:=by injection hb with h;injection h
  have:ns=ms:=BO (fun _ _ h=>by injection h) |>.mp e
  rw [A2 this]
  exact C2 _
 ·obtain ⟨its,its2,p1,p2,l1,l2,he⟩:=uQ I ha hb
  have r:=SeqAt.RcAt.tuples (A:=A) (s:=s) (show s.heap.IsTuple a its.toArray from p1) (show s.heap.IsTuple b its2.toArray from p2) hu (fun j h1 h2=>he _ j h1 h2)
  rw [Ak,Ak,l1,l2,cR] at r
  exact SeqAt.EqAt.of_refs hab r
def rNePP:R2:=fun x y H Q=>∃ (a b a1 a2 b1 b2:Addr) (n1 n2 m1 m2:List Int),x = .ref a∧y = .ref b∧H a=some (.tup [.ref a1,.ref a2])∧H b=some (.tup [.ref b1,.ref b2])∧H a1=some (.tup (n1.map V.int))∧H a2=some (.tup (n2.map V.int))∧H b1=some (.tup (m1.map V.int))∧H b2=some (.tup (m2.map V.int))∧Q (.bl (!(decide (n1=m1) && decide (n2=m2)))) H
theorem a_rNePP {x y:V}{H:Hp}{Q:VK}:rNePP x y H Q = ∃ (a b a1 a2 b1 b2:Addr) (n1 n2 m1 m2:List Int),x = .ref a∧y = .ref b∧H a=some (.tup [.ref a1,.ref a2])∧H b=some (.tup [.ref b1,.ref b2])∧H a1=some (.tup (n1.map V.int))∧H a2=some (.tup (n2.map V.int))∧H b1=some (.tup (m1.map V.int))∧H b2=some (.tup (m2.map V.int))∧Q (.bl (!(decide (n1=m1) && decide (n2=m2)))) H:=rfl
end
section
variable {X:Cx}
def tPop0 (to:TE)(t:TA):TE:=fun σ H Q=>to σ H fun x H1=>∃ l xs0,x = .ref l∧H1 l=some (.lst xs0)∧t σ H1 fun vs H2=>∃ (y:V) (ys:List V),vs=[.int 0]∧H2 l=some (.lst (y :: ys))∧Q y (upd H2 l (.lst ys))
theorem pe_pop0 {o e:Expr}{to:TE}{t:TA}{apos cpos:Pos}(ho:PE X o to)(ha:PA X [e] t)(hbase:attributeBase o "pop" X.env (eval o X.env)=eval o X.env:=by rfl)
  (hfew:((backTo cpos (starEach [e] X.env)).all (fun x=>!x.1) && (backToKw cpos (keywordEach [] X.env)).all (fun x=>x.1.isSome) && decide ([e].length + ([] : List Keyword).length + (if ([] : List Keyword).isEmpty then 0 else 1) < 30))=true:=by rfl)
  (hline:(apos.endLine == cpos.line)=true:=by rfl) (hs:starEach [e] X.env=(false,eval e X.env) :: starEach [] X.env:=by rfl):PE X (.Call (.Attribute o "pop" apos) [e] [] cpos) (tPop0 to t):=by
 intro pins s σ H Q I h
 refine wpAny_Call_method_late hbase hfew hline rfl (jJ (ho pins s σ H _ I h) fun v s1 ⟨x,H1,I1,r1,q1⟩=>?_)
 obtain ⟨l,xs0,rfl,hl,q1⟩:=q1
 have ty:tyV X.K "list" (.ref l) H1:=.inl ⟨rfl,_,SqL.of hl⟩
 obtain ⟨h1,h2⟩:=oS I1 r1 ty
 refine ⟨"list", "list.pop",PySem.F.plainAttrs_list,PySem.F.slot_list_pop,PySem.F.type_list_pop,h1,h2,?_⟩
 have hA:=ha cpos pins s1 σ H1 _ I1 q1
 rw [hs] at hA ⊢
 refine Calls.callWith_builtin (by rfl) (Calls.evalArgs_plain ?_)
 exact jJ hA fun us s2 ⟨vs,H2,I2,r2,y,ys,e,k,q⟩=>mt_popAt pins s2 σ H2 (.ref l) vs v us Q I2 r1 r2 ⟨l,y :: ys,0,0,y,rfl,e,k,by decide,by decide,by simp [seqIndex?],rfl,q⟩
theorem a_tPop0 {to:TE}{t:TA}{σ:St}{H:Hp}{Q:VK}:tPop0 to t σ H Q=to σ H fun x H1=>∃ l xs0,x = .ref l∧H1 l=some (.lst xs0)∧t σ H1 fun vs H2=>∃ (y:V) (ys:List V),vs=[.int 0]∧H2 l=some (.lst (y :: ys))∧Q y (upd H2 l (.lst ys)):=rfl
theorem listS0:zD X (.type "list") (fun xs H Q=>∃ p ys,xs=[.ref p]∧SqL X.K H p ys∧∀ (l:Addr) (H2:Hp),H l=none→Same H H2→H2 l=some (.lst ys)→Q (.ref l) H2):=by
 intro pins s σ H xs us Q I r h
 obtain ⟨p,ys,e,hq,q⟩:=h
 exact fB pins s σ H xs us Q I r ⟨p,ys,e,.inl hq,fun l n=>q l _ n (kQ n) qH⟩
end
def g3r {α:Type}:List α→List α
 | [a,b,c]=>[c,b,a]
 | _=>[]
theorem g3r_is {α:Type}{a b c:α}:g3r [a,b,c] = [c,b,a]:=rfl
theorem g2r_is {α:Type}{a b:α}:g2r [a,b] = [b,a]:=rfl
theorem g2_is {α:Type}{a b:α}:g2 [a,b] = [a,b]:=rfl
theorem g1_is {α:Type}{a:α}:g1 [a] = [a]:=rfl
section
variable {X:Cx}
def iS0 (tl:TE):TI:=fun σ H R=>tl σ H fun x H1=>∃ a xs o,x = .ref a∧(o=HO.tup xs∨o=HO.lst xs)∧H1 a=some o∧R (uM (fun H=>H a=some o) xs) H1
theorem pi_s0 {tg l:Expr}{tl:TE}(hl:PE X l tl):PI X tg l (iS0 tl):=by
 intro pins s σ H R I h
 refine jJ (hl pins s σ H _ I h) fun v s1 ⟨x,H1,I1,r1,q1⟩=>?_
 obtain ⟨a,xs,o,e,ho,hq,q⟩:=q1
 subst e
 cases r1
 rcases ho with rfl | rfl
 ·skip
  obtain ⟨its,rv,p,hz⟩:=I1.tuple (SqT.of hq)
  refine wpAny_pyIter_tuple (show s1.heap.IsTuple a its.toArray from p) ?_
  refine ⟨s1.heap.objs.size,[s1.heap.objs.size],_,_,H1,rfl,I1.kept (t':=s1.toks) fun b o e=>Ac _ e,(bC a _).weak (J':=uM (fun H=>H a=some (.tup xs)) xs) (fun i H ⟨k,hi⟩=>?_) (fun i H ⟨k,hi⟩=>⟨xs,SqT.of k,hi⟩) (fun i H x H' ⟨k,hi⟩ ⟨y1,y2⟩=>⟨y1,y2 xs (SqT.of k)⟩),⟨_,Ao _ rfl,rfl,rfl⟩,fun b hb=>?_,q⟩
  ·obtain ⟨x,hx⟩:=vA hi
   exact ⟨xs,x,SqT.of k,hx⟩
  ·have e:b=s1.heap.objs.size:=by simpa using hb
   subst e
   exact I1.fpOk (Ad _) (I1.hok.fresh (Ad _))
 ·skip
  obtain ⟨its,rv,p,hz⟩:=I1.list (SqL.of hq)
  refine wpAny_pyIter_list p.isList ?_
  refine ⟨s1.heap.objs.size,[s1.heap.objs.size],_,_,H1,rfl,I1.kept (t':=s1.toks) fun b o e=>Ac _ e,(mM a _).weak (J':=uM (fun H=>H a=some (.lst xs)) xs) (fun i H ⟨k,hi⟩=>?_) (fun i H ⟨k,hi⟩=>⟨xs,SqL.of k,hi⟩) (fun i H x H' ⟨k,hi⟩ ⟨y1,y2⟩=>⟨y1,y2 xs (SqL.of k)⟩),⟨_,Ao _ rfl,rfl,rfl⟩,fun b hb=>?_,q⟩
  ·obtain ⟨x,hx⟩:=vA hi
   exact ⟨xs,x,SqL.of k,hx⟩
  ·have e:b=s1.heap.objs.size:=by simpa using hb
   subst e
   exact I1.fpOk (Ad _) (I1.hok.fresh (Ad _))
theorem a_iS0 {tl:TE}{σ:St}{H:Hp}{R:It→Hp→Prop}:iS0 tl σ H R=tl σ H fun x H1=>∃ a xs o,x = .ref a∧(o=HO.tup xs∨o=HO.lst xs)∧H1 a=some o∧R (uM (fun H=>H a=some o) xs) H1:=rfl
end
section
variable {X:Cx}
def tRevL (te:TE):TE:=fun σ H Q=>te σ H fun x H1=>∃ a xs,x = .ref a∧H1 a=some (.lst xs)∧∀ (p:Addr) (H':Hp),H1 p=none→Same H1 H'→H' p=some (.lst xs.reverse)→Q (.ref p) H'
theorem pe_revL {e m:Expr}{te tm:TE}{pos p2:Pos}(he:PE X e te)(hm:PE X m tm)(hv:∀ σ H (Q:VK),Q (.int (-1)) H→tm σ H Q):PE X (.Subscript e (.Slice none none (some m) p2) pos) (tRevL te):=by
 intro pins s σ H Q I h
 refine Subscript_ (jJ (he pins s σ H _ I h) fun v s1 ⟨x,H1,I1,r1,q1⟩=>?_)
 refine wpAny_Slice ?_
 rw [evalPart_none]
 refine wpAny_pure (wpAny_pure ?_)
 rw [evalPart_some]
 refine jJ (hm pins s1 σ H1 (fun x H2=>x = .int (-1)∧H2=H1) I1 (hv _ _ _ ⟨rfl,rfl⟩)) fun vu s3 ⟨y,H3,I3,r3,e3,e4⟩=>?_
 subst e3 e4
 obtain ⟨tk,rfl⟩:=r3
 obtain ⟨a,xs,rfl,hx,q⟩:=q1
 cases r1
 have I4:Inv X pins σ H3 { s3 with heap:=s3.heap.push { cls:=.type "slice",data:=.fields #[.none,.none,.int (-1) tk] } }:=I3.kept (t':=s3.toks) fun b ob q=>Ac _ q
 obtain ⟨its,r,ht,hz⟩:=I4.list (SqL.of hx)
 have hlen:its.toArray.size=xs.length:=by rw [Ak];exact r.length.symm
 show wpAny (model X.prog X.w) X.A (subscriptTail e (.Slice none none (some m) p2) (.ref a) (.ref s3.heap.objs.size)) (EP X pins σ Q) X.xe { s3 with heap:=s3.heap.push { cls:=.type "slice",data:=.fields #[.none,.none,.int (-1) tk] } }
 refine tail_any (ops:=[.ref a,.ref s3.heap.objs.size]) ht.isList.typeIs slot_list_getitem.lookup (wpAny_getItem_list_slice ht.isList (Heap.IsSliceOf.new ..) .none .none (IsPart.int _ _) (by decide) ?_ (by rw [hlen];exact hz)) (by with_unfolding_all rfl)
 rw [PySem.W.krv_pick]
 have hf:=I4.hok.fresh (Ad _)
 refine ⟨.ref _,_,I4.laid (t':=s3.toks) (o:=.lst xs.reverse) (fun b ob q=>Ac _ q) (Ad _) ?_,rfl,q _ _ hf (kQ hf) qH⟩
 exact ⟨by rw [B7];exact hz,its.reverse,0,r.reverse,Ao _ rfl⟩
theorem a_tRevL {te:TE}{σ:St}{H:Hp}{Q:VK}:tRevL te σ H Q=te σ H fun x H1=>∃ a xs,x = .ref a∧H1 a=some (.lst xs)∧∀ (p:Addr) (H':Hp),H1 p=none→Same H1 H'→H' p=some (.lst xs.reverse)→Q (.ref p) H':=rfl
end
section
variable {X:Cx}
def rEqNil:R2:=fun x y H Q=>∃ (l b:Addr) (xs:List V),x = .ref l∧y = .ref b∧H l=some (.lst xs)∧H b=some (.lst [])∧Q (.bl xs.isEmpty) H
theorem eqNil0 (hu:X.A.units < cLine):vR X (compareOp .Eq) rEqNil:=by
 intro pins s σ H x y v u Q I rx ry h
 obtain ⟨l,b,xs,rfl,rfl,hl,hb,q⟩:=h
 cases rx
 cases ry
 obtain ⟨its,r1,p1,_⟩:=I.list (SqL.of hl)
 obtain ⟨its2,r2,p2,_⟩:=I.list (SqL.of hb)
 have l1:=r1.length
 have l2:=r2.length
 have e2:its2=[]:=Bv.mp (by simpa using l2.symm)
 subst e2
 cases xs with
 | nil =>
  have e1:its=[]:=Bv.mp (by simpa using l1.symm)
  subst e1
  refine SeqAt.eq_listAt (e:=fun _=>true) p1.isList p2.isList rfl hu (fun j h1 _=>absurd h1 (by simp)) ?_
  exact ⟨.bl true,H,I,rfl,q⟩
 | cons z zs =>
  refine SeqAt.eq_list_lengthsAt p1.isList p2.isList ?_ hu ?_
  ·have:its.length ≠ 0:=by rw [← l1];simp
   simpa using this
  ·exact ⟨.bl false,H,I,rfl,q⟩
theorem a_rEqNil {x y:V}{H:Hp}{Q:VK}:rEqNil x y H Q = ∃ (l b:Addr) (xs:List V),x = .ref l∧y = .ref b∧H l=some (.lst xs)∧H b=some (.lst [])∧Q (.bl xs.isEmpty) H:=rfl
def tTruL (ta:TE):TT:=fun σ H Q=>ta σ H fun x H'=>∃ (l:Addr) (xs:List V),x = .ref l∧H' l=some (.lst xs)∧Q (!xs.isEmpty) H'
theorem a_tTruL {ta:TE}{σ:St}{H:Hp}{Q:_}:tTruL ta σ H Q=ta σ H fun x H'=>∃ (l:Addr) (xs:List V),x = .ref l∧H' l=some (.lst xs)∧Q (!xs.isEmpty) H':=rfl
end
def wM (op:CmpOp)(A:Around)(s:Shared)(y x:Value)(b:Bool):Prop:=∀ (prog:Program) (w:World) (E:Value→Shared→Prop) (Q:Value→Shared→Prop),Q (.bool b) s→wpAny (model prog w) A (richCompare op y x) Q E s
def x6 (e c:Nat→Bool)(last:Bool):List Nat→Bool
 | []=>last
 | i :: r=>if e i=true then x6 e c last r else c i
theorem sV (l b:Addr)(items items2:Array Value)(n n2:Nat)(dd dd2:Option Addr)(sl sl2:Array (Option Value))(e c:Nat→Bool) :
  Meets (Builtin.«tuple.__lt__» ⟨[.ref l,.ref b],[]⟩) (fun A R s=>s.heap.get? l=some { cls:=.type "tuple",dict:=dd,data:=.seq items n,slots:=sl }∧s.heap.get? b=some { cls:=.type "tuple",dict:=dd2,data:=.seq items2 n2,slots:=sl2 } ∧
    (∀ j (h1:j < items.size) (h2:j < items2.size),SeqAt.EqAt A.in1 s items[j] items2[j] (e j))∧(∀ j (h1:j < items.size) (h2:j < items2.size),e j=false→wM .Lt A.in1 s items[j] items2[j] (c j))∧R (.ok (.ret (.bool (x6 e c (decide (items.size < items2.size)) (List.range (min items.size items2.size)))))) s) :=
 .of_wp fun prog w A R s h=>by
  obtain ⟨hp,g,d,tk,os⟩:=s;obtain ⟨hl,hb,he,hcp,h⟩:=h
  have f2:=Cd
  have zl:(items.toList.zip items2.toList).length=min items.size items2.size:=by simp
  wp_walk using wpAny_loadPart' hl,wpAny_loadPart' hb,wpAny_forIn_list _ (fun rest b s'=>b.1=none∧s'=⟨hp,g,d,tk,os⟩∧∃ i,rest=(items.toList.zip items2.toList).drop i∧R (.ok (.ret (.bool (x6 e c (decide (items.size < items2.size)) ((List.range (min items.size items2.size)).drop i))))) ⟨hp,g,d,tk,os⟩) _
  case turn =>
   rintro ⟨y,x⟩ rest b s' ⟨hb',rfl,i,hz,hR⟩
   have lt:i < (items.toList.zip items2.toList).length:=by
    rcases Be i (items.toList.zip items2.toList).length with q | q
    ·exact q
    ·rw [Bx q] at hz;cases hz
   have lm:i < min items.size items2.size:=zl ▸ lt
   have l1:i < items.size:=by omega
   have l2:i < items2.size:=by omega
   rw [Bc lt] at hz
   injection hz with z1 z2
   have hy:y=items[i]:=by have:=AW Prod.fst z1;simpa using this
   have hx:x=items2[i]:=by have:=AW Prod.snd z1;simpa using this
   subst hy hx
   have dr:=range_drop lm
   refine wpAny_bind (he i l1 l2 prog w _ _ ?_)
   cases hc:e i with
   | true =>
    rw [dr,x6,Au hc] at hR
    exact wpAny_pure ⟨rfl,rfl,i + 1,z2,hR⟩
   | false =>
    rw [dr,x6,Ax (by rw [hc];exact A0)] at hR
    have hq:=hcp i l1 l2 hc prog w
    wp_walk using hq _ _
    exact ⟨_,rfl,hR⟩
  case fin =>
   rintro ⟨b1,b2⟩ s' ⟨hb',rfl,i,hz,hR⟩
   cases (show b1=none from hb')
   have ge:min items.size items2.size ≤ i:=by
    rcases Be i (items.toList.zip items2.toList).length with q | q
    ·rw [Bc q] at hz;cases hz
    ·exact zl ▸ q
   rw [Bx (by simpa using ge),x6] at hR
   wp_walk
   exact ⟨_,rfl,hR⟩
  case h=>exact ⟨rfl,rfl,0,rfl,by rw [BW];exact h⟩
theorem cp_lt {A:Around}{s:Shared}{a b:Addr}{its its2:List Value}(p1:IsTup s.heap a its.toArray)(p2:IsTup s.heap b its2.toArray)(hu:A.units < cLine)(e c:Nat→Bool)
  (he:∀ j (h1:j < its.length) (h2:j < its2.length),SeqAt.EqAt A.in1 s its[j] its2[j] (e j)) (hc:∀ j (h1:j < its.length) (h2:j < its2.length),e j=false→wM .Lt A.in1 s its[j] its2[j] (c j)) :
  wM .Lt A s (.ref a) (.ref b) (x6 e c (decide (its.length < its2.length)) (List.range (min its.length its2.length))):=by
 intro prog w E Q h
 obtain ⟨⟨c1,d1,da1,sl1⟩,o1,k1,n1,g1⟩:=id p1
 obtain ⟨⟨c2,d2,da2,sl2⟩,o2,k2,n2,g2⟩:=id p2
 simp only at k1 g1 k2 g2
 subst k1 g1 k2 g2
 refine richCompare_meets_room (op:=.Lt) ⟨_,o1,rfl⟩ ⟨_,o2,rfl⟩ F.slot_tuple_lt F.entry_tuple_lt (F.args_tuple_lt_2 _ _) (sV a b its.toArray its2.toArray n1 n2 d1 d2 sl1 sl2 e c) ⟨o1,o2,fun j h1 h2=>by simpa using he j (by simpa using h1) (by simpa using h2),fun j h1 h2 z=>by simpa using hc j (by simpa using h1) (by simpa using h2) z,?_⟩ hu
 refine ⟨(fun z=>nomatch z),?_⟩
 simpa using h
theorem sW (l b:Addr)(items items2:Array Value)(n n2:Nat)(dd dd2:Option Addr)(sl sl2:Array (Option Value))(e c:Nat→Bool) :
  Meets (Builtin.«tuple.__gt__» ⟨[.ref l,.ref b],[]⟩) (fun A R s=>s.heap.get? l=some { cls:=.type "tuple",dict:=dd,data:=.seq items n,slots:=sl }∧s.heap.get? b=some { cls:=.type "tuple",dict:=dd2,data:=.seq items2 n2,slots:=sl2 } ∧
    (∀ j (h1:j < items.size) (h2:j < items2.size),SeqAt.EqAt A.in1 s items[j] items2[j] (e j))∧(∀ j (h1:j < items.size) (h2:j < items2.size),e j=false→wM .Gt A.in1 s items[j] items2[j] (c j))∧R (.ok (.ret (.bool (x6 e c (decide (items.size > items2.size)) (List.range (min items.size items2.size)))))) s) :=
 .of_wp fun prog w A R s h=>by
  obtain ⟨hp,g,d,tk,os⟩:=s;obtain ⟨hl,hb,he,hcp,h⟩:=h
  have f2:=Cd
  have zl:(items.toList.zip items2.toList).length=min items.size items2.size:=by simp
  wp_walk using wpAny_loadPart' hl,wpAny_loadPart' hb,wpAny_forIn_list _ (fun rest b s'=>b.1=none∧s'=⟨hp,g,d,tk,os⟩∧∃ i,rest=(items.toList.zip items2.toList).drop i∧R (.ok (.ret (.bool (x6 e c (decide (items.size > items2.size)) ((List.range (min items.size items2.size)).drop i))))) ⟨hp,g,d,tk,os⟩) _
  case turn =>
   rintro ⟨y,x⟩ rest b s' ⟨hb',rfl,i,hz,hR⟩
   have lt:i < (items.toList.zip items2.toList).length:=by
    rcases Be i (items.toList.zip items2.toList).length with q | q
    ·exact q
    ·rw [Bx q] at hz;cases hz
   have lm:i < min items.size items2.size:=zl ▸ lt
   have l1:i < items.size:=by omega
   have l2:i < items2.size:=by omega
   rw [Bc lt] at hz
   injection hz with z1 z2
   have hy:y=items[i]:=by have:=AW Prod.fst z1;simpa using this
   have hx:x=items2[i]:=by have:=AW Prod.snd z1;simpa using this
   subst hy hx
   have dr:=range_drop lm
   refine wpAny_bind (he i l1 l2 prog w _ _ ?_)
   cases hc:e i with
   | true =>
    rw [dr,x6,Au hc] at hR
    exact wpAny_pure ⟨rfl,rfl,i + 1,z2,hR⟩
   | false =>
    rw [dr,x6,Ax (by rw [hc];exact A0)] at hR
    have hq:=hcp i l1 l2 hc prog w
    wp_walk using hq _ _
    exact ⟨_,rfl,hR⟩
  case fin =>
   rintro ⟨b1,b2⟩ s' ⟨hb',rfl,i,hz,hR⟩
   cases (show b1=none from hb')
   have ge:min items.size items2.size ≤ i:=by
    rcases Be i (items.toList.zip items2.toList).length with q | q
    ·rw [Bc q] at hz;cases hz
    ·exact zl ▸ q
   rw [Bx (by simpa using ge),x6] at hR
   wp_walk
   exact ⟨_,rfl,hR⟩
  case h=>exact ⟨rfl,rfl,0,rfl,by rw [BW];exact h⟩
theorem cp_gt {A:Around}{s:Shared}{a b:Addr}{its its2:List Value}(p1:IsTup s.heap a its.toArray)(p2:IsTup s.heap b its2.toArray)(hu:A.units < cLine)(e c:Nat→Bool)
  (he:∀ j (h1:j < its.length) (h2:j < its2.length),SeqAt.EqAt A.in1 s its[j] its2[j] (e j)) (hc:∀ j (h1:j < its.length) (h2:j < its2.length),e j=false→wM .Gt A.in1 s its[j] its2[j] (c j)) :
  wM .Gt A s (.ref a) (.ref b) (x6 e c (decide (its.length > its2.length)) (List.range (min its.length its2.length))):=by
 intro prog w E Q h
 obtain ⟨⟨c1,d1,da1,sl1⟩,o1,k1,n1,g1⟩:=id p1
 obtain ⟨⟨c2,d2,da2,sl2⟩,o2,k2,n2,g2⟩:=id p2
 simp only at k1 g1 k2 g2
 subst k1 g1 k2 g2
 refine richCompare_meets_room (op:=.Gt) ⟨_,o1,rfl⟩ ⟨_,o2,rfl⟩ F.slot_tuple_gt F.entry_tuple_gt (F.args_tuple_gt_2 _ _) (sW a b its.toArray its2.toArray n1 n2 d1 d2 sl1 sl2 e c) ⟨o1,o2,fun j h1 h2=>by simpa using he j (by simpa using h1) (by simpa using h2),fun j h1 h2 z=>by simpa using hc j (by simpa using h1) (by simpa using h2) z,?_⟩ hu
 refine ⟨(fun z=>nomatch z),?_⟩
 simpa using h
inductive Ky where
 | i (n:Int)
 | t (a:Addr) (ns:List Int)
def nM:Ky→V
 | .i n=>.int n
 | .t a _=>.ref a
def cQ (H:Hp):Ky→Prop
 | .i _=>True
 | .t a ns=>H a=some (.tup (ns.map V.int))
def iU:Ky→List Int
 | .i n=>[n]
 | .t _ ns=>ns
def d7:Ky→Option Nat
 | .i _=>none
 | .t _ ns=>some ns.length
def jE (ks:List Ky):List Int:=(ks.map iU).flatten
def kEq (k l:Ky):Bool:=decide (iU k=iU l)
def kLt (k l:Ky):Bool:=HT.lexLt (iU k) (iU l)
def iS:List Ky→List Ky→Bool
 | k :: ks,l :: ls=>if kEq k l=true then iS ks ls else kLt k l
 | _,_=>false
theorem aQ:∀ (a b x y:List Int),a.length=b.length→HT.lexLt (a ++ x) (b ++ y)=if a=b then HT.lexLt x y else HT.lexLt a b
 | [],[],x,y,_=>by simp
 | p :: a,q :: b,x,y,h=>by
  have ih:=aQ a b x y (by simpa using h)
  rw [List.cons_append,List.cons_append,HT.lexLt_cons,HT.lexLt_cons,ih]
  by_cases e:p=q
  ·subst e
   simp
  ·simp [e]
 | [],_ :: _,_,_,h=>by simp at h
 | _ :: _,[],_,_,h=>by simp at h
theorem aU {k l:Ky}(h:d7 k=d7 l):(iU k).length=(iU l).length:=by
 cases k <;> cases l <;> simp_all [d7,iU]
theorem gL:∀ (ks ls:List Ky),ks.map d7=ls.map d7→iS ks ls=HT.lexLt (jE ks) (jE ls)
 | [],[],_=>by simp [iS,jE,HT.lexLt_nil_nil]
 | k :: ks,l :: ls,h=>by
  have h1:d7 k=d7 l:=by simpa using AW List.head? h
  have h2:ks.map d7=ls.map d7:=by simpa using AW List.tail h
  have ih:=gL ks ls h2
  have e1:jE (k :: ks)=iU k ++ jE ks:=by simp [jE]
  have e2:jE (l :: ls)=iU l ++ jE ls:=by simp [jE]
  rw [e1,e2,aQ _ _ _ _ (aU h1),iS,ih]
  by_cases z:iU k=iU l <;> simp [kEq,kLt,z]
 | [],_ :: _,h=>by simp at h
 | _ :: _,[],h=>by simp at h
theorem rT (e c:Nat→Bool)(last:Bool):∀ l:List Nat,x6 e c last (l.map Nat.succ)=x6 (fun j=>e (j + 1)) (fun j=>c (j + 1)) last l
 | []=>rfl
 | i :: r=>by rw [AN,x6,x6,rT e c last r]
def k0:Ky:=.i 0
theorem lM:∀ (ks ls:List Ky),ks.length=ls.length→x6 (fun j=>kEq (ks.getD j k0) (ls.getD j k0)) (fun j=>kLt (ks.getD j k0) (ls.getD j k0)) false (List.range ks.length)=iS ks ls
 | [],[],_=>rfl
 | k :: ks,l :: ls,h=>by
  have ih:=lM ks ls (by simpa using h)
  rw [Bf,List.range_succ_eq_map,x6,rT,iS]
  simp only [List.getD_cons_zero,List.getD_cons_succ]
  rw [ih]
 | [],_ :: _,h=>by simp at h
 | _ :: _,[],h=>by simp at h
section
variable {X:Cx}
theorem vO {ks:List Ky}{its:List Value}(r:Vals (ks.map nM) its){j:Nat}(h:j < its.length):RelV (nM (ks.getD j k0)) its[j]:=by
 have hl:=r.length
 rw [Aa] at hl
 obtain ⟨u,hu,ru⟩:=r.get (i:=j) (x:=nM (ks[j]'(by omega))) (by simp [show j < ks.length by omega])
 rw [Ag h] at hu
 cases hu
 have:ks.getD j k0=ks[j]'(by omega):=by simp [Ab,show j < ks.length by omega]
 rw [this]
 exact ru
theorem kyS_at {ks ls:List Ky}(h:ks.map d7=ls.map d7)(j:Nat):d7 (ks.getD j k0)=d7 (ls.getD j k0):=by
 have:=AW (fun l=>l[j]?) h
 simp only [Af] at this
 rw [Ab,Ab]
 cases e:ks[j]? <;> cases e2:ls[j]? <;> simp_all
theorem wW {H:Hp}{ks:List Ky}(h:∀ k ∈ ks,cQ H k)(j:Nat):cQ H (ks.getD j k0):=by
 rw [Ab]
 cases e:ks[j]? with
 | none=>trivial
 | some k=>exact h k (Aq e)
theorem ky_eq {pins:List (Addr × Obj)}{σ:St}{H:Hp}{s:Shared}{A:Around}(I:Inv X pins σ H s)(hu:A.units < cLine){k l:Ky}{u v:Value}(ru:RelV (nM k) u)(rv:RelV (nM l) v)(ok:cQ H k)(ol:cQ H l)(sh:d7 k=d7 l):SeqAt.EqAt A s u v (kEq k l):=by
 cases k with
 | i n =>
  cases l with
  | i m =>
   have:=fV (A:=A) (s:=s) ru rv rfl rfl
   have e:sP (nM (.i n)) (nM (.i m))=kEq (.i n) (.i m):=by
    show (n == m)=decide ([n] = [m])
    rw [Bs]
    simp
   rw [e] at this
   exact this
  | t b ms=>simp [d7] at sh
 | t a ns =>
  cases l with
  | i m=>simp [d7] at sh
  | t b ms =>
   cases ru
   cases rv
   exact d9 I ok ol hu
theorem dec_lt (n m:Int):(n == m)=decide ([n] = [m]):=by rw [Bs];simp
theorem dec_gt (n m:Int):(n == m)=decide ([m] = [n]):=by rw [dec_lt,decide_eq_decide];exact eq_comm
theorem tQ (n m:Int):decide (n < m)=HT.lexLt [n] [m]:=by
 rw [HT.lexLt_cons,HT.lexLt_nil_nil]
 by_cases z:n=m
 ·rw [Au z]
  exact Ai (by omega)
 ·rw [Ax z]
theorem one_gt (n m:Int):decide (n > m)=HT.lexLt [m] [n]:=tQ m n
theorem zU (ns:List Int)(j:Nat){a:Addr}{xs:List Int}:(ns.map Ky.i).getD j k0 ≠ .t a xs:=by
 rw [Ab,Af]
 cases ns[j]? <;> simp [k0]
theorem int_lt {A:Around}{s:Shared}{n m:Int}{u v:Value}(ru:RelV (.int n) u)(rv:RelV (.int m) v):wM .Lt A s u v (decide (n < m)):=by
 intro prog w E Q h
 obtain ⟨t,rfl⟩:=ru
 obtain ⟨t',rfl⟩:=rv
 exact CmpOf.ints_lt (P:=fun i v=>∃ t,v = .int (if i=0 then n else m) t) (fun i=>if i=0 then n else m) (fun i v h=>h) 0 1 _ _ s Q E ⟨t,rfl⟩ ⟨t',rfl⟩ h
theorem ints_lt {pins:List (Addr × Obj)}{σ:St}{H:Hp}{s:Shared}{A:Around}{a b:Addr}{ns ms:List Int}(I:Inv X pins σ H s)(ha:H a=some (.tup (ns.map V.int)))(hb:H b=some (.tup (ms.map V.int)))(hl:ns.length=ms.length)(hu:A.units < cLine):wM .Lt A s (.ref a) (.ref b) (HT.lexLt ns ms):=by
 obtain ⟨its,r1,p1,_⟩:=I.tuple (SqT.of ha)
 obtain ⟨its2,r2,p2,_⟩:=I.tuple (SqT.of hb)
 have r1':Vals ((ns.map Ky.i).map nM) its:=by rw [AV];exact r1
 have r2':Vals ((ms.map Ky.i).map nM) its2:=by rw [AV];exact r2
 have l1:=r1.length
 have l2:=r2.length
 rw [Aa] at l1 l2
 have sh:(ns.map Ky.i).map d7=(ms.map Ky.i).map d7:=by
  rw [AV,AV]
  show ns.map (fun _=>none)=ms.map fun _=>none
  rw [C0,C0,hl]
 have ok:∀ (xs:List Int) k,k ∈ xs.map Ky.i→cQ H k:=fun xs k hk=>by
  obtain ⟨x,_,rfl⟩:=Al.mp hk
  trivial
 have fl:∀ xs:List Int,jE (xs.map Ky.i)=xs:=fun xs=>by
  unfold jE
  rw [AV]
  show (xs.map fun x=>[x]).flatten=xs
  induction xs with
  | nil=>rfl
  | cons x xs ih=>rw [AN,B5,ih];rfl
 have key:=cp_lt (A:=A) p1 p2 hu (fun j=>kEq ((ns.map Ky.i).getD j k0) ((ms.map Ky.i).getD j k0)) (fun j=>kLt ((ns.map Ky.i).getD j k0) ((ms.map Ky.i).getD j k0)) (fun j h1 h2=>?_) fun j h1 h2 _=>?_
 ·rw [show min its.length its2.length=(ns.map Ky.i).length by rw [Aa];omega,show decide (its.length < its2.length)=false from Ai (by omega),lM _ _ (by simp [hl]),gL _ _ sh,fl,fl] at key
  exact key
 ·have:=fV (A:=A.in1) (s:=s) (vO r1' h1) (vO r2' h2) (by cases e:(ns.map Ky.i).getD j k0 with | i n=>rfl | t a xs=>exact absurd e (zU ns j)) (by cases e:(ms.map Ky.i).getD j k0 with | i n=>rfl | t a xs=>exact absurd e (zU ms j))
  revert this
  cases e1:(ns.map Ky.i).getD j k0 with
  | t a xs=>exact absurd e1 (zU ns j)
  | i n =>
   cases e2:(ms.map Ky.i).getD j k0 with
   | t a xs=>exact absurd e2 (zU ms j)
   | i m =>
    intro this
    have e:sP (nM (.i n)) (nM (.i m))=kEq (.i n) (.i m):=by
     exact dec_lt n m
    rw [e] at this
    exact this
 ·have q1:=vO r1' h1
  have q2:=vO r2' h2
  revert q1 q2
  cases e1:(ns.map Ky.i).getD j k0 with
  | t a xs=>exact absurd e1 (zU ns j)
  | i n =>
   cases e2:(ms.map Ky.i).getD j k0 with
   | t a xs=>exact absurd e2 (zU ms j)
   | i m =>
    intro q1 q2
    have:=int_lt (A:=A.in1) (s:=s) q1 q2
    have e:decide (n < m)=kLt (.i n) (.i m):=by
     exact tQ n m
    rw [e] at this
    exact this
theorem ky_lt {pins:List (Addr × Obj)}{σ:St}{H:Hp}{s:Shared}{A:Around}(I:Inv X pins σ H s)(hu:A.units < cLine){k l:Ky}{u v:Value}(q1:RelV (nM k) u)(q2:RelV (nM l) v)(o1:cQ H k)(o2:cQ H l)(hs:d7 k=d7 l):wM .Lt A s u v (kLt k l):=by
 cases k with
 | i n =>
  cases l with
  | t b ms=>simp [d7] at hs
  | i m =>
   have:=int_lt (A:=A) (s:=s) q1 q2
   have e:decide (n < m)=kLt (.i n) (.i m):=by
    exact tQ n m
   rw [e] at this
   exact this
 | t a ns =>
  cases l with
  | i m=>simp [d7] at hs
  | t b ms =>
   cases q1
   cases q2
   exact ints_lt I o1 o2 (aU hs) hu
theorem rows_lt {pins:List (Addr × Obj)}{σ:St}{H:Hp}{s:Shared}{A:Around}{a b:Addr}{ks ls:List Ky}(I:Inv X pins σ H s)(ha:H a=some (.tup (ks.map nM)))(hb:H b=some (.tup (ls.map nM)))(ok:∀ k ∈ ks,cQ H k)(ol:∀ k ∈ ls,cQ H k)(sh:ks.map d7=ls.map d7)(hu:A.units + 64 < cLine):wM .Lt A s (.ref a) (.ref b) (HT.lexLt (jE ks) (jE ls)):=by
 obtain ⟨its,r1,p1,_⟩:=I.tuple (SqT.of ha)
 obtain ⟨its2,r2,p2,_⟩:=I.tuple (SqT.of hb)
 have l1:=r1.length
 have l2:=r2.length
 rw [Aa] at l1 l2
 have hl:ks.length=ls.length:=by simpa using AW List.length sh
 have hu1:A.in1.units < cLine:=by simp only [BL];omega
 have key:=cp_lt (A:=A) p1 p2 (by omega) (fun j=>kEq (ks.getD j k0) (ls.getD j k0)) (fun j=>kLt (ks.getD j k0) (ls.getD j k0)) (fun j h1 h2=>?_) fun j h1 h2 _=>?_
 ·rw [show min its.length its2.length=ks.length by omega,show decide (its.length < its2.length)=false from Ai (by omega),lM _ _ (by omega),gL _ _ sh] at key
  exact key
 ·have:=ky_eq I hu1 (vO r1 h1) (vO r2 h2) (wW ok j) (wW ol j) (kyS_at sh j)
  skip
  exact this
 ·exact ky_lt I hu1 (vO r1 h1) (vO r2 h2) (wW ok j) (wW ol j) (kyS_at sh j)
theorem int_gt {A:Around}{s:Shared}{n m:Int}{u v:Value}(ru:RelV (.int n) u)(rv:RelV (.int m) v):wM .Gt A s u v (decide (n > m)):=by
 intro prog w E Q h
 obtain ⟨t,rfl⟩:=ru
 obtain ⟨t',rfl⟩:=rv
 exact CmpOf.ints_gt (P:=fun i v=>∃ t,v = .int (if i=0 then n else m) t) (fun i=>if i=0 then n else m) (fun i v h=>h) 0 1 _ _ s Q E ⟨t,rfl⟩ ⟨t',rfl⟩ h
theorem ints_gt {pins:List (Addr × Obj)}{σ:St}{H:Hp}{s:Shared}{A:Around}{a b:Addr}{ns ms:List Int}(I:Inv X pins σ H s)(ha:H a=some (.tup (ns.map V.int)))(hb:H b=some (.tup (ms.map V.int)))(hl:ns.length=ms.length)(hu:A.units < cLine):wM .Gt A s (.ref a) (.ref b) (HT.lexLt ms ns):=by
 obtain ⟨its,r1,p1,_⟩:=I.tuple (SqT.of ha)
 obtain ⟨its2,r2,p2,_⟩:=I.tuple (SqT.of hb)
 have r1':Vals ((ns.map Ky.i).map nM) its:=by rw [AV];exact r1
 have r2':Vals ((ms.map Ky.i).map nM) its2:=by rw [AV];exact r2
 have l1:=r1.length
 have l2:=r2.length
 rw [Aa] at l1 l2
 have sh:(ns.map Ky.i).map d7=(ms.map Ky.i).map d7:=by
  rw [AV,AV]
  show ns.map (fun _=>none)=ms.map fun _=>none
  rw [C0,C0,hl]
 have ok:∀ (xs:List Int) k,k ∈ xs.map Ky.i→cQ H k:=fun xs k hk=>by
  obtain ⟨x,_,rfl⟩:=Al.mp hk
  trivial
 have fl:∀ xs:List Int,jE (xs.map Ky.i)=xs:=fun xs=>by
  unfold jE
  rw [AV]
  show (xs.map fun x=>[x]).flatten=xs
  induction xs with
  | nil=>rfl
  | cons x xs ih=>rw [AN,B5,ih];rfl
 have key:=cp_gt (A:=A) p1 p2 hu (fun j=>kEq ((ms.map Ky.i).getD j k0) ((ns.map Ky.i).getD j k0)) (fun j=>kLt ((ms.map Ky.i).getD j k0) ((ns.map Ky.i).getD j k0)) (fun j h1 h2=>?_) fun j h1 h2 _=>?_
 ·rw [show min its.length its2.length=(ms.map Ky.i).length by rw [Aa];omega,show decide (its.length > its2.length)=false from Ai (by omega),lM _ _ (by simp [hl]),gL _ _ sh.symm,fl,fl] at key
  exact key
 ·have:=fV (A:=A.in1) (s:=s) (vO r1' h1) (vO r2' h2) (by cases e:(ns.map Ky.i).getD j k0 with | i n=>rfl | t a xs=>exact absurd e (zU ns j)) (by cases e:(ms.map Ky.i).getD j k0 with | i n=>rfl | t a xs=>exact absurd e (zU ms j))
  revert this
  cases e1:(ns.map Ky.i).getD j k0 with
  | t a xs=>exact absurd e1 (zU ns j)
  | i n =>
   cases e2:(ms.map Ky.i).getD j k0 with
   | t a xs=>exact absurd e2 (zU ms j)
   | i m =>
    intro this
    have e:sP (nM (.i n)) (nM (.i m))=kEq (.i m) (.i n):=by
     exact dec_gt n m
    rw [e] at this
    exact this
 ·have q1:=vO r1' h1
  have q2:=vO r2' h2
  revert q1 q2
  cases e1:(ns.map Ky.i).getD j k0 with
  | t a xs=>exact absurd e1 (zU ns j)
  | i n =>
   cases e2:(ms.map Ky.i).getD j k0 with
   | t a xs=>exact absurd e2 (zU ms j)
   | i m =>
    intro q1 q2
    have:=int_gt (A:=A.in1) (s:=s) q1 q2
    have e:decide (n > m)=kLt (.i m) (.i n):=by
     exact one_gt n m
    rw [e] at this
    exact this
end
section
variable {prog:Program}{w:World}{A:Around}{R:Result→Shared→Prop}{it:Addr}{fp wr:List Addr}{n:Nat}{Pv:Nat→Value→Prop}{St:Nat→Heap→Prop}{D:Shared→Prop}
theorem iO (W:Walks prog w A.in1 it fp wr n Pv St)(bt:Nat→Nat→Bool)(hc:∀ i j x y (s:Shared) (Q E:Value→Shared→Prop),D s→Pv i x→Pv j y→Q (.bool (bt i j)) s→wpAny (model prog w) A.in1 (richCompare .Lt x y) Q E s)(Z:Addr)(zf:Z ∉ fp) :
  ∀ (k j:Nat) (s:Shared) (x:Value) (c:Nat),n - (j + 1)=k→j + 1 ≤ n→St (j + 1) s.heap→Pv (argBest bt j) x →
  s.heap.get? Z=some { cls:=.type "list",dict:=none,data:=.seq #[x,x] c,slots := #[] }→(∀ h' tk,(∀ b o,b ∉ wr→b ≠ Z→s.heap.get? b=some o→h'.get? b=some o)→D { s with heap:=h',toks:=tk }) →
  (∀ v h' tk,Pv (argBest bt (n - 1)) v→(∀ b o,b ∉ wr→b ≠ Z→s.heap.get? b=some o→h'.get? b=some o)→R (.ok (.ret v)) { s with heap:=h',toks:=tk }) →
  codeAny (model prog w) A (.builtin "min.loop" ⟨[.ref it,.none,.ref Z],[]⟩) R s:=by
 have zw:Z ∉ wr:=fun h=>zf (W.sub _ h)
 have nm:(toString "min" ++ toString ".loop" : String) = "min.loop" := by decide
 intro k
 induction k with
 | zero =>
  intro j s x c hk hj st px ez dd hR
  have jn:j + 1=n:=by omega
  refine codeAny_builtin F.entry_min_loop ?_
  rw [Cw BA _]
  show wpAny (model prog w) A.in1 (seqItems? (.ref Z) >>= _) _ _ s
  refine wpAny_bind (wpAny_seqItems ez rfl ?_)
  show wpAny (model prog w) A.in1 (tryCatch (pyNext (.ref it)) _ >>= _) _ _ s
  refine wpAny_bind (wpAny_tryCatch (W.done s _ _ (jn ▸ st) fun h' tk keep=>?_))
  have ez':=keep Z _ zw ez
  show wpAny (model prog w) A.in1 (updateSeq Z (fun _ => #[]) >>= _) _ _ _
  refine wpAny_bind ?_
  refine wpAny_updateSeq ez' rfl (wpAny_bind (wpAny_letGo (wpAny_pure ?_)))
  exact hR x _ tk (by rw [← jn];exact px) fun b o b1 b2 e=>(AX _ _ (Cq b2)).trans (keep b o b1 e)
 | succ k ih =>
  intro j s x c hk hj st px ez dd hR
  have jl:j + 1 < n:=by omega
  refine codeAny_builtin F.entry_min_loop ?_
  rw [Cw BA _]
  show wpAny (model prog w) A.in1 (seqItems? (.ref Z) >>= _) _ _ s
  refine wpAny_bind (wpAny_seqItems ez rfl ?_)
  show wpAny (model prog w) A.in1 (tryCatch (pyNext (.ref it)) _ >>= _) _ _ s
  refine wpAny_bind (wpAny_tryCatch (W.item (j + 1) s _ _ jl st fun v h' tk pv st' keep=>?_))
  have ez':=keep Z _ zw ez
  show wpAny (model prog w) A.in1 (tryCatch (holding [v,v] (richCompare .Lt v x >>= _)) _ >>= _) _ _ _
  refine wpAny_bind (wpAny_tryCatch (wpAny_holding (wpAny_bind (hc (j + 1) (argBest bt j) v x _ _ _ (dd h' tk fun b o b1 _ e=>keep b o b1 e) pv px ?_))))
  refine wpAny_bind (wpAny_holding (wpAny_truthy_bool ?_))
  refine wpAny_bind (wpAny_letGo (wpAny_pure ?_))
  cases hb:bt (j + 1) (argBest bt j) with
  | true =>
   simp only [BK]
   refine wpAny_bind ?_
   refine wpAny_updateSeq ez' rfl (wpAny_bind (wpAny_letGo ?_))
   rw [nm]
   refine wpAny_pure ⟨plainId_quiet BA _,ih (j + 1) _ v _ (by omega) jl (W.frame _ _ _ st' fun b bf o e=>?_) (by simp only [argBest,hb,BK];exact pv) (BV _ ez' rfl) (fun h2 t2 k2=>dd h2 t2 fun b o b1 b2 e=>k2 b o b1 b2 ((AX _ _ (Cq b2)).trans (keep b o b1 e))) fun v2 h2 t2 p2 k2=>?_⟩
   ·exact (AX _ _ (fun h:Z=b=>zf (by rw [h];exact bf))).trans e
   ·exact hR v2 h2 t2 p2 fun b o b1 b2 e=>k2 b o b1 b2 ((AX _ _ (Cq b2)).trans (keep b o b1 e))
  | false =>
   simp only [AI,B8]
   refine wpAny_bind (wpAny_letGo ?_)
   rw [nm]
   refine wpAny_pure ⟨plainId_quiet BA _,ih (j + 1) _ x c (by omega) jl st' (by simp only [argBest,hb,AI,B8];exact px) ez' (fun h2 t2 k2=>dd h2 t2 fun b o b1 b2 e=>k2 b o b1 b2 (keep b o b1 e)) fun v2 h2 t2 p2 k2=>?_⟩
   exact hR v2 h2 t2 p2 fun b o b1 b2 e=>k2 b o b1 b2 (keep b o b1 e)
theorem tV (W:Walks prog w A.in1 it fp wr n Pv St)(bt:Nat→Nat→Bool)(hc:∀ i j x y (s:Shared) (Q E:Value→Shared→Prop),D s→Pv i x→Pv j y→Q (.bool (bt i j)) s→wpAny (model prog w) A.in1 (richCompare .Lt x y) Q E s)(Z:Addr)(zf:Z ∉ fp)(n0:0 < n){s:Shared}{c:Nat}(st:St 0 s.heap)
  (ez:s.heap.get? Z=some { cls:=.type "list",dict:=none,data:=.seq #[] c,slots := #[] }) (dd:∀ h' tk,(∀ b o,b ∉ wr→b ≠ Z→s.heap.get? b=some o→h'.get? b=some o)→D { s with heap:=h',toks:=tk })
  (hR:∀ v h' tk,Pv (argBest bt (n - 1)) v→(∀ b o,b ∉ wr→b ≠ Z→s.heap.get? b=some o→h'.get? b=some o)→R (.ok (.ret v)) { s with heap:=h',toks:=tk }) :
  codeAny (model prog w) A (.builtin "min.loop" ⟨[.ref it,.none,.ref Z],[]⟩) R s:=by
 have zw:Z ∉ wr:=fun h=>zf (W.sub _ h)
 have nm:(toString "min" ++ toString ".loop" : String) = "min.loop" := by decide
 refine codeAny_builtin F.entry_min_loop ?_
 rw [Cw BA _]
 show wpAny (model prog w) A.in1 (seqItems? (.ref Z) >>= _) _ _ s
 refine wpAny_bind (wpAny_seqItems ez rfl ?_)
 show wpAny (model prog w) A.in1 (tryCatch (pyNext (.ref it)) _ >>= _) _ _ s
 refine wpAny_bind (wpAny_tryCatch (W.item 0 s _ _ n0 st fun v h' tk pv st' keep=>?_))
 have ez':=keep Z _ zw ez
 show wpAny (model prog w) A.in1 (updateSeq Z (fun _ => #[v,v]) >>= _) _ _ _
 refine wpAny_bind ?_
 refine wpAny_updateSeq ez' rfl ?_
 rw [nm]
 refine wpAny_pure ⟨plainId_quiet BA _,iO W bt hc Z zf _ 0 _ v _ rfl n0 (W.frame _ _ _ st' fun b bf o e=>?_) pv (BV _ ez' rfl) (fun h2 t2 k2=>dd h2 t2 fun b o b1 b2 e=>k2 b o b1 b2 ((AX _ _ (Cq b2)).trans (keep b o b1 e))) fun v2 h2 t2 p2 k2=>?_⟩
 ·exact (AX _ _ (fun h:Z=b=>zf (by rw [h];exact bf))).trans e
 ·exact hR v2 h2 t2 p2 fun b o b1 b2 e=>k2 b o b1 b2 ((AX _ _ (Cq b2)).trans (keep b o b1 e))
end
theorem iN {prog:Program}{w:World}{A:Around}{E:Value→Shared→Prop}{s:Shared}{x:Value}{Q:Value→Shared→Prop}
  (h:wpAny (model prog w) A.in1 (pyIter x) (fun v s2=>∃ it fp wr n Pv St bt,∃ D:Shared→Prop,v = .ref it∧Walks prog w A.in1 it fp wr n Pv St∧St 0 s2.heap∧(∀ b ∈ fp,b < s2.heap.objs.size)∧0 < n ∧
   (∀ i j x y (s:Shared) (Q E:Value→Shared→Prop),D s→Pv i x→Pv j y→Q (.bool (bt i j)) s→wpAny (model prog w) A.in1 (richCompare .Lt x y) Q E s)∧(∀ h' tk,(∀ b o,b ∉ wr→s2.heap.get? b=some o→h'.get? b=some o)→D { s2 with heap:=h',toks:=tk }) ∧
   ∀ v h' tk,Pv (argBest bt (n - 1)) v→(∀ b o,b ∉ wr→s2.heap.get? b=some o→h'.get? b=some o)→Q v { s2 with heap:=h',toks:=tk }) E s) :
  wpAny (model prog w) A (call (.builtin "min") [x]) Q E s:=by
 have nm:(toString "min" ++ toString ".loop" : String) = "min.loop" := by decide
 refine call_function_tree F.kind_min F.plain_min F.entry_min (F.args_min1 _) ?_
 show wpAny (model prog w) A.in1 (Builtin.Builtins.bindParams "min" ["key", "default"] 0 ⟨[],[]⟩ >>= _) _ _ s
 refine wpAny_bind (wpAny_of_eq (show Builtin.Builtins.bindParams "min" ["key", "default"] 0 ⟨[],[]⟩=pure [none,none] by rfl) ?_)
 refine wpAny_bind (wpAny_pure ?_)
 refine wpAny_bind (wpAny_mono h (fun v s2 h2=>?_) fun _ _ e=>e)
 obtain ⟨it,fp,wr,n,Pv,St,bt,D,rfl,W,st,hfp,n0,hc,dd,hQ⟩:=h2
 refine wpAny_bind (wpAny_newObj_type ?_)
 have zf:s2.heap.objs.size ∉ fp:=fun hm=>AR _ (hfp _ hm)
 rw [nm]
 refine wpAny_pure ⟨plainId_quiet BA _,tV (D:=D) W bt hc s2.heap.objs.size zf n0 (W.frame _ _ _ st fun b _ o e=>Ac _ e) (Ao _ rfl) (fun h' tk k=>dd h' tk fun b o b1 e=>k b o b1 (A6 (As e)) (Ac _ e)) fun v h' tk pv k=>?_⟩
 exact hQ v h' tk pv fun b o b1 e=>k b o b1 (A6 (As e)) (Ac _ e)
section
variable {prog:Program}{w:World}{A:Around}{R:Result→Shared→Prop}{it:Addr}{fp wr:List Addr}{n:Nat}{Pv:Nat→Value→Prop}{St:Nat→Heap→Prop}{D:Shared→Prop}
end
theorem sD:∀ ks:List Ky,(jE ks).length=((ks.map d7).map fun o=>o.getD 1).sum
 | []=>rfl
 | k :: ks=>by
  have ih:=sD ks
  have e:jE (k :: ks)=iU k ++ jE ks:=by simp [jE]
  rw [e,Ar,ih,AN,AN,B3]
  cases k <;> rfl
theorem lex_irrefl:∀ a:List Int,HT.lexLt a a=false
 | []=>HT.lexLt_nil_nil
 | x :: a=>by rw [HT.lexLt_cons,Au rfl];exact lex_irrefl a
theorem lex_trans:∀ a b c:List Int,a.length=b.length→b.length=c.length→HT.lexLt a b=true→HT.lexLt b c=true→HT.lexLt a c=true
 | [],[],[],_,_,h,_=>by rw [HT.lexLt_nil_nil] at h;cases h
 | x :: a,y :: b,z :: c,l1,l2,h1,h2=>by
  rw [HT.lexLt_cons] at h1 h2 ⊢
  by_cases e1:x=y
  ·subst e1
   rw [Au rfl] at h1
   by_cases e2:x=z
   ·subst e2
    rw [Au rfl] at h2 ⊢
    exact lex_trans a b c (by simpa using l1) (by simpa using l2) h1 h2
   ·rw [Ax e2] at h2 ⊢
    exact h2
  ·rw [Ax e1] at h1
   have h1':=AS h1
   by_cases e2:y=z
   ·subst e2
    rw [Ax e1]
    exact h1
   ·rw [Ax e2] at h2
    have h2':=AS h2
    rw [Ax (by omega)]
    exact A2 (by omega)
 | [],_ :: _,_,l1,_,_,_=>by simp at l1
 | _ :: _,[],_,l1,_,_,_=>by simp at l1
 | [],[],_ :: _,_,l2,_,_=>by simp at l2
 | _ :: _,_ :: _,[],_,l2,_,_=>by simp at l2
theorem eP (val:Nat→List Int)(n:Nat):∀ k,(∀ i,i ≤ k→(val i).length=n)→argBest (fun i j=>HT.lexLt (val i) (val j)) k ≤ k∧∀ j,j ≤ k→HT.lexLt (val j) (val (argBest (fun i j=>HT.lexLt (val i) (val j)) k))=false
 | 0,_=>⟨Ad _,fun j hj=>by
  have:j=0:=by omega
  subst this
  exact lex_irrefl _⟩
 | k + 1,hl=>by
  obtain ⟨i1,i2⟩:=eP val n k fun i hi=>hl i (by omega)
  have lb:=hl _ (AG i1 (B4 k))
  have ln:=hl (k + 1) (Ad _)
  rw [argBest]
  generalize argBest (fun i j=>HT.lexLt (val i) (val j)) k=b at *
  cases e:HT.lexLt (val (k + 1)) (val b) with
  | true =>
   rw [Au rfl]
   refine ⟨Ad _,fun j hj=>?_⟩
   rcases Be j (k + 1) with z | z
   ·cases e2:HT.lexLt (val j) (val (k + 1)) with
    | false=>rfl
    | true =>
     have lj:=hl j (by omega)
     have:=lex_trans _ _ _ (by omega) (by omega) e2 e
     rw [i2 j (by omega)] at this
     cases this
   ·have:j=k + 1:=by omega
    subst this
    exact lex_irrefl _
  | false =>
   rw [Ax A0]
   refine ⟨by omega,fun j hj=>?_⟩
   rcases Be j (k + 1) with z | z
   ·exact i2 j (by omega)
   ·have:j=k + 1:=by omega
    subst this
    exact e
section
variable {X:Cx}
def RowsK (H:Hp)(rs:List (Addr × List Ky)):Prop:=(∀ r ∈ rs,H r.1=some (.tup (r.2.map nM))∧∀ k ∈ r.2,cQ H k)∧∃ sh,∀ r ∈ rs,r.2.map d7=sh
theorem minP0 (hc:X.calm=true)(hu:X.A.units + 128 < cLine):zD X (.builtin "min") (fun xs H Q=>∃ (p:Addr) (rs:List (Addr × List Ky)),xs=[.ref p]∧sq H p=some (rs.map fun r=>V.ref r.1)∧RowsK H rs∧rs ≠ []∧∀ m,m ∈ rs→(∀ r ∈ rs,HT.lexLt (jE r.2) (jE m.2)=false)→Q (.ref m.1) H):=by
 intro pins s σ H xs us Q I r h
 obtain ⟨p,rs,rfl,hq,⟨rk,sh,hsh⟩,hne,q⟩:=h
 obtain ⟨u,rfl,ru⟩:=r.one
 cases ru
 have hp:0 < rs.length:=C4.mpr hne
 refine iN (I.walk hc hq fun it its s2 St fp rv W st hfp hsz J=>?_)
 have hl:=rv.length
 rw [Aa] at hl
 have at_:∀ i v,its[i]? = some v→i < rs.length∧∃ r ∈ rs,rs[i]? = some r∧v = .ref r.1:=fun i v hv=>by
  have hi:i < rs.length:=by rw [hl];exact (Ae.mp hv).1
  obtain ⟨u,hu',ru⟩:=rv.get (i:=i) (x:=V.ref rs[i].1) (by simp [hi])
  rw [hv] at hu'
  cases hu'
  cases ru
  exact ⟨hi,rs[i],AK hi,Ag hi,rfl⟩
 let val:Nat→List Int:=fun i=>jE ((rs[i]?.map fun r=>r.2).getD [])
 refine ⟨it,fp,[it],its.length,_,St,fun i j=>HT.lexLt (val i) (val j),fun s=>Inv X pins σ H s,rfl,W,st,hfp,by omega,fun i j x y s' Q' E' D hi hj hQ=>?_,fun h' tk k=>J h' tk k,fun v h' tk hv k=>?_⟩
 ·obtain ⟨_,r1,m1,e1,rfl⟩:=at_ i x hi
  obtain ⟨_,r2,m2,e2,rfl⟩:=at_ j y hj
  have key:=rows_lt D (rk r1 m1).1 (rk r2 m2).1 (rk r1 m1).2 (rk r2 m2).2 ((hsh r1 m1).trans (hsh r2 m2).symm) (A:=X.A.in1) (by simp only [BL];omega)
  refine key _ _ E' Q' ?_
  have v1:val i=jE r1.2:=by simp only [val,e1,BR,BB]
  have v2:val j=jE r2.2:=by simp only [val,e2,BR,BB]
  rw [← v1,← v2]
  exact hQ
 ·have lens:∀ i,i < rs.length→(val i).length=(sh.map fun o=>o.getD 1).sum:=fun i hi=>by
   have e:val i=jE rs[i].2:=by simp only [val,Ag hi,BR,BB]
   rw [e,← hsh rs[i] (AK hi)]
   exact sD _
  obtain ⟨b1,b2⟩:=eP val (sh.map fun o=>o.getD 1).sum (its.length - 1) fun i hi=>lens i (by omega)
  obtain ⟨hj,r,mr,er,rfl⟩:=at_ _ v hv
  refine ⟨.ref r.1,H,J h' tk k,rfl,q r mr fun r' hr'=>?_⟩
  obtain ⟨i,hi,rfl⟩:=BX.mp hr'
  have v1:val (argBest (fun i j=>HT.lexLt (val i) (val j)) (its.length - 1))=jE r.2:=by simp only [val,er,BR,BB]
  have v2:val i=jE rs[i].2:=by simp only [val,Ag hi,BR,BB]
  rw [← v1,← v2]
  exact b2 i (by omega)
end
theorem hu128 {A:Around}{k:Nat}(hr:Room k A):A.units + 128 < cLine:=by have:=hr.un;omega
section
variable {prog:Program}{w:World}{A:Around}{E:Value→Shared→Prop}{s:Shared}
theorem zn_item {z TI TO i1 i2 l1 l2:Addr}{c1 c2:String}{k:Nat}{xs ys:Array Value}{x y f g:Value}{Q:Value→Shared→Prop}(D:ZipApart z TI TO i1 i2 l1 l2)(hz:mL s.heap z TI TO f g)(hf:pI f)(hTI:IsPair s.heap TI (.ref i1) (.ref i2))(hTO:∃ a b,IsPair s.heap TO a b)(h1:Src s.heap c1 i1 l1 xs k)(h2:Src s.heap c2 i2 l2 ys k)(hx:xs[k]? = some x)(hy:ys[k]? = some y)
  (hQ:∀ h' f' g',mL h' z TI TO f' g'→pI f'→IsPair h' TI (.ref i1) (.ref i2)→(∃ a b,IsPair h' TO a b)→Src h' c1 i1 l1 xs (k + 1)→Src h' c2 i2 l2 ys (k + 1)→IsPair h' s.heap.objs.size x y→h'.objs.size=s.heap.objs.size + 1 →
   (∀ c o,c ∉ [z,TO,i1,i2]→s.heap.get? c=some o→h'.get? c=some o)→Q (.ref s.heap.objs.size) { s with heap:=h' }):wpAny (model prog w) A (Builtin.SmallTypes.nextOf (.ref z)) Q E s:=by
 exact wpAny_bind (wpAny_callSpecial?_slot (name:=Str.ofString "__next__") ⟨_,hz,rfl⟩ B6 (wpAny_call_entry B6 ⟨_,hz,rfl⟩ Cs (uO D hz hf hTI hTO h1 h2 hx hy fun h' f' g' _ iz of ti to s1 s2 new sz k=>⟨_,rfl,wpAny_pure (hQ h' f' g' iz of ti to s1 s2 new sz k)⟩) (Cm _)))
theorem zn_end {z TI TO i1 i2 l1 l2:Addr}{c1 c2:String}{k:Nat}{xs ys:Array Value}{f g:Value}{Q:Value→Shared→Prop}(hh:A.handled=none)(D:ZipApart z TI TO i1 i2 l1 l2)(hz:mL s.heap z TI TO f g)(hf:pI f)(hTI:IsPair s.heap TI (.ref i1) (.ref i2))(hTO:∃ a b,IsPair s.heap TO a b)(h1:Src s.heap c1 i1 l1 xs k)(h2:Src s.heap c2 i2 l2 ys k)(hend:xs[k]? = none∨ys[k]? = none)
  (hE:∀ h' e,(∀ c o,c ∉ [z,TO,i1,i2]→s.heap.get? c=some o→h'.get? c=some o)→(∃ o,h'.get? e=some o∧o.cls = .type "StopIteration")→E (.ref e) { s with heap:=h' }):wpAny (model prog w) A (Builtin.SmallTypes.nextOf (.ref z)) Q E s:=by
 exact wpAny_bind (wpAny_callSpecial?_slot (name:=Str.ofString "__next__") ⟨_,hz,rfl⟩ B6 (wpAny_call_entry B6 ⟨_,hz,rfl⟩ Cs (oN hh D hz hf hTI hTO h1 h2 hend hE) (Cm _)))
theorem en_item {e it:Addr}{i:Nat}{old:Value}{Q:Option Value→Shared→Prop}{RR:Value→Heap→Prop}(he:IsEnum s.heap e it i old)
  (hin:∀ (Q':Value→Shared→Prop) (E':Value→Shared→Prop),(∀ x h1,RR x h1→Q' x { s with heap:=h1 })→wpAny (model prog w) A.in1 (Builtin.SmallTypes.nextOf (.ref it)) Q' E' s)
  (hR:∀ x h1,RR x h1→IsEnum h1 e it i old)
  (hQ:∀ x h1 h',RR x h1→IsEnumOut h' e it ((i:Int) + 1) x h1.objs.size→h'.get? h1.objs.size=some { cls:=.type "tuple",data:=.seq #[.int i s.toks,x] }→h'.objs.size=h1.objs.size + 1 →
   (∀ b o,b ≠ e→h1.get? b=some o→h'.get? b=some o)→Q (some (.ref h1.objs.size)) { s with heap:=h',toks:=s.toks + 1 }):wpAny (model prog w) A (pyNext (.ref e)) Q E s:=by
 obtain ⟨hp,gn,d,tk,os⟩:=s
 have hT:Shared.TypeIs ⟨hp,gn,d,tk,os⟩ (.ref e) "enumerate" := ⟨_,he,rfl⟩
 unfold pyNext
 refine wpAny_bind (wpAny_attempt (wpAny_callSpecial?_slot (name:=Str.ofString "__next__") hT BU (wpAny_call_entry BU hT F.entry_enumerate_next ?_ (F.args_enumerate_next_1 _))))
 refine wpAny_bind (m:=field (.ref e) 2) (wpAny_field he rfl (x:=.ref it) rfl ?_)
 refine wpAny_bind (hin _ _ fun x h1 rr=>?_)
 have e1:=hR x h1 rr
 refine wpAny_bind (m:=field (.ref e) 3) (wpAny_field e1 rfl (x:=rawInt i) rfl ?_)
 refine wpAny_bind (m:=field (.ref e) 4) (wpAny_field e1 rfl (x:=.none) rfl ?_)
 refine wpAny_bind (m:=mkInt i) (wpAny_mkInt ?_)
 refine wpAny_bind (m:=setField (.ref e) 3 (rawInt ((i:Int) + 1))) (wpAny_setField_rec e1 (by simp) fun h2 e2 s2=>?_)
 replace e2:IsEnum h2 e it ((i:Int) + 1) old:=e2
 refine wpAny_bind (m:=setField (.ref e) 4 .none) (wpAny_setField_rec e2 (by simp) fun h3 e3 s3=>?_)
 replace e3:IsEnum h3 e it ((i:Int) + 1) old:=e3
 refine wpAny_bind (m:=newTuple [.int i tk,x]) (wpAny_newTuple ?_)
 have z3:h3.objs.size=h1.objs.size:=by rw [s3.1,s2.1]
 have elt:e < h3.objs.size:=As e3
 have e4:IsEnum (h3.push { cls:=.type "tuple",data:=.seq #[.int i tk,x] }) e it ((i:Int) + 1) old:=Ac _ e3
 refine wpAny_bind (m:=Builtin.SmallTypes.ownedTupleIsFree (.ref e)) ?_
 unfold Builtin.SmallTypes.ownedTupleIsFree
 refine wpAny_bind (wpAny_field e4 rfl (x:=.none) rfl (wpAny_pure ?_))
 simp only [BK]
 refine wpAny_bind (wpAny_rule ?_)
 refine wpAny_bind (wpAny_field e4 rfl (x:=old) rfl ?_)
 refine wpAny_bind (wpAny_setField_rec e4 (by simp) fun h5 e5 s5=>?_)
 replace e5:IsEnum h5 e it ((i:Int) + 1) x:=e5
 refine wpAny_bind (m:=Builtin.SmallTypes.ownedTupleHandOut (.ref e) (.ref h3.objs.size)) ?_
 unfold Builtin.SmallTypes.ownedTupleHandOut
 refine wpAny_bind (wpAny_setField_rec e5 (by simp) fun h6 e6 s6=>?_)
 replace e6:IsEnumOut h6 e it ((i:Int) + 1) x h3.objs.size:=e6
 refine wpAny_setField_rec e6 (by simp) fun h7 e7 s7=>?_
 replace e7:IsEnumOut h7 e it ((i:Int) + 1) x h3.objs.size:=e7
 have up:∀ b o,b ≠ e→(h3.push { cls:=.type "tuple",data:=.seq #[.int i tk,x] }).get? b=some o→h7.get? b=some o:=fun b o n q=>s7.extBut _ _ n (s6.extBut _ _ n (s5.extBut _ _ n q))
 have new:h7.get? h3.objs.size=some { cls:=.type "tuple",data:=.seq #[.int i tk,x] }:=up _ _ (CK elt) (Ao _ rfl)
 have sz:h7.objs.size=h3.objs.size + 1:=by rw [s7.1,s6.1,s5.1,AO]
 refine wpAny_bind (wpAny_letGo (wpAny_pure ⟨_,rfl,wpAny_pure ?_⟩))
 rw [z3] at e7 new sz
 show Q (some (.ref h3.objs.size)) _
 rw [z3]
 exact hQ x h1 h7 rr e7 new sz fun b o n q=>up b o n (Ac _ (s3.extBut _ _ n (s2.extBut _ _ n q)))
theorem en_end {e it:Addr}{i:Int}{old:Value}{Q:Option Value→Shared→Prop}{RE:Heap→Prop}(he:IsEnum s.heap e it i old)
  (hin:∀ (Q':Value→Shared→Prop) (E':Value→Shared→Prop),(∀ h' x,RE h'→(∃ o,h'.get? x=some o∧o.cls = .type "StopIteration")→E' (.ref x) { s with heap:=h' })→wpAny (model prog w) A.in1 (Builtin.SmallTypes.nextOf (.ref it)) Q' E' s)
  (hQ:∀ h',RE h'→Q none { s with heap:=h' }):wpAny (model prog w) A (pyNext (.ref e)) Q E s:=by
 have hT:s.TypeIs (.ref e) "enumerate" := ⟨_,he,rfl⟩
 unfold pyNext
 refine wpAny_bind (wpAny_attempt (wpAny_callSpecial?_slot (name:=Str.ofString "__next__") hT BU (wpAny_call_entry BU hT F.entry_enumerate_next ?_ (F.args_enumerate_next_1 _))))
 refine wpAny_bind (m:=field (.ref e) 2) (wpAny_field he rfl (x:=.ref it) rfl ?_)
 refine wpAny_bind (hin _ _ fun h' x re hx=>?_)
 obtain ⟨o,ho,hc⟩:=hx
 refine wpAny_bind (wpAny_isInstance (T := "StopIteration") (b:=true) ⟨o,ho,hc⟩ isSubtype_stop ?_)
 exact wpAny_pure (hQ _ re)
theorem oB (z TI TO:Addr) :
  Meets (Builtin.«enumerate.__new__» ⟨[.type "enumerate",.ref z],[]⟩) (fun _ R s=>IsZip s.heap z TI TO .none∧R (.ok (.ret (.ref s.heap.objs.size)))
    { s with heap:=s.heap.push { cls:=.type "enumerate",data:=.fields #[.none,.bool false,.ref z,rawInt 0,.none,.none] } }) :=
 .of_wp fun prog w A R s h=>by
  obtain ⟨hp,gn,d,tk,os⟩:=s
  obtain ⟨hl,h⟩:=h
  have sub:=sub_enumerate
  have itz:∀ {A':Around} {Q:Value→Shared→Prop} {E:Value→Shared→Prop},Q (.ref z) ⟨hp,gn,d,tk,os⟩→wpAny (model prog w) A' (pyIter (.ref z)) Q E ⟨hp,gn,d,tk,os⟩:=fun hq=>wpAny_pyIter_zip (s:=⟨hp,gn,d,tk,os⟩) hl hq
  wp_walk using Br hl
  refine wpAny_stack_any fun st=>wpAny_pure ?_
  split
  ·rename_i c _ _ _ _ _
   cases (c == Value.type "enumerate") <;> (wp_walk using Br hl,itz;exact ⟨_,rfl,h⟩)
  ·wp_walk using Br hl,itz
   exact ⟨_,rfl,h⟩
theorem uH {z TI TO:Addr}{Q:Value→Shared→Prop}(hz:IsZip s.heap z TI TO .none)
  (h:∀ h',IsEnum h' s.heap.objs.size z 0 .none→(∀ b o,s.heap.get? b=some o→h'.get? b=some o)→Q (.ref s.heap.objs.size) { s with heap:=h' }):wpAny (model prog w) A (call (.type "enumerate") [.ref z]) Q E s:=by
 refine callType_new F.called_enumerate (by decide) (F.typeCall_enumerate_1 _) (F.newCall_enumerate_1 _) (fun obj=>F.args_object_init_2 obj _) F.entry_enumerate_new (oB z TI TO) ⟨hz,?_⟩
 have made:=Ao s.heap (o:={ cls:=.type "enumerate",data:=.fields #[.none,.bool false,.ref z,rawInt 0,.none,.none] }) rfl
 exact ⟨⟨_,made,rfl⟩,h _ made fun b o q=>Ac _ q⟩
end
def Itez (c1 c2:String)(a b:Addr)(xs ys:List V):It :=
 ⟨fun i H=>fY H c1 a xs∧fY H c2 b ys∧i < xs.length∧i < ys.length,fun i H x H'=>∃ T1 T2 u v,x = .ref T2∧H T1=none∧H T2=none∧T2 ≠ T1∧H'=upd (upd H T1 (.tup [u,v])) T2 (.tup [.int (i:Int),.ref T1])∧xs[i]? = some u∧ys[i]? = some v,fun i H=>fY H c1 a xs∧fY H c2 b ys∧(xs.length ≤ i∨ys.length ≤ i)⟩
structure Ez (h:Heap)(e z TI TO i1 i2:Addr)(c1 c2:String)(l1 l2:Addr)(k:Nat):Prop where
 en:∃ old,IsEnum h e z (k:Int) old
 zip:∃ f g,mL h z TI TO f g∧pI f
 ti:IsPair h TI (.ref i1) (.ref i2)
 to:∃ a b,IsPair h TO a b
 s1:(c1 = "list_iterator" ∧ h.IsListIter i1 l1 k)∨(c1 = "tuple_iterator" ∧ h.IsTupleIter i1 l1 k)
 s2:(c2 = "list_iterator" ∧ h.IsListIter i2 l2 k)∨(c2 = "tuple_iterator" ∧ h.IsTupleIter i2 l2 k)
theorem ez_obj {h:Heap}{e z TI TO i1 i2 l1 l2:Addr}{c1 c2:String}{i:Nat}(st:Ez h e z TI TO i1 i2 c1 c2 l1 l2 i):∀ b ∈ [e,z,TI,TO,i1,i2],∃ o,h.get? b=some o∧∀ v,o.data ≠ .cell v:=by
 obtain ⟨⟨old,he⟩,⟨f,g,hz,_⟩,hti,⟨a,c,hto⟩,h1,h2⟩:=st
 exact AQ.2 ⟨⟨_,he,fun _=>dat_f⟩,AQ.2 ⟨⟨_,hz,fun _=>dat_f⟩,AQ.2 ⟨⟨_,hti,fun v q=>by cases (show Data.seq _ _=Data.cell v from q)⟩,AQ.2 ⟨⟨_,hto,fun v q=>by cases (show Data.seq _ _=Data.cell v from q)⟩,AQ.2 ⟨fU h1,AQ.2 ⟨fU h2,fun _ q=>nomatch q⟩⟩⟩⟩⟩⟩
theorem turn_ez {P:Program}{w:World}{K:PySem.W.Frag}{es:List Expr}{tk:_}{tp:Pos}(e z TI TO i1 i2 l1 l2:Addr)(c1 c2:String)(xs ys:List V)(D:ZipApart z TI TO i1 i2 l1 l2)(ne:e ∉ [z,TI,TO,i1,i2]) :
  Turn P w K (.Tuple es tk tp) (Itez c1 c2 l1 l2 xs ys) [e,z,TI,TO,i1,i2] e (fun i h=>Ez h e z TI TO i1 i2 c1 c2 l1 l2 i) where
 mem:=.head _
 obj:=fun i h st=>ez_obj st
 keep:=fun i h h' st k=>by
  obtain ⟨⟨old,he⟩,⟨f,g,hz,hf⟩,hti,⟨a,c,hto⟩,h1,h2⟩:=st
  exact ⟨⟨old,k e (.head _) _ he⟩,⟨f,g,k z mm1 _ hz,hf⟩,k TI mm2 _ hti,⟨a,c,k TO mm3 _ hto⟩,vP h1 fun o q=>k i1 mm4 o q,vP h2 fun o q=>k i2 mm5 o q⟩
 item:=by
  intro X hP hw hK hc i pins s σ H E I hf st hg
  subst hP hw hK
  obtain ⟨q1,q2,hi1,hi2⟩:=hg
  obtain ⟨its1,r1,o1⟩:=I.seqOf q1
  obtain ⟨its2,r2,o2⟩:=I.seqOf q2
  obtain ⟨x,hx⟩:=vA hi1
  obtain ⟨y,hy⟩:=vA hi2
  obtain ⟨u,hu,ru⟩:=r1.get hx
  obtain ⟨v,hv,rv⟩:=r2.get hy
  obtain ⟨⟨old,he⟩,⟨f,g,hz,hfo⟩,hti,hto,h1,h2⟩:=id st
  have lt:=ob_lt (ez_obj st)
  refine en_item (RR:=fun x' h1'=>x' = .ref s.heap.objs.size∧(∃ f' g',mL h1' z TI TO f' g'∧pI f')∧IsPair h1' TI (.ref i1) (.ref i2)∧(∃ a b,IsPair h1' TO a b)∧Src h1' c1 i1 l1 its1.toArray (i + 1)∧Src h1' c2 i2 l2 its2.toArray (i + 1)∧IsPair h1' s.heap.objs.size u v∧h1'.objs.size=s.heap.objs.size + 1∧∀ c o,c ∉ [z,TO,i1,i2]→s.heap.get? c=some o→h1'.get? c=some o) he
   (fun Q' E' hq=>zn_item D hz hfo hti hto (yP h1 o1) (yP h2 o2) (by simpa using hu) (by simpa using hv) fun h' f' g' a1 a2 a3 a4 a5 a6 a7 a8 a9=>hq _ h' ⟨rfl,⟨f',g',a1,a2⟩,a3,a4,a5,a6,a7,a8,a9⟩)
   (fun x' h1' rr=>rr.2.2.2.2.2.2.2.2 e _ (fun q=>ne (mm45 q)) he)
   fun x' h1' h' rr out new size k=>?_
  obtain ⟨rfl,⟨f',g',zz,ff⟩,ti',to',s1',s2',pr,sz1,k1⟩:=rr
  refine ⟨_,rfl,wpAny_letOwnedTupleGo_enum out fun h'' z'' sb=>?_⟩
  have nT1:s.heap.objs.size ∉ [e,z,TI,TO,i1,i2]:=fun hb=>AR _ (lt _ hb)
  have nT2:h1'.objs.size ∉ [e,z,TI,TO,i1,i2]:=fun hb=>absurd (lt _ hb) (by rw [sz1];exact Nat.not_lt_of_le (B4 _))
  have nm:∀ {c:Addr},c ∉ [e,z,TI,TO,i1,i2]→c ∉ [z,TO,i1,i2]∧c ≠ e:=fun h=>⟨fun q=>h (.tail _ (mm45 q)),fun q=>h (q ▸ .head _)⟩
  have kk:∀ c o,c ≠ e→h1'.get? c=some o→h''.get? c=some o:=fun c o n q=>sb.extBut _ _ n (k c o n q)
  have J1:=I.turnedT (fp:=[e,z,TI,TO,i1,i2]) (h':=h1') (T:=s.heap.objs.size) (xs:=[x,y]) (us:=[u,v]) (t':=s.toks) hf (fun c o hc' q=>k1 c o (nm hc').1 q) (Ad _) (by show 2 ≤ sizeLine;decide) (.cons ru (.cons rv .nil)) ⟨_,pr,rfl,_,rfl⟩ nT1
  have hf1:∀ b ∈ [e,z,TI,TO,i1,i2],yB X pins (upd H s.heap.objs.size (.tup [x,y])) b:=fun b hb=>⟨by rw [qS (A6 (lt b hb))];exact (hf b hb).1,(hf b hb).2⟩
  have J2:=J1.turnedT (fp:=[e,z,TI,TO,i1,i2]) (h':=h'') (T:=h1'.objs.size) (xs:=[.int (i:Int),.ref s.heap.objs.size]) (us:=[.int i s.toks,.ref s.heap.objs.size]) (t':=s.toks + 1) hf1 (fun c o hc' q=>kk c o (nm hc').2 q) (Ad _) (by show 2 ≤ sizeLine;decide) (.cons ⟨s.toks,rfl⟩ (.cons rfl .nil)) ⟨_,sb.extBut _ _ (nm nT2).2 new,rfl,_,rfl⟩ nT2
  have ez:∀ {c:Addr},c ∈ [z,TI,TO,i1,i2]→c ≠ e:=fun h q=>ne (q ▸ h)
  refine ⟨.ref h1'.objs.size,_,J2,rfl,⟨s.heap.objs.size,h1'.objs.size,x,y,rfl,I.hok.fresh (Ad _),I.hok.fresh (by rw [sz1];exact B4 _),by rw [sz1];exact Nat.succ_ne_self _,rfl,hx,hy⟩,⟨⟨_,z''⟩,⟨f',g',kk _ _ (ez (.head _)) zz,ff⟩,kk _ _ (ez mm1) ti',?_,vP (xW s1') fun o q=>kk _ _ (ez mm3) q,vP (xW s2') fun o q=>kk _ _ (ez mm4) q⟩,fun b hb=>?_⟩
  ·obtain ⟨a,c,q⟩:=to'
   exact ⟨a,c,kk _ _ (ez mm2) q⟩
  ·have hlt:=lt b hb
   rw [qS (A6 (by rw [sz1];exact Cp hlt)),qS (A6 hlt)]
   exact (hf b hb).1
 done:=by
  intro X hP hw hK hc i pins s σ H E I hf st hg
  subst hP hw hK
  obtain ⟨q1,q2,hend⟩:=hg
  obtain ⟨its1,r1,o1⟩:=I.seqOf q1
  obtain ⟨its2,r2,o2⟩:=I.seqOf q2
  obtain ⟨⟨old,he⟩,⟨f,g,hz,hfo⟩,hti,hto,h1,h2⟩:=id st
  refine en_end (RE:=fun h'=>∀ c o,c ∉ [z,TO,i1,i2]→s.heap.get? c=some o→h'.get? c=some o) he (fun Q' E' hE=>zn_end (I.ok.hd hc) D hz hfo hti hto (yP h1 o1) (yP h2 o2) (hend.imp (fG r1.length) (fG r2.length)) fun h' x k hx=>hE h' x k hx) fun h' k=>?_
  exact ⟨rfl,I.turnedN (fp:=[e,z,TI,TO,i1,i2]) hf fun c o hc' q=>k c o (fun q=>hc' (.tail _ (mm45 q))) q⟩
 self:=fun A i s Q E st h=>by
  obtain ⟨⟨old,he⟩,_⟩:=st
  exact wpAny_pyIter_enum he h
section
variable {X:Cx}
def iEz (ta:TA):TI:=fun σ H R=>ta σ H fun vs H1=>∃ a b c1 c2 xs ys,vs=[.ref a,.ref b]∧fY H1 c1 a xs∧fY H1 c2 b ys∧R (Itez c1 c2 a b xs ys) H1
theorem pi_ez {es:List Expr}{kk:_}{tp:Pos}{a b:Expr}{ta:TA}{p pos p2 pos2:Pos}(hg:Gl X "enumerate") (hm:X.mg "enumerate" = none) (hg2:Gl X "zip") (hm2:X.mg "zip" = none) (ha:PA X [a,b] ta) (hs:starEach [a,b] X.env=[(false,eval a X.env),(false,eval b X.env)]:=by rfl) (hs2:starEach [b] X.env=[(false,eval b X.env)]:=by rfl)
  (hs3:starEach [.Call (.Name "zip" p2) [a,b] [] pos2] X.env=[(false,eval (.Call (.Name "zip" p2) [a,b] [] pos2) X.env)]:=by rfl) :
  PI X (.Tuple es kk tp) (.Call (.Name "enumerate" p) [.Call (.Name "zip" p2) [a,b] [] pos2] [] pos) (iEz ta):=by
 intro pins s σ H R I h
 refine Call_ (gD I hg hm fD (Bk ?_ hs3 rfl))
 rw [hs3]
 show wpAny _ _ (spliced ((false,eval (.Call (.Name "zip" p2) [a,b] [] pos2) X.env) :: backTo pos [])) _ _ s
 refine Calls.spliced_cons ?_
 refine Call_ (gD I hg2 hm2 bt_zip (Bk (jJ (ha pos2 pins s σ H _ I h) fun us s1 ⟨vs,H1,I1,r1,q1⟩=>?_) (by rw [hs,hs2]) (by rw [hs2];rfl)))
 obtain ⟨l1,l2,c1,c2,xs,ys,ee,k1,k2,q⟩:=q1
 subst ee
 obtain ⟨u1,u2,rfl,e1,e2⟩:=r1.two
 cases e1
 cases e2
 obtain ⟨its1,v1,o1⟩:=I1.seqOf k1
 obtain ⟨its2,v2,o2⟩:=I1.seqOf k2
 have lt1:(l1:Nat) < (s1.heap.objs.size:Nat):=o1.lt
 have lt2:(l2:Nat) < (s1.heap.objs.size:Nat):=o2.lt
 refine sI o1 o2 fun h' Z sz old=>?_
 refine wpAny_pure ?_
 refine uH Z.zip fun h2 he2 old2=>?_
 refine wpAny_pyIter_enum he2 ?_
 have D:ZipApart (s1.heap.objs.size + 4) (s1.heap.objs.size + 2) (s1.heap.objs.size + 3) s1.heap.objs.size (s1.heap.objs.size + 1) l1 l2:=PySem.W.ktu_apart _ _ _ o1.lt o2.lt
 have J:Inv X pins σ H1 { s1 with heap:=h2 }:=I1.kept (t':=s1.toks) fun b o q=>old2 b o (old b o q)
 have eh:({ s1 with heap:=h' }:Shared).heap.objs.size=s1.heap.objs.size + 5:=sz
 rw [eh] at he2
 refine ⟨s1.heap.objs.size + 5,_,_,_,H1,by rw [eh],J,turn_ez (s1.heap.objs.size + 5) (s1.heap.objs.size + 4) (s1.heap.objs.size + 2) (s1.heap.objs.size + 3) s1.heap.objs.size (s1.heap.objs.size + 1) l1 l2 c1 c2 xs ys D (by simp),⟨⟨_,he2⟩,⟨_,_,old2 _ _ Z.zip,.inl rfl⟩,old2 _ _ Z.ti,?_,vP (xW Z.s1) fun o q=>old2 _ o q,vP (xW Z.s2) fun o q=>old2 _ o q⟩,fun b hb=>?_,q⟩
 ·obtain ⟨x,y,q⟩:=Z.to
  exact ⟨x,y,old2 _ _ q⟩
 ·have hb':s1.heap.objs.size ≤ b:=by
   simp only [A3,AZ,or_false] at hb
   rcases hb with rfl | rfl | rfl | rfl | rfl | rfl <;> first | exact BM _ _ | exact Ad _
  exact I1.fpOk hb' (I1.hok.fresh hb')
theorem cl_ez {c1 c2:String}{a b:Addr}{xs ys:List V}{g:TG}{tc:TT}{tb:TB}{D:St→Hp→Prop}{σ:St}{H:Hp}(Pv:Nat→St→Hp→Prop)(h0:Pv 0 σ H)(hl:∀ i σ H,Pv i σ H→fY H c1 a xs∧fY H c2 b ys)
  (hs:∀ (i:Nat) u v (T1 T2:Addr) σ H H',xs[i]? = some u→ys[i]? = some v→Pv i σ H→Same H H'→H' T1=some (.tup [u,v])→H' T2=some (.tup [.int (i:Int),.ref T1])→g (.ref T2) σ H' fun σ2 H2=>tc σ2 H2 fun b H3=>if b=true then tb σ2 H3 (Pv (i + 1)) else Pv (i + 1) σ2 H3)
  (hd:∀ σ H,Pv (min xs.length ys.length) σ H→D σ H):pJ (Itez c1 c2 a b xs ys) g tc tb D σ H:=by
 refine ⟨fun i m σ H=>m=min xs.length ys.length - i∧i ≤ min xs.length ys.length∧Pv i σ H,⟨min xs.length ys.length,by simp,Bh _,h0⟩,?_⟩
 rintro i m σ H ⟨rfl,hi,p⟩
 obtain ⟨q1,q2⟩:=hl i σ H p
 by_cases hlt:i < min xs.length ys.length
 ·refine .inr ⟨⟨q1,q2,by omega,by omega⟩,Pv (i + 1),fun σ' H' p'=>⟨min xs.length ys.length - (i + 1),by omega,rfl,hlt,p'⟩,fun x H' y=>?_⟩
  obtain ⟨T1,T2,u,v,rfl,n1,n2,nn,rfl,e1,e2⟩:=y
  have n2':upd H T1 (.tup [u,v]) T2=none:=by rw [qS nn];exact n2
  exact hs i u v T1 T2 σ H _ e1 e2 p ((kQ n1).trans (kQ n2')) (by rw [qS nn.symm,qH]) qH
 ·have e:i=min xs.length ys.length:=by omega
  subst e
  exact .inl ⟨⟨q1,q2,by omega⟩,hd σ H p⟩
theorem a_iEz {ta:TA}{σ:St}{H:Hp}{R:It→Hp→Prop}:iEz ta σ H R=ta σ H fun vs H1=>∃ a b c1 c2 xs ys,vs=[.ref a,.ref b]∧fY H1 c1 a xs∧fY H1 c2 b ys∧R (Itez c1 c2 a b xs ys) H1:=rfl
end
def cxk (X:Cx)(N:List Str)(sc:Scope)(y:Str)(cl:List (Str × Addr))(s:Shared)(H:Hp)(ex:List Addr):Cx where
 prog:=X.prog
 w:=X.w
 K:=X.K
 mg:=X.mg
 base:=X.base
 A:=X.A
 N:=N
 s₀:=s
 H₀:=H
 env:=compEnvC sc ((y,s.heap.objs.size + 1) :: cl) s.heap.objs.size X.env
 outer:=X.stack
 stack:=X.stack
 ex:=ex
 fn:=fun x=>x == y
 calm:=X.calm
 pn:=[]
 xe:=fun _ _=>False
structure CScope1 (X:Cx)(N:List Str)(fr:List (Option Nat))(sc:Scope)(y:Str):Prop where
 kind:sc.kind = .function
 cell:∀ z ∈ sc.names,z.2=NameKind.cell→z.1=y
 loc:∀ z ∈ sc.names,z.2 = .local→sc.names.lookup z.1=some .local
 own:sc.names.lookup y=some .cell
 len:fr.length=N.length
 fr:∀ (i j:Nat),fr[i]? = some (some j)→∃ x,N[i]? = some x∧X.N[j]? = some x∧sc.names.lookup x=some .free∧(X.env.kindOf x=some .cell∨X.env.kindOf x=some .free)
 from1:∀ n cl,cellsFrom n sc.names cl=(y,n) :: cl
 push1:∀ h,pushCells h sc.names=h.push { cls:=.type "cell",data:=.cell none }
def okLoc1 (y:Str)(names:List (Str × NameKind)):Bool:=names.all fun z=>(z.2 != .cell || z.1 == y) && (z.2 != .local || names.lookup z.1 == some .local)
theorem CScope1.of {X:Cx}{N:List Str}{fr:List (Option Nat)}{sc:Scope}{y:Str}(h1:sc.kind = .function)(h2:okLoc1 y sc.names=true)(h3:rP X.N X.env.scope.names sc.names N fr=true)(h4:sc.names.lookup y=some .cell)
  (h5:∀ n cl,cellsFrom n sc.names cl=(y,n) :: cl) (h6:∀ h,pushCells h sc.names=h.push { cls:=.type "cell",data:=.cell none }):CScope1 X N fr sc y:=by
 have h2':=Bu.mp h2
 refine ⟨h1,fun z hz e=>?_,fun z hz e=>?_,h4,cI h3,fun i j e=>cJ h3 e,h5,h6⟩
 ·have q:=h2' z hz
  rw [e] at q
  simp at q
  exact q
 ·have q:=h2' z hz
  rw [e] at q
  simp at q
  exact q
theorem wI {env : Env}{y : Str} : ∀ {names : List (Str × NameKind)} {x : Str}, (∀ z ∈ names, z.2 = NameKind.cell → z.1 = y) →
    ((names.map fun (n, k) => if (k == NameKind.free && env.scope.kind == .function && env.kindOf n == some .cell) then (n, NameKind.cell) else (n, k)).lookup x = some .cell ∨
     (names.map fun (n, k) => if (k == NameKind.free && env.scope.kind == .function && env.kindOf n == some .cell) then (n, NameKind.cell) else (n, k)).lookup x = some .free) → x = y ∨ (x, NameKind.free) ∈ names
  | [], x, _, h => by simp at h
  | (n, k) :: r, x, hc, h => by
    have ih := @wI env y r x (fun z hz => hc z (Ap _ hz))
    rw [AN] at h
    cases hx : x == n with
    | true =>
      have e : x = n := by simpa using hx
      subst e
      by_cases hk : k = NameKind.free
      · subst hk; exact .inr Am
      · have hb : (k == NameKind.free) = false := by simpa using hk
        simp only [hb, BC, AI, B8, AM, Cb] at h
        rcases h with h | h
        · exact .inl (hc (x, k) Am (A9 h))
        · exact absurd (A9 h) hk
    | false =>
      refine (ih ?_).imp id (Ap _)
      by_cases hcnd : (k == NameKind.free && env.scope.kind == .function && env.kindOf n == some .cell) = true
      · simp only [hcnd, BK, AM, hx] at h; exact h
      · simp only [hcnd, B8, AM, hx, AI] at h; exact h
theorem cP {y x:Str}{n c:Addr}{cl:List (Str × Addr)}(h:((y,n) :: cl).lookup x=some c):(x=y∧c=n)∨(x ≠ y∧cl.lookup x=some c):=by
 rw [AM] at h
 cases e:x == y with
 | true=>rw [e] at h;cases h;exact .inl ⟨by simpa using e,rfl⟩
 | false=>rw [e] at h;exact .inr ⟨by simpa using e,h⟩
theorem rS {y x:Str}{n c:Addr}{cl:List (Str × Addr)}(ne:x ≠ y)(h:cl.lookup x=some c):((y,n) :: cl).lookup x=some c:=by
 rw [AM]
 have e:(x == y)=false:=by simpa using ne
 rw [e]
 exact h
section
variable {X:Cx}{pins:List (Addr × Obj)}{σ:St}{H H':Hp}{s:Shared}
theorem Inv.block1 {N:List Str}{fr:List (Option Nat)}{sc:Scope}{y:Str}{cl:List (Str × Addr)}{ex:List Addr}{h1:Heap}{tk:Nat}(I:Inv X pins σ H s)(S:CScope1 X N fr sc y)(hcl:yV sc.names X.env.cells [] = some cl)
  (hex:∀ b ∈ ex,yB X pins H b∧b < s.heap.objs.size) (hns:h1.Ns s.heap.objs.size (fun _=>none)) (hce:h1.IsCell (s.heap.objs.size + 1) none) (hk:∀ b u,s.heap.get? b=some u→h1.get? b=some u) :
  Inv (cxk X N sc y cl s H ex) [] (mJ fr σ) H { s with heap:=h1,toks:=tk }:=by
 have hfree:H s.heap.objs.size=none:=I.hok.fresh (Ad _)
 have clt:∀ x c,cl.lookup x=some c→c < s.heap.objs.size:=fun x c e=>by
  obtain ⟨v,q⟩:=I.cell x c (kH hcl e)
  exact q.lt
 refine ⟨⟨I.ok.mod,S.kind,I.ok.glob,I.ok.blt,Ad _,fun x z c h1 h2=>?_,fun x hx=>?_,fun x c z h1=>?_,I.ok.hd,I.ok.frames,Or.inl rfl,fun b hb=>?_,I.bs,AG I.ok.bsz I.sz,fun b o e hb=>?_,fun b hb hf=>?_,I.stack,I.stkFree⟩,
  rfl,I.bare,Un.kept hk,⟨_,hns,fun i x v h1 h2 h3=>?_⟩,fun x c e=>?_,hfree,fun x c e=>?_,fun p hp=>absurd (show p ∈ ([] : List (Addr × Obj)) from hp) (by simp),I.hok.kept hk,?_⟩
 ·rcases cP h1 with ⟨e1,c1⟩ | ⟨_,e1⟩ <;> rcases cP h2 with ⟨e2,c2⟩ | ⟨_,e2⟩
  ·rw [e1,e2]
  ·exact absurd (clt z c e2) (by rw [c1];exact BY.mpr (B4 _))
  ·exact absurd (clt x c e1) (by rw [c2];exact BY.mpr (B4 _))
  ·exact I.ok.inj x z c (kH hcl e1) (kH hcl e2)
 ·have hx':(relabel sc X.env).names.lookup x=some .cell∨(relabel sc X.env).names.lookup x=some .free:=hx
  by_cases ne:x=y
  ·exact ⟨s.heap.objs.size + 1,by show ((y,s.heap.objs.size + 1) :: cl).lookup x=_;rw [ne,AM];simp⟩
  ·rcases wI S.cell hx' with e | e
   ·exact absurd e ne
   ·obtain ⟨c,hc⟩:=xG sc.names [] cl hcl x e
    obtain ⟨c',hc'⟩:=zA hc
    exact ⟨c',rS ne hc'⟩
 ·have e:x=y:=by simpa using (show (x == y)=true from z)
  rcases cP h1 with ⟨_,c1⟩ | ⟨ne,_⟩
  ·show s.heap.objs.size ≤ c
   rw [c1]
   exact B4 _
  ·exact absurd e ne
 ·obtain ⟨⟨f0,f1,f2,f3,f4,f5⟩,lt⟩:=hex b hb
  refine ⟨A6 lt,fun x c e=>?_⟩
  rcases cP e with ⟨_,c1⟩ | ⟨_,e1⟩
  ·rw [c1]
   exact fun z=>absurd lt (by rw [← z];exact BY.mpr (B4 _))
  ·exact f4 x c (kH hcl e1)
 ·obtain ⟨⟨f0,f1,f2,f3,f4,f5⟩,lt⟩:=hex b hb
  rcases f3 with f3 | f3
  ·exact I.ok.noex b o e f3
  ·exact absurd (A5 (As e) I.ok.bsz) (BY.mpr f3)
 ·obtain ⟨⟨f0,f1,f2,f3,f4,f5⟩,lt⟩:=hex b hb
  rcases A3.mp (I.stkSub b hf) with e | e
  ·exact f1 e
  ·exact f2 e
 ·obtain ⟨j,hj,hv⟩:=eC h2
  obtain ⟨x',e1,e2,e3,e4⟩:=S.fr i j hj
  have hN:N[i]? = some x:=h1
  rw [hN] at e1
  cases e1
  have ne:x ≠ y:=fun z=>by rw [z,S.own] at e3;cases e3
  obtain ⟨c,hc⟩:=xG sc.names [] cl hcl x (Bq e3)
  obtain ⟨c',hc'⟩:=zA hc
  have hcX:=kH hcl hc'
  obtain ⟨m,hn,hl⟩:=I.loc
  have kc:(relabel sc X.env).names.lookup x=some .cell∨(relabel sc X.env).names.lookup x=some .free:=jY e3
  have vis:Vis X.env.scope x∧(X.env.kindOf x ≠ some .local):=by
   rcases e4 with q | q
   ·exact ⟨.inr (.inl q),by rw [q];decide⟩
   ·exact ⟨.inr (.inr q),by rw [q];decide⟩
  obtain ⟨u,r,l⟩:=hl j x v e2 hv vis.1
  refine ⟨u,r,.inr ⟨kc,c',rS ne hc',?_⟩⟩
  rcases l with ⟨q,_⟩ | ⟨_,d,hd,hcell⟩
  ·exact absurd q vis.2
  ·rw [hcX] at hd
   cases hd
   exact hcell.keeps hk
 ·rcases cP e with ⟨_,c1⟩ | ⟨_,e1⟩
  ·exact ⟨none,by rw [c1];exact hce⟩
  ·obtain ⟨v,q⟩:=I.cell x c (kH hcl e1)
   exact ⟨v,q.keeps hk⟩
 ·rcases cP e with ⟨_,c1⟩ | ⟨_,e1⟩
  ·rw [c1]
   exact I.hok.fresh (B4 _)
  ·exact I.freeC x c (kH hcl e1)
 ·show (mJ fr σ).length=N.length
  unfold mJ
  rw [Aa];exact S.len
theorem Inv.unblock1 {N:List Str}{sc:Scope}{y:Str}{cl:List (Str × Addr)}{ex:List Addr}{pins':List (Addr × Obj)}{σ':St}{s':Shared}{h':Heap}(I:Inv X pins σ H s)(J:Inv (cxk X N sc y cl s H ex) pins' σ' H' s')
  (hex:∀ b ∈ ex,yB X pins H b) (sb:Heap.SameBut s.heap.objs.size s'.heap h'):Inv X pins σ H' { s' with heap:=h' }:=by
 have free:H' s.heap.objs.size=none:=J.free
 have eq:∀ b,b ≠ s.heap.objs.size→h'.get? b=s'.heap.get? b:=sb.2
 have ne:∀ b o,s.heap.get? b=some o→b ≠ s.heap.objs.size:=fun b o e=>A6 (As e)
 have B:Un (i7 X.stack) ex H H' s.heap s'.heap:=J.base
 refine I.call' (s':={ s' with heap:=h' }) (ch:=ex) J.os ⟨fun b o q n hb hx=>(eq b (ne b o q)).trans (B.keep b o q n hb hx),fun b o q n hb hx=>?_,B.free,fun b o q hx=>?_,B.tups,B.frzs,B.tbls⟩ (fun a o e=>?_) J.bare (fun b hb=>?_)
 ·obtain ⟨sl,e⟩:=B.slot b o q n hb hx
  exact ⟨sl,(eq b (ne b o q)).trans e⟩
 ·obtain ⟨o',e⟩:=B.there b o q hx
  exact ⟨o',(eq b (ne b o q)).trans e⟩
 ·refine (J.hok a o e).stay (fun b u hb q=>?_) (fun _ q=>q) fun _ _ q=>q
  refine (eq b ?_).trans q
  rcases hb with rfl | hb
  ·exact qE e free
  ·exact qE hb free
 ·obtain ⟨f0,f1,f2,f3,f4,f5⟩:=hex b hb
  exact ⟨f3,f1,f4,f5⟩
end
theorem rR {M:Model}{A:Around}{E:Value→Shared→Prop}{s:Shared}{scope:Scope}{globals:Addr}{cl:List (Str × Addr)}{y:Str}{qual:Str}{outer:Env}{Q:Env→Shared→Prop}
  (h5:∀ n cl,cellsFrom n scope.names cl=(y,n) :: cl) (h6:∀ h,pushCells h scope.names=h.push { cls:=.type "cell",data:=.cell none })
  (hQ:∀ h',h'.Ns s.heap.objs.size (fun _=>none)→h'.IsCell (s.heap.objs.size + 1) none→(∀ b u,s.heap.get? b=some u→h'.get? b=some u) →
   Q { scope,locals:=s.heap.objs.size,globals,cells:=(y,s.heap.objs.size + 1) :: cl,qual,func:=none,code:=outer.code,frame:=outer.frame,builtins:=outer.builtins } { s with heap:=h' }) :
  wpAny M A (newFunctionEnv scope globals cl [] qual none .none (some outer)) Q E s:=by
 simp only [newFunctionEnv,Option.isSome_some,BK]
 refine wpAny_bind (wpAny_alloc ?_)
 refine wpAny_bind (wpAny_layCells _ (fun name kind cells=>by cases hkc:kind == NameKind.cell <;> simp [hkc]) _ _ _ _ ?_)
 rw [h5,h6]
 rw [show ({ s with heap:=s.heap.push { cls:=.type "dict",data:=.dict #[] } }:Shared).heap.objs.size=s.heap.objs.size + 1 from AO ..]
 refine wpAny_bind ?_
 rw [Co]
 refine wpAny_pure (wpAny_pure (hQ _ ?_ ?_ ?_))
 ·exact (Heap.Ns.new ..).keeps fun b o e=>Ac _ e
 ·refine ⟨{ cls:=.type "cell",data:=.cell none },?_,rfl⟩
  have:((s.heap.push { cls:=.type "dict",data:=.dict #[] }).push { cls:=.type "cell",data:=.cell none }).get? (s.heap.push { cls:=.type "dict",data:=.dict #[] }).objs.size=some { cls:=.type "cell",data:=.cell none }:=Ao _ rfl
  rwa [AO] at this
 ·exact fun b u e=>Ac _ (Ac _ e)
section
variable {X:Cx}
end
end L2
end
section
namespace L2
open PySem
section
variable {D:Ends}{σ:St}{H:Hp}{Q:VK}{QB:Bool→Hp→Prop}{QA:List V→Hp→Prop}
end
end L2
namespace L2
theorem us0 {P:List PySem.Value→Prop}(h:P []):∀ us:List PySem.Value,us.length=0→P us:=fun us e=>by
 cases us with
 | nil=>exact h
 | cons _ _=>cases e
theorem us1 {P:List PySem.Value→Prop}(h:∀ a,P [a]):∀ us:List PySem.Value,us.length=1→P us:=fun us e=>by
 cases us with
 | nil=>cases e
 | cons a t=>exact us0 (P:=fun t=>P (a :: t)) (h a) t (C5 e)
theorem us2 {P:List PySem.Value→Prop}(h:∀ a b,P [a,b]):∀ us:List PySem.Value,us.length=2→P us:=fun us e=>by
 cases us with
 | nil=>cases e
 | cons a t=>exact us1 (P:=fun t=>P (a :: t)) (h a) t (C5 e)
theorem us3 {P:List PySem.Value→Prop}(h:∀ a b c,P [a,b,c]):∀ us:List PySem.Value,us.length=3→P us:=fun us e=>by
 cases us with
 | nil=>cases e
 | cons a t=>exact us2 (P:=fun t=>P (a :: t)) (h a) t (C5 e)
theorem us4 {P:List PySem.Value→Prop}(h:∀ a b c d,P [a,b,c,d]):∀ us:List PySem.Value,us.length=4→P us:=fun us e=>by
 cases us with
 | nil=>cases e
 | cons a t=>exact us3 (P:=fun t=>P (a :: t)) (h a) t (C5 e)
theorem us5 {P:List PySem.Value→Prop}(h:∀ a b c d f,P [a,b,c,d,f]):∀ us:List PySem.Value,us.length=5→P us:=fun us e=>by
 cases us with
 | nil=>cases e
 | cons a t=>exact us4 (P:=fun t=>P (a :: t)) (h a) t (C5 e)
end L2
end
section
namespace L2
open PySem
theorem a_tNever {D:Ends}{σ:St}{H:Hp}:tNever D σ H=False:=rfl
theorem zT {X:Cx}{es:List Expr}{t:TA}{x1}{pos:Pos}(h:QA X es t):QE X (.Tuple es x1 pos) (oY t):=⟨jK h.get⟩
section
variable {X:Cx}
theorem uA {N:List Str}{fr:List (Option Nat)}{e tg iter:Expr}{ifs:List Expr}{gs:List Comprehension}{sc:Scope}{y:Str}{ip pos':Pos}{cl:List (Str × Addr)}{wi:TI}{D:It→Addr→St→Hp→Prop}{pins:List (Addr × Obj)}{σ:St}{H:Hp}{s:Shared}{Q:VK}{i:Nat}{x:Str}
  (hN:X.N.Nodup) (hix:X.N[i]? = some x) (hx:Loc X.env.scope x) (hf:X.fn x=true∨X.env.scope.names.lookup x=some .local)
  (he:clausesOf e=⟨tg,iter,ifs,0⟩ :: gs) (hi:PI X tg iter wi) (S:CScope1 X N fr sc y) (hcl:yV sc.names X.env.cells [] = some cl) (I:Inv X pins σ H s)
  (h:wi σ H fun J H1=>∀ p,H1 p=none→D J p (mJ fr σ) (upd H1 p (.lst [])))
  (loop:∀ (it p:Addr) (fp:List Addr) (tn:Nat→Heap→Prop) (J:It) (s1 s2:Shared) (H1:Hp) (σ1:St),Turn X.prog X.w X.K tg J fp it tn→Inv (cxk X N sc y cl s1 H1 fp) [] σ1 H1 s2→tn 0 s2.heap→(∀ b ∈ fp,yB (cxk X N sc y cl s1 H1 fp) [] H1 b)→D J p σ1 H1 →
   codeAny (model X.prog X.w) X.A (.compStart e 0 (.ref it) (.ref p) (compEnvC sc ((y,s1.heap.objs.size + 1) :: cl) s1.heap.objs.size X.env)) (fun r s'=>r = .ok .next∧∃ σ' H',Inv (cxk X N sc y cl s1 H1 fp) [] σ' H' s'∧Q (.ref p) H') s2)
  (hs:∀ x,foldedSetIterable iter X.env x=pure x) :
  wpAny (model X.prog X.w) X.A (comprehension e sc X.env ip (newList []) false (eval iter X.env) (some (assign (.Name x pos') X.env))) (fun _ s'=>∃ v H',Inv X pins (σ.set i (some v)) H' s'∧Q v H') X.xe s:=by
 refine wpAny_comprehension_free (use:=some (assign (.Name x pos') X.env)) he hs (zV hcl) S.kind S.loc ?_
 refine jJ (hi pins s σ H _ I h) fun v s1 h1=>jJ h1 fun itv s2 ⟨it,fp,tn,J,H2,e2,I2,T,st2,f2,q⟩=>?_
 subst e2
 refine wpAny_newObj_type ?_
 have hp:H2 s2.heap.objs.size=none:=I2.hok.fresh (Ad _)
 have I3:Inv X pins σ (upd H2 s2.heap.objs.size (.lst [])) { s2 with heap:=s2.heap.push { cls:=.type "list",data:=.seq ([] : List Value).toArray },toks:=s2.toks }:=I2.lnew (its:=[]) (ys:=[]) .nil (Bh _)
 have lt2:∀ b ∈ fp,b < s2.heap.objs.size:=fun b hb=>let ⟨o,e,_⟩:=T.obj 0 _ st2 b hb;As e
 have f3:∀ b ∈ fp,yB X pins (upd H2 s2.heap.objs.size (.lst [])) b:=fun b hb=>⟨by rw [qS (A6 (lt2 b hb))];exact (f2 b hb).1,(f2 b hb).2⟩
 have st3:tn 0 (s2.heap.push { cls:=.type "list",data:=.seq ([] : List Value).toArray }):=T.keep _ _ _ st2 fun b _ o e=>Ac _ e
 refine rR S.from1 S.push1 fun h₁ hns hce hk=>?_
 generalize hs3:({ s2 with heap:=s2.heap.push { cls:=.type "list",data:=.seq ([] : List Value).toArray } }:Shared)=s3 at hns hce hk ⊢
 have I3':Inv X pins σ (upd H2 s2.heap.objs.size (.lst [])) s3:=by rw [← hs3];exact I3
 have st3':tn 0 s3.heap:=by rw [← hs3];exact st3
 have lt3:∀ b ∈ fp,b < s3.heap.objs.size:=fun b hb=>let ⟨o,e,_⟩:=T.obj 0 _ st3' b hb;As e
 have B:=I3'.block1 (N:=N) (fr:=fr) (sc:=sc) (y:=y) (cl:=cl) (ex:=fp) (h1:=h₁) (tk:=s3.toks) S hcl (fun b hb=>⟨f3 b hb,lt3 b hb⟩) hns hce hk
 have stB:tn 0 h₁:=T.keep _ _ _ st3' fun b _ o e=>hk b o e
 have fC:yB X pins (upd H2 s2.heap.objs.size (.lst [])) s3.heap.objs.size:=I3'.fpOk (Ad _) (I3'.hok.fresh (Ad _))
 refine codeAny_mono (loop it s2.heap.objs.size fp tn J s3 _ (upd H2 s2.heap.objs.size (.lst [])) (mJ fr σ) T B stB (fun b hb=>?_) (q _ hp)) fun r s' hr=>?_
 ·obtain ⟨f0,f1,f2',f3',f4,f5⟩:=f3 b hb
  refine ⟨f0,A6 (lt3 b hb),fun z=>?_,.inl hb,fun x c e=>?_,fun p hp'=>absurd (show p ∈ ([] : List (Addr × Obj)) from hp') (by simp)⟩
  ·rcases A3.mp (I3'.stkSub b z) with e | e
   ·exact f1 e
   ·exact f2' e
  ·rcases cP e with ⟨_,c1⟩ | ⟨_,e1⟩
   ·rw [c1]
    exact fun z=>absurd (lt3 b hb) (by rw [← z];exact BY.mpr (B4 _))
   ·exact f4 x c (kH hcl e1)
 ·obtain ⟨rfl,σ',H',J',q'⟩:=hr
  have I5:Inv X pins σ H' s':=I3'.unblock1 (h':=s'.heap) J' f3 ⟨rfl,fun _ _=>rfl⟩
  show wpAny _ X.A (assign (.Name x pos') X.env (.ref s2.heap.objs.size)) _ X.xe s'
  refine wpAny_assign_Name (fN (v:=.ref s2.heap.objs.size) I5 hN hix hx rfl (fun s4 I6 ⟨a,sb,ha⟩=>?_) hf)
  obtain ⟨m,hn,_⟩:=J'.loc
  have free:H' s3.heap.objs.size=none:=J'.free
  obtain ⟨g0,g1,g2,g3,g4,g5⟩:=fC
  have aC:s3.heap.objs.size ≠ a:=by
   rcases ha with rfl | ha
   ·exact g1
   ·exact fun z=>g4 x a ha z.symm
  refine ⟨m,hn.sameBut sb aC,fun h' sb'=>⟨.ref s2.heap.objs.size,H',?_,q'⟩⟩
  refine I6.turnedN (fp:=[s3.heap.objs.size]) (fun b hb=>?_) fun c o hc e=>sb'.extBut _ _ (fun z=>hc (A4.mpr z)) e
  have eb:b=s3.heap.objs.size:=by simpa using hb
  subst eb
  exact ⟨free,g1,g2,g3,g4,g5⟩
theorem iE {N:List Str}{fr:List (Option Nat)}{tg iter elt:Expr}{ifs:List Expr}{sc:Scope}{pos pos' cpos:Pos}(y:Str){cl:List (Str × Addr)}{wi:TI}{g:TG}{tc:TT}{te:TE}{i:Nat}{x:Str}(hN:X.N.Nodup)(hix:X.N[i]? = some x)(hx:Loc X.env.scope x)
  (hc:X.calm=true) (hi:PI X tg iter wi) (S:CScope1 X N fr sc y) (hcl:yV sc.names X.env.cells [] = some cl)
  (hb:∀ s H ex,PG (cxk X N sc y cl s H ex) tg g∧pH (cxk X N sc y cl s H ex) ifs tc∧PE (cxk X N sc y cl s H ex) elt te) (swp:swapsWith (.ListComp elt [⟨tg,iter,ifs,0⟩] sc cpos) (some (.Name x pos')) pos.line X.env=pure true:=by rfl)
  (hs:∀ x,foldedSetIterable iter X.env x=pure x:=by intro _;rfl) (hf:X.fn x=true∨X.env.scope.names.lookup x=some .local:=by first | exact .inl rfl | exact .inr rfl | assumption) :
  PS X (.Assign [.Name x pos'] (.ListComp elt [⟨tg,iter,ifs,0⟩] sc cpos) pos) (eZ (tLC fr wi g tc te) (zJ i)):=by
 intro pins s σ H D I h
 rw [exec_Assign_Name_used _ _ _ _ swp]
 refine wpAny_bind (wpAny_standAt ?_)
 refine wpAny_bind ?_
 show wpAny _ X.A (do let _ ← comprehension (.ListComp elt [⟨tg,iter,ifs,0⟩] sc cpos) sc X.env _ (newList []) false (eval iter X.env) (some (assign (.Name x pos') X.env))) _ _ s
 refine wpAny_bind (jJ (uA (Q:=fun v H2=>D.nx (σ.set i (some v)) H2) (D:=fun J p σ1 H1=>pJ J g tc (yW p te) (fun _ H2=>D.nx (σ.set i (some (.ref p))) H2) σ1 H1) hN hix hx hf rfl hi S hcl I h (fun it p fp tn J s1 s2 H1 σ1 T B st f d=>?_) hs) fun _ s' ⟨v,H',I',q'⟩=>wpAny_pure (wpAny_pure ⟨_,H',I',q'⟩))
 obtain ⟨hg,hifs,helt⟩:=hb s1 H1 fp
 have L:=xF (X:=cxk X N sc y cl s1 H1 fp) (e:=.ListComp elt [⟨tg,iter,ifs,0⟩] sc cpos) (d:=0) (acc:=.ref p) (D:=fun _ H2=>D.nx (σ.set i (some (.ref p))) H2) (s:=s2) hc rfl (compTurn_list elt tg iter ifs sc cpos (.ref it) (.ref p) _) rfl rfl rfl T hg hifs (wV helt) B st f d
 exact codeAny_compStart_list L (T.self X.A 0 s2 _ _ st L)
end
section
variable {D:Ends}{σ:St}{H:Hp}{Q:VK}{QB:Bool→Hp→Prop}{QA:List V→Hp→Prop}{QG:St→Hp→Prop}
theorem gG {i:Nat}{v:V}(h:σ[i]? = some (some v)):g8 i σ H Q=Q v H:=propext ⟨fun ⟨_,e,q⟩=>by cases h.symm.trans e;exact q,fun q=>⟨v,h,q⟩⟩
theorem e_var0 {v:V}:g8 0 (some v :: σ) H Q=Q v H:=gG rfl
theorem e_var1 {v:V}{b0:Option V}:g8 1 (b0 :: some v :: σ) H Q=Q v H:=gG rfl
theorem e_var2 {v:V}{b0 b1:Option V}:g8 2 (b0 :: b1 :: some v :: σ) H Q=Q v H:=gG rfl
theorem e_var3 {v:V}{b0 b1 b2:Option V}:g8 3 (b0 :: b1 :: b2 :: some v :: σ) H Q=Q v H:=gG rfl
theorem e_var4 {v:V}{b0 b1 b2 b3:Option V}:g8 4 (b0 :: b1 :: b2 :: b3 :: some v :: σ) H Q=Q v H:=gG rfl
theorem e_var5 {v:V}{b0 b1 b2 b3 b4:Option V}:g8 5 (b0 :: b1 :: b2 :: b3 :: b4 :: some v :: σ) H Q=Q v H:=gG rfl
theorem e_var6 {v:V}{b0 b1 b2 b3 b4 b5:Option V}:g8 6 (b0 :: b1 :: b2 :: b3 :: b4 :: b5 :: some v :: σ) H Q=Q v H:=gG rfl
theorem e_var7 {v:V}{b0 b1 b2 b3 b4 b5 b6:Option V}:g8 7 (b0 :: b1 :: b2 :: b3 :: b4 :: b5 :: b6 :: some v :: σ) H Q=Q v H:=gG rfl
theorem e_var8 {v:V}{b0 b1 b2 b3 b4 b5 b6 b7:Option V}:g8 8 (b0 :: b1 :: b2 :: b3 :: b4 :: b5 :: b6 :: b7 :: some v :: σ) H Q=Q v H:=gG rfl
theorem e_var9 {v:V}{b0 b1 b2 b3 b4 b5 b6 b7 b8:Option V}:g8 9 (b0 :: b1 :: b2 :: b3 :: b4 :: b5 :: b6 :: b7 :: b8 :: some v :: σ) H Q=Q v H:=gG rfl
theorem e_var10 {v:V}{b0 b1 b2 b3 b4 b5 b6 b7 b8 b9:Option V}:g8 10 (b0 :: b1 :: b2 :: b3 :: b4 :: b5 :: b6 :: b7 :: b8 :: b9 :: some v :: σ) H Q=Q v H:=gG rfl
theorem e_nam0 {v:V}{b0:Option V}:zJ 0 v (b0 :: σ) H QG=QG (some v :: σ) H:=rfl
theorem e_nam1 {v:V}{b0 b1:Option V}:zJ 1 v (b0 :: b1 :: σ) H QG=QG (b0 :: some v :: σ) H:=rfl
theorem e_nam2 {v:V}{b0 b1 b2:Option V}:zJ 2 v (b0 :: b1 :: b2 :: σ) H QG=QG (b0 :: b1 :: some v :: σ) H:=rfl
theorem e_nam3 {v:V}{b0 b1 b2 b3:Option V}:zJ 3 v (b0 :: b1 :: b2 :: b3 :: σ) H QG=QG (b0 :: b1 :: b2 :: some v :: σ) H:=rfl
theorem e_nam4 {v:V}{b0 b1 b2 b3 b4:Option V}:zJ 4 v (b0 :: b1 :: b2 :: b3 :: b4 :: σ) H QG=QG (b0 :: b1 :: b2 :: b3 :: some v :: σ) H:=rfl
theorem e_nam5 {v:V}{b0 b1 b2 b3 b4 b5:Option V}:zJ 5 v (b0 :: b1 :: b2 :: b3 :: b4 :: b5 :: σ) H QG=QG (b0 :: b1 :: b2 :: b3 :: b4 :: some v :: σ) H:=rfl
theorem e_nam6 {v:V}{b0 b1 b2 b3 b4 b5 b6:Option V}:zJ 6 v (b0 :: b1 :: b2 :: b3 :: b4 :: b5 :: b6 :: σ) H QG=QG (b0 :: b1 :: b2 :: b3 :: b4 :: b5 :: some v :: σ) H:=rfl
theorem e_nam7 {v:V}{b0 b1 b2 b3 b4 b5 b6 b7:Option V}:zJ 7 v (b0 :: b1 :: b2 :: b3 :: b4 :: b5 :: b6 :: b7 :: σ) H QG=QG (b0 :: b1 :: b2 :: b3 :: b4 :: b5 :: b6 :: some v :: σ) H:=rfl
theorem e_nam8 {v:V}{b0 b1 b2 b3 b4 b5 b6 b7 b8:Option V}:zJ 8 v (b0 :: b1 :: b2 :: b3 :: b4 :: b5 :: b6 :: b7 :: b8 :: σ) H QG=QG (b0 :: b1 :: b2 :: b3 :: b4 :: b5 :: b6 :: b7 :: some v :: σ) H:=rfl
theorem e_nam9 {v:V}{b0 b1 b2 b3 b4 b5 b6 b7 b8 b9:Option V}:zJ 9 v (b0 :: b1 :: b2 :: b3 :: b4 :: b5 :: b6 :: b7 :: b8 :: b9 :: σ) H QG=QG (b0 :: b1 :: b2 :: b3 :: b4 :: b5 :: b6 :: b7 :: b8 :: some v :: σ) H:=rfl
theorem e_nam10 {v:V}{b0 b1 b2 b3 b4 b5 b6 b7 b8 b9 b10:Option V}:zJ 10 v (b0 :: b1 :: b2 :: b3 :: b4 :: b5 :: b6 :: b7 :: b8 :: b9 :: b10 :: σ) H QG=QG (b0 :: b1 :: b2 :: b3 :: b4 :: b5 :: b6 :: b7 :: b8 :: b9 :: some v :: σ) H:=rfl
theorem e_par {i j:Nat}{ta:TA}:tPar i j ta D σ H=ta σ H fun vs H1=>∃ v w,vs=[v,w]∧zJ i v σ H1 fun σ1 H2=>zJ j w σ1 H2 D.nx:=rfl
theorem e_ex2 {x y:V}{P:V→V→Prop}:(∃ v w,[x,y] = [v,w]∧P v w)=P x y:=propext ⟨fun ⟨_,_,e,q⟩=>by cases e;exact q,fun q=>⟨_,_,rfl,q⟩⟩
theorem e_gN:gNil [] σ H QG=QG σ H:=propext ⟨fun h=>h.2,fun h=>⟨rfl,h⟩⟩
theorem e_gC {t:TG}{u:TGs}{v:V}{r:List V}:gCons t u (v :: r) σ H QG=t v σ H fun σ' H'=>u r σ' H' QG:=propext ⟨fun ⟨_,_,e,q⟩=>by cases e;exact q,fun q=>⟨_,_,rfl,q⟩⟩
theorem e_rI0 {g:Int→Int→V}{i j:Int}:oJ g (.int i) (.int j) H Q=Q (g i j) H:=propext ⟨fun ⟨_,_,e,e',q⟩=>by cases e;cases e';exact q,fun q=>⟨_,_,rfl,rfl,q⟩⟩
theorem e_rI {C:Int→Int→Prop}{g:Int→Int→V}{i j:Int}:rI C g (.int i) (.int j) H Q=(C i j∧Q (g i j) H):=propext ⟨fun ⟨_,_,e,e',q⟩=>by cases e;cases e';exact q,fun q=>⟨_,_,rfl,rfl,q⟩⟩
theorem e_rU {g:Int→V}{i:Int}:rU g (.int i) H Q=Q (g i) H:=propext ⟨fun ⟨_,e,q⟩=>by cases e;exact q,fun q=>⟨_,rfl,q⟩⟩
theorem e_xB {b:Bool}{P:Bool→Prop}:(∃ k,V.bl b=V.bl k∧P k)=P b:=propext ⟨fun ⟨_,e,q⟩=>by cases e;exact q,fun q=>⟨_,rfl,q⟩⟩
theorem e_xI {b:Int}{P:Int→Prop}:(∃ k,V.int b=V.int k∧P k)=P b:=propext ⟨fun ⟨_,e,q⟩=>by cases e;exact q,fun q=>⟨_,rfl,q⟩⟩
theorem e_xJ {b:Int}{P:Int→Prop}:(∃ k,[V.int b] = [V.int k]∧P k)=P b:=propext ⟨fun ⟨_,e,q⟩=>by cases e;exact q,fun q=>⟨_,rfl,q⟩⟩
theorem e_xJ2 {a b:Int}{P:Int→Int→Prop}:(∃ j k,[V.int a,V.int b] = [V.int j,V.int k]∧P j k)=P a b:=propext ⟨fun ⟨_,_,e,q⟩=>by cases e;exact q,fun q=>⟨_,_,rfl,q⟩⟩
theorem e_rEq {a b:Int}:rEq (.int a) (.int b) H Q=Q (.bl (decide (a=b))) H:=by
 show (yY (.int a) (.int b)=true∧_)=_
 rw [show (decide (V.int a=V.int b))=decide (a=b) from decide_eq_decide.mpr ⟨fun e=>V.int.inj e,fun e=>by rw [e]⟩]
 exact propext ⟨fun h=>h.2,fun h=>⟨rfl,h⟩⟩
theorem e_rNe {a b:Int}:rNe (.int a) (.int b) H Q=Q (.bl (!decide (a=b))) H:=by
 show (yY (.int a) (.int b)=true∧_)=_
 rw [show (decide (V.int a=V.int b))=decide (a=b) from decide_eq_decide.mpr ⟨fun e=>V.int.inj e,fun e=>by rw [e]⟩]
 exact propext ⟨fun h=>h.2,fun h=>⟨rfl,h⟩⟩
theorem e_itT {a b:Prop}:(if true=true then a else b)=a:=rfl
theorem e_itF {a b:Prop}:(if false=true then a else b)=b:=rfl
theorem e_itD {p:Prop}[Decidable p]{a b:Prop}:(if decide p=true then a else b)=if p then a else b:=by by_cases h:p <;> simp [h]
end
class CtP (α:Type) where
 p:α→Prop
def OS {α:Type}(o:Option α)[c:CtP α] : Prop:=∃ x,o=some x∧c.p x
def OL (o:Option HO)[c:CtP (List V)] : Prop:=∃ x,o=some (.lst x)∧c.p x
def OT (o:Option HO)[c:CtP (List V)] : Prop:=∃ x,o=some (.tup x)∧c.p x
theorem e_os {α:Type}{x:α}{P:α→Prop} : @OS α (some x) ⟨P⟩=P x:=propext ⟨fun ⟨_,e,q⟩=>by cases e;exact q,fun q=>⟨x,rfl,q⟩⟩
theorem e_ol {x:List V}{P:List V→Prop} : @OL (some (.lst x)) ⟨P⟩=P x:=propext ⟨fun ⟨_,e,q⟩=>by cases e;exact q,fun q=>⟨x,rfl,q⟩⟩
theorem e_ot {x:List V}{P:List V→Prop} : @OT (some (.tup x)) ⟨P⟩=P x:=propext ⟨fun ⟨_,e,q⟩=>by cases e;exact q,fun q=>⟨x,rfl,q⟩⟩
theorem u_os {α:Type}{o:Option α}{P:α→Prop} : @OS α o ⟨P⟩ = ∃ x,o=some x∧P x:=rfl
theorem u_ol {o:Option HO}{P:List V→Prop} : @OL o ⟨P⟩ = ∃ x,o=some (.lst x)∧P x:=rfl
theorem u_ot {o:Option HO}{P:List V→Prop} : @OT o ⟨P⟩ = ∃ x,o=some (.tup x)∧P x:=rfl
section
variable {D:Ends}{σ:St}{H:Hp}{Q:VK}{QG:St→Hp→Prop}{a:Addr}{n k:Int}
theorem e_ix:rIx0 (.ref a) (.int n) H Q = @OS _ (sq H a) ⟨fun xs=>@OS _ (xH xs n) ⟨fun v=>Q v H⟩⟩:=propext ⟨fun ⟨_,xs,_,v,e,e',h,h',q⟩=>by cases e;cases e';exact ⟨xs,h,v,h',q⟩,fun ⟨xs,h,v,h',q⟩=>⟨_,xs,_,v,rfl,rfl,h,h',q⟩⟩
theorem e_setL {v:V}{q:Hp→Prop}:rSetL (.ref a) (.int k) v H q = @OL (H a) ⟨fun xs=>@OS _ (rX xs.length k) ⟨fun j=>q (upd H a (.lst (xs.set j v)))⟩⟩:=propext ⟨fun ⟨_,xs,_,v,e,e',h,h',q⟩=>by cases e;cases e';exact ⟨xs,h,v,h',q⟩,fun ⟨xs,h,v,h',q⟩=>⟨_,xs,_,v,rfl,rfl,h,h',q⟩⟩
theorem e_emit {p:Addr}{te:TE}:yW p te σ H QG=te σ H fun y H1=>@OL (H1 p) ⟨fun ys=>ys.length < sizeLine∧QG σ (upd H1 p (.lst (ys ++ [y])))⟩:=rfl
theorem e_f1 {α:Type}{f:Addr→Option α}{P:Addr→α→Prop}:(∃ p ys,[V.ref a] = [V.ref p]∧f p=some ys∧P p ys) = @OS _ (f a) ⟨fun ys=>P a ys⟩:=propext ⟨fun ⟨_,y,e,h,q⟩=>by cases e;exact ⟨y,h,q⟩,fun ⟨y,h,q⟩=>⟨_,y,rfl,h,q⟩⟩
theorem e_f2 {P:Addr→List V→Prop}:(∃ p ys,[V.ref a] = [V.ref p]∧H p=some (.lst ys)∧P p ys) = @OL (H a) ⟨fun ys=>P a ys⟩:=propext ⟨fun ⟨_,y,e,h,q⟩=>by cases e;exact ⟨y,h,q⟩,fun ⟨y,h,q⟩=>⟨_,y,rfl,h,q⟩⟩
theorem e_f3 {P:Addr→List V→Prop}:(∃ p ys,V.ref a=V.ref p∧H p=some (.lst ys)∧P p ys) = @OL (H a) ⟨fun ys=>P a ys⟩:=propext ⟨fun ⟨_,y,e,h,q⟩=>by cases e;exact ⟨y,h,q⟩,fun ⟨y,h,q⟩=>⟨_,y,rfl,h,q⟩⟩
theorem e_f4 {P:Addr→List V→Prop}:(∃ p ys,V.ref a=V.ref p∧H p=some (.tup ys)∧P p ys) = @OT (H a) ⟨fun ys=>P a ys⟩:=propext ⟨fun ⟨_,y,e,h,q⟩=>by cases e;exact ⟨y,h,q⟩,fun ⟨y,h,q⟩=>⟨_,y,rfl,h,q⟩⟩
theorem e_f5 {z:V}{P:List V→V→Prop}:(∃ ys y,[z] = [y]∧H a=some (.lst ys)∧P ys y) = @OL (H a) ⟨fun ys=>P ys z⟩:=propext ⟨fun ⟨y,_,e,h,q⟩=>by cases e;exact ⟨y,h,q⟩,fun ⟨y,h,q⟩=>⟨y,_,rfl,h,q⟩⟩
end
theorem e_g1 {a:Addr}{P:Addr→Prop}:(∃ p,[V.ref a] = [V.ref p]∧P p)=P a:=propext ⟨fun ⟨_,e,q⟩=>by cases e;exact q,fun q=>⟨_,rfl,q⟩⟩
theorem e_g2 {a:Addr}{P:Addr→Prop}:(∃ p,V.ref a=V.ref p∧P p)=P a:=propext ⟨fun ⟨_,e,q⟩=>by cases e;exact q,fun q=>⟨_,rfl,q⟩⟩
theorem e_g3 {H:Hp}{a:Addr}{P:List V→Prop}:(∃ x,sq H a=some x∧P x) = @OS _ (sq H a) ⟨P⟩:=rfl
theorem e_g4 {H:Hp}{a:Addr}{P:List V→Prop}:(∃ x,H a=some (.lst x)∧P x) = @OL (H a) ⟨P⟩:=rfl
theorem e_g5 {H:Hp}{a:Addr}{P:List V→Prop}:(∃ x,H a=some (.tup x)∧P x) = @OT (H a) ⟨P⟩:=rfl
theorem e_g7 {xs:List V}{n:Int}{P:V→Prop}:(∃ x,xH xs n=some x∧P x) = @OS _ (xH xs n) ⟨P⟩:=rfl
class CtS where
 f:St→Hp→Prop
def mG [c:CtS] : St→Hp→Prop:=c.f
theorem qK {f:St→Hp→Prop}{σ:St}{H:Hp} : @mG ⟨f⟩ σ H=f σ H:=rfl
theorem uE {t u:TS}{D:Ends}{σ:St}{H:Hp}:oZ t u D σ H=t { D with nx:=@mG ⟨u D⟩ } σ H:=rfl
theorem sc_ii {a b:Int}:yY (.int a) (.int b)=true:=rfl
theorem sc_bb {a b:Bool}:yY (.bl a) (.bl b)=true:=rfl
theorem sc_ss {a b:Str}:yY (.str a) (.str b)=true:=rfl
theorem sc_nn:yY .non .non=true:=rfl
theorem sc_in {a:Int}:yY (.int a) .non=true:=rfl
theorem sc_ni {a:Int}:yY .non (.int a)=true:=rfl
theorem sc_bn {a:Bool}:yY (.bl a) .non=true:=rfl
theorem sc_nb {a:Bool}:yY .non (.bl a)=true:=rfl
theorem sc_sn {a:Str}:yY (.str a) .non=true:=rfl
theorem sc_ns {a:Str}:yY .non (.str a)=true:=rfl
theorem sc_is {a:Int}{b:Str}:yY (.int a) (.str b)=true:=rfl
theorem sc_si {a:Int}{b:Str}:yY (.str b) (.int a)=true:=rfl
theorem sc_bs {a:Bool}{b:Str}:yY (.bl a) (.str b)=true:=rfl
theorem sc_sb {a:Bool}{b:Str}:yY (.str b) (.bl a)=true:=rfl
end L2
end
section
namespace L2
open PySem PySem.Spec
open PyProof.Rows hiding Fr News
section
variable {X:Cx}
theorem iY {ns ms:List Int}(h:ns.length=ms.length):((List.range ns.length).all fun j=>decide (ns.getD j 0=ms.getD j 0))=decide (ns=ms):=by
 have e:=cR ns ms
 rw [h,CG,Cb,Bool.and_true] at e
 rw [h]
 exact e
theorem eqAt_li {pins:List (Addr × Obj)}{σ:St}{H:Hp}{s:Shared}{A:Around}{a b:Addr}{ns ms:List Int}(I:Inv X pins σ H s)(ha:H a=some (.lst (ns.map V.int)))(hb:H b=some (.lst (ms.map V.int)))(hu:A.units < cLine):SeqAt.EqAt A s (.ref a) (.ref b) (decide (ns=ms)):=by
 by_cases hab:a=b
 ·subst hab
  rw [ha] at hb
  have e:ns.map V.int=ms.map V.int:=by injection hb with h;injection h
  have:ns=ms:=BO (fun _ _ h=>by injection h) |>.mp e
  rw [A2 this]
  exact C2 _
 ·refine SeqAt.EqAt.of_refs hab ?_
  obtain ⟨its,r1,p1,_⟩:=I.list (SqL.of ha)
  obtain ⟨its2,r2,p2,_⟩:=I.list (SqL.of hb)
  have l1:=r1.length
  have l2:=r2.length
  rw [Aa] at l1 l2
  by_cases c:ns.length=ms.length
  ·have r:=SeqAt.RcAt.lists (A:=A) (s:=s) (e:=fun j=>decide (ns.getD j 0=ms.getD j 0)) p1.isList p2.isList (by simp;omega) hu (fun j h1 h2=>by
    have h1':j < its.length:=by simpa using h1
    have h2':j < its2.length:=by simpa using h2
    obtain ⟨t,e1⟩:=jF r1 (i:=j) (v:=its[j]) (by simp [h1'])
    obtain ⟨u,e2⟩:=jF r2 (i:=j) (v:=its2[j]) (by simp [h2'])
    have key:SeqAt.EqAt A.in1 s its[j] its2[j] (sP (.int (ns.getD j 0)) (.int (ms.getD j 0))):=fV ⟨t,e1⟩ ⟨u,e2⟩ rfl rfl
    have e:sP (.int (ns.getD j 0)) (.int (ms.getD j 0))=decide (ns.getD j 0=ms.getD j 0):=by
     show (ns.getD j 0 == ms.getD j 0)=_
     rfl
    rw [e] at key
    simpa using key)
   rw [Ak,← l1,iY c] at r
   exact r
  ·rw [Ai (fun z=>c (AW List.length z))]
   exact SeqAt.RcAt.lists_lengths p1.isList p2.isList (by simp;omega) hu
theorem refsAt {xs:List (Addr × List Int)}{its:List Value}(vi:Vals (xs.map fun x=>V.ref x.1) its):its=xs.map fun x=>Value.ref x.1:=by
 have hlen:xs.length=its.length:=by simpa using vi.length
 refine Ca (by simpa using hlen.symm) fun i h1 h2=>?_
 obtain ⟨u,hu,ru⟩:=vi.get (i:=i) (x:=V.ref (xs[i]'(by omega)).1) (by simp [show i < xs.length by omega])
 rw [Ag h1] at hu
 rw [A9 hu,Cu]
 exact ru
theorem rows_all {xs ys:List (List Int)}(h:xs.length=ys.length):((List.range xs.length).all fun j=>decide (xs.getD j [] = ys.getD j []))=decide (xs=ys):=by
 rw [Bs,Bu,Bb]
 simp only [AU,Bb]
 constructor
 ·intro k
  refine Ca h fun i h1 h2=>?_
  have:=k i h1
  rwa [Ab,Ab,Ag h1,Ag h2] at this
 ·rintro rfl j _
  rfl
theorem eqAt_lt {pins:List (Addr × Obj)}{σ:St}{H:Hp}{s:Shared}{A:Around}{a b:Addr}{xs ys:List (Addr × List Int)}(I:Inv X pins σ H s)(ha:H a=some (.lst (xs.map fun x=>V.ref x.1)))(hb:H b=some (.lst (ys.map fun x=>V.ref x.1)))(tx:∀ x ∈ xs,H x.1=some (.tup (x.2.map V.int)))(ty:∀ x ∈ ys,H x.1=some (.tup (x.2.map V.int)))(hu:A.units + 1 < cLine):SeqAt.EqAt A s (.ref a) (.ref b) (decide (xs.map (·.2)=ys.map (·.2))):=by
 by_cases hab:a=b
 ·subst hab
  rw [ha] at hb
  have e:(xs.map fun x=>V.ref x.1)=ys.map fun x=>V.ref x.1:=by injection hb with h;injection h
  have hl:xs.length=ys.length:=by have:=AW List.length e;simpa using this
  have:xs.map (·.2)=ys.map (·.2):=by
   refine Ca (by simpa using hl) fun i h1 h2=>?_
   have j1:i < xs.length:=by simpa using h1
   have j2:i < ys.length:=by simpa using h2
   have q:=AW (fun l=>l[i]?) e
   simp only [Af,Ag j1,Ag j2,BR,Option.some.injEq,V.ref.injEq] at q
   have a1:=tx _ (AK j1)
   have a2:=ty _ (AK j2)
   rw [q,a2] at a1
   injection a1 with h
   injection h with h
   rw [Cu,Cu]
   exact (BO (fun _ _ h=>by injection h) |>.mp h).symm
  rw [A2 this]
  exact C2 _
 ·refine SeqAt.EqAt.of_refs hab ?_
  obtain ⟨its,r1,p1,_⟩:=I.list (SqL.of ha)
  obtain ⟨its2,r2,p2,_⟩:=I.list (SqL.of hb)
  have e1:=refsAt r1
  have e2:=refsAt r2
  subst e1 e2
  by_cases c:xs.length=ys.length
  ·have r:=SeqAt.RcAt.lists (A:=A) (s:=s) (e:=fun j=>decide ((xs.map (·.2)).getD j [] = (ys.map (·.2)).getD j [])) p1.isList p2.isList (by simpa using c) (by omega) (fun j h1 h2=>by
    have j1:j < xs.length:=by simpa using h1
    have j2:j < ys.length:=by simpa using h2
    have g1:(xs.map (·.2)).getD j [] = xs[j].2:=by rw [Ab,Af,Ag j1];rfl
    have g2:(ys.map (·.2)).getD j [] = ys[j].2:=by rw [Ab,Af,Ag j2];rfl
    rw [g1,g2]
    simp only [List.getElem_toArray,Cu]
    exact d9 I (tx _ (AK j1)) (ty _ (AK j2)) (by show A.units + 1 < cLine;omega))
   have e:=rows_all (xs:=xs.map (·.2)) (ys:=ys.map (·.2)) (by simpa using c)
   rw [Ak,Aa] at r
   rw [Aa] at e
   rw [e] at r
   exact r
  ·rw [Ai (fun z=>c (by have:=AW List.length z;simpa using this))]
   exact SeqAt.RcAt.lists_lengths p1.isList p2.isList (by simpa using c) (by omega)
def rNeGr:R2:=fun x y H Q=>∃ (a b a1 a2 b1 b2:Addr) (n1 m1:List Int) (n2 m2:List (Addr × List Int)),x = .ref a∧y = .ref b∧H a=some (.tup [.ref a1,.ref a2])∧H b=some (.tup [.ref b1,.ref b2])∧H a1=some (.lst (n1.map V.int))∧H a2=some (.lst (n2.map fun x=>V.ref x.1))∧H b1=some (.lst (m1.map V.int))∧H b2=some (.lst (m2.map fun x=>V.ref x.1))∧(∀ x ∈ n2,H x.1=some (.tup (x.2.map V.int)))∧(∀ x ∈ m2,H x.1=some (.tup (x.2.map V.int)))∧Q (.bl (!(decide (n1=m1) && decide (n2.map (·.2)=m2.map (·.2))))) H
theorem a_rNeGr {x y:V}{H:Hp}{Q:VK}:rNeGr x y H Q = ∃ (a b a1 a2 b1 b2:Addr) (n1 m1:List Int) (n2 m2:List (Addr × List Int)),x = .ref a∧y = .ref b∧H a=some (.tup [.ref a1,.ref a2])∧H b=some (.tup [.ref b1,.ref b2])∧H a1=some (.lst (n1.map V.int))∧H a2=some (.lst (n2.map fun x=>V.ref x.1))∧H b1=some (.lst (m1.map V.int))∧H b2=some (.lst (m2.map fun x=>V.ref x.1))∧(∀ x ∈ n2,H x.1=some (.tup (x.2.map V.int)))∧(∀ x ∈ m2,H x.1=some (.tup (x.2.map V.int)))∧Q (.bl (!(decide (n1=m1) && decide (n2.map (·.2)=m2.map (·.2))))) H:=rfl
theorem neGr0 (hu:X.A.units + 64 < cLine):vR X (compareOp .NotEq) rNeGr:=by
 intro pins s σ H x y v u Q I rx ry h
 obtain ⟨a,b,a1,a2,b1,b2,n1,m1,n2,m2,rfl,rfl,ha,hb,ha1,ha2,hb1,hb2,t1,t2,q⟩:=h
 cases rx
 cases ry
 obtain ⟨its,r1,p1,_⟩:=I.tuple (SqT.of ha)
 obtain ⟨its2,r2,p2,_⟩:=I.tuple (SqT.of hb)
 obtain ⟨u1,u2,rfl,e1,e2⟩:=r1.two
 obtain ⟨v1,v2,rfl,f1,f2⟩:=r2.two
 cases e1
 cases e2
 cases f1
 cases f2
 obtain ⟨⟨c1,d1,da1,sl1⟩,o1,k1,n1',g1⟩:=id p1
 obtain ⟨⟨c2,d2,da2,sl2⟩,o2,k2,n2',g2⟩:=id p2
 simp only at k1 g1 k2 g2
 subst k1 g1 k2 g2
 refine richCompare_meets_room (op:=.NotEq) ⟨_,o1,rfl⟩ ⟨_,o2,rfl⟩ F.slot_tuple_ne F.entry_tuple_ne (F.args_tuple_ne_2 _ _) (tuple_neAt a b _ _ n1' n2' d1 d2 sl1 sl2 fun j=>if j=0 then decide (n1=m1) else decide (n2.map (·.2)=m2.map (·.2))) ⟨o1,o2,fun j h1 h2=>?_,?_⟩ (by omega)
 ·have hj:j=0∨j=1:=by
   have:j < 2:=by simpa using h1
   omega
  rcases hj with rfl | rfl
  ·refine eqAt_li I ha1 hb1 ?_
   simp only [BL]
   omega
  ·refine eqAt_lt I ha2 hb2 t1 t2 ?_
   simp only [BL]
   omega
 ·refine ⟨(fun z=>nomatch z),⟨.bl (!(decide (n1=m1) && decide (n2.map (·.2)=m2.map (·.2)))),H,I,?_,q⟩⟩
  simp [Bt]
  rfl
def rEqPP:R2:=fun x y H Q=>∃ (a b a1 a2 b1 b2:Addr) (n1 n2 m1 m2:List Int),x = .ref a∧y = .ref b∧H a=some (.tup [.ref a1,.ref a2])∧H b=some (.tup [.ref b1,.ref b2])∧H a1=some (.tup (n1.map V.int))∧H a2=some (.tup (n2.map V.int))∧H b1=some (.tup (m1.map V.int))∧H b2=some (.tup (m2.map V.int))∧Q (.bl (decide (n1=m1) && decide (n2=m2))) H
theorem a_rEqPP {x y:V}{H:Hp}{Q:VK}:rEqPP x y H Q = ∃ (a b a1 a2 b1 b2:Addr) (n1 n2 m1 m2:List Int),x = .ref a∧y = .ref b∧H a=some (.tup [.ref a1,.ref a2])∧H b=some (.tup [.ref b1,.ref b2])∧H a1=some (.tup (n1.map V.int))∧H a2=some (.tup (n2.map V.int))∧H b1=some (.tup (m1.map V.int))∧H b2=some (.tup (m2.map V.int))∧Q (.bl (decide (n1=m1) && decide (n2=m2))) H:=rfl
theorem eqPP0 (hu:X.A.units + 64 < cLine):vR X (compareOp .Eq) rEqPP:=by
 intro pins s σ H x y v u Q I rx ry h
 obtain ⟨a,b,a1,a2,b1,b2,n1,n2,m1,m2,rfl,rfl,ha,hb,ha1,ha2,hb1,hb2,q⟩:=h
 cases rx
 cases ry
 obtain ⟨its,r1,p1,_⟩:=I.tuple (SqT.of ha)
 obtain ⟨its2,r2,p2,_⟩:=I.tuple (SqT.of hb)
 obtain ⟨u1,u2,rfl,e1,e2⟩:=r1.two
 obtain ⟨v1,v2,rfl,f1,f2⟩:=r2.two
 cases e1
 cases e2
 cases f1
 cases f2
 refine SeqAt.eq_tupleAt (e:=fun j=>if j=0 then decide (n1=m1) else decide (n2=m2)) (show s.heap.IsTuple a _ from p1) (show s.heap.IsTuple b _ from p2) (by omega) (fun j h1 h2=>?_) ⟨.bl (decide (n1=m1) && decide (n2=m2)),H,I,?_,q⟩
 ·have hj:j=0∨j=1:=by
   have:j < 2:=by simpa using h1
   omega
  rcases hj with rfl | rfl
  ·refine d9 I ha1 hb1 ?_
   simp only [BL]
   omega
  ·refine d9 I ha2 hb2 ?_
   simp only [BL]
   omega
 ·simp [Bt]
  rfl
end
end L2
end
section
set_option maxRecDepth 1000000
set_option maxHeartbeats 8000000
section
open PySem L2
set_option hygiene false in
local macro_rules | `(tactic| push_cast [$as,*]) => `(tactic| (try simp only [↓e_var0, ↓e_var1, ↓e_var2, ↓e_var3, ↓e_var4, ↓e_var5, ↓e_var6, ↓e_var7, ↓e_var8, ↓e_var9, ↓e_var10, ↓e_nam0, ↓e_nam1, ↓e_nam2, ↓e_nam3, ↓e_nam4, ↓e_nam5, ↓e_nam6, ↓e_nam7, ↓e_nam8, ↓e_nam9, ↓e_nam10, ↓e_par, ↓e_ex2, ↓e_gN, ↓e_gC, ↓e_rI0, ↓e_rI, ↓e_rU, ↓e_xB, ↓e_xI, ↓e_xJ, ↓e_xJ2, ↓e_rEq, ↓e_rNe, ↓e_itT, ↓e_itF, ↓e_itD, ↓e_ix, ↓e_setL, ↓e_emit, ↓e_f1, ↓e_f2, ↓e_f3, ↓e_f4, ↓e_f5, ↓uE, ↓e_g1, ↓e_g2, e_os, e_ol, e_ot, HO.dT.injEq, ↓a_tNever, ↓a_iEz, V.str.injEq, HO.dK.injEq, ↓a_rEqNil, ↓a_tTruL, ↓a_tRevL, ↓a_iS0, ↓a_tPop0, ↓a_tCalK, g3r_is, g2r_is, g2_is, g1_is, ↓a_rNePP, ↓a_iEnum, ↓a_rNeNil, ↓a_tRem, ↓a_tChain, ↓a_tDict, ↓a_tLstA, ↓a_rMulT, ↓a_rEqT, ↓a_tLC2, ↓a_tLC3, ↓a_tInner, ↓a_tIns, ↓a_tRev, ↓a_rSlA, ↓a_rCatA, ↓a_rCatL, ↓a_tSeq, ↓a_tFor, ↓a_rIxL, ↓a_iZip, ↓a_tSortR, ↓a_tSl, ↓a_rSlL0, ↓oI, ↓a_tPart, ↓a_tApp, ↓a_tRet, ↓a_tRetN, ↓a_tNext, ↓a_tDrop, ↓a_tAsg, ↓a_gSub, a_gName, a_gNil, a_gCons, ↓a_gTup0, a_rSetL, ↓a_tIfS, ↓a_tAnd, ↓a_tOr, ↓a_tNot, ↓a_tTest, ↓a_tB, ↓a_tTrue, ↓a_tIf, ↓a_tAndV, ↓a_tOrV, ↓a_tNotV, ↓a_tOp, ↓a_tUn, a_rU, a_tVar, ↓a_tC, a_rI0, a_rI, a_rEq, a_rNe, a_rIx0, ↓a_rIn0, ↓a_tCB, ↓a_tCal, ↓a_tCons, ↓a_tNil, ↓a_tTupA, ↓a_tLst, a_tPar, ↓a_tBits, ↓a_tLC, ↓a_iRng1, ↓a_iRng2, ↓a_iT0, ↓a_iL0, a_tEmit, mJ, sc_ii, sc_bb, sc_ss, sc_nn, sc_in, sc_ni, sc_bn, sc_nb, sc_sn, sc_ns, sc_is, sc_si, sc_bs, sc_sb, V.ty.injEq, zM, subN, String.reduceEq, String.reduceBEq, Bool.true_or, Bool.false_or, Bool.or_false, Bool.true_and, Bool.false_and, Bool.and_false, or_true, true_or, beq_self_eq_true, decide_true, decide_false, List.map_cons, List.map_nil, List.length_cons, List.length_nil, List.getElem?_cons_zero, List.getElem?_cons_succ, List.getElem?_nil, List.set_cons_zero, List.set_cons_succ, Option.some.injEq, Option.bind_some, Option.bind_none, id, exists_eq_left', exists_eq_left, exists_and_left, exists_eq_right, V.int.injEq, V.bl.injEq, V.ref.injEq, List.cons.injEq, and_true, true_and, and_assoc, exists_const, atI0, atI1, atI2, ixN30, ixN31, ixN32, qH, upd_upd, sq_updL, sq_updT, Nat.zero_add, Nat.reduceAdd, reduceCtorEq, false_and, and_false, exists_false, false_or, or_false, List.length_map, HO.lst.injEq, HO.tup.injEq, Bool.false_eq_true, if_false, if_true, decide_eq_true_eq, ite_true, ite_false, reduceIte, Int.reduceLT, Int.reduceLE, Nat.reduceLT, Int.zero_add, Bool.not_true, Bool.not_false, $as,*]))
set_option hygiene false in
local macro_rules | `(tactic| push_cast only [$as,*]) => `(tactic| ((push_cast [↓e_g3, ↓e_g4, ↓e_g5, ↓e_g7, $as,*]); (push_cast [u_os, u_ol, u_ot, $as,*])))
set_option hygiene false in
local macro_rules | `(tactic| omega) => `(tactic| first | (with_reducible first | assumption | (refine Nat.lt_of_lt_of_le ?_ (show 2 ^ _ ≤ 32 from p32); assumption) | (refine Nat.lt_of_lt_of_le ?_ p32.1; assumption) | (refine Nat.lt_of_lt_of_le ?_ m5; assumption) | (refine Nat.lt_of_lt_of_le ?_ p5; assumption)) | lia)
section
set_option maxHeartbeats 4000000
namespace K60
open PySem L2
def top (i:Nat):Stmt:=PySem.Challenge.pw_wantprices_k60_steps_from_below_judged.main.body.getD i (.Pass ⟨0,0,0,0⟩)
abbrev s_has:Stmt:=top 1
abbrev s_put_in:Stmt:=top 2
abbrev s_heap_of:Stmt:=top 3
abbrev s_heap_of_side:Stmt:=top 4
abbrev s_turned:Stmt:=top 6
abbrev s_breaking:Stmt:=top 7
abbrev s_first_pair:Stmt:=top 8
abbrev s_first_three:Stmt:=top 9
abbrev s_things_beside:Stmt:=top 10
abbrev s_pairs_beside:Stmt:=top 11
abbrev s_pair_breaks:Stmt:=top 12
abbrev s_three_break:Stmt:=top 13
abbrev s_parted:Stmt:=top 14
abbrev s_first_strange:Stmt:=top 15
abbrev s_stepped:Stmt:=top 17
abbrev s_step_of:Stmt:=top 18
abbrev s_heaps_that_may:Stmt:=top 19
abbrev s_is_whole:Stmt:=top 21
abbrev s_are_wholes:Stmt:=top 22
abbrev s_costs:Stmt:=top 24
abbrev s_gains:Stmt:=top 25
abbrev s_greatest_gain:Stmt:=top 26
abbrev s_best_heaps:Stmt:=top 27
abbrev s_in_parts:Stmt:=top 29
abbrev s_surplus:Stmt:=top 30
abbrev s_steps_of:Stmt:=top 32
abbrev s_first_prices:Stmt:=top 33
abbrev s_steps_on:Stmt:=top 34
abbrev s_ground_of:Stmt:=top 35
abbrev s_next_step:Stmt:=top 36
abbrev s_shows_rising:Stmt:=top 38
abbrev s_is_way:Stmt:=top 39
abbrev s_is_way_below:Stmt:=top 40
abbrev s_led_by:Stmt:=top 41
abbrev s__law_stirred:Stmt:=top 43
abbrev s__law_pot:Stmt:=top 44
abbrev s__law_draw:Stmt:=top 45
abbrev s__law_costs:Stmt:=top 46
abbrev s__law_bits:Stmt:=top 47
abbrev s__law_sides:Stmt:=top 48
abbrev s__law_some:Stmt:=top 49
abbrev s__law_paired:Stmt:=top 50
abbrev s__law_joined:Stmt:=top 51
abbrev s__law_kind_want:Stmt:=top 52
abbrev s__law_kind_town:Stmt:=top 53
abbrev s__law_surplus:Stmt:=top 54
abbrev s__law_behind:Stmt:=top 55
abbrev s__law_least_step:Stmt:=top 56
abbrev s__law_first:Stmt:=top 57
abbrev s__law_steps:Stmt:=top 58
abbrev s__law_same:Stmt:=top 59
abbrev s__law_put:Stmt:=top 60
abbrev s__law_bent:Stmt:=top 61
abbrev s_law:Stmt:=top 62
structure Txt (mg:Str→Option Value):Prop where
 len_:mg "len" = none
 sum_:mg "sum" = none
 isinstance_:mg "isinstance" = none
 abs_:mg "abs" = none
 max_:mg "max" = none
 range_:mg "range" = none
 tuple_:mg "tuple" = none
 list_:mg "list" = none
 sorted_:mg "sorted" = none
 int_:mg "int" = none
 bool_:mg "bool" = none
 zip_:mg "zip" = none
 min_:mg "min" = none
 all_:mg "all" = none
 enumerate_:mg "enumerate" = none
section
variable {P:Program}{w:World}{K:PySem.W.Frag}{mg:Str→Option Value}{base:Heap}{f:Addr}{fd:FuncData}
theorem jG {l:Addr}{H H1:Hp}(s:Same H H1)(n:H1 l=none):H l=none:=by
 cases e:H l with
 | none=>rfl
 | some o=>rw [s _ _ e] at n;cases n
theorem aW:rX 4 1=some 1:=rfl
theorem ixN42:rX 4 2=some 2:=rfl
theorem ixN43:rX 4 3=some 3:=rfl
theorem atI3 {α:Type}(a b c d:α)(l:List α):xH (a :: b :: c :: d :: l) 3=some d:=zL (j:=3) (xs:=a :: b :: c :: d :: l) rfl
def Pot (H:Hp)(p q:Addr):Prop:=p ≠ q∧∃ (cs:List Int) (a b c:Int),H p=some (.lst [.ref q,.int a,.int b,.int c])∧H q=some (.lst (cs.map V.int))
def But2 (p q:Addr)(H H':Hp):Prop:=∀ b,b ≠ p→b ≠ q→H' b=H b
def SameY (p q:Addr)(H H':Hp):Prop:=∀ b o,b ≠ p→b ≠ q→H b=some o→H' b=some o
theorem SameY.refl {p q:Addr}{H:Hp}:SameY p q H H:=fun _ _ _ _ e=>e
theorem SameY.trans {p q:Addr}{H H1 H2:Hp}(a:SameY p q H H1)(b:SameY p q H1 H2):SameY p q H H2:=fun c o n1 n2 e=>b c o n1 n2 (a c o n1 n2 e)
theorem But2.y {p q:Addr}{H H':Hp}(h:But2 p q H H'):SameY p q H H':=fun b o n1 n2 e=>by rw [h b n1 n2];exact e
theorem jR {p q:Addr}{H H':Hp}(h:Same H H'):SameY p q H H':=fun b o _ _ e=>h b o e
theorem Pot.same {H H':Hp}{p q:Addr}(h:Pot H p q)(s:Same H H'):Pot H' p q:=by
 obtain ⟨n,cs,a,b,c,e1,e2⟩:=h
 exact ⟨n,cs,a,b,c,s _ _ e1,s _ _ e2⟩
theorem Pot.ne {H:Hp}{p q c:Addr}(h:Pot H p q)(n:H c=none):p ≠ c∧q ≠ c:=by
 obtain ⟨_,cs,a,b,c',e1,e2⟩:=h
 exact ⟨qE e1 n,qE e2 n⟩
theorem Pot.upd {H:Hp}{p q c:Addr}{o:HO}(h:Pot H p q)(n1:p ≠ c)(n2:q ≠ c):Pot (L2.upd H c o) p q:=by
 obtain ⟨n,cs,a,b,c',e1,e2⟩:=h
 exact ⟨n,cs,a,b,c',by rw [qS n1];exact e1,by rw [qS n2];exact e2⟩
theorem Pot.net {H:Hp}{p q t:Addr}{xs:List V}(h:Pot H p q)(e:H t=some (.tup xs)):t ≠ p∧t ≠ q:=by
 obtain ⟨_,cs,a,b,c',e1,e2⟩:=h
 constructor
 ·rintro rfl
  rw [e1] at e
  cases e
 ·rintro rfl
  rw [e2] at e
  cases e
theorem none_y {p q l:Addr}{H H1:Hp}(s:SameY p q H H1)(n:H1 l=none)(n1:l ≠ p)(n2:l ≠ q):H l=none:=by
 cases e:H l with
 | none=>rfl
 | some o=>rw [s _ _ n1 n2 e] at n;cases n
def uY:Sp:=fun vs H Q _=>∃ n t:Int,vs=[.int n,.int t]∧∀ z:Int,Q (.int z) H
theorem vN:FnScope ["_law_number", "_law_turn", "_law_once"] ["_law_number", "_law_turn"] (qF s__law_stirred):=⟨rfl,rfl,rfl,by decide +kernel,rfl,by decide +kernel,by decide +kernel⟩
theorem ok_stir (F:Fun K "_law_stirred" "_law_stirred" s__law_stirred f fd) (hm:mg "_law_stirred" = some (.ref f)) (hb:Binds K fd ["_law_number", "_law_turn"] []) (T:Txt mg):Cal P w K mg base "_law_stirred" ["_law_number", "_law_turn"] 1 uY:=by
 refine q4 F hm hb vN (fun vs H Q E h=>?_) (fun cdv A outer s H vs Q E hr h=>?_)
 ·obtain ⟨_,_,rfl,_⟩:=h;rfl
 ·obtain ⟨n,t,rfl,q⟩:=h
  have sc:=vN
  refine ⟨_,kC (qY (i:=2) sc.nd rfl (Or.inl rfl) (qV yU (qV xU (qV kW (qV kW (qV yU (pv 0) qG) (qV xU qG (pv 1))) qG) qG) qG))
   (qI (qU (qV yU (qV xU (qV kW (qV kW (qV xU (pv 2) (pv 2)) (qV xU qG (pv 1))) (qV xV (pv 2) qG)) qG) qG))),?_⟩
  rw [show L2.start ["_law_number", "_law_turn", "_law_once"] [.int n,.int t] = [some (.int n),some (.int t),none] from rfl]
  (push_cast only [])
  have cm:∀ a:Int,CMul (a % 2147483647) (a % 2147483647):=fun a=>.inl ⟨by have:=Int.emod_nonneg a (show (2147483647:Int) ≠ 0 by decide);omega,by have:=Int.emod_lt_of_pos a (show (0:Int) < 2147483647 by decide);omega⟩
  exact ⟨.inl ⟨by decide,by decide⟩,.inr ⟨by decide,by decide⟩,cm _,.inl ⟨by decide,by decide⟩,⟨by decide,by decide⟩,.inr ⟨by decide,by decide⟩,q _⟩
def sp_pot (K:PySem.W.Frag):Sp:=fun vs H Q _=>∃ (a:Addr) (ns:List Int),vs=[.ref a]∧Scr K a ns H∧∀ (p q:Addr) (H':Hp),H p=none→H q=none→Same H H'→Pot H' p q→Q (.ref p) H'
theorem wH:FnScope ["_law_script"] ["_law_script"] (qF s__law_pot):=⟨rfl,rfl,rfl,by decide +kernel,rfl,by decide +kernel,by decide +kernel⟩
theorem ok_pot (F:Fun K "_law_pot" "_law_pot" s__law_pot f fd) (hm:mg "_law_pot" = some (.ref f)) (hb:Binds K fd ["_law_script"] []) (T:Txt mg):Cal P w K mg base "_law_pot" ["_law_script"] 1 (sp_pot K):=by
 refine q4 F hm hb wH (fun vs H Q E h=>?_) (fun cdv A outer s H vs Q E hr h=>?_)
 ·obtain ⟨_,_,rfl,_⟩:=h;rfl
 ·obtain ⟨a,ns,rfl,hq,q⟩:=h
  have sc:=wH
  refine ⟨_,qI (qU (kZ (qA (kM listS0 rfl T.list_ pA (lJ (pv 0) qD)) (qA qG (qA qG (qA qG qD)))))),?_⟩
  rw [show L2.start ["_law_script"] [.ref a] = [some (.ref a)] from rfl]
  (push_cast only [])
  refine ⟨_,hq,fun l H1 n1 s1 e1=>⟨by decide,fun p H2 n2 s2 e2=>?_⟩⟩
  have nlp:p ≠ l:=fun q=>by rw [q,e1] at n2;cases n2
  exact q p l H2 (jG s1 n2) n1 (s1.trans s2) ⟨nlp,ns,0,7,0,e2,s2 _ _ e1⟩
def bN:Sp:=fun vs H Q _=>∃ (p q:Addr) (many:Int),vs=[.ref p,.int many]∧Pot H p q∧0 < many∧many < 1073741824∧∀ (r:Int) (H':Hp),0 ≤ r→r < many→Pot H' p q→But2 p q H H'→Q (.int r) H'
theorem dW:FnScope ["_law_pot_here", "_law_many", "_law_cell", "_law_digit"] ["_law_pot_here", "_law_many"] (qF s__law_draw):=⟨rfl,rfl,rfl,by decide +kernel,rfl,by decide +kernel,by decide +kernel⟩
theorem ok_draw (F:Fun K "_law_draw" "_law_draw" s__law_draw f fd) (hm:mg "_law_draw" = some (.ref f)) (hb:Binds K fd ["_law_pot_here", "_law_many"] []) (T:Txt mg) (c__law_stirred:Cal P w K mg base "_law_stirred" ["_law_number", "_law_turn"] 1 uY):Cal P w K mg base "_law_draw" ["_law_pot_here", "_law_many"] 2 bN:=by
 refine q4 F hm hb dW (fun vs H Q E h=>?_) (fun cdv A outer s H vs Q E hr h=>?_)
 ·obtain ⟨_,_,_,rfl,_⟩:=h;rfl
 ·obtain ⟨p,q',many,rfl,⟨npq,cs,ga,gb,gc,hp,hq'⟩,h1,h2,q⟩:=h
  have sc:=dW
  refine ⟨_,qJ (xP (qV kW (q9 zF (pv 0) qG (fun _ _=>rfl)) qG) (lI (pv 0) qG set_list))
   (qJ (j8 (PW.pt (yR (q5 jW (q9 zF (pv 0) qG (fun _ _=>rfl)) qG (qZ _)) (xO (q5 nF (qM len0 rfl T.len_ kX (qA (q9 zF (pv 0) qG (fun _ _=>rfl)) qD)) qG (qZ _))))) (qJ (qY (i:=2) sc.nd rfl (Or.inl rfl) (pe_pop0 (q9 zF (pv 0) qG (fun _ _=>rfl)) (qA qG qD)))
   (qJ (xP (qL c__law_stirred hr (qA (qV kW (q9 zF (pv 0) qG (fun _ _=>rfl)) (pv 2)) (qA (qM len0 rfl T.len_ kX (qA (q9 zF (pv 0) qG (fun _ _=>rfl)) qD)) qD))) (lI (pv 0) qG set_list))
   (qI (j8 (q5 op_ge (qM sJ rfl T.abs_ bt_abs (qA (pv 2) qD)) (qV op_pow qG qG) (qZ _)) (qI (xP (qV yU (qM sJ rfl T.abs_ bt_abs (qA (pv 2) qD)) (qV op_pow qG qG)) (lI (pv 0) qG set_list))) jB)))) jB)
   (qJ (j8 (q5 nF (q9 zF (pv 0) qG (fun _ _=>rfl)) qG (qZ _)) (qJ (qY (i:=3) sc.nd rfl (Or.inl rfl) (qV yU (q9 zF (pv 0) qG (fun _ _=>rfl)) (pv 1)))
   (qJ (xP (qV xV (q9 zF (pv 0) qG (fun _ _=>rfl)) (pv 1)) (lI (pv 0) qG set_list))
   (qI (qU (pv 3))))) jB)
   (qI (qU (qV yU (qV xV (qL c__law_stirred hr (qA (q9 zF (pv 0) qG (fun _ _=>rfl)) (qA (q9 zF (pv 0) qG (fun _ _=>rfl)) qD))) qG) (pv 1)))))),?_⟩
  have hs:=kD hp
  rw [show L2.start ["_law_pot_here", "_law_many", "_law_cell", "_law_digit"] [.ref p,.int many] = [some (.ref p),some (.int many),none,none] from rfl]
  (push_cast only [hs,hp,ixN43,atI3])
  have e1:upd H p (.lst [.ref q',.int ga,.int gb,.int (gc + 1)]) p=some (.lst [.ref q',.int ga,.int gb,.int (gc + 1)]):=qH
  have k1:upd H p (.lst [.ref q',.int ga,.int gb,.int (gc + 1)]) q'=some (.lst (cs.map V.int)):=by rw [qS npq.symm];exact hq'
  have b1:But2 p q' H (upd H p (.lst [.ref q',.int ga,.int gb,.int (gc + 1)])):=fun b n1 _=>qS n1
  revert e1 k1 b1
  generalize upd H p (.lst [.ref q',.int ga,.int gb,.int (gc + 1)])=H1
  generalize gc + 1=gd
  intro e1 k1 b1
  have s1:=kD e1
  (simp only [qK])
  rw [uE]
  generalize hct:(CtS.mk _)=ct
  have tail:∀ (v2:Option V) (ga gb:Int) (cs:List Int) (G:Hp),But2 p q' H G→G p=some (.lst [.ref q',.int ga,.int gb,.int gd])→G q'=some (.lst (cs.map V.int))→@mG ct [some (.ref p),some (.int many),v2,none] G:=fun v2 ga gb cs G bt ep eq=>by
   subst hct
   have sp:=kD ep
   (simp only [qK])
   (push_cast only [sp,aW,atI1])
   have ret:∀ (x:Int) (G2:Hp),But2 p q' H G2→(∃ ga gb,G2 p=some (.lst [.ref q',.int ga,.int gb,.int gd]))→G2 q'=some (.lst (cs.map V.int))→Q (V.int (x % many)) G2:=fun x G2 bt ⟨a,b,e1⟩ e2=>q _ _ (Int.emod_nonneg _ (by omega)) (Int.emod_lt_of_pos _ h1) ⟨npq,cs,a,b,gd,e1,e2⟩ bt
   split
   ·refine ⟨h1,?_⟩
    (simp only [qK])
    (push_cast only [sp,aW,atI1,ep])
    refine ⟨⟨h1,h2⟩,?_⟩
    (simp only [qK])
    (push_cast only [])
    exact ret _ _ (fun b n1 n2=>by rw [qS n1];exact bt b n1 n2) ⟨_,_,qH⟩ (by rw [qS npq.symm];exact eq)
   ·(simp only [qK])
    (push_cast only [sp,ixN42,ixN43,atI2,atI3])
    exact ⟨gb,gd,rfl,fun z=>⟨z,rfl,⟨by decide,by decide⟩,h1,ret _ _ bt ⟨_,_,ep⟩ eq⟩⟩
  (push_cast only [s1,aW,atI1])
  by_cases g0:ga=0
  ·rw [Au g0]
   refine ⟨_,kD k1,?_⟩
   cases cs with
   | nil=>rw [Ax (by simp)];exact tail none ga gb [] H1 b1 e1 k1
   | cons c0 cs' =>
    rw [Au (by simp)]
    refine ⟨_,k1,_,_,k1,?_⟩
    have e2:upd H1 q' (.lst (cs'.map V.int)) p=some (.lst [.ref q',.int ga,.int gb,.int gd]):=by rw [qS npq];exact e1
    have k2:upd H1 q' (.lst (cs'.map V.int)) q'=some (.lst (cs'.map V.int)):=qH
    have b2:But2 p q' H (upd H1 q' (.lst (cs'.map V.int))):=fun b n1 n2=>by rw [qS n2];exact b1 b n1 n2
    revert e2 k2 b2
    generalize upd H1 q' (.lst (cs'.map V.int))=H2
    intro e2 k2 b2
    have s2:=kD e2
    have t2:=kD k2
    (simp only [qK])
    (push_cast only [s2,t2,ixN42,atI2])
    refine ⟨gb + c0,_,rfl,fun z=>⟨_,e2,2,rfl,?_⟩⟩
    have e3:upd H2 p (.lst [.ref q',.int ga,.int z,.int gd]) p=some (.lst [.ref q',.int ga,.int z,.int gd]):=qH
    have k3:upd H2 p (.lst [.ref q',.int ga,.int z,.int gd]) q'=some (.lst (cs'.map V.int)):=by rw [qS npq.symm];exact k2
    have b3:But2 p q' H (upd H2 p (.lst [.ref q',.int ga,.int z,.int gd])):=fun b n1 n2=>by rw [qS n1];exact b2 b n1 n2
    rw [show ([.ref q',.int ga,.int gb,.int gd] : List V).set 2 (V.int z)=[.ref q',.int ga,.int z,.int gd] from rfl]
    revert e3 k3 b3
    generalize upd H2 p (.lst [.ref q',.int ga,.int z,.int gd])=H3
    intro e3 k3 b3
    have s3:=kD e3
    (simp only [qK])
    (push_cast only [s3,e3,aW,atI1])
    generalize (if c0 < 0 then -c0 else c0)=ab
    refine ⟨⟨by decide,by decide,by decide⟩,?_⟩
    split
    ·exact ⟨⟨by decide,by decide,by decide⟩,by decide,tail _ _ _ cs' _ (fun b n1 n2=>by rw [qS n1];exact b3 b n1 n2) qH (by rw [qS npq.symm];exact k3)⟩
    ·exact tail _ _ _ cs' _ b3 e3 k3
  ·rw [Ax g0]
   exact tail none ga gb cs H1 b1 e1 k1
end
end K60
end
section
set_option maxHeartbeats 4000000
namespace K60
open PySem L2
section
variable {P:Program}{w:World}{K:PySem.W.Frag}{mg:Str→Option Value}{base:Heap}{f:Addr}{fd:FuncData}
def kE (ns:List Int):List Int:=ns.foldl (fun t p=>t ++ t.map (fun h=>h + p)) [0]
theorem vC (ns:List Int)(p:Int):kE (ns ++ [p])=kE ns ++ (kE ns).map (fun h=>h + p):=by unfold kE;rw [List.foldl_append];rfl
theorem fold_len (ns:List Int):∀ t:List Int,(ns.foldl (fun t p=>t ++ t.map (fun h=>h + p)) t).length=t.length * 2 ^ ns.length:=by
 induction ns with
 | nil=>intro t;simp
 | cons p ns ih=>intro t;rw [List.foldl_cons,ih,Ar,Aa,Bf,CL,← Nat.two_mul,CH 2 t.length,Nat.mul_assoc,CH 2]
theorem jH (ns:List Int):(kE ns).length=2 ^ ns.length:=by unfold kE;rw [fold_len];simp
theorem jA {m:Nat}(h:m ≤ 5):2 ^ m ≤ 32∧0 < 2 ^ m:=⟨AG (Aw (by decide) h) (by decide),AA m⟩
def IsT (H:Hp)(a:Addr)(ns:List Int):Prop:=H a=some (.tup (ns.map V.int))∨H a=some (.lst (ns.map V.int))
theorem IsT.o {H:Hp}{a:Addr}{ns:List Int}(h:IsT H a ns):∃ o,(o=HO.tup (ns.map V.int)∨o=HO.lst (ns.map V.int))∧H a=some o:=by
 rcases h with h | h
 ·exact ⟨_,.inl rfl,h⟩
 ·exact ⟨_,.inr rfl,h⟩
theorem IsT.same {H H':Hp}{a:Addr}{ns:List Int}(h:IsT H a ns)(s:Same H H'):IsT H' a ns:=h.imp (fun h=>s _ _ h) fun h=>s _ _ h
def z6:Sp:=fun vs H Q _=>∃ (a:Addr) (ns:List Int),vs=[.ref a]∧IsT H a ns∧ns.length ≤ 5∧∀ (t:Addr) (H':Hp),H t=none→Same H H'→H' t=some (.lst ((kE ns).map V.int))→Q (.ref t) H'
def CI (a:Addr)(ns:List Int)(G:Hp)(i:Nat)(σ:St)(H:Hp):Prop:=∃ (v:Option V) (t:Addr),σ=[some (.ref a),some (.ref t),v]∧G t=none∧Same G H∧H t=some (.lst ((kE (ns.take i)).map V.int))
def CJ (c:Addr)(ts:List Int)(p:Int)(G:Hp)(i:Nat)(σ:St)(H:Hp):Prop:=∃ v:Option V,σ=[v,some (.int p)]∧SameX c G H∧H c=some (.lst (((ts.map fun h=>h + p).take i).map V.int))
theorem gT:FnScope ["_law_prices", "_law_costs_here", "_law_price"] ["_law_prices"] (qF s__law_costs):=⟨rfl,rfl,rfl,by decide +kernel,rfl,by decide +kernel,by decide +kernel⟩
theorem mI (F:Fun K "_law_costs" "_law_costs" s__law_costs f fd) (hm:mg "_law_costs" = some (.ref f)) (hb:Binds K fd ["_law_prices"] []) (T:Txt mg):Cal P w K mg base "_law_costs" ["_law_prices"] 1 z6:=by
 refine q4 F hm hb gT (fun vs H Q E h=>?_) (fun cdv A outer s H vs Q E hr h=>?_)
 ·obtain ⟨_,_,rfl,_⟩:=h;rfl
 ·obtain ⟨a,ns,rfl,ha,h5,q⟩:=h
  have sc:=gT
  refine ⟨_,kC (qY (i:=1) sc.nd rfl (Or.inl rfl) (kZ (qA qG qD)))
   (kC (jT AD rfl (pi_s0 (pv 0)) (qN (i:=2) sc.nd rfl (Or.inr rfl))
    (qI (qY (i:=1) sc.nd rfl (Or.inl rfl) (qV mD (pv 1) (jI (N:=["_law_cost", "_law_price"]) (fr:=[none,some 2]) rfl (yG (pv 1)) (CScope.of rfl rfl rfl) rfl (fun _ _ _=>⟨qN (i:=0) (show List.Nodup (α:=Str) ["_law_cost", "_law_price"] by decide +kernel) rfl (Or.inl rfl),kN,qV kW (pv 0) (pv 1)⟩))))))
   (qI (qU (pv 1)))),?_⟩
  rw [show L2.start ["_law_prices", "_law_costs_here", "_law_price"] [.ref a] = [some (.ref a),none,none] from rfl]
  (push_cast only [])
  refine ⟨by decide,fun t0 H1 n1 s1 e1=>?_⟩
  obtain ⟨o,ho,hao⟩:=ha.o
  refine ⟨_,o,ho,s1 _ _ hao,gF (CI a ns H) ⟨_,t0,rfl,n1,s1,e1⟩ (fun j σ H' _ ⟨_,_,_,_,s,_⟩=>s _ _ hao) ?_ ?_⟩
  ·rintro i x σ H2 hx ⟨v,t,rfl,nt,s2,e2⟩
   rw [Af] at hx
   obtain ⟨p,hp,rfl⟩:=Ah.mp hx
   have hi:i < ns.length:=(Ae.mp hp).1
   (push_cast only [e2])
   intro c nc
   have ntc:t ≠ c:=qE e2 nc
   have p32:=jA (m:=(ns.take i).length) (by rw [An];omega)
   refine jS (CJ c (kE (ns.take i)) p H2) ⟨none,rfl,SameX.upd,qH⟩ (fun j σ H' _ ⟨_,_,s,_⟩=>s _ _ ntc e2) ?_ ?_
   ·rintro j y σ H3 hy ⟨v3,rfl,s3,e3⟩
    rw [Af] at hy
    obtain ⟨z,hz,rfl⟩:=Ah.mp hy
    have hj:j < (kE (ns.take i)).length:=(Ae.mp hz).1
    rw [jH] at hj
    (push_cast only [e3])
    refine ⟨qO (by rw [An];omega),⟨_,rfl,s3.trans SameX.upd,?_⟩⟩
    rw [qH,Az,Af,hz]
    simp
   ·rintro σ H3 ⟨v3,rfl,s3,e3⟩
    rw [Aa,AB (by simp)] at e3
    have S3:=s3.same nc
    have e23:=S3 _ _ e2
    (push_cast only [e23,e3])
    refine ⟨?_,fun t' H4 nt' s4 e4=>⟨_,t',rfl,jG (s2.trans S3) nt',(s2.trans S3).trans s4,?_⟩⟩
    ·rw [jH]
     exact Bj (qO (by omega))
    ·rw [e4,Az,hp]
     show some (HO.lst _)=some (HO.lst ((kE (ns.take i ++ [p])).map V.int))
     rw [vC,A8]
  ·rintro σ H2 ⟨v,t,rfl,nt,s2,e2⟩
   rw [Aa,AF] at e2
   (push_cast only [])
   exact q t H2 nt s2 e2
theorem rA:FnScope ["prices", "told", "price"] ["prices"] (qF s_costs):=⟨rfl,rfl,rfl,by decide +kernel,rfl,by decide +kernel,by decide +kernel⟩
theorem ok_costs (F:Fun K "costs" "costs" s_costs f fd) (hm:mg "costs" = some (.ref f)) (hb:Binds K fd ["prices"] []) (T:Txt mg):Cal P w K mg base "costs" ["prices"] 1 z6:=by
 refine q4 F hm hb rA (fun vs H Q E h=>?_) (fun cdv A outer s H vs Q E hr h=>?_)
 ·obtain ⟨_,_,rfl,_⟩:=h;rfl
 ·obtain ⟨a,ns,rfl,ha,h5,q⟩:=h
  have sc:=rA
  refine ⟨_,kC (qY (i:=1) sc.nd rfl (Or.inl rfl) (kZ (qA qG qD)))
   (kC (jT AD rfl (pi_s0 (pv 0)) (qN (i:=2) sc.nd rfl (Or.inr rfl))
    (qI (qY (i:=1) sc.nd rfl (Or.inl rfl) (qV mD (pv 1) (jI (N:=["here", "price"]) (fr:=[none,some 2]) rfl (yG (pv 1)) (CScope.of rfl rfl rfl) rfl (fun _ _ _=>⟨qN (i:=0) (show List.Nodup (α:=Str) ["here", "price"] by decide +kernel) rfl (Or.inl rfl),kN,qV kW (pv 0) (pv 1)⟩))))))
   (qI (qU (pv 1)))),?_⟩
  rw [show L2.start ["prices", "told", "price"] [.ref a] = [some (.ref a),none,none] from rfl]
  (push_cast only [])
  refine ⟨by decide,fun t0 H1 n1 s1 e1=>?_⟩
  obtain ⟨o,ho,hao⟩:=ha.o
  refine ⟨_,o,ho,s1 _ _ hao,gF (CI a ns H) ⟨_,t0,rfl,n1,s1,e1⟩ (fun j σ H' _ ⟨_,_,_,_,s,_⟩=>s _ _ hao) ?_ ?_⟩
  ·rintro i x σ H2 hx ⟨v,t,rfl,nt,s2,e2⟩
   rw [Af] at hx
   obtain ⟨p,hp,rfl⟩:=Ah.mp hx
   have hi:i < ns.length:=(Ae.mp hp).1
   (push_cast only [e2])
   intro c nc
   have ntc:t ≠ c:=qE e2 nc
   have p32:=jA (m:=(ns.take i).length) (by rw [An];omega)
   refine jS (CJ c (kE (ns.take i)) p H2) ⟨none,rfl,SameX.upd,qH⟩ (fun j σ H' _ ⟨_,_,s,_⟩=>s _ _ ntc e2) ?_ ?_
   ·rintro j y σ H3 hy ⟨v3,rfl,s3,e3⟩
    rw [Af] at hy
    obtain ⟨z,hz,rfl⟩:=Ah.mp hy
    have hj:j < (kE (ns.take i)).length:=(Ae.mp hz).1
    rw [jH] at hj
    (push_cast only [e3])
    refine ⟨qO (by rw [An];omega),⟨_,rfl,s3.trans SameX.upd,?_⟩⟩
    rw [qH,Az,Af,hz]
    simp
   ·rintro σ H3 ⟨v3,rfl,s3,e3⟩
    rw [Aa,AB (by simp)] at e3
    have S3:=s3.same nc
    have e23:=S3 _ _ e2
    (push_cast only [e23,e3])
    refine ⟨?_,fun t' H4 nt' s4 e4=>⟨_,t',rfl,jG (s2.trans S3) nt',(s2.trans S3).trans s4,?_⟩⟩
    ·rw [jH]
     exact Bj (qO (by omega))
    ·rw [e4,Az,hp]
     show some (HO.lst _)=some (HO.lst ((kE (ns.take i ++ [p])).map V.int))
     rw [vC,A8]
  ·rintro σ H2 ⟨v,t,rfl,nt,s2,e2⟩
   rw [Aa,AF] at e2
   (push_cast only [])
   exact q t H2 nt s2 e2
def bitsL (m:Nat):List Int:=([1,2,4,8,16] : List Int).take m
def wQ:Sp:=fun vs H Q _=>∃ m:Nat,vs=[.int (m:Int)]∧m ≤ 5∧∀ (t:Addr) (H':Hp),H t=none→Same H H'→H' t=some (.lst ((bitsL m).map V.int))→Q (.ref t) H'
theorem dX:FnScope ["_law_many"] ["_law_many"] (qF s__law_bits):=⟨rfl,rfl,rfl,by decide +kernel,rfl,by decide +kernel,by decide +kernel⟩
theorem ok_bits (F:Fun K "_law_bits" "_law_bits" s__law_bits f fd) (hm:mg "_law_bits" = some (.ref f)) (hb:Binds K fd ["_law_many"] []) (T:Txt mg):Cal P w K mg base "_law_bits" ["_law_many"] 1 wQ:=by
 refine q4 F hm hb dX (fun vs H Q E h=>?_) (fun cdv A outer s H vs Q E hr h=>?_)
 ·obtain ⟨_,rfl,_⟩:=h;rfl
 ·obtain ⟨m,rfl,h5,q⟩:=h
  have sc:=dX
  refine ⟨_,qI (qU (j9 slL0 (kZ (qA qG (qA qG (qA qG (qA qG (qA qG qD)))))) zR (zQ (pv 0)))),?_⟩
  rw [show L2.start ["_law_many"] [.int (m:Int)] = [some (.int (m:Int))] from rfl]
  (push_cast only [])
  refine ⟨by decide,fun l H1 n1 s1 e1=>?_⟩
  (push_cast only [e1])
  intro l2 n2
  refine q l2 _ (jG s1 n2) (s1.trans (kQ n2)) ?_
  rw [qH]
  have key:∀ k:_root_.Fin 6,zP [V.int 1,V.int 2,V.int 4,V.int 8,V.int 16] none (some (k.val:Int))=(bitsL k.val).map V.int:=by
   intro k
   unfold zP bitsL
   rw [HT.sIx_none,HT.sIx_nat]
   match k with
   | ⟨0,_⟩=>rfl
   | ⟨1,_⟩=>rfl
   | ⟨2,_⟩=>rfl
   | ⟨3,_⟩=>rfl
   | ⟨4,_⟩=>rfl
   | ⟨5,_⟩=>rfl
  rw [key ⟨m,by omega⟩]
theorem bits_len {m:Nat}(hm:m ≤ 5):(bitsL m).length=m:=by unfold bitsL;rw [An];simp;omega
theorem hpow (m:Nat):(1:Int) * 2 ^ (m:Int).toNat=((2 ^ m:Nat):Int):=by rw [Ay];norm_cast;omega
def dG (g:List Int)(m:Int)(k:Nat):List Int:=((List.range k).filter fun i=>decide (g.getD i 0=m)).map fun i:Nat=>(i:Int)
theorem nN (g:List Int)(m:Int)(k:Nat):dG g m (k + 1)=dG g m k ++ if g.getD k 0=m then [(k:Int)] else []:=by
 unfold dG
 rw [Bt,B2,A8]
 congr 1
 by_cases h:g.getD k 0=m
 ·rw [Au h];simp only [List.filter,A2 h,List.map]
 ·rw [Ax h];simp only [List.filter,Ai h,List.map]
theorem idxL_len (g:List Int)(m:Int)(k:Nat):(dG g m k).length ≤ k:=by
 unfold dG
 rw [Aa]
 exact AG (Bi _ _) (by simp)
def gY (ds:List Int)(s:Int):Nat→Nat
 | 0=>0
 | k + 1=>gY ds s k + if ds.getD k 0=s then 2 ^ k else 0
theorem lP (ds:List Int)(s:Int):∀ k,gY ds s k < 2 ^ k
 | 0=>by simp [gY]
 | k + 1=>by
  have:=lP ds s k
  show gY ds s k + _ < _
  rw [CL]
  split <;> omega
def zw (g:Int→Int→Int)(ns ms:List Int):List Int:=(ns.zip ms).map fun q=>g q.1 q.2
theorem oK {g:Int→Int→Int}{ns ms:List Int}{i:Nat}{x y:Int}(hx:ns[i]? = some x)(hy:ms[i]? = some y):(zw g ns ms)[i]? = some (g x y):=by
 have hz:(ns.zip ms)[i]? = some (x,y):=by rw [List.getElem?_zip_eq_some];exact ⟨hx,hy⟩
 unfold zw
 rw [Af,hz]
 rfl
theorem sQ {g:Int→Int→Int}{ns ms:List Int}(h:ns.length=ms.length):(zw g ns ms).length=ns.length:=by
 unfold zw
 rw [Aa,List.length_zip]
 omega
def ZW (c:Addr)(g:Int→Int→Int)(ns ms:List Int)(τ:List (Option V))(G:Hp)(i:Nat)(σ:St)(H:Hp):Prop:=∃ v1 v2:Option V,σ=v1 :: v2 :: τ∧SameX c G H∧H c=some (.lst (((zw g ns ms).take i).map V.int))
def kI (ws ns:List Int):List Int:=zw (fun x y=>x - y) ws (kE ns)
theorem vB {ws ns:List Int}(h:ws.length=2 ^ ns.length):(kI ws ns).length=2 ^ ns.length:=by unfold kI;rw [sQ (by rw [jH];exact h)];exact h
def bM:Sp:=fun vs H Q _=>∃ (d a:Addr) (ws ns:List Int),vs=[.ref d,.ref a]∧H d=some (.tup (ws.map V.int))∧H a=some (.tup (ns.map V.int))∧ns.length ≤ 5∧ws.length=2 ^ ns.length∧∀ (t:Addr) (H':Hp),H t=none→Same H H'→H' t=some (.lst ((kI ws ns).map V.int))→Q (.ref t) H'
theorem p9:FnScope ["want", "prices"] ["want", "prices"] (qF s_gains):=⟨rfl,rfl,rfl,by decide +kernel,rfl,by decide +kernel,by decide +kernel⟩
theorem ok_gains (F:Fun K "gains" "gains" s_gains f fd) (hm:mg "gains" = some (.ref f)) (hb:Binds K fd ["want", "prices"] []) (T:Txt mg) (c_costs:Cal P w K mg base "costs" ["prices"] 1 z6):Cal P w K mg base "gains" ["want", "prices"] 2 bM:=by
 refine q4 F hm hb p9 (fun vs H Q E h=>?_) (fun cdv A outer s H vs Q E hr h=>?_)
 ·obtain ⟨_,_,_,_,rfl,_⟩:=h;rfl
 ·obtain ⟨d,a,ws,ns,rfl,hd,ha,h5,hl,q⟩:=h
  have sc:=p9
  refine ⟨_,qI (qU (jI (N:=["worth", "paid"]) (fr:=[none,none]) rfl (lH rfl T.zip_ (qA (pv 0) (qA (qL c_costs hr (qA (pv 1) qD)) qD))) (CScope.of rfl rfl rfl) rfl (fun _ _ _=>⟨kU (n:=2) rfl (qT (qN (i:=0) (show List.Nodup (α:=Str) ["worth", "paid"] by decide +kernel) rfl (Or.inl rfl)) (qT (qN (i:=1) (show List.Nodup (α:=Str) ["worth", "paid"] by decide +kernel) rfl (Or.inl rfl)) kR)),kN,qV xR (pv 0) (pv 1)⟩))),?_⟩
  rw [show L2.start ["want", "prices"] [.ref d,.ref a] = [some (.ref d),some (.ref a)] from rfl]
  (push_cast only [])
  refine ⟨a,ns,rfl,.inl ha,h5,fun t H1 n1 s1 e1=>?_⟩
  have hd1:=s1 _ _ hd
  (push_cast only [])
  refine ⟨_,_,_,.inr ⟨rfl,hd1⟩,_,.inl ⟨rfl,e1⟩,fun c nc=>?_⟩
  have ncd:d ≠ c:=qE hd1 nc
  have nct:t ≠ c:=qE e1 nc
  have p32:=jA h5
  refine uG (ZW c (fun x y=>x - y) ws (kE ns) [] H1) ⟨none,none,rfl,SameX.upd,qH⟩ (fun i σ H2 ⟨_,_,_,s,_⟩=>⟨.inr ⟨rfl,s _ _ ncd hd1⟩,.inl ⟨rfl,s _ _ nct e1⟩⟩) ?_ ?_
  ·rintro i u v t' σ H2 H3 hu hv ⟨v1,v2,rfl,s2,e2⟩ nt s3 e3
   rw [Af] at hu hv
   obtain ⟨x,hx,rfl⟩:=Ah.mp hu
   obtain ⟨y,hy,rfl⟩:=Ah.mp hv
   have ec:=s3 _ _ e2
   (push_cast only [e3,ec])
   have hi:i < ws.length:=(Ae.mp hx).1
   refine ⟨qO (by rw [An];omega),⟨_,_,rfl,(s2.trans s3.x).trans SameX.upd,?_⟩⟩
   rw [qH,Az,oK hx hy]
   simp
  ·rintro σ H2 ⟨v1,v2,rfl,s2,e2⟩
   rw [Aa,Aa,AB (by rw [sQ (by rw [jH];exact hl),jH];omega)] at e2
   have S2:=s1.trans (s2.same nc)
   exact q c H2 (jG s1 nc) S2 e2
theorem cV {ws ns:List Int}(h5:ns.length ≤ 5)(h:ws.length=2 ^ ns.length):kI ws ns ≠ []:=by
 intro e
 have:=vB h
 rw [e] at this
 have p:=jA h5
 simp at this
 omega
def aF:Sp:=fun vs H Q _=>∃ (d a:Addr) (ws ns:List Int) (m:Int),vs=[.ref d,.ref a]∧H d=some (.tup (ws.map V.int))∧H a=some (.tup (ns.map V.int))∧ns.length ≤ 5∧ws.length=2 ^ ns.length∧m ∈ kI ws ns∧(∀ x ∈ kI ws ns,x ≤ m)∧∀ (t:Addr) (H':Hp),H t=none→Same H H'→H' t=some (.tup ((dG (kI ws ns) m (kI ws ns).length).map V.int))→Q (.ref t) H'
def BI (c:Addr)(g:List Int)(m:Int)(G:Hp)(i:Nat)(σ:St)(H:Hp):Prop:=∃ v1 v2:Option V,σ=[v1,v2,some (.int m)]∧SameX c G H∧H c=some (.lst ((dG g m i).map V.int))
theorem gP:FnScope ["want", "prices", "told", "most"] ["want", "prices"] (qF s_best_heaps):=⟨rfl,rfl,rfl,by decide +kernel,rfl,by decide +kernel,by decide +kernel⟩
theorem ok_best (F:Fun K "best_heaps" "best_heaps" s_best_heaps f fd) (T:Txt mg) (c_gains:Cal P w K mg base "gains" ["want", "prices"] 2 bM):FnOk P w K mg base CX0 3 f fd ["want", "prices"] aF:=by
 refine F.ok gP (fun vs H Q E h=>?_) (fun cdv A outer s H vs Q E hr h=>?_)
 ·obtain ⟨_,_,_,_,_,rfl,_⟩:=h;rfl
 ·obtain ⟨d,a,ws,ns,m,rfl,hd,ha,h5,hl,hm1,hm2,q⟩:=h
  have sc:=gP
  refine ⟨_,kC (qY (i:=2) sc.nd rfl (Or.inl rfl) (qL c_gains hr (qA (pv 0) (qA (pv 1) qD))))
   (kC (qY (i:=3) sc.nd rfl (Or.inr rfl) (qM (iQ rfl) rfl T.max_ gH (qA (pv 2) qD)))
   (qI (qU (kM zZ rfl T.tuple_ kL (qA (jI (N:=["heap", "here", "most"]) (fr:=[none,none,some 3]) rfl (gK rfl T.enumerate_ (qA (pv 2) qD)) (CScope.of rfl rfl rfl) rfl (fun _ _ _=>⟨kU (n:=2) rfl (qT (qN (i:=0) (show List.Nodup (α:=Str) ["heap", "here", "most"] by decide +kernel) rfl (Or.inl rfl)) (qT (qN (i:=1) (show List.Nodup (α:=Str) ["heap", "here", "most"] by decide +kernel) rfl (Or.inl rfl)) kR)),zS (q5 jW (pv 1) (pv 2) (qZ _)),pv 0⟩)) qD))))),?_⟩
  rw [show L2.start ["want", "prices", "told", "most"] [.ref d,.ref a] = [some (.ref d),some (.ref a),none,none] from rfl]
  (push_cast only [])
  refine ⟨d,a,ws,ns,rfl,hd,ha,h5,hl,fun t H1 n1 s1 e1=>?_⟩
  have hs:=kD e1
  (push_cast only [hs])
  refine ⟨_,rfl,cV h5 hl,fun mx mx1 mx2=>?_⟩
  have em:mx=m:=Int.le_antisymm (hm2 mx mx1) (mx2 m hm1)
  subst em
  (push_cast only [])
  refine ⟨_,_,.inl ⟨rfl,e1⟩,fun c nc=>?_⟩
  have ntc:t ≠ c:=qE e1 nc
  have p32:=jA h5
  have gl:=vB hl
  refine eL (BI c (kI ws ns) mx H1) ⟨none,none,rfl,SameX.upd,qH⟩ (fun i σ H2 ⟨_,_,_,s,_⟩=>.inl ⟨rfl,s _ _ ntc e1⟩) ?_ ?_
  ·rintro i v T' σ H2 H3 hv ⟨v1,v2,rfl,s2,e2⟩ nT s3 e3
   rw [Af] at hv
   obtain ⟨x,hx,rfl⟩:=Ah.mp hv
   have hi:i < (kI ws ns).length:=(Ae.mp hx).1
   have hg:(kI ws ns).getD i 0=x:=by rw [Ab,hx];rfl
   have ec:=s3 _ _ e2
   have il:=idxL_len (kI ws ns) mx i
   (push_cast only [e3])
   by_cases hxm:x=mx
   ·rw [Au (by simpa using hxm)]
    (push_cast only [ec])
    refine ⟨qO (by omega),⟨_,_,rfl,(s2.trans s3.x).trans SameX.upd,?_⟩⟩
    rw [qH,nN,Au (by rw [hg];exact hxm)]
    simp
   ·rw [Ax (by simpa using hxm)]
    refine ⟨_,_,rfl,s2.trans s3.x,?_⟩
    rw [ec,nN,Ax (by rw [hg];exact hxm),Bm]
  ·rintro σ H2 ⟨v1,v2,rfl,s2,e2⟩
   rw [Aa] at e2
   refine ⟨_,e2,fun l H3 nl s3 e3=>?_⟩
   have S2:=s1.trans (s2.same nc)
   exact q l H3 (jG S2 nl) (S2.trans s3) e3
def p0:Sp:=fun vs H Q _=>∃ (d a:Addr) (ws ns:List Int),vs=[.ref d,.ref a]∧H d=some (.tup (ws.map V.int))∧H a=some (.tup (ns.map V.int))∧ns.length ≤ 5∧ws.length=2 ^ ns.length∧∀ (m:Int) (H':Hp),Same H H'→m ∈ kI ws ns→(∀ x ∈ kI ws ns,x ≤ m)→Q (.int m) H'
theorem y0:FnScope ["want", "prices"] ["want", "prices"] (qF s_greatest_gain):=⟨rfl,rfl,rfl,by decide +kernel,rfl,by decide +kernel,by decide +kernel⟩
theorem ok_great (F:Fun K "greatest_gain" "greatest_gain" s_greatest_gain f fd) (T:Txt mg) (c_gains:Cal P w K mg base "gains" ["want", "prices"] 2 bM):FnOk P w K mg base CX0 3 f fd ["want", "prices"] p0:=by
 refine F.ok y0 (fun vs H Q E h=>?_) (fun cdv A outer s H vs Q E hr h=>?_)
 ·obtain ⟨_,_,_,_,rfl,_⟩:=h;rfl
 ·obtain ⟨d,a,ws,ns,rfl,hd,ha,h5,hl,q⟩:=h
  have sc:=y0
  refine ⟨_,qI (qU (qM (iQ rfl) rfl T.max_ gH (qA (qL c_gains hr (qA (pv 0) (qA (pv 1) qD))) qD))),?_⟩
  rw [show L2.start ["want", "prices"] [.ref d,.ref a] = [some (.ref d),some (.ref a)] from rfl]
  (push_cast only [])
  refine ⟨d,a,ws,ns,rfl,hd,ha,h5,hl,fun t H1 n1 s1 e1=>?_⟩
  have hs:=kD e1
  (push_cast only [hs])
  exact ⟨_,rfl,cV h5 hl,fun m hm hmx=>q m H1 s1 hm hmx⟩
def bit (h:Int)(t:Nat):Int:=Builtin.bitAnd (h / 2 ^ (t:Int).toNat) 1
def dI (ws:List Int)(h:Int)(m:Nat):Int:=((List.range m).map fun t:Nat=>ws.getD t 0 * bit h t).sum
theorem yO (ws:List Int)(h:Int)(m:Nat):dI ws h (m + 1)=dI ws h m + ws.getD m 0 * bit h m:=by
 unfold dI
 rw [Bt,A8,Ci]
 simp
theorem vD (ws ws':List Int)(h h':Int):∀ m,(∀ t,t < m→ws.getD t 0 * bit h t=ws'.getD t 0 * bit h' t)→dI ws h m=dI ws' h' m
 | 0,_=>rfl
 | m + 1,hh=>by rw [yO,yO,vD ws ws' h h' m fun t ht=>hh t (by omega),hh m (by omega)]
theorem bit_low {n h:Nat}(hn:n < 5)(hh:h < 2 ^ n):bit (h:Int) n=0:=by
 have key:∀ (a:_root_.Fin 5) (b:_root_.Fin 32),b.val < 2 ^ a.val→bit (b.val:Int) a.val=0:=by decide +kernel
 have:=jA (show n ≤ 5 by omega)
 exact key ⟨n,hn⟩ ⟨h,by omega⟩ hh
theorem bit_high {n h:Nat}(hn:n < 5)(h1:2 ^ n ≤ h)(h2:h < 2 ^ (n + 1)):bit (h:Int) n=1∧∀ t,t < n→bit (h:Int) t=bit ((h - 2 ^ n:Nat):Int) t:=by
 have key:∀ (a:_root_.Fin 5) (b:_root_.Fin 32),2 ^ a.val ≤ b.val→b.val < 2 ^ (a.val + 1)→bit (b.val:Int) a.val=1∧∀ t:_root_.Fin 5,t.val < a.val→bit (b.val:Int) t.val=bit ((b.val - 2 ^ a.val:Nat):Int) t.val:=by decide +kernel
 have:=jA (show n + 1 ≤ 5 by omega)
 obtain ⟨k1,k2⟩:=key ⟨n,hn⟩ ⟨h,by omega⟩ h1 h2
 exact ⟨k1,fun t ht=>k2 ⟨t,by omega⟩ ht⟩
theorem dH:∀ (n:Nat) (ns:List Int),ns.length=n→n ≤ 5→∀ h:Nat,h < 2 ^ n→(kE ns)[h]? = some (dI ns (h:Int) n)
 | 0,ns,hl,_,h,hh=>by
  have:ns=[]:=BN hl
  subst this
  have:h=0:=by simpa using hh
  subst this
  rfl
 | n + 1,ns,hl,h5,h,hh=>by
  obtain ⟨ms,p,rfl⟩:∃ ms p,ns=ms ++ [p]:=by
   have hne:ns ≠ []:=by rintro rfl;simp at hl
   exact ⟨ns.dropLast,ns.getLast hne,(BQ hne).symm⟩
  have hml:ms.length=n:=by simpa using hl
  have ih:=dH n ms hml (by omega)
  have cl:(kE ms).length=2 ^ n:=by rw [jH,hml]
  have gl:∀ t,t < n→(ms ++ [p]).getD t 0=ms.getD t 0:=fun t ht=>by simp only [Ab];rw [BF (by omega)]
  have gp:(ms ++ [p]).getD n 0=p:=by simp only [Ab];rw [BE (by omega),hml];simp
  rw [vC,yO,gp]
  rcases Be h (2 ^ n) with q | q
  ·rw [BF (by omega),ih h q,bit_low (by omega) q,vD (ms ++ [p]) ms (h:Int) (h:Int) n fun t ht=>by rw [gl t ht]]
   simp
  ·obtain ⟨b1,b2⟩:=bit_high (by omega) q hh
   have q2:h - 2 ^ n < 2 ^ n:=by rw [CL] at hh;omega
   rw [BE (by omega),cl,Af,ih (h - 2 ^ n) q2,b1,vD (ms ++ [p]) ms (h:Int) ((h - 2 ^ n:Nat):Int) n fun t ht=>by rw [gl t ht,b2 t ht]]
   simp
def qC (h t:Nat):Bool:=decide (h / 2 ^ t % 2=1)
abbrev Edge:=Nat × Nat × Int
def minus (A:Nat→Prop)(i:Nat):Nat→Prop:=fun v=>A v∧v ≠ i
def plus (A:Nat→Prop)(i:Nat):Nat→Prop:=fun v=>A v∨v=i
def g7 (M:List Edge):Int:=(M.map fun e=>e.2.2).sum
theorem jC (e:Edge)(M:List Edge):g7 (e :: M)=e.2.2 + g7 M:=by unfold g7;rw [AN,B3]
theorem oP (M N:List Edge):g7 (M ++ N)=g7 M + g7 N:=by unfold g7;rw [A8,Ci]
theorem wN {M N:List Edge}(h:M.Perm N):g7 M=g7 N:=by
 induction h with
 | nil=>rfl
 | cons x _ ih=>rw [jC,jC,ih]
 | swap x y l=>rw [jC,jC,jC,jC];omega
 | trans _ _ h1 h2=>exact h1.trans h2
structure Mat (Ed:Edge→Prop)(p q:Edge→Nat)(A:Nat→Prop)(M:List Edge):Prop where
 ed:∀ e ∈ M,Ed e
 np:(M.map p).Nodup
 nq:(M.map q).Nodup
 ap:∀ e ∈ M,A (p e)
 aq:∀ e ∈ M,A (q e)
section
variable {Ed:Edge→Prop}{p q:Edge→Nat}
theorem Mat.nil {A:Nat→Prop}:Mat Ed p q A []:=⟨(fun _ z=>by cases z),List.nodup_nil,List.nodup_nil,(fun _ z=>by cases z),(fun _ z=>by cases z)⟩
theorem Mat.flip {A:Nat→Prop}{M:List Edge}(h:Mat Ed p q A M):Mat Ed q p A M:=⟨h.ed,h.nq,h.np,h.aq,h.ap⟩
theorem Mat.imp {A B:Nat→Prop}{M:List Edge}(h:Mat Ed p q A M)(k:∀ v,A v→B v):Mat Ed p q B M:=⟨h.ed,h.np,h.nq,fun e he=>k _ (h.ap e he),fun e he=>k _ (h.aq e he)⟩
theorem Mat.cons {A B:Nat→Prop}{M:List Edge}{e:Edge}(h:Mat Ed p q A M)(he:Ed e)(n1:¬ A (p e))(n2:¬ A (q e))(k:∀ v,A v→B v)(b1:B (p e))(b2:B (q e)):Mat Ed p q B (e :: M):=by
 refine ⟨fun x hx=>?_,?_,?_,fun x hx=>?_,fun x hx=>?_⟩
 ·rcases A3.mp hx with rfl | z
  ·exact he
  ·exact h.ed x z
 ·rw [AN,Bz]
  refine ⟨fun z=>?_,h.np⟩
  obtain ⟨x,hx,ex⟩:=Al.mp z
  exact n1 (ex ▸ h.ap x hx)
 ·rw [AN,Bz]
  refine ⟨fun z=>?_,h.nq⟩
  obtain ⟨x,hx,ex⟩:=Al.mp z
  exact n2 (ex ▸ h.aq x hx)
 ·rcases A3.mp hx with rfl | z
  ·exact b1
  ·exact k _ (h.ap x z)
 ·rcases A3.mp hx with rfl | z
  ·exact b2
  ·exact k _ (h.aq x z)
theorem Mat.take {S:Nat→Bool}(hS:∀ e,Ed e→S (p e)=true∧S (q e)=false){A:Nat→Prop}{M:List Edge}{e:Edge}(h:Mat Ed p q A M)(he:e ∈ M):∃ M1,M.Perm (e :: M1)∧M1.length + 1=M.length∧Mat Ed p q (minus (minus A (p e)) (q e)) M1:=by
 have pm:=List.perm_cons_erase he
 refine ⟨M.erase e,pm,?_,?_⟩
 ·have:=pm.length_eq
  rw [Bf] at this
  omega
 have n1:=(pm.map p).nodup_iff.mp h.np
 have n2:=(pm.map q).nodup_iff.mp h.nq
 rw [AN,Bz] at n1 n2
 have mm:∀ x ∈ M.erase e,x ∈ M:=fun x hx=>List.mem_of_mem_erase hx
 have se:=hS e (h.ed e he)
 refine ⟨fun x hx=>h.ed x (mm x hx),n1.2,n2.2,fun x hx=>?_,fun x hx=>?_⟩
 ·refine ⟨⟨h.ap x (mm x hx),fun z=>n1.1 (z ▸ Bp hx)⟩,fun z=>?_⟩
  have:=(hS x (h.ed x (mm x hx))).1
  rw [z,se.2] at this
  cases this
 ·refine ⟨⟨h.aq x (mm x hx),fun z=>?_⟩,fun z=>n2.1 (z ▸ Bp hx)⟩
  have:=(hS x (h.ed x (mm x hx))).2
  rw [z,se.1] at this
  cases this
def Swap (Ed : Edge → Prop)(p q : Edge → Nat)(S : Nat → Bool)(A B : Nat → Prop)(i : Nat)(W : Int) : Prop := ∃ M N : List Edge, g7 M + g7 N = W ∧
  ((Mat Ed p q (minus A i) M ∧ Mat Ed p q (plus B i) N) ∨
   (∃ j, S j = false ∧ A j ∧ ¬ B j ∧ Mat Ed p q (minus (minus A i) j) M ∧ Mat Ed p q (plus (plus B i) j) N) ∨
   (∃ j, S j = true ∧ B j ∧ ¬ A j ∧ Mat Ed p q (plus (minus A i) j) M ∧ Mat Ed p q (minus (plus B i) j) N))
theorem swap_it {S:Nat→Bool}(hS:∀ e,Ed e→S (p e)=true∧S (q e)=false):∀ (n:Nat) (M N:List Edge) (A B:Nat→Prop) (i:Nat),M.length ≤ n→Mat Ed p q A M→Mat Ed p q B N→A i→¬ B i→S i=true→Swap Ed p q S A B i (g7 M + g7 N):=by
 intro n
 induction n with
 | zero =>
  intro M N A B i hl hM hN ai bi si
  have:M=[]:=BN (by omega)
  subst this
  exact ⟨[],N,rfl,.inl ⟨Mat.nil,hN.imp fun v h=>.inl h⟩⟩
 | succ n ih =>
  intro M N A B i hl hM hN ai bi si
  have sep:∀ {u v:Nat},S u=true→S v=false→u ≠ v:=fun h1 h2 z=>by rw [z,h2] at h1;cases h1
  by_cases hi:∃ e ∈ M,p e=i
  ·obtain ⟨e,he,rfl⟩:=hi
   have ee:=hM.ed e he
   obtain ⟨s1,s2⟩:=hS e ee
   obtain ⟨M1,pm,l1,hM1⟩:=hM.take hS he
   have av:=hM.aq e he
   by_cases hv:∃ e' ∈ N,q e'=q e
   ·obtain ⟨e',he',ev⟩:=hv
    have ee':=hN.ed e' he'
    obtain ⟨t1,t2⟩:=hS e' ee'
    obtain ⟨N1,pn,l2,hN1⟩:=hN.take hS he'
    have bu:=hN.ap e' he'
    have bv:=hN.aq e' he'
    rw [ev] at hN1 bv t2
    have ui:p e' ≠ p e:=fun z=>bi (z ▸ bu)
    have uv:p e' ≠ q e:=sep t1 s2
    have iv:p e ≠ q e:=sep s1 s2
    have hW:g7 M + g7 N=e.2.2 + e'.2.2 + (g7 M1 + g7 N1):=by
     rw [wN pm,wN pn,jC,jC]
     omega
    rw [hW]
    by_cases au:A (p e')
    ·obtain ⟨M2,N2,w2,alt⟩:=ih M1 N1 (minus (minus A (p e)) (q e)) (minus (minus B (p e')) (q e)) (p e') (by omega) hM1 hN1 ⟨⟨au,ui⟩,uv⟩ (fun z=>z.1.2 rfl) t1
     refine ⟨e' :: M2,e :: N2,by rw [jC,jC];omega,?_⟩
     rcases alt with ⟨m1,m2⟩ | ⟨j,sj,aj,bj,m1,m2⟩ | ⟨j,sj,bj,aj,m1,m2⟩
     ·refine .inl ⟨?_,?_⟩
      ·refine m1.cons ee' (fun z=>z.2 rfl) (fun z=>z.1.2 ev) (fun v z=>z.1.1) ⟨au,ui⟩ ?_
       rw [ev]
       exact ⟨av,fun z=>iv z.symm⟩
      ·refine m2.cons ee (fun z=>?_) (fun z=>?_) (fun v z=>?_) (.inr rfl) (.inl bv)
       ·rcases z with z | z
        ·exact bi z.1.1
        ·exact ui z.symm
       ·rcases z with z | z
        ·exact z.2 rfl
        ·exact uv z.symm
       ·rcases z with z | z
        ·exact .inl z.1.1
        ·exact .inl (z ▸ bu)
     ·have ju:p e' ≠ j:=sep t1 sj
      have ji:p e ≠ j:=sep s1 sj
      have jv:j ≠ q e:=aj.2
      have bj':¬ B j:=fun z=>bj ⟨⟨z,fun y=>ju y.symm⟩,jv⟩
      refine .inr (.inl ⟨j,sj,aj.1.1,bj',?_,?_⟩)
      ·refine m1.cons ee' (fun z=>z.1.2 rfl) (fun z=>z.1.1.2 ev) (fun v z=>⟨z.1.1.1,z.2⟩) ⟨⟨au,ui⟩,ju⟩ ?_
       rw [ev]
       exact ⟨⟨av,fun z=>iv z.symm⟩,fun z=>jv z.symm⟩
      ·refine m2.cons ee (fun z=>?_) (fun z=>?_) (fun v z=>?_) (.inl (.inr rfl)) (.inl (.inl bv))
       ·rcases z with (z | z) | z
        ·exact bi z.1.1
        ·exact ui z.symm
        ·exact ji z
       ·rcases z with (z | z) | z
        ·exact z.2 rfl
        ·exact uv z.symm
        ·exact jv z.symm
       ·rcases z with (z | z) | z
        ·exact .inl (.inl z.1.1)
        ·exact .inl (.inl (z ▸ bu))
        ·exact .inr z
     ·have jv:j ≠ q e:=bj.2
      have ju:j ≠ p e':=bj.1.2
      have ji:j ≠ p e:=fun z=>bi (z ▸ bj.1.1)
      have aj':¬ A j:=fun z=>aj ⟨⟨z,ji⟩,jv⟩
      refine .inr (.inr ⟨j,sj,bj.1.1,aj',?_,?_⟩)
      ·refine m1.cons ee' (fun z=>?_) (fun z=>?_) (fun v z=>?_) (.inl ⟨au,ui⟩) (.inl ?_)
       ·rcases z with z | z
        ·exact z.2 rfl
        ·exact ju z.symm
       ·rw [ev] at z
        rcases z with z | z
        ·exact z.1.2 rfl
        ·exact jv z.symm
       ·rcases z with z | z
        ·exact .inl z.1.1
        ·exact .inr z
       ·rw [ev]
        exact ⟨av,fun z=>iv z.symm⟩
      ·refine m2.cons ee (fun z=>?_) (fun z=>?_) (fun v z=>?_) ⟨.inr rfl,fun z=>ji z.symm⟩ ⟨.inl bv,fun z=>jv z.symm⟩
       ·rcases z.1 with y | y
        ·exact bi y.1.1
        ·exact ui y.symm
       ·rcases z.1 with y | y
        ·exact y.2 rfl
        ·exact uv y.symm
       ·refine ⟨?_,z.2⟩
        rcases z.1 with y | y
        ·exact .inl y.1.1
        ·exact .inl (y ▸ bu)
    ·refine ⟨e' :: M1,e :: N1,by rw [jC,jC];omega,.inr (.inr ⟨p e',t1,bu,au,?_,?_⟩)⟩
     ·refine hM1.cons ee' (fun z=>au z.1.1) (fun z=>z.2 ev) (fun v z=>.inl z.1) (.inr rfl) (.inl ?_)
      rw [ev]
      exact ⟨av,fun z=>iv z.symm⟩
     ·exact hN1.cons ee (fun z=>bi z.1.1) (fun z=>z.2 rfl) (fun v z=>⟨.inl z.1.1,z.1.2⟩) ⟨.inr rfl,fun z=>ui z.symm⟩ ⟨.inl bv,fun z=>uv z.symm⟩
   ·have hW:g7 M + g7 N=g7 M1 + g7 (e :: N):=by
     rw [wN pm,jC,jC]
     omega
    rw [hW]
    have fresh:Mat Ed p q (minus B (q e)) N:=⟨hN.ed,hN.np,hN.nq,fun x hx=>⟨hN.ap x hx,sep (hS x (hN.ed x hx)).1 s2⟩,fun x hx=>⟨hN.aq x hx,fun z=>hv ⟨x,hx,z⟩⟩⟩
    by_cases bv:B (q e)
    ·exact ⟨M1,e :: N,rfl,.inl ⟨hM1.imp fun v z=>z.1,fresh.cons ee (fun z=>bi z.1) (fun z=>z.2 rfl) (fun v z=>.inl z.1) (.inr rfl) (.inl bv)⟩⟩
    ·exact ⟨M1,e :: N,rfl,.inr (.inl ⟨q e,s2,av,bv,hM1,fresh.cons ee (fun z=>bi z.1) (fun z=>z.2 rfl) (fun v z=>.inl (.inl z.1)) (.inl (.inr rfl)) (.inr rfl)⟩)⟩
  ·refine ⟨M,N,rfl,.inl ⟨⟨hM.ed,hM.np,hM.nq,fun x hx=>⟨hM.ap x hx,fun z=>hi ⟨x,hx,z⟩⟩,fun x hx=>⟨hM.aq x hx,fun z=>?_⟩⟩,hN.imp fun v h=>.inl h⟩⟩
   exact sep si (hS x (hM.ed x hx)).2 z.symm
end
theorem kF {h i v:Nat}(hh:h < 32)(hi:i < 5)(hv:v < 5):qC (h ^^^ 2 ^ i) v=(qC h v != decide (v=i))∧h ^^^ 2 ^ i < 32:=by
 have key:∀ (h:_root_.Fin 32) (i v:_root_.Fin 5),qC (h.val ^^^ 2 ^ i.val) v.val=(qC h.val v.val != decide (v.val=i.val))∧h.val ^^^ 2 ^ i.val < 32:=by decide +kernel
 exact key ⟨h,hh⟩ ⟨i,hi⟩ ⟨v,hv⟩
def jO (sl:Nat→Prop)(h:Nat):Nat→Prop:=fun v=>(10 ≤ v∧sl v)∨(v < 5∧qC h v=true)
theorem zK {sl:Nat→Prop}{h i:Nat}(hh:h < 32)(hi:i < 5)(b:qC h i=true):∀ v,minus (jO sl h) i v→jO sl (h ^^^ 2 ^ i) v:=fun v ⟨a,n⟩=>by
 rcases a with a | ⟨v5,bv⟩
 ·exact .inl a
 ·refine .inr ⟨v5,?_⟩
  rw [(kF hh hi v5).1,bv,Ai n]
  rfl
theorem fF {sl:Nat→Prop}{h i:Nat}(hh:h < 32)(hi:i < 5)(b:qC h i=false):∀ v,plus (jO sl h) i v→jO sl (h ^^^ 2 ^ i) v:=fun v a=>by
 rcases a with (a | ⟨v5,bv⟩) | rfl
 ·exact .inl a
 ·refine .inr ⟨v5,?_⟩
  have n:v ≠ i:=fun z=>by rw [z,b] at bv;cases bv
  rw [(kF hh hi v5).1,bv,Ai n]
  rfl
 ·refine .inr ⟨hi,?_⟩
  rw [(kF hh hi hi).1,b,A2 rfl]
  rfl
theorem dD {A B:Nat→Prop}(k:∀ v,A v→B v)(i:Nat):∀ v,minus A i v→minus B i v:=fun v z=>⟨k v z.1,z.2⟩
theorem nC {A B:Nat→Prop}(k:∀ v,A v→B v)(i:Nat):∀ v,plus A i v→plus B i v:=fun v z=>z.elim (fun y=>.inl (k v y)) .inr
def pL (e:Edge):Nat:=e.1
def pR (e:Edge):Nat:=e.2.1
structure Val (Ed:Edge→Prop)(sl:Nat→Prop)(m:Nat)(ws:List Int):Prop where
 at':∀ h,h < 2 ^ m→∃ M,Mat Ed pL pR (jO sl h) M∧g7 M=ws.getD h 0
 ge:∀ h,h < 2 ^ m→∀ M,Mat Ed pL pR (jO sl h) M→g7 M ≤ ws.getD h 0
def vG (F v:Nat):Bool:=if v < 10 then !qC F v else qC F (v % 10)
def aH (F v:Nat):Bool:=!vG F v
def gZ (F:Nat)(Ed:Edge→Prop):Prop:=∀ e,Ed e→vG F (pL e)=true∧vG F (pR e)=false
theorem tZ {m h j:Nat}(m5:m ≤ 5)(hh:h < 2 ^ m)(j5:j < 5)(b:qC h j=true):j < m:=by
 have key:∀ (m:_root_.Fin 6) (h:_root_.Fin 32) (j:_root_.Fin 5),h.val < 2 ^ m.val→qC h.val j.val=true→j.val < m.val:=by decide +kernel
 have:2 ^ m ≤ 2 ^ 5:=Aw (by decide) m5
 exact key ⟨m,by omega⟩ ⟨h,by omega⟩ ⟨j,j5⟩ hh b
theorem kJ {m h j:Nat}(m5:m ≤ 5)(hh:h < 2 ^ m)(hj:j < m):h ^^^ 2 ^ j < 2 ^ m:=BP hh (Nat.pow_lt_pow_right (by decide) hj)
theorem pN {Ed:Edge→Prop}{sl:Nat→Prop}{m:Nat}{ws:List Int}{F:Nat}(m5:m ≤ 5)(V:Val Ed sl m ws)(sd:gZ F Ed){X Y i:Nat}(hX:X < 2 ^ m)(hY:Y < 2 ^ m)(hi:i < m)(ai:qC X i=true)(bi:qC Y i=false)(p q:Edge→Nat)(S:Nat→Bool)(fl:∀ {A:Nat→Prop} {M:List Edge},Mat Ed pL pR A M ↔ Mat Ed p q A M)(hS:∀ e,Ed e→S (p e)=true∧S (q e)=false)(si:S i=true) :
  ws.getD X 0 + ws.getD Y 0 ≤ ws.getD (X ^^^ 2 ^ i) 0 + ws.getD (Y ^^^ 2 ^ i) 0∨∃ j,j < m∧((S j=false∧qC X j=true∧qC Y j=false)∨(S j=true∧qC X j=false∧qC Y j=true))∧ws.getD X 0 + ws.getD Y 0 ≤ ws.getD (X ^^^ 2 ^ i ^^^ 2 ^ j) 0 + ws.getD (Y ^^^ 2 ^ i ^^^ 2 ^ j) 0:=by
 have p32:2 ^ m ≤ 2 ^ 5:=Aw (by decide) m5
 obtain ⟨M,hM,eM⟩:=V.at' X hX
 obtain ⟨N,hN,eN⟩:=V.at' Y hY
 have i5:i < 5:=by omega
 have x1:=kF (show X < 32 by omega) i5 i5
 have y1:=kF (show Y < 32 by omega) i5 i5
 have hX1:=kJ m5 hX hi
 have hY1:=kJ m5 hY hi
 obtain ⟨M',N',e,alt⟩:=swap_it hS M.length M N (jO sl X) (jO sl Y) i (Ad _) (fl.mp hM) (fl.mp hN) (.inr ⟨i5,ai⟩) (fun z=>by
  rcases z with z | z
  ·omega
  ·rw [bi] at z;cases z.2) si
 have thing:∀ {Z Z' j:Nat},jO sl Z j→¬ jO sl Z' j→j < 5∧qC Z j=true∧qC Z' j=false:=fun {Z Z' j} a n=>by
  rcases a with a | ⟨j5,b⟩
  ·exact absurd (.inl a) n
  ·refine ⟨j5,b,?_⟩
   cases c:qC Z' j with
   | false=>rfl
   | true=>exact absurd (.inr ⟨j5,c⟩) n
 rcases alt with ⟨m1,m2⟩ | ⟨j,sj,aj,bj,m1,m2⟩ | ⟨j,sj,bj,aj,m1,m2⟩
 ·have g1:=V.ge _ hX1 M' (fl.mpr (m1.imp (zK (by omega) i5 ai)))
  have g2:=V.ge _ hY1 N' (fl.mpr (m2.imp (fF (by omega) i5 bi)))
  exact .inl (by omega)
 ·obtain ⟨j5,b1,b2⟩:=thing aj bj
  have jm:=tZ m5 hX j5 b1
  have ne:j ≠ i:=fun z=>by rw [z,si] at sj;cases sj
  have f1:qC (X ^^^ 2 ^ i) j=true:=by rw [(kF (show X < 32 by omega) i5 j5).1,b1,Ai ne];rfl
  have f2:qC (Y ^^^ 2 ^ i) j=false:=by rw [(kF (show Y < 32 by omega) i5 j5).1,b2,Ai ne];rfl
  have g1:=V.ge _ (kJ m5 hX1 jm) M' (fl.mpr (m1.imp fun v z=>zK (by omega) j5 f1 v (dD (zK (by omega) i5 ai) j v z)))
  have g2:=V.ge _ (kJ m5 hY1 jm) N' (fl.mpr (m2.imp fun v z=>fF (by omega) j5 f2 v (nC (fF (by omega) i5 bi) j v z)))
  exact .inr ⟨j,jm,.inl ⟨sj,b1,b2⟩,by omega⟩
 ·obtain ⟨j5,b2,b1⟩:=thing bj aj
  have jm:=tZ m5 hY j5 b2
  have ne:j ≠ i:=fun z=>by rw [z,bi] at b2;cases b2
  have f1:qC (X ^^^ 2 ^ i) j=false:=by rw [(kF (show X < 32 by omega) i5 j5).1,b1,Ai ne];rfl
  have f2:qC (Y ^^^ 2 ^ i) j=true:=by rw [(kF (show Y < 32 by omega) i5 j5).1,b2,Ai ne];rfl
  have g1:=V.ge _ (kJ m5 hX1 jm) M' (fl.mpr (m1.imp fun v z=>fF (by omega) j5 f1 v (nC (zK (by omega) i5 ai) j v z)))
  have g2:=V.ge _ (kJ m5 hY1 jm) N' (fl.mpr (m2.imp fun v z=>zK (by omega) j5 f2 v (dD (fF (by omega) i5 bi) j v z)))
  exact .inr ⟨j,jm,.inr ⟨sj,b1,b2⟩,by omega⟩
theorem Mat.tail {Ed:Edge→Prop}{F:Nat}(sd:gZ F Ed){A:Nat→Prop}{e:Edge}{M:List Edge}(h:Mat Ed pL pR A (e :: M)):Mat Ed pL pR (minus (minus A (pL e)) (pR e)) M:=by
 have n1:=h.np
 have n2:=h.nq
 rw [AN,Bz] at n1 n2
 have mm:∀ x ∈ M,x ∈ e :: M:=fun x hx=>Ap _ hx
 have se:=sd e (h.ed e Am)
 refine ⟨fun x hx=>h.ed x (mm x hx),n1.2,n2.2,fun x hx=>?_,fun x hx=>?_⟩
 ·refine ⟨⟨h.ap x (mm x hx),fun z=>n1.1 (z ▸ Bp hx)⟩,fun z=>?_⟩
  have:=(sd x (h.ed x (mm x hx))).1
  rw [z,se.2] at this
  cases this
 ·refine ⟨⟨h.aq x (mm x hx),fun z=>?_⟩,fun z=>n2.1 (z ▸ Bp hx)⟩
  have:=(sd x (h.ed x (mm x hx))).2
  rw [z,se.1] at this
  cases this
theorem cU {Ed:Edge→Prop}{sl:Nat→Prop}{F m:Nat}{f:Nat→Int}(sd:gZ F Ed)(h0:∀ h,h < 2 ^ m→0 ≤ f h)(step:∀ e h,Ed e→h < 2 ^ m→jO sl h (pL e)→jO sl h (pR e)→∃ h',h' < 2 ^ m∧e.2.2 + f h' ≤ f h∧∀ v,minus (minus (jO sl h) (pL e)) (pR e) v→jO sl h' v):∀ (M:List Edge) (h:Nat),h < 2 ^ m→Mat Ed pL pR (jO sl h) M→g7 M ≤ f h
 | [],h,hh,_=>h0 h hh
 | e :: M,h,hh,hM=>by
  have ee:=hM.ed e Am
  obtain ⟨h',l,le,k⟩:=step e h ee hh (hM.ap e Am) (hM.aq e Am)
  have:=cU sd h0 step M h' l ((hM.tail sd).imp k)
  rw [jC]
  omega
theorem a_bit {h m:Nat}(m5:m ≤ 5)(hh:h < 2 ^ m)(n:h ≠ 0):∃ t,t < m∧qC h t=true:=by
 have key:∀ (m:_root_.Fin 6) (h:_root_.Fin 32),h.val < 2 ^ m.val→h.val ≠ 0→∃ t:_root_.Fin 5,t.val < m.val∧qC h.val t.val=true:=by decide +kernel
 have:2 ^ m ≤ 2 ^ 5:=Aw (by decide) m5
 obtain ⟨t,h1,h2⟩:=key ⟨m,by omega⟩ ⟨h,by omega⟩ hh n
 exact ⟨t.val,h1,h2⟩
structure MatTab (rows:List Edge)(F m:Nat)(ns:List Int):Prop where
 rw':∀ e ∈ rows,e.1 < m∧e.2.1 < m∧qC F e.1=false∧qC F e.2.1=true
 z:ns.getD 0 0=0
 up:∀ h t,h < 2 ^ m→t < m→qC h t=true→ns.getD (h ^^^ 2 ^ t) 0 ≤ ns.getD h 0
 row:∀ h,h < 2 ^ m→∀ e ∈ rows,qC h e.1=true→qC h e.2.1=true→ns.getD (h ^^^ 2 ^ e.1 ^^^ 2 ^ e.2.1) 0 + e.2.2 ≤ ns.getD h 0
 att:∀ h,h < 2 ^ m→h ≠ 0→(∃ t,t < m∧qC h t=true∧ns.getD h 0=ns.getD (h ^^^ 2 ^ t) 0)∨∃ e ∈ rows,qC h e.1=true∧qC h e.2.1=true∧ns.getD h 0=ns.getD (h ^^^ 2 ^ e.1 ^^^ 2 ^ e.2.1) 0 + e.2.2
theorem nZ {h i j:Nat}(hh:h < 32)(hi:i < 5)(hj:j < 5)(ij:i ≠ j)(bi:qC h i=true)(bj:qC h j=true):qC (h ^^^ 2 ^ i) j=true∧h ^^^ 2 ^ i ^^^ 2 ^ j < h∧h - (2 ^ i ||| 2 ^ j)=h ^^^ 2 ^ i ^^^ 2 ^ j:=by
 have key:∀ (h:_root_.Fin 32) (i j:_root_.Fin 5),i.val ≠ j.val→qC h.val i.val=true→qC h.val j.val=true→qC (h.val ^^^ 2 ^ i.val) j.val=true∧h.val ^^^ 2 ^ i.val ^^^ 2 ^ j.val < h.val∧h.val - (2 ^ i.val ||| 2 ^ j.val)=h.val ^^^ 2 ^ i.val ^^^ 2 ^ j.val:=by decide +kernel
 exact key ⟨h,hh⟩ ⟨i,hi⟩ ⟨j,hj⟩ ij bi bj
theorem eQ {sl:Nat→Prop}{h t:Nat}(hh:h < 32)(ht:t < 5)(b:qC h t=true){v:Nat}(a:jO sl (h ^^^ 2 ^ t) v):minus (jO sl h) t v:=by
 rcases a with a | ⟨v5,bv⟩
 ·exact ⟨.inl a,by omega⟩
 ·rw [(kF hh ht v5).1] at bv
  refine ⟨.inr ⟨v5,?_⟩,fun z=>?_⟩
  ·cases c:qC h v with
   | true=>rfl
   | false =>
    rw [c] at bv
    have:v=t:=by simpa using bv
    rw [this,b] at c
    cases c
  ·rw [z,b,A2 rfl] at bv
   cases bv
def kY (ws:List Int)(h:Nat):Nat→Int
 | 0=>0
 | n + 1=>kY ws h n + if qC h n=true then ws.getD n 0 else 0
def edAdd (o F:Nat)(ws:List Int)(m:Nat)(e:Edge):Prop:=∃ t,t < m∧((qC F t=false∧e=(t,o + t,ws.getD t 0))∨(qC F t=true∧e=(o + t,t,ws.getD t 0)))
def hV (o:Nat)(v:Nat):Prop:=o ≤ v∧v < o + 10
theorem nW {o F m:Nat}{ws:List Int}(m5:m ≤ 5)(ho:o=10∨o=30):gZ F (edAdd o F ws m):=fun e ⟨t,tm,h⟩=>by
 have om:(o + t) % 10=t:=by rcases ho with rfl | rfl <;> omega
 rcases h with ⟨b,rfl⟩ | ⟨b,rfl⟩
 ·unfold vG pL pR
  show (if t < 10 then !qC F t else qC F (t % 10))=true∧(if o + t < 10 then !qC F (o + t) else qC F ((o + t) % 10))=false
  rw [Au (by omega),Ax (by omega),om,b]
  exact ⟨rfl,rfl⟩
 ·unfold vG pL pR
  show (if o + t < 10 then !qC F (o + t) else qC F ((o + t) % 10))=true∧(if t < 10 then !qC F t else qC F (t % 10))=false
  rw [Ax (by omega),Au (by omega),om,b]
  exact ⟨rfl,rfl⟩
theorem bA {ws:List Int}{h t:Nat}(hh:h < 32)(ht:t < 5)(b:qC h t=true):∀ n,n ≤ 5→kY ws (h ^^^ 2 ^ t) n=kY ws h n - if t < n then ws.getD t 0 else 0
 | 0,_=>by simp [kY]
 | n + 1,hn=>by
  have ih:=bA (ws:=ws) hh ht b n (by omega)
  have x:=(kF hh ht (show n < 5 by omega)).1
  show kY ws (h ^^^ 2 ^ t) n + (if qC (h ^^^ 2 ^ t) n=true then ws.getD n 0 else 0)=kY ws h n + (if qC h n=true then ws.getD n 0 else 0) - if t < n + 1 then ws.getD t 0 else 0
  by_cases e:n=t
  ·subst e
   rw [Ax (AR n)] at ih
   rw [ih,x,b,A2 rfl]
   simp only [Ba,BK,bne_self_eq_false,AI,B8]
   omega
  ·rw [Ai e,show (qC h n != false)=qC h n by cases qC h n <;> rfl] at x
   rw [ih,x]
   have c:(if t < n + 1 then ws.getD t 0 else 0)=if t < n then ws.getD t 0 else 0:=by
    by_cases z:t < n
    ·rw [Au z,Au (by omega)]
    ·rw [Ax z,Ax (by omega)]
   rw [c]
   omega
theorem add_nn {ws:List Int}(w0:∀ t,0 ≤ ws.getD t 0)(h:Nat):∀ n,0 ≤ kY ws h n
 | 0=>AY _
 | n + 1=>by
  have:=add_nn w0 h n
  have:=w0 n
  show 0 ≤ kY ws h n + if qC h n=true then ws.getD n 0 else 0
  split <;> omega
theorem add_val {o F m:Nat}{ws ns:List Int}(m5:m ≤ 5)(ho:o=10∨o=30)(w0:∀ t,0 ≤ ws.getD t 0)(hn:∀ h,h < 2 ^ m→ns.getD h 0=kY ws h m):Val (edAdd o F ws m) (hV o) m ns:=by
 have p32:2 ^ m ≤ 2 ^ 5:=Aw (by decide) m5
 refine ⟨fun h hh=>?_,fun h hh M hM=>?_⟩
 ·rw [hn h hh]
  have go:∀ n,n ≤ m→∃ M,Mat (edAdd o F ws m) pL pR (fun v=>(v < n∧qC h v=true)∨(o ≤ v∧v < o + n)) M∧g7 M=kY ws h n:=by
   intro n
   induction n with
   | zero=>exact fun _=>⟨[],Mat.nil,rfl⟩
   | succ n ih =>
    intro hnm
    have on:n < o:=by omega
    obtain ⟨M,hM,w⟩:=ih (by omega)
    have mono:∀ v,((v < n∧qC h v=true)∨(o ≤ v∧v < o + n))→((v < n + 1∧qC h v=true)∨(o ≤ v∧v < o + (n + 1))):=fun v z=>z.elim (fun y=>.inl ⟨by omega,y.2⟩) (fun y=>.inr ⟨y.1,by omega⟩)
    show ∃ M,Mat _ pL pR _ M∧g7 M=kY ws h n + if qC h n=true then ws.getD n 0 else 0
    cases b:qC h n with
    | false=>exact ⟨M,hM.imp mono,by rw [w,Ax (by decide)];omega⟩
    | true =>
     cases c:qC F n with
     | false =>
      refine ⟨(n,o + n,ws.getD n 0) :: M,hM.cons ⟨n,by omega,.inl ⟨c,rfl⟩⟩ (fun z=>?_) (fun z=>?_) mono (.inl ⟨Ba n,b⟩) (.inr ⟨BM o n,Ba _⟩),by rw [jC,w,Au rfl];show ws.getD n 0 + kY ws h n=kY ws h n + ws.getD n 0;omega⟩
      ·have z':(n < n∧qC h n=true)∨(o ≤ n∧n < o + n):=z
       exact z'.elim (fun y=>AR _ y.1) (fun y=>absurd y.1 (Nat.not_le.mpr on))
      ·have z':(o + n < n∧qC h (o + n)=true)∨(o ≤ o + n∧o + n < o + n):=z
       exact z'.elim (fun y=>BY.mpr (Nat.le_add_left n o) y.1) (fun y=>AR _ y.2)
     | true =>
      refine ⟨(o + n,n,ws.getD n 0) :: M,hM.cons ⟨n,by omega,.inr ⟨c,rfl⟩⟩ (fun z=>?_) (fun z=>?_) mono (.inr ⟨BM o n,Ba _⟩) (.inl ⟨Ba n,b⟩),by rw [jC,w,Au rfl];show ws.getD n 0 + kY ws h n=kY ws h n + ws.getD n 0;omega⟩
      ·have z':(o + n < n∧qC h (o + n)=true)∨(o ≤ o + n∧o + n < o + n):=z
       exact z'.elim (fun y=>BY.mpr (Nat.le_add_left n o) y.1) (fun y=>AR _ y.2)
      ·have z':(n < n∧qC h n=true)∨(o ≤ n∧n < o + n):=z
       exact z'.elim (fun y=>AR _ y.1) (fun y=>absurd y.1 (Nat.not_le.mpr on))
  obtain ⟨M,hM,w⟩:=go m (Ad _)
  exact ⟨M,hM.imp fun v z=>z.elim (fun y=>.inr ⟨by omega,y.2⟩) (fun y=>.inl ⟨by omega,y.1,by omega⟩),w⟩
 ·rw [hn h hh]
  refine cU (F:=F) (f:=fun h=>kY ws h m) (nW m5 ho) (fun h _=>add_nn w0 h m) (fun e h he hh a1 a2=>?_) M h hh hM
  obtain ⟨t,tm,he⟩:=he
  have b:qC h t=true:=by
   rcases he with ⟨_,rfl⟩ | ⟨_,rfl⟩
   ·rcases a1 with z | z
    ·have:10 ≤ t:=z.1
     omega
    ·exact z.2
   ·rcases a2 with z | z
    ·have:10 ≤ t:=z.1
     omega
    ·exact z.2
  have ao:=bA (ws:=ws) (show h < 32 by omega) (show t < 5 by omega) b m m5
  rw [Au tm] at ao
  refine ⟨h ^^^ 2 ^ t,kJ m5 hh tm,?_,fun v z=>zK (by omega) (by omega) b v ⟨z.1.1,?_⟩⟩
  ·rcases he with ⟨_,rfl⟩ | ⟨_,rfl⟩
   ·show ws.getD t 0 + kY ws (h ^^^ 2 ^ t) m ≤ kY ws h m
    omega
   ·show ws.getD t 0 + kY ws (h ^^^ 2 ^ t) m ≤ kY ws h m
    omega
  ·rcases he with ⟨_,rfl⟩ | ⟨_,rfl⟩
   ·exact z.1.2
   ·exact z.2
def kG:Nat→List Int→Int
 | _,[]=>0
 | 0,_ :: _=>0
 | k + 1,y :: l=>max (kG (k + 1) l) (y + kG k l)
theorem vF (l:List Int):kG 0 l=0:=by cases l <;> rfl
theorem sX (x:Int)(h:0 ≤ x):∀ (k:Nat) (A B:List Int),kG k (A ++ B) ≤ kG k (A ++ x :: B)
 | 0,A,B=>by rw [vF,vF];exact AY _
 | k + 1,[],B=>by
  show kG (k + 1) B ≤ max (kG (k + 1) B) (x + kG k B)
  exact Int.le_max_left _ _
 | k + 1,a :: A,B=>by
  have h1:=sX x h (k + 1) A B
  have h2:=sX x h k A B
  show max (kG (k + 1) (A ++ B)) (a + kG k (A ++ B)) ≤ max (kG (k + 1) (A ++ x :: B)) (a + kG k (A ++ x :: B))
  omega
theorem sM (x a b:Int):x + max a b=max (x + a) (x + b):=by
 rcases Int.le_total a b with h | h
 ·rw [Int.max_eq_right h,Int.max_eq_right (Int.add_le_add_left h x)]
 ·rw [Int.max_eq_left h,Int.max_eq_left (Int.add_le_add_left h x)]
theorem max4 (a b c d:Int):max (max a b) (max c d)=max (max a c) (max b d):=by rw [Ce,Ce,← Ce b c d,Int.max_comm b c,Ce c b d]
theorem bD {l l':List Int}(p:l.Perm l'):∀ k,kG k l=kG k l':=by
 induction p with
 | nil=>exact fun _=>rfl
 | cons x _ ih =>
  intro k
  cases k with
  | zero=>rw [vF,vF]
  | succ k=>show max _ _=max _ _;rw [ih,ih]
 | swap x y l =>
  intro k
  match k with
  | 0=>rw [vF,vF]
  | 1 =>
   show max (max (kG 1 l) (x + kG 0 l)) (y + kG 0 (x :: l))=max (max (kG 1 l) (y + kG 0 l)) (x + kG 0 (y :: l))
   rw [vF,vF,vF,Ce,Int.max_comm (x + 0),← Ce]
  | k + 2 =>
   show max (max (kG (k + 2) l) (x + kG (k + 1) l)) (y + max (kG (k + 1) l) (x + kG k l))=max (max (kG (k + 2) l) (y + kG (k + 1) l)) (x + max (kG (k + 1) l) (y + kG k l))
   rw [sM,sM,max4,show y + (x + kG k l)=x + (y + kG k l) by omega]
 | trans _ _ ih1 ih2=>exact fun k=>(ih1 k).trans (ih2 k)
theorem pP {d:Int}(d0:0 ≤ d):∀ (l:List Int),(∀ x ∈ l,x ≤ d∧0 ≤ x)→∀ k,kG (k + 1) l ≤ d + kG k l
 | [],_,k=>by
  have:kG k [] = 0:=by cases k <;> rfl
  show (0:Int) ≤ d + kG k []
  omega
 | e :: l,h,k=>by
  have he:=h e Am
  have ih:=pP d0 l fun x hx=>h x (Ap _ hx)
  have up:=sX e he.2 k [] l
  have i1:=ih k
  show max (kG (k + 1) l) (e + kG k l) ≤ d + kG k (e :: l)
  have up':kG k l ≤ kG k (e :: l):=up
  omega
theorem pO:∀ (l:List Int),l.Pairwise (fun a b=>b ≤ a)→(∀ x ∈ l,0 ≤ x)→∀ k,(l.take k).sum=kG k l
 | [],_,_,k=>by rw [List.take_nil];cases k <;> rfl
 | d :: l,hp,h0,0=>by rw [List.take_zero];rfl
 | d :: l,hp,h0,k + 1=>by
  rw [List.pairwise_cons] at hp
  rw [List.take_succ_cons,B3,pO l hp.2 (fun x hx=>h0 x (Ap _ hx)) k]
  have:=pP (h0 d Am) l (fun x hx=>⟨hp.1 x hx,h0 x (Ap _ hx)⟩) k
  show d + kG k l=max (kG (k + 1) l) (d + kG k l)
  omega
def vS (ws:List Int)(h n:Nat):List Int:=((List.range n).filter (qC h)).map fun t=>ws.getD t 0
theorem zB (ws:List Int)(h k:Nat):vS ws h (k + 1)=vS ws h k ++ if qC h k=true then [ws.getD k 0] else []:=by
 unfold vS
 rw [Bt,B2,A8]
 congr 1
 cases e:qC h k <;> simp [List.filter,e]
theorem aX {ws:List Int}{h t:Nat}(hh:h < 32)(ht:t < 5):∀ k,k ≤ t→vS ws (h ^^^ 2 ^ t) k=vS ws h k
 | 0,_=>rfl
 | k + 1,hk=>by
  have b:=(kF hh ht (show k < 5 by omega)).1
  rw [Ai (show ¬ k=t by omega),show (qC h k != false)=qC h k by cases qC h k <;> rfl] at b
  rw [zB,zB,aX hh ht k (by omega),b]
theorem aZ {ws:List Int}{h t:Nat}(hh:h < 32)(ht:t < 5)(e:qC h t=true):∀ n,t < n→n ≤ 5→∃ B,vS ws h n=vS ws h t ++ ws.getD t 0 :: B∧vS ws (h ^^^ 2 ^ t) n=vS ws h t ++ B
 | 0,h0,_=>absurd h0 (Cj _)
 | n + 1,hn,h5=>by
  have b:=(kF hh ht (show n < 5 by omega)).1
  rcases Be t n with z | z
  ·obtain ⟨B,e1,e2⟩:=aZ hh ht e n z (by omega)
   rw [Ai (show ¬ n=t by omega),show (qC h n != false)=qC h n by cases qC h n <;> rfl] at b
   rw [zB,zB,e1,e2,b]
   exact ⟨B ++ if qC h n=true then [ws.getD n 0] else [],by simp,by simp⟩
  ·have:n=t:=by omega
   subst this
   rw [zB,zB,Au e,b,e,A2 rfl,aX hh ht n (Ad _)]
   exact ⟨[],rfl,by simp⟩
def eE (o k:Nat)(ws:List Int)(m:Nat)(e:Edge):Prop:=∃ t s,t < m∧s < k∧e=(t,o + s,ws.getD t 0)
theorem mN {o k m:Nat}{ws:List Int}(m5:m ≤ 5)(ho:o=10∨o=30):gZ 0 (eE o k ws m):=fun e ⟨t,s,tm,sk,h⟩=>by
 subst h
 have z:∀ v,qC 0 v=false:=fun v=>by unfold qC;simp
 unfold vG pL pR
 show (if t < 10 then !qC 0 t else qC 0 (t % 10))=true∧(if o + s < 10 then !qC 0 (o + s) else qC 0 ((o + s) % 10))=false
 rw [Au (by omega),Ax (by omega),z,z]
 exact ⟨rfl,rfl⟩
theorem gI:∀ (l:List Int) (k:Nat),kG k l ≤ kG (k + 1) l
 | [],k=>by cases k <;> exact AY _
 | y :: l,0=>by
  have h1:kG 0 l ≤ kG 1 l:=gI l 0
  rw [vF] at h1 ⊢
  show 0 ≤ max (kG 1 l) (y + kG 0 l)
  omega
 | y :: l,k + 1=>by
  have h1:kG (k + 1) l ≤ kG (k + 2) l:=gI l (k + 1)
  have h2:=gI l k
  show max (kG (k + 1) l) (y + kG k l) ≤ max (kG (k + 2) l) (y + kG (k + 1) l)
  omega
theorem uR (l:List Int){j:Nat}:∀ {k:Nat},j ≤ k→kG j l ≤ kG k l
 | 0,h=>by rw [show j=0 by omega];exact AY _
 | k + 1,h=>by
  rcases Be j (k + 1) with z | z
  ·exact Int.le_trans (uR l (show j ≤ k by omega)) (gI l k)
  ·rw [show j=k + 1 by omega];exact AY _
theorem fT {o:Nat}:∀ (k:Nat) (l:List Nat),l.Nodup→(∀ x ∈ l,o ≤ x∧x < o + k)→l.length ≤ k
 | 0,l,_,h=>by
  cases l with
  | nil=>exact Ad _
  | cons a r=>have:=h a Am;omega
 | k + 1,l,nd,h=>by
  by_cases c:o + k ∈ l
  ·have pm:=List.perm_cons_erase c
   have n2:=pm.nodup_iff.mp nd
   rw [Bz] at n2
   have:=fT (o:=o) k (l.erase (o + k)) n2.2 fun x hx=>by
    have a:=h x (List.mem_of_mem_erase hx)
    have:x ≠ o + k:=fun z=>n2.1 (z ▸ hx)
    omega
   have:=pm.length_eq
   rw [Bf] at this
   omega
  ·have:=fT (o:=o) k l nd fun x hx=>by
    have a:=h x hx
    have:x ≠ o + k:=fun z=>c (z ▸ hx)
    omega
   omega
theorem top_val {o k m:Nat}{ws ns:List Int}(m5:m ≤ 5)(k5:k ≤ 5)(ho:o=10∨o=30)(hn:∀ h,h < 2 ^ m→ns.getD h 0=kG k (vS ws h m)):Val (eE o k ws m) (hV o) m ns:=by
 have p32:2 ^ m ≤ 2 ^ 5:=Aw (by decide) m5
 refine ⟨fun h hh=>?_,fun h hh M hM=>?_⟩
 ·rw [hn h hh]
  have go:∀ n,n ≤ m→∀ j,j ≤ k→∃ M,Mat (eE o k ws m) pL pR (fun v=>(v < n∧qC h v=true)∨(o ≤ v∧v < o + j)) M∧g7 M=kG j (vS ws h n):=by
   intro n
   induction n with
   | zero=>exact fun _ j _=>⟨[],Mat.nil,by show (0:Int)=kG j [];cases j <;> rfl⟩
   | succ n ih =>
    intro hnm j hj
    have on:n < o:=by omega
    have mono:∀ j',j' ≤ j→∀ v,((v < n∧qC h v=true)∨(o ≤ v∧v < o + j'))→((v < n + 1∧qC h v=true)∨(o ≤ v∧v < o + j)):=fun j' hj' v z=>z.elim (fun y=>.inl ⟨by omega,y.2⟩) (fun y=>.inr ⟨y.1,by omega⟩)
    cases b:qC h n with
    | false =>
     obtain ⟨M,hM,w⟩:=ih (by omega) j hj
     refine ⟨M,hM.imp (mono j (Ad _)),?_⟩
     rw [w,zB,b]
     simp
    | true =>
     have e:kG j (vS ws h (n + 1))=kG j (ws.getD n 0 :: vS ws h n):=by
      rw [zB,b,Au rfl]
      exact bD List.perm_append_comm j
     rw [e]
     cases j with
     | zero=>exact ⟨[],Mat.nil,by rw [vF];rfl⟩
     | succ j =>
      obtain ⟨M,hM,w⟩:=ih (by omega) (j + 1) hj
      obtain ⟨M',hM',w'⟩:=ih (by omega) j (by omega)
      show ∃ M,Mat _ pL pR _ M∧g7 M=max (kG (j + 1) (vS ws h n)) (ws.getD n 0 + kG j (vS ws h n))
      rcases Int.le_total (ws.getD n 0 + kG j (vS ws h n)) (kG (j + 1) (vS ws h n)) with c | c
      ·exact ⟨M,hM.imp (mono (j + 1) (Ad _)),by rw [w];omega⟩
      ·refine ⟨(n,o + j,ws.getD n 0) :: M',hM'.cons ⟨n,j,by omega,by omega,rfl⟩ (fun z=>?_) (fun z=>?_) (mono j (by omega)) (.inl ⟨Ba n,b⟩) (.inr ⟨BM o j,Ba _⟩),by rw [jC,w'];show ws.getD n 0 + kG j (vS ws h n)=_;omega⟩
       ·have z':(n < n∧qC h n=true)∨(o ≤ n∧n < o + j):=z
        exact z'.elim (fun y=>AR _ y.1) (fun y=>absurd y.1 (Nat.not_le.mpr on))
       ·have z':(o + j < n∧qC h (o + j)=true)∨(o ≤ o + j∧o + j < o + j):=z
        exact z'.elim (fun y=>absurd (Ck (BM o j) y.1) (BY.mpr (Bj on))) (fun y=>AR _ y.2)
  obtain ⟨M,hM,w⟩:=go m (Ad _) k (Ad _)
  exact ⟨M,hM.imp fun v z=>z.elim (fun y=>.inr ⟨by omega,y.2⟩) (fun y=>.inl ⟨by omega,y.1,by omega⟩),w⟩
 ·rw [hn h hh]
  have few:M.length ≤ k:=by
   have:=fT (o:=o) k (M.map pR) hM.nq fun x hx=>by
    obtain ⟨e,he,rfl⟩:=Al.mp hx
    obtain ⟨t,s,_,sk,rfl⟩:=hM.ed e he
    exact ⟨BM o s,Nat.add_lt_add_left sk o⟩
   rwa [Aa] at this
  refine Int.le_trans ?_ (uR _ few)
  have go:∀ (M:List Edge) (h:Nat),h < 2 ^ m→Mat (eE o k ws m) pL pR (jO (hV o) h) M→g7 M ≤ kG M.length (vS ws h m):=by
   intro M
   induction M with
   | nil=>intro h _ _;rw [show ([] : List Edge).length=0 from rfl,vF];exact AY _
   | cons e M ih =>
    intro h hh hM
    obtain ⟨t,s,tm,sk,rfl⟩:=hM.ed e Am
    have b:qC h t=true:=by
     rcases hM.ap _ Am with z | z
     ·have:10 ≤ t:=z.1
      omega
     ·exact z.2
    have ih':=ih (h ^^^ 2 ^ t) (kJ m5 hh tm) ((hM.tail (mN m5 ho)).imp fun v z=>zK (by omega) (by omega) b v z.1)
    obtain ⟨B,e1,e2⟩:=aZ (ws:=ws) (show h < 32 by omega) (show t < 5 by omega) b m tm m5
    rw [e2] at ih'
    rw [jC,e1,bD List.perm_middle]
    show ws.getD t 0 + g7 M ≤ max (kG (M.length + 1) (vS ws h t ++ B)) (ws.getD t 0 + kG M.length (vS ws h t ++ B))
    omega
  exact go M h hh hM
def nJ (a b c d e:Bool):Nat:=(if a then 1 else 0) + (if b then 2 else 0) + (if c then 4 else 0) + (if d then 8 else 0) + (if e then 16 else 0)
theorem tX (a b c d e:Bool):nJ a b c d e < 32∧qC (nJ a b c d e) 0=a∧qC (nJ a b c d e) 1=b∧qC (nJ a b c d e) 2=c∧qC (nJ a b c d e) 3=d∧qC (nJ a b c d e) 4=e:=by
 revert a b c d e
 decide +kernel
theorem mask_ex (P:Nat→Bool):∃ a,a < 32∧∀ t,t < 5→qC a t=P t:=by
 obtain ⟨h0,h1,h2,h3,h4,h5⟩:=tX (P 0) (P 1) (P 2) (P 3) (P 4)
 refine ⟨_,h0,fun t ht=>?_⟩
 have:=(show ∀ t,t < 5→t=0∨t=1∨t=2∨t=3∨t=4 by decide) t ht
 rcases this with rfl | rfl | rfl | rfl | rfl <;> assumption
theorem iA {a h:Nat}(ha:a < 32)(hh:h < 32)(k:∀ t,t < 5→qC a t=true→qC h t=true):a ≤ h∧a &&& h=a:=by
 have key:∀ a h:_root_.Fin 32,(∀ t:_root_.Fin 5,qC a.val t.val=true→qC h.val t.val=true)→a.val ≤ h.val∧a.val &&& h.val=a.val:=by decide +kernel
 exact key ⟨a,ha⟩ ⟨h,hh⟩ fun t=>k t.val t.isLt
theorem cA {a h t:Nat}(hh:h < 32)(al:a ≤ h)(s:a &&& h=a)(ht:t < 5):qC (h - a) t=(qC h t && !qC a t)∧(qC a t=true→qC h t=true):=by
 have key:∀ (a h:_root_.Fin 32) (t:_root_.Fin 5),a.val ≤ h.val→a.val &&& h.val=a.val→qC (h.val - a.val) t.val=(qC h.val t.val && !qC a.val t.val)∧(qC a.val t.val=true→qC h.val t.val=true):=by decide +kernel
 exact key ⟨a,by omega⟩ ⟨h,hh⟩ ⟨t,ht⟩ al s
def Own (Ed:Edge→Prop)(sl:Nat→Prop):Prop:=∀ e,Ed e→(pL e < 5∨(10 ≤ pL e∧sl (pL e)))∧(pR e < 5∨(10 ≤ pR e∧sl (pR e)))
structure JoinTab (m:Nat)(f g ns:List Int):Prop where
 ge:∀ h a,h < 2 ^ m→a ≤ h→a &&& h=a→f.getD a 0 + g.getD (h - a) 0 ≤ ns.getD h 0
 att:∀ h,h < 2 ^ m→∃ a,a ≤ h∧a &&& h=a∧ns.getD h 0=f.getD a 0 + g.getD (h - a) 0
theorem join_val {E1 E2:Edge→Prop}{s1 s2:Nat→Prop}{m F:Nat}{f g ns:List Int}(m5:m ≤ 5)(V1:Val E1 s1 m f)(V2:Val E2 s2 m g)(o1:Own E1 s1)(o2:Own E2 s2)(dj:∀ v,s1 v→¬ s2 v)(sd1:gZ F E1)(sd2:gZ F E2)(J:JoinTab m f g ns):Val (fun e=>E1 e∨E2 e) (fun v=>s1 v∨s2 v) m ns:=by
 have p32:2 ^ m ≤ 2 ^ 5:=Aw (by decide) m5
 refine ⟨fun h hh=>?_,fun h hh M hM=>?_⟩
 ·obtain ⟨a,al,as,e⟩:=J.att h hh
  obtain ⟨M,hM,w⟩:=V1.at' a (by omega)
  obtain ⟨N,hN,w'⟩:=V2.at' (h - a) (by omega)
  have rf:=fun t ht=>cA (t:=t) (show h < 32 by omega) al as ht
  have apart:∀ v,jO s1 a v→jO s2 (h - a) v→False:=fun v z1 z2=>by
   rcases z1 with ⟨v10,y1⟩ | ⟨v5,b1⟩
   ·rcases z2 with ⟨_,y2⟩ | ⟨v5,_⟩
    ·exact dj v y1 y2
    ·omega
   ·rcases z2 with ⟨v10,_⟩ | ⟨_,b2⟩
    ·omega
    ·rw [(rf v v5).1,b1] at b2
     simp at b2
  have in1:∀ v,jO s1 a v→jO (fun v=>s1 v∨s2 v) h v:=fun v z=>by
   rcases z with ⟨v10,y1⟩ | ⟨v5,b1⟩
   ·exact .inl ⟨v10,.inl y1⟩
   ·exact .inr ⟨v5,(rf v v5).2 b1⟩
  have in2:∀ v,jO s2 (h - a) v→jO (fun v=>s1 v∨s2 v) h v:=fun v z=>by
   rcases z with ⟨v10,y1⟩ | ⟨v5,b1⟩
   ·exact .inl ⟨v10,.inr y1⟩
   ·refine .inr ⟨v5,?_⟩
    rw [(rf v v5).1,AE] at b1
    exact b1.1
  refine ⟨M ++ N,⟨fun x hx=>?_,?_,?_,fun x hx=>?_,fun x hx=>?_⟩,by rw [oP,w,w',e]⟩
  ·rcases Av.mp hx with z | z
   ·exact .inl (hM.ed x z)
   ·exact .inr (hN.ed x z)
  ·rw [A8,CC]
   refine ⟨hM.np,hN.np,fun u hu v hv z=>?_⟩
   obtain ⟨x,hx,rfl⟩:=Al.mp hu
   obtain ⟨y,hy,rfl⟩:=Al.mp hv
   exact apart _ (hM.ap x hx) (z ▸ hN.ap y hy)
  ·rw [A8,CC]
   refine ⟨hM.nq,hN.nq,fun u hu v hv z=>?_⟩
   obtain ⟨x,hx,rfl⟩:=Al.mp hu
   obtain ⟨y,hy,rfl⟩:=Al.mp hv
   exact apart _ (hM.aq x hx) (z ▸ hN.aq y hy)
  ·rcases Av.mp hx with z | z
   ·exact in1 _ (hM.ap x z)
   ·exact in2 _ (hN.ap x z)
  ·rcases Av.mp hx with z | z
   ·exact in1 _ (hM.aq x z)
   ·exact in2 _ (hN.aq x z)
 ·have split:∀ M:List Edge,(∀ e ∈ M,E1 e∨E2 e)→∃ M1 M2,M.Perm (M1 ++ M2)∧(∀ e ∈ M1,E1 e)∧∀ e ∈ M2,E2 e:=by
   intro M
   induction M with
   | nil=>exact fun _=>⟨[],[],List.Perm.nil,(fun _ z=>by cases z),(fun _ z=>by cases z)⟩
   | cons e M ih =>
    intro hE
    obtain ⟨M1,M2,pm,h1,h2⟩:=ih fun x hx=>hE x (Ap _ hx)
    rcases hE e Am with z | z
    ·refine ⟨e :: M1,M2,pm.cons e,fun x hx=>?_,h2⟩
     rcases A3.mp hx with rfl | y
     ·exact z
     ·exact h1 x y
    ·refine ⟨M1,e :: M2,(pm.cons e).trans List.perm_middle.symm,h1,fun x hx=>?_⟩
     rcases A3.mp hx with rfl | y
     ·exact z
     ·exact h2 x y
  obtain ⟨M1,M2,pm,h1,h2⟩:=split M hM.ed
  have n1:=(pm.map pL).nodup_iff.mp hM.np
  have n2:=(pm.map pR).nodup_iff.mp hM.nq
  rw [A8,CC] at n1 n2
  have mem1:∀ e ∈ M1,e ∈ M:=fun e he=>pm.mem_iff.mpr (Bw _ he)
  have mem2:∀ e ∈ M2,e ∈ M:=fun e he=>pm.mem_iff.mpr (AH _ he)
  obtain ⟨a,a32,ab⟩:=mask_ex fun t=>M1.any fun e=>decide (pL e=t) || decide (pR e=t)
  have abit:∀ t,t < 5→(qC a t=true ↔ ∃ e ∈ M1,pL e=t∨pR e=t):=fun t ht=>by
   rw [ab t ht,List.any_eq_true]
   simp
  have thing:∀ {v:Nat},jO (fun v=>s1 v∨s2 v) h v→v < 5→qC h v=true:=fun {v} z v5=>by
   rcases z with z | z
   ·omega
   ·exact z.2
  have sub:=iA a32 (show h < 32 by omega) fun t ht b=>by
   obtain ⟨e,he,z⟩:=(abit t ht).mp b
   rcases z with rfl | rfl
   ·exact thing (hM.ap e (mem1 e he)) ht
   ·exact thing (hM.aq e (mem1 e he)) ht
  have rf:=fun t ht=>cA (t:=t) (show h < 32 by omega) sub.1 sub.2 ht
  have g1:=V1.ge a (by omega) M1 ⟨h1,n1.1,n2.1,fun e he=>by
   rcases (o1 e (h1 e he)).1 with z | z
   ·exact .inr ⟨z,(abit _ z).mpr ⟨e,he,.inl rfl⟩⟩
   ·exact .inl z,fun e he=>by
   rcases (o1 e (h1 e he)).2 with z | z
   ·exact .inr ⟨z,(abit _ z).mpr ⟨e,he,.inr rfl⟩⟩
   ·exact .inl z⟩
  have cross:∀ e ∈ M1,∀ e' ∈ M2,pL e ≠ pR e'∧pR e ≠ pL e':=fun e he e' he'=>by
   have a1:=sd1 e (h1 e he)
   have a2:=sd2 e' (h2 e' he')
   refine ⟨fun z=>?_,fun z=>?_⟩
   ·rw [z,a2.2] at a1
    cases a1.1
   ·rw [z,a2.1] at a1
    cases a1.2
  have g2:=V2.ge (h - a) (by omega) M2 ⟨h2,n1.2.1,n2.2.1,fun e he=>by
   rcases (o2 e (h2 e he)).1 with z | z
   ·refine .inr ⟨z,?_⟩
    rw [(rf _ z).1,thing (hM.ap e (mem2 e he)) z]
    cases c:qC a (pL e) with
    | false=>rfl
    | true =>
     obtain ⟨e',he',y⟩:=(abit _ z).mp c
     rcases y with y | y
     ·exact absurd y (n1.2.2 _ (Bp he') _ (Bp he))
     ·exact absurd y (cross e' he' e he).2
   ·exact .inl z,fun e he=>by
   rcases (o2 e (h2 e he)).2 with z | z
   ·refine .inr ⟨z,?_⟩
    rw [(rf _ z).1,thing (hM.aq e (mem2 e he)) z]
    cases c:qC a (pR e) with
    | false=>rfl
    | true =>
     obtain ⟨e',he',y⟩:=(abit _ z).mp c
     rcases y with y | y
     ·exact absurd y (cross e' he' e he).1
     ·exact absurd y (n2.2.2 _ (Bp he') _ (Bp he))
   ·exact .inl z⟩
  have:=J.ge h a hh sub.1 sub.2
  rw [wN pm,oP]
  omega
def bB (g:Nat→Int)(m F:Nat):Prop:=∀ X Y i,X < 2 ^ m→Y < 2 ^ m→i < m→qC (X ^^^ F) i=true→qC (Y ^^^ F) i=false→g X + g Y ≤ g (X ^^^ 2 ^ i) + g (Y ^^^ 2 ^ i)∨∃ j,j < m∧qC (Y ^^^ F) j=true∧qC (X ^^^ F) j=false∧g X + g Y ≤ g (X ^^^ 2 ^ i ^^^ 2 ^ j) + g (Y ^^^ 2 ^ i ^^^ 2 ^ j)
theorem jM (a b c:Nat):a ^^^ b ^^^ c=a ^^^ c ^^^ b:=by rw [CD,Nat.xor_comm b c,← CD]
theorem fJ (a b:Nat):a ^^^ b ^^^ b=a:=by rw [CD,Nat.xor_self,C6]
theorem vU {h F i t:Nat}(hh:h < 32)(hF:F < 32)(hi:i < 5)(ht:t < 5):qC (h ^^^ 2 ^ i ^^^ F) t=(qC (h ^^^ F) t != decide (t=i)):=by
 have hx:h ^^^ F < 2 ^ 5:=BP hh hF
 rw [jM]
 exact (kF hx hi ht).1
structure Gd (g:Nat→Int)(m F h:Nat)(row:List Int):Prop where
 lt:h < 2 ^ m
 on:∀ t:Nat,t < m→((t:Int) ∈ row ↔ qC (h ^^^ F) t=true)
 sw:∀ i j:Nat,i < m→j < m→(i:Int) ∉ row→(j:Int) ∈ row→g (h ^^^ 2 ^ j ^^^ 2 ^ i) ≤ g h
 ou:∀ j:Nat,j < m→(j:Int) ∈ row→g (h ^^^ 2 ^ j) ≤ g h
section
variable {g:Nat→Int}{m F:Nat}
theorem Gd.step (m5:m ≤ 5)(hF:F < 2 ^ m)(ex:bB g m F){h t:Nat}{row:List Int}(G:Gd g m F h row)(ht:t < m)(tr:(t:Int) ∉ row)(up:g h < g (h ^^^ 2 ^ t))(top:∀ i,i < m→(i:Int) ∉ row→g (h ^^^ 2 ^ i) ≤ g (h ^^^ 2 ^ t)):Gd g m F (h ^^^ 2 ^ t) (row ++ [(t:Int)]):=by
 have p32:2 ^ m ≤ 2 ^ 5:=Aw (by decide) m5
 have h32:h < 32:=by have:=G.lt;omega
 have F32:F < 32:=by omega
 have off:∀ i,i < m→(i:Int) ∉ row→qC (h ^^^ F) i=false:=fun i hi n=>by
  cases c:qC (h ^^^ F) i with
  | false=>rfl
  | true=>exact absurd ((G.on i hi).mpr c) n
 have mem:∀ i:Nat,(i:Int) ∈ row ++ [(t:Int)] ↔ (i:Int) ∈ row∨i=t:=fun i=>by
  rw [Av,A4]
  constructor
  ·rintro (z | z)
   ·exact .inl z
   ·exact .inr (by omega)
  ·rintro (z | z)
   ·exact .inl z
   ·exact .inr (by omega)
 refine ⟨kJ m5 G.lt ht,fun i hi=>?_,fun i j hi hj ir jr=>?_,fun j hj jr=>?_⟩
 ·rw [mem,vU h32 F32 (by omega) (by omega),G.on i hi]
  by_cases e:i=t
  ·subst e
   rw [off i hi tr,A2 rfl]
   simp
  ·rw [Ai e]
   simp [e]
 ·rw [mem] at ir jr
  have ir':(i:Int) ∉ row:=fun z=>ir (.inl z)
  have it:i ≠ t:=fun z=>ir (.inr z)
  rcases jr with jr | rfl
  ·have jt:j ≠ t:=fun z=>tr (z ▸ jr)
   have ji:j ≠ i:=fun z=>ir' (z ▸ jr)
   have s1:=G.sw t j ht hj tr jr
   have s2:=G.sw i j hi hj ir' jr
   have a32:h ^^^ 2 ^ t < 2 ^ m:=kJ m5 G.lt ht
   have b32:h ^^^ 2 ^ t ^^^ 2 ^ j < 2 ^ m:=kJ m5 a32 hj
   have bi:qC (h ^^^ 2 ^ t ^^^ 2 ^ j ^^^ 2 ^ i ^^^ F) i=true:=by
    rw [vU (by omega) F32 (by omega) (by omega),vU (by omega) F32 (by omega) (by omega),vU h32 F32 (by omega) (by omega),off i hi ir',A2 rfl,Ai it,Ai (fun z=>ji z.symm)]
    rfl
   rcases ex (h ^^^ 2 ^ t ^^^ 2 ^ j ^^^ 2 ^ i) h i (kJ m5 b32 hi) G.lt hi bi (off i hi ir') with le | ⟨k,hk,k1,k2,le⟩
   ·rw [fJ,jM h (2 ^ t) (2 ^ j)] at le
    have:=top i hi ir'
    rw [jM h (2 ^ t) (2 ^ j)] at *
    omega
   ·have kr:=(G.on k hk).mpr k1
    rw [vU (by omega) F32 (by omega) (by omega),vU (by omega) F32 (by omega) (by omega),vU h32 F32 (by omega) (by omega),k1,Ai (fun z:k=t=>tr (z ▸ kr)),Ai (fun z:k=i=>ir' (z ▸ kr))] at k2
    have kj:k=j:=by simpa using k2
    subst kj
    rw [fJ,fJ,jM h (2 ^ i) (2 ^ k)] at le
    omega
  ·rw [fJ]
   exact top i hi ir'
 ·rw [mem] at jr
  rcases jr with jr | rfl
  ·have s1:=G.sw t j ht hj tr jr
   rw [jM] at s1
   omega
  ·rw [fJ]
   omega
end
theorem dN {h F t:Nat}(hh:h < 32)(hF:F < 32)(ht:t < 5):qC (h ^^^ F) t=(qC h t != qC F t):=by
 have key:∀ (a b:_root_.Fin 32) (t:_root_.Fin 5),qC (a.val ^^^ b.val) t.val=(qC a.val t.val != qC b.val t.val):=by decide +kernel
 exact key ⟨h,hh⟩ ⟨F,hF⟩ ⟨t,ht⟩
theorem eD {ws:List Int}{F m:Nat}{Ed:Edge→Prop}{sl:Nat→Prop}(m5:m ≤ 5)(hF:F < 2 ^ m)(V:Val Ed sl m ws)(sd:gZ F Ed):bB (fun h=>ws.getD h 0) m F:=by
 intro X Y i hX hY hi xi yi
 have p32:2 ^ m ≤ 2 ^ 5:=Aw (by decide) m5
 have i5:i < 5:=by omega
 have bX:=fun t (ht:t < 5)=>dN (h:=X) (F:=F) (t:=t) (by omega) (by omega) ht
 have bY:=fun t (ht:t < 5)=>dN (h:=Y) (F:=F) (t:=t) (by omega) (by omega) ht
 rw [bX i i5] at xi
 rw [bY i i5] at yi
 cases fi:qC F i with
 | false =>
  rw [fi] at xi yi
  have x1:qC X i=true:=by cases c:qC X i;(· rw [c] at xi;cases xi);rfl
  have y1:qC Y i=false:=by cases c:qC Y i;(· rfl);rw [c] at yi;cases yi
  rcases pN (F:=F) m5 V sd hX hY hi x1 y1 pL pR (vG F) Iff.rfl sd (by unfold vG;rw [Au (by omega),fi];rfl) with le | ⟨j,hj,sj,le⟩
  ·exact .inl le
  ·unfold vG at sj
   rw [Au (show j < 10 by omega)] at sj
   refine .inr ⟨j,hj,?_,?_,le⟩
   ·rw [bY j (by omega)]
    rcases sj with ⟨s1,s2,s3⟩ | ⟨s1,s2,s3⟩
    ·rw [s3,show qC F j=true by simpa using s1];rfl
    ·rw [s3,show qC F j=false by simpa using s1];rfl
   ·rw [bX j (by omega)]
    rcases sj with ⟨s1,s2,s3⟩ | ⟨s1,s2,s3⟩
    ·rw [s2,show qC F j=true by simpa using s1];rfl
    ·rw [s2,show qC F j=false by simpa using s1];rfl
 | true =>
  rw [fi] at xi yi
  have x1:qC X i=false:=by cases c:qC X i;(· rfl);rw [c] at xi;cases xi
  have y1:qC Y i=true:=by cases c:qC Y i;(· rw [c] at yi;cases yi);rfl
  rcases pN (F:=F) m5 V sd hY hX hi y1 x1 pR pL (aH F) ⟨Mat.flip,Mat.flip⟩ (fun e he=>by unfold aH;rw [(sd e he).1,(sd e he).2];exact ⟨rfl,rfl⟩) (by unfold aH vG;rw [Au (by omega),fi];rfl) with le | ⟨j,hj,sj,le⟩
  ·exact .inl (by show ws.getD X 0 + ws.getD Y 0 ≤ ws.getD (X ^^^ 2 ^ i) 0 + ws.getD (Y ^^^ 2 ^ i) 0;omega)
  ·unfold aH vG at sj
   rw [Au (show j < 10 by omega)] at sj
   refine .inr ⟨j,hj,?_,?_,by show ws.getD X 0 + ws.getD Y 0 ≤ ws.getD (X ^^^ 2 ^ i ^^^ 2 ^ j) 0 + ws.getD (Y ^^^ 2 ^ i ^^^ 2 ^ j) 0;omega⟩
   ·rw [bY j (by omega)]
    rcases sj with ⟨s1,s2,s3⟩ | ⟨s1,s2,s3⟩
    ·rw [s2,show qC F j=false by simpa using s1];rfl
    ·rw [s2,show qC F j=true by simpa using s1];rfl
   ·rw [bX j (by omega)]
    rcases sj with ⟨s1,s2,s3⟩ | ⟨s1,s2,s3⟩
    ·rw [s3,show qC F j=false by simpa using s1];rfl
    ·rw [s3,show qC F j=true by simpa using s1];rfl
theorem ext_all {g:Nat→Int}{m F:Nat}(m5:m ≤ 5)(hF:F < 2 ^ m)(fa:∀ t,t < m→qC F t=true)(ex:bB g m 0):bB g m F:=by
 intro X Y i hX hY hi xi yi
 have p32:2 ^ m ≤ 2 ^ 5:=Aw (by decide) m5
 have bX:=fun t (ht:t < m)=>dN (h:=X) (F:=F) (t:=t) (by omega) (by omega) (by omega)
 have bY:=fun t (ht:t < m)=>dN (h:=Y) (F:=F) (t:=t) (by omega) (by omega) (by omega)
 rw [bX i hi,fa i hi] at xi
 rw [bY i hi,fa i hi] at yi
 have x1:qC (X ^^^ 0) i=false:=by rw [C6];cases c:qC X i;(· rfl);rw [c] at xi;cases xi
 have y1:qC (Y ^^^ 0) i=true:=by rw [C6];cases c:qC Y i;(· rw [c] at yi;cases yi);rfl
 rcases ex Y X i hY hX hi y1 x1 with le | ⟨j,hj,j1,j2,le⟩
 ·exact .inl (by omega)
 ·rw [C6] at j1 j2
  exact .inr ⟨j,hj,by rw [bY j hj,fa j hj,j2];rfl,by rw [bX j hj,fa j hj,j1];rfl,by omega⟩
theorem eT {ws:List Int}{h t:Nat}(hh:h < 32)(ht:t < 5):∀ n,n ≤ 5→kY ws (h ^^^ 2 ^ t) n=kY ws h n + if t < n then (if qC h t=true then -ws.getD t 0 else ws.getD t 0) else 0:=by
 intro n hn
 cases b:qC h t with
 | true =>
  rw [bA hh ht b n hn]
  split
  ·rw [Au rfl];omega
  ·omega
 | false =>
  have x:=(kF hh ht ht).2
  have b2:qC (h ^^^ 2 ^ t) t=true:=by rw [(kF hh ht ht).1,b,A2 rfl];rfl
  have:=bA (ws:=ws) x ht b2 n hn
  rw [fJ] at this
  rw [Ax (show ¬ (false=true) by decide)]
  split
  ·rename_i z;rw [Au z] at this;omega
  ·rename_i z;rw [Ax z] at this;omega
theorem ext_less {f:Nat→Int}{ps:List Int}{m F:Nat}(m5:m ≤ 5)(hF:F < 2 ^ m)(ex:bB f m F):bB (fun h=>f h - kY ps h m) m F:=by
 intro X Y i hX hY hi xi yi
 have p32:2 ^ m ≤ 2 ^ 5:=Aw (by decide) m5
 have tog:∀ A B t,A < 2 ^ m→B < 2 ^ m→t < m→qC A t ≠ qC B t→kY ps A m + kY ps B m=kY ps (A ^^^ 2 ^ t) m + kY ps (B ^^^ 2 ^ t) m:=fun A B t hA hB ht n=>by
  rw [eT (show A < 32 by omega) (show t < 5 by omega) m m5,eT (show B < 32 by omega) (show t < 5 by omega) m m5,Au ht,Au ht]
  cases c:qC A t <;> cases d:qC B t <;> rw [c,d] at n <;> simp at n ⊢ <;> omega
 have dif:∀ A B t,A < 2 ^ m→B < 2 ^ m→t < m→qC (A ^^^ F) t ≠ qC (B ^^^ F) t→qC A t ≠ qC B t:=fun A B t hA hB ht n z=>n (by rw [dN (by omega) (by omega) (by omega),dN (by omega) (by omega) (by omega),z])
 have t1:=tog X Y i hX hY hi (dif X Y i hX hY hi (by rw [xi,yi];decide))
 rcases ex X Y i hX hY hi xi yi with le | ⟨j,hj,j1,j2,le⟩
 ·exact .inl (by show f X - kY ps X m + (f Y - kY ps Y m) ≤ f (X ^^^ 2 ^ i) - kY ps (X ^^^ 2 ^ i) m + (f (Y ^^^ 2 ^ i) - kY ps (Y ^^^ 2 ^ i) m);omega)
 ·have ji:j ≠ i:=fun z=>by rw [z,yi] at j1;cases j1
  have lX:=kJ m5 hX hi
  have lY:=kJ m5 hY hi
  have t2:=tog (X ^^^ 2 ^ i) (Y ^^^ 2 ^ i) j lX lY hj (by
   rw [(kF (show X < 32 by omega) (show i < 5 by omega) (show j < 5 by omega)).1,(kF (show Y < 32 by omega) (show i < 5 by omega) (show j < 5 by omega)).1,Ai ji]
   have:=dif X Y j hX hY hj (by rw [j1,j2];decide)
   cases c:qC X j <;> cases d:qC Y j <;> rw [c,d] at this <;> simp at this ⊢)
  exact .inr ⟨j,hj,j1,j2,by show f X - kY ps X m + (f Y - kY ps Y m) ≤ f (X ^^^ 2 ^ i ^^^ 2 ^ j) - kY ps (X ^^^ 2 ^ i ^^^ 2 ^ j) m + (f (Y ^^^ 2 ^ i ^^^ 2 ^ j) - kY ps (Y ^^^ 2 ^ i ^^^ 2 ^ j) m);omega⟩
structure PairTab (rows:List Edge)(F m:Nat)(ns:List Int):Prop where
 rw':∀ e ∈ rows,e.1 < m∧e.2.1 < m∧qC F e.1=false∧qC F e.2.1=true
 nn:∀ h,h < 2 ^ m→0 ≤ ns.getD h 0
 row:∀ h,h < 2 ^ m→∀ e ∈ rows,qC h e.1=true→qC h e.2.1=true→ns.getD (h ^^^ 2 ^ e.1 ^^^ 2 ^ e.2.1) 0 + e.2.2 ≤ ns.getD h 0
 att:∀ h,h < 2 ^ m→ns.getD h 0=0∨∃ e ∈ rows,qC h e.1=true∧qC h e.2.1=true∧ns.getD h 0=ns.getD (h ^^^ 2 ^ e.1 ^^^ 2 ^ e.2.1) 0 + e.2.2
theorem cE {rows:List Edge}{F m:Nat}{ns:List Int}(m5:m ≤ 5)(R:PairTab rows F m ns):gZ F (· ∈ rows):=fun e he=>by
 obtain ⟨h1,h2,h3,h4⟩:=R.rw' e he
 unfold vG pL pR
 rw [Au (by omega),Au (by omega),h3,h4]
 exact ⟨rfl,rfl⟩
theorem pair_val {rows:List Edge}{F m:Nat}{ns:List Int}{sl:Nat→Prop}(m5:m ≤ 5)(R:PairTab rows F m ns):Val (· ∈ rows) sl m ns:=by
 have p32:2 ^ m ≤ 2 ^ 5:=Aw (by decide) m5
 have ne:∀ e ∈ rows,e.1 ≠ e.2.1:=fun e he z=>by
  obtain ⟨_,_,h3,h4⟩:=R.rw' e he
  rw [z,h4] at h3
  cases h3
 refine ⟨?_,?_⟩
 ·have go:∀ n h,h ≤ n→h < 2 ^ m→∃ M,Mat (· ∈ rows) pL pR (jO sl h) M∧g7 M=ns.getD h 0:=by
   intro n
   induction n with
   | zero =>
    intro h hn hh
    rcases R.att h hh with z | ⟨e,he,b1,b2,ee⟩
    ·rw [z];exact ⟨[],Mat.nil,rfl⟩
    ·rw [show h=0 by omega] at b1
     unfold qC at b1
     simp at b1
   | succ n ih =>
    intro h hn hh
    rcases R.att h hh with z | ⟨e,he,b1,b2,ee⟩
    ·rw [z];exact ⟨[],Mat.nil,rfl⟩
    ·obtain ⟨r1,r2,_,_⟩:=R.rw' e he
     obtain ⟨o1,o2,_⟩:=nZ (by omega) (show e.1 < 5 by omega) (show e.2.1 < 5 by omega) (ne e he) b1 b2
     obtain ⟨M,hM,w⟩:=ih (h ^^^ 2 ^ e.1 ^^^ 2 ^ e.2.1) (by omega) (by omega)
     have x1:=kF (show h < 32 by omega) (show e.1 < 5 by omega) (show e.1 < 5 by omega)
     have back:∀ v,jO sl (h ^^^ 2 ^ e.1 ^^^ 2 ^ e.2.1) v→minus (minus (jO sl h) e.1) e.2.1 v:=fun v a=>by
      have a1:=eQ x1.2 (by omega) o1 a
      exact ⟨eQ (by omega) (by omega) b1 a1.1,a1.2⟩
     refine ⟨e :: M,(hM.imp back).cons he (fun z=>z.1.2 rfl) (fun z=>z.2 rfl) (fun v z=>z.1.1) (.inr ⟨by unfold pL;omega,b1⟩) (.inr ⟨by unfold pR;omega,b2⟩),?_⟩
     rw [jC,w,ee]
     omega
  exact fun h hh=>go h h (Ad _) hh
 ·intro h hh M hM
  refine cU (F:=F) (f:=fun h=>ns.getD h 0) (cE m5 R) R.nn (fun e h he hh a1 a2=>?_) M h hh hM
  obtain ⟨r1,r2,_,_⟩:=R.rw' e he
  have b1:qC h e.1=true:=by
   rcases a1 with z | z
   ·have:10 ≤ e.1:=z.1
    omega
   ·exact z.2
  have b2:qC h e.2.1=true:=by
   rcases a2 with z | z
   ·have:10 ≤ e.2.1:=z.1
    omega
   ·exact z.2
  obtain ⟨o1,o2,_⟩:=nZ (by omega) (show e.1 < 5 by omega) (show e.2.1 < 5 by omega) (ne e he) b1 b2
  have x1:=kF (show h < 32 by omega) (show e.1 < 5 by omega) (show e.1 < 5 by omega)
  refine ⟨h ^^^ 2 ^ e.1 ^^^ 2 ^ e.2.1,by omega,?_,fun v z=>zK x1.2 (by omega) o1 v (dD (zK (by omega) (by omega) b1) _ v z)⟩
  have:=R.row h hh e he b1 b2
  show e.2.2 + ns.getD (h ^^^ 2 ^ e.1 ^^^ 2 ^ e.2.1) 0 ≤ ns.getD h 0
  omega
def One (o F m:Nat)(ns:List Int):Prop:=∃ Ed,Val Ed (hV o) m ns∧gZ F Ed∧Own Ed (hV o)
theorem bO (o:Nat)(ho:o=10∨o=30){s:Nat}(hs:s < 10):10 ≤ o + s∧hV o (o + s):=by
 unfold hV
 omega
theorem one_top {o m k:Nat}{ws ns:List Int}(m5:m ≤ 5)(k5:k ≤ 5)(ho:o=10∨o=30)(hn:∀ h,h < 2 ^ m→ns.getD h 0=kG k (vS ws h m)):One o 0 m ns :=
 ⟨_,top_val m5 k5 ho hn,mN m5 ho,fun e ⟨t,s,tm,sk,h⟩=>by subst h;exact ⟨.inl (show t < 5 by omega),.inr (bO o ho (show s < 10 by omega))⟩⟩
theorem lO (ws:List Int)(h m:Nat):(vS ws h m).length ≤ m:=by
 unfold vS
 rw [Aa]
 exact AG (Bi _ _) (by simp)
theorem one_pair {o F m:Nat}{ns:List Int}{es:List Edge}(m5:m ≤ 5)(R:PairTab es F m ns):One o F m ns :=
 ⟨_,pair_val m5 R,cE m5 R,fun e he=>⟨.inl (by have:=(R.rw' e he).1;show e.1 < 5;omega),.inl (by have:=(R.rw' e he).2.1;show e.2.1 < 5;omega)⟩⟩
theorem rH {o F m:Nat}{ws ns:List Int}(m5:m ≤ 5)(ho:o=10∨o=30)(w0:∀ t,0 ≤ ws.getD t 0)(hn:∀ h,h < 2 ^ m→ns.getD h 0=kY ws h m):One o F m ns :=
 ⟨_,add_val (F:=F) m5 ho w0 hn,nW m5 ho,fun e ⟨t,tm,h⟩=>by
  rcases h with ⟨_,rfl⟩ | ⟨_,rfl⟩
  ·exact ⟨.inl (show t < 5 by omega),.inr (bO o ho (show t < 10 by omega))⟩
  ·exact ⟨.inr (bO o ho (show t < 10 by omega)),.inl (show t < 5 by omega)⟩⟩
theorem One.ext {o F m:Nat}{ns:List Int}(m5:m ≤ 5)(hF:F < 2 ^ m)(a:One o F m ns):bB (fun h=>ns.getD h 0) m F:=let ⟨_,V,s,_⟩:=a;eD m5 hF V s
theorem rW {F m:Nat}{f g ns:List Int}(m5:m ≤ 5)(hF:F < 2 ^ m)(a:One 10 F m f)(b:One 30 F m g)(J:JoinTab m f g ns):bB (fun h=>ns.getD h 0) m F:=by
 obtain ⟨E1,V1,s1,o1⟩:=a
 obtain ⟨E2,V2,s2,o2⟩:=b
 refine eD m5 hF (join_val m5 V1 V2 o1 o2 (fun v h1 h2=>?_) s1 s2 J) fun e he=>he.elim (s1 e) (s2 e)
 unfold hV at h1 h2
 omega
theorem cS (ss:List Int):∀ k,k ≤ 5→∀ t,t < 5→qC (gY ss 1 k) t=(decide (t < k) && decide (ss.getD t 0=1))
 | 0,_,t,ht=>by
  show qC 0 t=_
  unfold qC
  simp
 | k + 1,hk,t,ht=>by
  have ih:=cS ss k (by omega) t ht
  have lt:=lP ss 1 k
  have p:2 ^ k ≤ 2 ^ 4:=Aw (by decide) (by omega)
  have key:∀ (x:_root_.Fin 32) (k t:_root_.Fin 5),x.val < 2 ^ k.val→qC (x.val + 2 ^ k.val) t.val=(if t.val=k.val then true else qC x.val t.val)∧qC x.val k.val=false:=by decide +kernel
  have kk:=key ⟨gY ss 1 k,by omega⟩ ⟨k,by omega⟩ ⟨t,ht⟩ lt
  show qC (gY ss 1 k + (if ss.getD k 0=1 then 2 ^ k else 0)) t=_
  by_cases e:ss.getD k 0=1
  ·rw [Au e,kk.1,ih]
   by_cases z:t=k
   ·rw [Au z,z,e]
    simp
   ·rw [Ax z]
    have:decide (t < k + 1)=decide (t < k):=by
     rw [decide_eq_decide]
     omega
    rw [this]
  ·rw [Ax e,Nat.add_zero,ih]
   by_cases z:t=k
   ·rw [z,Ai e]
    simp
   ·have:decide (t < k + 1)=decide (t < k):=by
     rw [decide_eq_decide]
     omega
    rw [this]
theorem bit_nat {h t:Nat}(hh:h < 32)(ht:t < 5):bit (h:Int) t=if qC h t=true then 1 else 0:=by
 have key:∀ (a:_root_.Fin 32) (b:_root_.Fin 5),bit (a.val:Int) b.val=if qC a.val b.val=true then 1 else 0:=by decide +kernel
 exact key ⟨h,hh⟩ ⟨t,ht⟩
theorem uI {ws:List Int}{h:Nat}(hh:h < 32):∀ n,n ≤ 5→dI ws (h:Int) n=kY ws h n
 | 0,_=>rfl
 | n + 1,hn=>by
  rw [yO,uI hh n (by omega),bit_nat hh (by omega)]
  show kY ws h n + _=kY ws h n + _
  cases qC h n <;> simp
theorem jZ {ns:List Int}{n:Nat}(h:n < ns.length):xH (ns.map V.int) (n:Int)=some (V.int (ns.getD n 0)):=zL (by simp [h,Ab])
theorem cT {ws:List Int}{r:Int}{i:Nat}(h:i < ws.length):(ws ++ [r]).getD i 0=ws.getD i 0:=by
 rw [Ab,Ab,BF h]
theorem uD {ws:List Int}{r:Int}:(ws ++ [r]).getD ws.length 0=r:=by
 rw [Ab,BE (Ad _),Nat.sub_self]
 rfl
theorem fH {a h:Nat}(ha:a < 32)(hh:h < 32):Builtin.bitAnd (a:Int) (h:Int)=((a &&& h:Nat):Int):=by
 have key:∀ a h:_root_.Fin 32,Builtin.bitAnd (a.val:Int) (h.val:Int)=((a.val &&& h.val:Nat):Int):=by decide +kernel
 exact key ⟨a,ha⟩ ⟨h,hh⟩
def JoinAt (f g ns:List Int)(h:Nat):Prop:=(∀ a,a ≤ h→a &&& h=a→f.getD a 0 + g.getD (h - a) 0 ≤ ns.getD h 0)∧∃ a,a ≤ h∧a &&& h=a∧ns.getD h 0=f.getD a 0 + g.getD (h - a) 0
def hJ:Sp:=fun vs H Q _=>∃ (a b:Addr) (one other:List Int) (m:Nat),vs=[.ref a,.ref b]∧H a=some (.tup (one.map V.int))∧H b=some (.tup (other.map V.int))∧one.length=2 ^ m∧other.length=2 ^ m∧m ≤ 5∧∀ (t:Addr) (ns:List Int) (H':Hp),ns.length=2 ^ m→JoinTab m one other ns→Same H H'→H' t=some (.tup (ns.map V.int))→Q (.ref t) H'
def LT1 (a b c:Addr)(f g:List Int)(G:Hp)(i:Nat)(σ:St)(H:Hp):Prop:=∃ (v3:Option V) (ns:List Int),σ=[some (.ref a),some (.ref b),some (.ref c),v3]∧ns.length=i∧(∀ h,h < i→JoinAt f g ns h)∧SameX c G H∧H c=some (.lst (ns.map V.int))
def LT2 (a b d:Addr)(f g:List Int)(h:Nat)(G:Hp)(i:Nat)(σ:St)(H:Hp):Prop:=∃ (v:Option V) (ns:List Int),σ=[v,some (.ref a),some (.ref b),some (.int (h:Int))]∧ns.length ≤ i∧(0 < i→ns ≠ [])∧((∀ x ∈ ns,∃ a,a ≤ h∧a &&& h=a∧x=f.getD a 0 + g.getD (h - a) 0)∧∀ a,a < i→a &&& h=a→f.getD a 0 + g.getD (h - a) 0 ∈ ns)∧SameX d G H∧H d=some (.lst (ns.map V.int))
theorem and_zero {h:Nat}(hh:h < 32):Builtin.bitAnd (0:Int) (h:Int)=0:=by
 have key:∀ a:_root_.Fin 32,Builtin.bitAnd (0:Int) (a.val:Int)=0:=by decide +kernel
 exact key ⟨h,hh⟩
theorem gA:FnScope ["_law_one", "_law_other", "_law_table", "_law_heap"] ["_law_one", "_law_other"] (qF s__law_joined):=⟨rfl,rfl,rfl,by decide +kernel,rfl,by decide +kernel,by decide +kernel⟩
theorem rN (F:Fun K "_law_joined" "_law_joined" s__law_joined f fd) (hm:mg "_law_joined" = some (.ref f)) (hb:Binds K fd ["_law_one", "_law_other"] []) (T:Txt mg):Cal P w K mg base "_law_joined" ["_law_one", "_law_other"] 1 hJ:=by
 refine q4 F hm hb gA (fun vs H Q E h=>?_) (fun cdv A outer s H vs Q E hr h=>?_)
 ·obtain ⟨_,_,_,_,_,rfl,_⟩:=h;rfl
 ·obtain ⟨a,b,one,other,m,rfl,ha,hb',ol,tl,m5,q⟩:=h
  have h32:one.length ≤ 32:=by rw [ol];exact (jA m5).1
  have hl:one.length=other.length:=by omega
  have sc:=gA
  refine ⟨_,kC (qY (i:=2) sc.nd rfl (Or.inl rfl) (pe_lst qD))
   (kC (jT AD rfl (jD rfl T.range_ (qA (qM len0 rfl T.len_ kX (qA (pv 0) qD)) qD)) (qN (i:=3) sc.nd rfl (Or.inr rfl))
    (qI (zX (jX (pv 2) (qA (qM (iQ rfl) rfl T.max_ gH (qA (jI (N:=["_law_part", "_law_one", "_law_other", "_law_heap"]) (fr:=[none,some 0,some 1,some 3]) rfl (jD rfl T.range_ (qA (qV kW (pv 3) qG) qD)) (CScope.of rfl rfl rfl) rfl (fun _ _ _=>⟨qN (i:=0) (show List.Nodup (α:=Str) ["_law_part", "_law_one", "_law_other", "_law_heap"] by decide +kernel) rfl (Or.inl rfl),zS (q5 jW (qV cH (pv 0) (pv 3)) (pv 0) (qZ _)),qV kW (q9 zF (pv 1) (pv 0) (fun _ _=>rfl)) (q9 zF (pv 2) (qV xR (pv 3) (pv 0)) (fun _ _=>rfl))⟩)) qD)) qD)))))
   (qI (qU (kM zZ rfl T.tuple_ kL (qA (pv 2) qD))))),?_⟩
  rw [show L2.start ["_law_one", "_law_other", "_law_table", "_law_heap"] [.ref a,.ref b] = [some (.ref a),some (.ref b),none,none] from rfl]
  (push_cast only [])
  refine ⟨by decide,fun c nc=>?_⟩
  have nac:a ≠ c:=qE ha nc
  have nbc:b ≠ c:=qE hb' nc
  have hsa:=qX (show upd H c (.lst []) a=_ by rw [qS nac];exact ha)
  (push_cast only [hsa])
  refine ⟨by omega,by omega,z9 (LT1 a b c one other H) ⟨none,[],rfl,rfl,(fun h hh=>absurd hh (Cj _)),SameX.upd,qH⟩ ?_ ?_⟩
  ·rintro h σ H1 hh ⟨v3,ns,rfl,hlen,jn,s1,e1⟩
   rw [Ay] at hh
   have hh32:h < 32:=A5 hh h32
   have ha1:=s1 _ _ nac ha
   have hb1:=s1 _ _ nbc hb'
   (push_cast only [e1])
   refine ⟨by omega,by omega,fun d nd=>?_⟩
   have nad:a ≠ d:=qE ha1 nd
   have nbd:b ≠ d:=qE hb1 nd
   have ncd:c ≠ d:=qE e1 nd
   refine yA (LT2 a b d one other h H1) ⟨none,[],rfl,by simp,fun z=>absurd z (by omega),⟨(fun _ z=>by cases z),fun a ha=>absurd ha (Cj _)⟩,SameX.upd,qH⟩ ?_ ?_
   ·rintro i σ H2 hi ⟨v,ms,rfl,ml,mne,mv,s2,e2⟩
    have hi':i ≤ h:=by omega
    have hi32:i < 32:=Ck hi' hh32
    have ml32:ms.length ≤ 1000:=AG ml (AG (Bj hi32) (by decide))
    have ml1:ms.length ≤ i + 1:=Nat.le_succ_of_le ml
    have ml2:ms.length + 1 ≤ i + 1:=Nat.succ_le_succ ml
    have hsa2:=qX (s2 _ _ nad ha1)
    have hsb2:=qX (s2 _ _ nbd hb1)
    have hat1:=jZ (ns:=one) (n:=i) (by omega)
    have hat2:=jZ (ns:=other) (n:=h - i) (by omega)
    rw [show ((h - i:Nat):Int)=(h:Int) - (i:Int) by omega] at hat2
    (push_cast only [])
    split
    ·rename_i hy
     have sub:i &&& h=i:=by
      have y:Builtin.bitAnd (i:Int) (h:Int)=(i:Int):=by simpa using hy
      rw [fH (by omega) (by omega)] at y
      exact_mod_cast y
     (push_cast only [hsa2,hsb2,hat1,hat2,e2])
     refine ⟨qO (by omega),⟨_,ms ++ [one.getD i 0 + other.getD (h - i) 0],rfl,by rw [Ar,A7];omega,fun _=>by simp,⟨fun x hx=>?_,fun a ha s=>?_⟩,s2.trans SameX.upd,by rw [qH];simp⟩⟩
     ·rcases Av.mp hx with z | z
      ·exact mv.1 x z
      ·exact ⟨i,hi',sub,A4.mp z⟩
     ·rcases Be a i with z | z
      ·exact Bw _ (mv.2 a z s)
      ·rw [show a=i by omega]
       exact AH _ Am
    ·rename_i hn
     refine ⟨_,ms,rfl,by omega,fun _=>?_,⟨mv.1,fun a ha s=>?_⟩,s2,e2⟩
     rotate_left
     ·rcases Be a i with z | z
      ·exact mv.2 a z s
      ·have ea:a=i:=by omega
       subst ea
       refine absurd ?_ hn
       have y:Builtin.bitAnd (a:Int) (h:Int)=(a:Int):=by rw [fH (by omega) (by omega),s]
       simpa using y
     by_cases h0:i=0
     ·subst h0
      exact absurd (by simpa using and_zero (h:=h) (by omega)) hn
     ·exact mne (by omega)
   ·rintro σ H2 ⟨v,ms,rfl,ml,mne,mv,s2,e2⟩
    refine ⟨_,kD e2,mne (by omega),fun mx mxm mxl=>?_⟩
    have e2c:=s2 _ _ ncd e1
    (push_cast only [e2c])
    refine ⟨qO (by omega),⟨_,ns ++ [mx],rfl,by rw [Ar,A7,hlen],fun h' hh'=>?_,?_,by rw [qH,A8];rfl⟩⟩
    ·unfold JoinAt
     rcases Be h' ns.length with z | z
     ·rw [cT z]
      exact jn h' (by omega)
     ·have eh:h'=h:=by omega
      have g:(ns ++ [mx]).getD h' 0=mx:=by
       rw [show h'=ns.length by omega]
       exact uD
      rw [g,eh]
      exact ⟨fun a al s=>mxl _ (mv.2 a (by omega) s),mv.1 mx mxm⟩
    exact (s1.trans (s2.same nd).x).trans SameX.upd
  ·rintro σ H1 ⟨v3,ns,rfl,hlen,jn,s1,e1⟩
   rw [Ay] at hlen jn
   (push_cast only [])
   refine ⟨_,e1,fun l H2 nl s2 e2=>?_⟩
   exact q l ns H2 (by omega) ⟨fun h a hh=>(jn h (by omega)).1 a,fun h hh=>(jn h (by omega)).2⟩ ((s1.same nc).trans s2) e2
theorem wX {h t:Nat}:decide ((h:Int) / ((2 ^ t:Nat):Int) % 2=1)=qC h t:=by
 unfold qC
 rw [decide_eq_decide]
 constructor
 ·intro z
  have:((h / 2 ^ t % 2:Nat):Int)=1:=by push_cast;exact_mod_cast z
  exact_mod_cast this
 ·intro z
  have:((h / 2 ^ t % 2:Nat):Int)=1:=by exact_mod_cast z
  exact_mod_cast this
theorem fE {m t:Nat}(m5:m ≤ 5)(ht:t < m):(bitsL m)[t]? = some ((2 ^ t:Nat):Int):=by
 have key:∀ (m:_root_.Fin 6) (t:_root_.Fin 5),t.val < m.val→(bitsL m.val)[t.val]? = some ((2 ^ t.val:Nat):Int):=by decide +kernel
 exact key ⟨m,by omega⟩ ⟨t,by omega⟩ ht
theorem nQ {m:Nat}(m5:m ≤ 5):(bitsL m).length=m:=by
 have key:∀ m:_root_.Fin 6,(bitsL m.val).length=m.val:=by decide +kernel
 exact key ⟨m,by omega⟩
theorem cutI (ns:List Int)(k:Nat):zP (ns.map V.int) none (some (k:Int))=(ns.take k).map V.int:=by
 unfold zP
 rw [HT.sIx_none,HT.sIx_nat,Aa,BW,Nat.sub_zero,← List.map_take]
 congr 1
 rcases Nat.le_total k ns.length with h | h
 ·rw [Nat.min_eq_left h]
 ·rw [Nat.min_eq_right h,AB (Ad _),AB h]
def uZ:Sp:=fun vs H Q _=>∃ (a:Addr) (ws:List Int) (k:Nat),vs=[.ref a,.int (k:Int)]∧H a=some (.lst (ws.map V.int))∧1 ≤ ws.length∧ws.length ≤ 5∧(∀ x ∈ ws,0 ≤ x∧x ≤ 1000)∧∀ (t:Addr) (ns:List Int) (H':Hp),H t=none→ns.length=2 ^ ws.length→(∀ h,h < 2 ^ ws.length→ns.getD h 0=kG k (vS ws h ws.length))→Same H H'→H' t=some (.tup (ns.map V.int))→Q (.ref t) H'
def SM1 (a c:Addr)(ws:List Int)(k:Nat)(G:Hp)(i:Nat)(σ:St)(H:Hp):Prop:=∃ (v3 v4:Option V) (ns:List Int),σ=[some (.ref a),some (.int (k:Int)),some (.ref c),v3,v4]∧ns.length=i∧(∀ h,h < i→ns.getD h 0=kG k (vS ws h ws.length))∧SameX c G H∧H c=some (.lst (ns.map V.int))
def SM2 (a d:Addr)(ws:List Int)(h:Nat)(G:Hp)(i:Nat)(σ:St)(H:Hp):Prop:=∃ (v1 v2:Option V),σ=[v1,v2,some (.ref a),some (.int (h:Int))]∧SameX d G H∧H d=some (.lst ((vS ws h i).map V.int))
theorem dU:FnScope ["_law_worths", "_law_many", "_law_table", "_law_heap", "_law_here"] ["_law_worths", "_law_many"] (qF s__law_some):=⟨rfl,rfl,rfl,by decide +kernel,rfl,by decide +kernel,by decide +kernel⟩
theorem ok_some (F:Fun K "_law_some" "_law_some" s__law_some f fd) (hm:mg "_law_some" = some (.ref f)) (hb:Binds K fd ["_law_worths", "_law_many"] []) (T:Txt mg) (c__law_costs:Cal P w K mg base "_law_costs" ["_law_prices"] 1 z6) (c__law_bits:Cal P w K mg base "_law_bits" ["_law_many"] 1 wQ):Cal P w K mg base "_law_some" ["_law_worths", "_law_many"] 2 uZ:=by
 refine q4 F hm hb dU (fun vs H Q E h=>?_) (fun cdv A outer s H vs Q E hr h=>?_)
 ·obtain ⟨_,_,_,rfl,_⟩:=h;rfl
 ·obtain ⟨a,ws,k,rfl,ha,w1,w5,wb,q⟩:=h
  have sc:=dU
  have hp:=jA w5
  refine ⟨_,qJ (qY (i:=2) sc.nd rfl (Or.inl rfl) (kZ qD))
   (qJ (jT AD rfl (jD rfl T.range_ (qA (qM len0 rfl T.len_ kX (qA (qL c__law_costs hr (qA (pv 0) qD)) qD)) qD)) (qN (i:=3) sc.nd rfl (Or.inr rfl))
    (qJ (rE (i:=4) sc.nd rfl (Or.inl rfl) (N:=["_law_k", "_law_bit", "_law_worths", "_law_heap"]) (fr:=[none,none,some 0,some 3]) rfl (gK rfl T.enumerate_ (qA (qL c__law_bits hr (qA (qM len0 rfl T.len_ kX (qA (pv 0) qD)) qD)) qD)) (CScope.of rfl rfl rfl) rfl (fun _ _ _=>⟨kU (n:=2) rfl (qT (qN (i:=0) (show List.Nodup (α:=Str) ["_law_k", "_law_bit", "_law_worths", "_law_heap"] by decide +kernel) rfl (Or.inl rfl)) (qT (qN (i:=1) (show List.Nodup (α:=Str) ["_law_k", "_law_bit", "_law_worths", "_law_heap"] by decide +kernel) rfl (Or.inl rfl)) kR)),zS (q5 jW (qV yU (qV xV (pv 3) (pv 1)) qG) qG (qZ _)),q9 zF (pv 2) (pv 0) (fun _ _=>rfl)⟩))
   (qI (zX (jX (pv 2) (qA (qM (tD rfl) rfl T.sum_ dJ (qA (j9 slL0 (pe_revL (qM sorted0 rfl T.sorted_ oH (qA (pv 4) qD)) (wJ vT qG) (fun _ _ _ h=>⟨_,rfl,h⟩)) zR (zQ (pv 1))) qD)) qD))))))
   (qI (qU (kM zZ rfl T.tuple_ kL (qA (pv 2) qD))))),?_⟩
  rw [show L2.start ["_law_worths", "_law_many", "_law_table", "_law_heap", "_law_here"] [.ref a,.int (k:Int)] = [some (.ref a),some (.int (k:Int)),none,none,none] from rfl]
  (push_cast only [])
  refine ⟨by decide,fun c H1 nc s1 e1=>?_⟩
  have nac:a ≠ c:=qE ha nc
  (simp only [qK])
  (push_cast only [])
  refine ⟨a,ws,rfl,.inr (s1 _ _ ha),w5,fun ct H2 n2 s2 e2=>?_⟩
  have hs2:=kD e2
  (push_cast only [hs2])
  rw [jH]
  refine ⟨by omega,by omega,z9 (SM1 a c ws k H) ⟨_,_,[],rfl,rfl,(fun h hh=>absurd hh (Cj _)),(s1.trans s2).x,s2 _ _ e1⟩ ?_ ?_⟩
  ·rintro h σ H3 hh ⟨v3,v4,ns,rfl,hlen,tp,s3,e3⟩
   rw [Ay] at hh
   have ha3:=s3 _ _ nac ha
   have hsa3:=kD ha3
   (push_cast only [hsa3])
   refine ⟨ws.length,rfl,w5,fun bl H4 n4 s4 e4=>?_⟩
   (push_cast only [])
   refine ⟨_,_,.inl ⟨rfl,e4⟩,fun d nd=>?_⟩
   have ha4:=s4 _ _ ha3
   have e34:=s4 _ _ e3
   have nad:a ≠ d:=qE ha4 nd
   have nbd:bl ≠ d:=qE e4 nd
   have ncd:c ≠ d:=qE e34 nd
   refine eL (SM2 a d ws h H4) ⟨none,none,rfl,SameX.upd,qH⟩ (fun i σ H' ⟨_,_,_,s,_⟩=>.inl ⟨rfl,s _ _ nbd e4⟩) ?_ ?_
   ·rintro i v T' σ H5 H6 hv ⟨v1,v2,rfl,s5,e5⟩ nT s6 e6
    have il:i < (bitsL ws.length).length:=by
     have:=(Ae.mp hv).1
     rwa [Aa] at this
    rw [nQ w5] at il
    have hv':V.int ((2 ^ i:Nat):Int)=v:=by
     rw [Af,fE w5 il] at hv
     exact A9 hv
    subst hv'
    have e56:=s6 _ _ e5
    have hsa6:=kD (s6 _ _ (s5 _ _ nad ha4))
    have hat:=jZ (ns:=ws) (n:=i) il
    have len:(vS ws h i).length ≤ 5:=AG (lO ws h i) (by omega)
    (push_cast only [e6])
    have p16:2 ^ i ≤ 2 ^ 4:=Aw (by decide) (by omega)
    have pp:=AA i
    refine ⟨⟨by omega,by omega⟩,?_⟩
    have ib:=wX (h:=h) (t:=i)
    cases b:qC h i with
    | true =>
     rw [b] at ib
     rw [Au (AS ib)]
     refine ⟨_,hsa6,_,hat,_,e56,qO (by rw [Aa];omega),⟨_,_,rfl,(s5.trans s6.x).trans SameX.upd,?_⟩⟩
     rw [qH,zB,b,Au rfl,A8]
     rfl
    | false =>
     rw [b] at ib
     rw [Ax (of_decide_eq_false ib)]
     refine ⟨_,_,rfl,s5.trans s6.x,?_⟩
     rw [e56,zB,b]
     simp
   ·rintro σ H5 ⟨v1,v2,rfl,s5,e5⟩
    rw [Aa,nQ w5] at e5
    have hs5:=kD e5
    have len:(vS ws h ws.length).length ≤ 5:=AG (lO ws h ws.length) w5
    have hw0:∀ t,0 ≤ ws.getD t 0∧ws.getD t 0 ≤ 1000:=fun t=>by
     rw [Ab]
     cases e:ws[t]? with
     | none=>exact ⟨AY _,by decide⟩
     | some x=>exact wb x (Aq e)
    have ibd:∀ x ∈ vS ws h ws.length,0 ≤ x∧x ≤ 1000:=fun x hx=>by
     unfold vS at hx
     obtain ⟨t,_,rfl⟩:=Al.mp hx
     exact hw0 t
    have e35:=s5 _ _ ncd e34
    (simp only [qK])
    (push_cast only [e35,hs5])
    refine ⟨_,rfl,by omega,fun y ms H6 ny s6 pm so e6=>⟨_,e6,fun z H7 nz s7 e7=>⟨_,e7,fun u nu=>?_⟩⟩⟩
    rw [← List.map_reverse,cutI]
    have sub:∀ x ∈ ms.reverse.take k,0 ≤ x∧x ≤ 1000:=fun x hx=>ibd x (pm.mem_iff.mp (Cv.mp (Bl hx)))
    have pml:=pm.length_eq
    have e37:=s7 _ _ (s6 _ _ e35)
    have ncu:c ≠ u:=qE e37 nu
    refine ⟨_,rfl,g9 (fun x hx=>by have:=sub x hx;omega) (by rw [An,B7];omega),_,by rw [qS ncu];exact e37,qO (by rw [Aa];omega),⟨_,_,ns ++ [(ms.reverse.take k).sum],rfl,by simp [hlen],fun h' hh'=>?_,fun b o n e=>?_,by rw [qH,A8];rfl⟩⟩
    ·rcases Be h' ns.length with y1 | y1
     ·rw [cT y1]
      exact tp h' (by omega)
     ·rw [show h'=ns.length by omega,uD,hlen,pO ms.reverse (List.pairwise_reverse.mpr so) (fun x hx=>(ibd x (pm.mem_iff.mp (Cv.mp hx))).1),bD ((List.reverse_perm ms).trans pm)]
    ·have y4:=s4 _ _ (s3 b o n e)
     have y7:=s7 _ _ (s6 _ _ (s5 _ _ (qE y4 nd) y4))
     rw [qS n,qS (qE y7 nu)]
     exact y7
  ·rintro σ H3 ⟨v3,v4,ns,rfl,hlen,tp,s3,e3⟩
   rw [Ay] at hlen tp
   (simp only [qK])
   (push_cast only [e3])
   intro l H4 n4 s4 e4
   exact q l ns H4 (jG (s3.same nc) n4) hlen tp ((s3.same nc).trans s4) e4
def PAt (es:List Edge)(ns:List Int)(h:Nat)(x:Int):Prop:=0 ≤ x∧(∀ e ∈ es,qC h e.1=true→qC h e.2.1=true→ns.getD (h ^^^ 2 ^ e.1 ^^^ 2 ^ e.2.1) 0 + e.2.2 ≤ x)∧(x=0∨∃ e ∈ es,qC h e.1=true∧qC h e.2.1=true∧x=ns.getD (h ^^^ 2 ^ e.1 ^^^ 2 ^ e.2.1) 0 + e.2.2)
def EOk (m:Nat)(e:Edge):Prop:=e.1 < m∧e.2.1 < m∧e.1 ≠ e.2.1
theorem PAt.ext {es:List Edge}{m:Nat}{ns ns':List Int}{h:Nat}{x:Int}(m5:m ≤ 5)(hh:h < 32)(ok:∀ e ∈ es,EOk m e)(eq:∀ k,k < h→ns'.getD k 0=ns.getD k 0)(M:PAt es ns h x):PAt es ns' h x:=by
 have e2:∀ e ∈ es,qC h e.1=true→qC h e.2.1=true→ns'.getD (h ^^^ 2 ^ e.1 ^^^ 2 ^ e.2.1) 0=ns.getD (h ^^^ 2 ^ e.1 ^^^ 2 ^ e.2.1) 0:=fun e he b1 b2=>by
  obtain ⟨h1,h2,h3⟩:=ok e he
  exact eq _ (nZ hh (by omega) (by omega) h3 b1 b2).2.1
 refine ⟨M.1,fun e he b1 b2=>by rw [e2 e he b1 b2];exact M.2.1 e he b1 b2,?_⟩
 rcases M.2.2 with z | ⟨e,he,b1,b2,y⟩
 ·exact .inl z
 ·exact .inr ⟨e,he,b1,b2,by rw [e2 e he b1 b2];exact y⟩
def PPre (es:List Edge)(ns:List Int):Prop:=∀ h,h < ns.length→PAt es ns h (ns.getD h 0)
theorem PPre.snoc {es:List Edge}{m:Nat}{ns:List Int}{x:Int}(m5:m ≤ 5)(hh:ns.length < 32)(ok:∀ e ∈ es,EOk m e)(P:PPre es ns)(M:PAt es ns ns.length x):PPre es (ns ++ [x]):=fun h hl=>by
 rw [Ar,A7] at hl
 rcases Be h ns.length with z | z
 ·rw [cT z]
  exact (P h z).ext m5 (by omega) ok fun k hk=>cT (by omega)
 ·have:h=ns.length:=by omega
  subst this
  rw [uD]
  exact M.ext m5 hh ok fun k hk=>cT hk
theorem uP {h i j:Nat}(hh:h < 32)(hi:i < 5)(hj:j < 5)(ij:i ≠ j)(bi:qC h i=true)(bj:qC h j=true):2 ^ i + 2 ^ j ≤ h∧h - 2 ^ i - 2 ^ j=h ^^^ 2 ^ i ^^^ 2 ^ j:=by
 have key:∀ (h:_root_.Fin 32) (i j:_root_.Fin 5),i.val ≠ j.val→qC h.val i.val=true→qC h.val j.val=true→2 ^ i.val + 2 ^ j.val ≤ h.val∧h.val - 2 ^ i.val - 2 ^ j.val=h.val ^^^ 2 ^ i.val ^^^ 2 ^ j.val:=by decide +kernel
 exact key ⟨h,hh⟩ ⟨i,hi⟩ ⟨j,hj⟩ ij bi bj
def R3 (H:Hp)(m:Nat)(rs:List (Addr × Edge)):Prop:=∀ x ∈ rs,H x.1=some (.tup [.int (x.2.1:Int),.int (x.2.2.1:Int),.int x.2.2.2])∧EOk m x.2
theorem flat0:∀ n:Nat,(List.replicate n [V.int 0]).flatten=(List.replicate n (0:Int)).map V.int
 | 0=>rfl
 | n + 1=>by rw [By,B5,flat0 n,By,AN];rfl
def mT:Sp:=fun vs H Q _=>∃ (r:Addr) (m:Nat) (rs:List (Addr × Edge)),vs=[.int (m:Int),.ref r]∧H r=some (.lst (rs.map fun x=>V.ref x.1))∧R3 H m rs∧1 ≤ m∧m ≤ 5∧∀ (t:Addr) (ns:List Int) (H':Hp),H t=none→ns.length=2 ^ m→PPre (rs.map fun x=>x.2) ns→Same H H'→H' t=some (.tup (ns.map V.int))→Q (.ref t) H'
def PI1 (r b c:Addr)(m:Nat)(es:List Edge)(G:Hp)(i:Nat)(σ:St)(H:Hp):Prop:=∃ (v4 v5 v6 v7 v8:Option V) (ns:List Int),σ=[some (.int (m:Int)),some (.ref r),some (.ref b),some (.ref c),v4,v5,v6,v7,v8]∧ns.length=i∧PPre es ns∧SameX c G H∧H c=some (.lst (ns.map V.int))
def PI2 (r b c:Addr)(m h:Nat)(ns:List Int)(es:List Edge)(G:Hp)(i:Nat)(σ:St)(H:Hp):Prop:=∃ (v6 v7 v8:Option V) (x:Int),σ=[some (.int (m:Int)),some (.ref r),some (.ref b),some (.ref c),some (.int (h:Int)),some (.int x),v6,v7,v8]∧PAt (es.take i) ns h x∧Same G H
theorem vZ:FnScope ["_law_many", "_law_rows", "_law_bits_here", "_law_table", "_law_heap", "_law_best", "_law_i", "_law_j", "_law_worth"] ["_law_many", "_law_rows"] (qF s__law_paired):=⟨rfl,rfl,rfl,by decide +kernel,rfl,by decide +kernel,by decide +kernel⟩
theorem iI (F:Fun K "_law_paired" "_law_paired" s__law_paired f fd) (hm:mg "_law_paired" = some (.ref f)) (hb:Binds K fd ["_law_many", "_law_rows"] []) (T:Txt mg) (c__law_costs:Cal P w K mg base "_law_costs" ["_law_prices"] 1 z6) (c__law_bits:Cal P w K mg base "_law_bits" ["_law_many"] 1 wQ):Cal P w K mg base "_law_paired" ["_law_many", "_law_rows"] 2 mT:=by
 refine q4 F hm hb vZ (fun vs H Q E h=>?_) (fun cdv A outer s H vs Q E hr h=>?_)
 ·obtain ⟨_,_,_,rfl,_⟩:=h;rfl
 ·obtain ⟨r,m,rs,rfl,er,r3,m1,m5,q⟩:=h
  have sc:=vZ
  have hp:=jA m5
  refine ⟨_,qJ (qY (i:=2) sc.nd rfl (Or.inl rfl) (qL c__law_bits hr (qA (pv 0) qD)))
   (qJ (qY (i:=3) sc.nd rfl (Or.inl rfl) (kZ qD))
   (qJ (jT AD rfl (jD rfl T.range_ (qA (qM len0 rfl T.len_ kX (qA (qL c__law_costs hr (qA (qV mulT0 (jK (qA qG qD)) (pv 0)) qD)) qD)) qD)) (qN (i:=4) sc.nd rfl (Or.inl rfl))
    (qJ (qY (i:=5) sc.nd rfl (Or.inl rfl) qG)
   (qJ (jT AD rfl (yG (pv 1)) (kU (n:=3) rfl (qT (qN (i:=6) sc.nd rfl (Or.inl rfl)) (qT (qN (i:=7) sc.nd rfl (Or.inl rfl)) (qT (qN (i:=8) sc.nd rfl (Or.inl rfl)) kR))))
    (qI (j8 (PW.pt (yR (q5 jW (qV yU (qV xV (pv 4) (q9 zF (pv 2) (pv 6) (fun _ _=>rfl))) qG) qG (qZ _)) (xO (q5 jW (qV yU (qV xV (pv 4) (q9 zF (pv 2) (pv 7) (fun _ _=>rfl))) qG) qG (qZ _))))) (qI (qY (i:=5) sc.nd rfl (Or.inl rfl) (qM (nP rfl) rfl T.max_ gH (qA (pv 5) (qA (qV kW (q9 zF (pv 3) (qV xR (qV xR (pv 4) (q9 zF (pv 2) (pv 6) (fun _ _=>rfl))) (q9 zF (pv 2) (pv 7) (fun _ _=>rfl))) (fun _ _=>rfl)) (pv 8)) qD))))) jB)))
   (qI (zX (jX (pv 3) (qA (pv 5) qD)))))))
   (qI (qU (kM zZ rfl T.tuple_ kL (qA (pv 3) qD)))))),?_⟩
  rw [show L2.start ["_law_many", "_law_rows", "_law_bits_here", "_law_table", "_law_heap", "_law_best", "_law_i", "_law_j", "_law_worth"] [.int (m:Int),.ref r] = [some (.int (m:Int)),some (.ref r),none,none,none,none,none,none,none] from rfl]
  (push_cast only [])
  refine ⟨m,rfl,m5,fun bl H1 n1 s1 e1=>?_⟩
  (push_cast only [])
  (simp only [qK])
  (push_cast only [])
  refine ⟨by decide,fun c H2 nc s2 e2=>?_⟩
  (simp only [qK])
  (push_cast only [])
  refine ⟨by decide,fun z1 H3 n3 s3 e3=>?_⟩
  refine ⟨m,rfl,_,e3,by show 1 * m ≤ 1000;omega,by omega,fun z2 H4 s4 e4=>?_⟩
  rw [show (List.replicate m [V.int 0]).flatten=(List.replicate m (0:Int)).map V.int from flat0 m] at e4
  refine ⟨z2,List.replicate m 0,rfl,.inl e4,by rw [Cr];exact m5,fun ct H5 n5 s5 e5=>?_⟩
  have hs5:=kD e5
  have S5:Same H H5:=(((s1.trans s2).trans s3).trans s4).trans s5
  have S15:Same H1 H5:=((s2.trans s3).trans s4).trans s5
  have e25:=s5 _ _ (s4 _ _ (s3 _ _ e2))
  have nrc:r ≠ c:=qE (s1 _ _ er) nc
  have nbc:bl ≠ c:=qE e1 nc
  (push_cast only [hs5])
  rw [jH,Cr]
  have er5:=S5 _ _ er
  have eb5:=S15 _ _ e1
  refine ⟨by omega,by omega,z9 (PI1 r bl c m (rs.map fun x=>x.2) H5) ⟨_,_,_,_,_,[],rfl,rfl,(fun h hh=>absurd hh (Cj _)),SameX.refl,e25⟩ ?_ ?_⟩
  ·rintro h σ H6 hh ⟨v4,v5,v6,v7,v8,ns,rfl,hlen,pp,s6,e6⟩
   rw [Ay] at hh
   have er6:=s6 _ _ nrc er5
   have eb6:=s6 _ _ nbc eb5
   (push_cast only [])
   (simp only [qK])
   (push_cast only [er6])
   refine gF (PI2 r bl c m h ns (rs.map fun x=>x.2) H6) ⟨_,_,_,0,rfl,⟨AY _,(fun _ z=>by cases z),.inl rfl⟩,Same.refl _⟩ (fun j σ H' _ ⟨_,_,_,_,_,_,s⟩=>s _ _ er6) ?_ ?_
   ·rintro k x σ H7 hx ⟨w6,w7,w8,bst,rfl,pa,s7⟩
    rw [Af] at hx
    obtain ⟨rr,hrr,rfl⟩:=Ah.mp hx
    obtain ⟨err,ok⟩:=r3 rr (Aq hrr)
    have nrr:rr.1 ≠ c:=fun z=>by
     have e:=S5 _ _ err
     rw [z,e25] at e
     cases e
    have err7:=s7 _ _ (s6 _ _ nrr (S5 _ _ err))
    have hsb7:=kD (s7 _ _ eb6)
    have hsc7:=kD (s7 _ _ e6)
    obtain ⟨k1,k2,k3⟩:=ok
    have at1:xH ((bitsL m).map V.int) (rr.2.1:Int)=some (V.int ((2 ^ rr.2.1:Nat):Int)):=zL (by rw [Af,fE m5 k1];rfl)
    have at2:xH ((bitsL m).map V.int) (rr.2.2.1:Int)=some (V.int ((2 ^ rr.2.2.1:Nat):Int)):=zL (by rw [Af,fE m5 k2];rfl)
    have pq1:2 ^ rr.2.1 ≤ 2 ^ 4:=Aw (by decide) (by omega)
    have pq2:2 ^ rr.2.2.1 ≤ 2 ^ 4:=Aw (by decide) (by omega)
    have pr1:=AA rr.2.1
    have pr2:=AA rr.2.2.1
    have tk:(rs.map fun x=>x.2).take (k + 1)=(rs.map fun x=>x.2).take k ++ [rr.2]:=by rw [Az,Af,hrr];rfl
    have no:¬ (qC h rr.2.1=true∧qC h rr.2.2.1=true)→PAt ((rs.map fun x=>x.2).take (k + 1)) ns h bst:=fun n=>by
     rw [tk]
     refine ⟨pa.1,fun e he b1 b2=>?_,?_⟩
     ·rcases Av.mp he with z | z
      ·exact pa.2.1 e z b1 b2
      ·rw [A4.mp z] at b1 b2
       exact absurd ⟨b1,b2⟩ n
     ·rcases pa.2.2 with z | ⟨e,he,y⟩
      ·exact .inl z
      ·exact .inr ⟨e,Bw _ he,y⟩
    have ib1:=wX (h:=h) (t:=rr.2.1)
    have ib2:=wX (h:=h) (t:=rr.2.2.1)
    (push_cast only [err7])
    refine ⟨_,hsb7,_,at1,_,rfl,⟨by omega,by omega⟩,?_⟩
    cases b1:qC h rr.2.1 with
    | false =>
     rw [b1] at ib1
     rw [Ax (of_decide_eq_false ib1)]
     exact ⟨_,_,_,bst,rfl,no (by rw [b1];simp),s7⟩
    | true =>
     rw [b1] at ib1
     rw [Au (AS ib1)]
     refine ⟨_,hsb7,_,at2,_,rfl,⟨by omega,by omega⟩,?_⟩
     cases b2:qC h rr.2.2.1 with
     | false =>
      rw [b2] at ib2
      rw [Ax (of_decide_eq_false ib2)]
      exact ⟨_,_,_,bst,rfl,no (by rw [b2];simp),s7⟩
     | true =>
      rw [b2] at ib2
      rw [Au (AS ib2)]
      obtain ⟨t1,t2⟩:=uP (show h < 32 by omega) (show rr.2.1 < 5 by omega) (show rr.2.2.1 < 5 by omega) k3 b1 b2
      have at3:=jZ (ns:=ns) (n:=h ^^^ 2 ^ rr.2.1 ^^^ 2 ^ rr.2.2.1) (by omega)
      rw [← t2,show ((h - 2 ^ rr.2.1 - 2 ^ rr.2.2.1:Nat):Int)=(h:Int) - ((2 ^ rr.2.1:Nat):Int) - ((2 ^ rr.2.2.1:Nat):Int) by omega] at at3
      refine ⟨_,hsb7,_,at1,_,rfl,_,hsb7,_,at2,_,rfl,_,hsc7,_,at3,_,rfl,?_⟩
      rw [t2]
      refine ⟨_,_,_,_,rfl,?_,s7⟩
      rw [tk]
      generalize hv:ns.getD (h ^^^ 2 ^ rr.2.1 ^^^ 2 ^ rr.2.2.1) 0 + rr.2.2.2=nv
      refine ⟨?_,fun e he c1 c2=>?_,?_⟩
      ·have:=pa.1
       split <;> omega
      ·rcases Av.mp he with z | z
       ·have:=pa.2.1 e z c1 c2
        split <;> omega
       ·rw [A4.mp z,hv]
        split <;> omega
      ·split
       ·exact .inr ⟨rr.2,AH _ Am,b1,b2,hv.symm⟩
       ·rcases pa.2.2 with z | ⟨e,he,y⟩
        ·exact .inl z
        ·exact .inr ⟨e,Bw _ he,y⟩
   ·rintro σ H7 ⟨w6,w7,w8,bst,rfl,pa,s7⟩
    rw [Aa,show rs.length=(rs.map fun x=>x.2).length by rw [Aa],AF] at pa
    have e67:=s7 _ _ e6
    (simp only [qK])
    (push_cast only [e67])
    refine ⟨qO (by omega),⟨_,_,_,_,_,ns ++ [bst],rfl,by simp [hlen],pp.snoc m5 (by omega) (fun e he=>by obtain ⟨x,hx,rfl⟩:=Al.mp he;exact (r3 x hx).2) (by rw [hlen];exact pa),(s6.trans s7.x).trans SameX.upd,by rw [qH,A8];rfl⟩⟩
  ·rintro σ H6 ⟨v4,v5,v6,v7,v8,ns,rfl,hlen,pp,s6,e6⟩
   rw [Ay] at hlen
   (simp only [qK])
   (push_cast only [e6])
   intro l H7 n7 s7 e7
   have S6:Same H H6:=fun b o e=>s6 _ _ (qE (s1 _ _ e) nc) (S5 _ _ e)
   exact q l ns H7 (jG S6 n7) hlen pp (S6.trans s7) e7
theorem tW {ws:List Int}{r:Int}{Pr:Int→Prop}(h:∀ x ∈ ws,Pr x)(hr:Pr r):∀ x ∈ ws ++ [r],Pr x:=fun x hx=>by
 rcases Av.mp hx with z | z
 ·exact h x z
 ·rw [A4.mp z]
  exact hr
def pV:Sp:=fun vs H Q _=>∃ (p q:Addr) (m:Nat),vs=[.ref p,.int (m:Int)]∧Pot H p q∧m ≤ 5∧∀ (t:Addr) (ss:List Int) (H':Hp),H t=none→ss.length=m→(∀ x ∈ ss,x=0∨x=1)→Pot H' p q→SameY p q H H'→H' t=some (.tup (ss.map V.int))→Q (.ref t) H'
theorem ints4 {r:Int}(r0:0 ≤ r)(r1:r < 4):r=0∨r=1∨r=2∨r=3:=by
 obtain ⟨k,rfl⟩:=AL r0
 match k,Int.ofNat_lt.mp r1 with
 | 0,_=>exact .inl rfl
 | 1,_=>exact .inr (.inl rfl)
 | 2,_=>exact .inr (.inr (.inl rfl))
 | 3,_=>exact .inr (.inr (.inr rfl))
theorem tM {Pd:Int→Prop}{r a b c d:Int}(r0:0 ≤ r)(r1:r < 4)(ha:Pd a)(hb:Pd b)(hc:Pd c)(hd:Pd d):∃ x,xH [V.int a,V.int b,V.int c,V.int d] r=some (V.int x)∧Pd x:=by
 have h4:=ints4 r0 r1
 rcases h4 with rfl | rfl | rfl | rfl
 ·exact ⟨a,rfl,ha⟩
 ·exact ⟨b,rfl,hb⟩
 ·exact ⟨c,rfl,hc⟩
 ·exact ⟨d,rfl,hd⟩
def SDI (p q c:Addr)(way:Int)(G:Hp)(i:Nat)(σ:St)(H:Hp):Prop:=∃ (v:Option V) (ss:List Int),σ=[v,some (.ref p),some (.int way)]∧ss.length=i∧(∀ x ∈ ss,x=0∨x=1)∧Pot H p q∧(∀ b o,b ≠ p→b ≠ q→b ≠ c→G b=some o→H b=some o)∧H c=some (.lst (ss.map V.int))
theorem gR:FnScope ["_law_pot_here", "_law_many", "_law_way"] ["_law_pot_here", "_law_many"] (qF s__law_sides):=⟨rfl,rfl,rfl,by decide +kernel,rfl,by decide +kernel,by decide +kernel⟩
theorem ok_sides (F:Fun K "_law_sides" "_law_sides" s__law_sides f fd) (hm:mg "_law_sides" = some (.ref f)) (hb:Binds K fd ["_law_pot_here", "_law_many"] []) (T:Txt mg) (c__law_draw:Cal P w K mg base "_law_draw" ["_law_pot_here", "_law_many"] 2 bN):Cal P w K mg base "_law_sides" ["_law_pot_here", "_law_many"] 3 pV:=by
 refine q4 F hm hb gR (fun vs H Q E h=>?_) (fun cdv A outer s H vs Q E hr h=>?_)
 ·obtain ⟨_,_,_,rfl,_⟩:=h;rfl
 ·obtain ⟨p,q',m,rfl,pt,m5,q⟩:=h
  have sc:=gR
  refine ⟨_,qJ (qY (i:=2) sc.nd rfl (Or.inr rfl) (qL c__law_draw hr (qA (pv 0) (qA qG qD))))
   (qI (qU (kM zZ rfl T.tuple_ kL (qA (jI (N:=["_law_piece", "_law_pot_here", "_law_way"]) (fr:=[none,some 0,some 2]) rfl (jD rfl T.range_ (qA (pv 1) qD)) (CScope.of rfl rfl rfl) rfl (fun _ _ _=>⟨qN (i:=0) (show List.Nodup (α:=Str) ["_law_piece", "_law_pot_here", "_law_way"] by decide +kernel) rfl (Or.inl rfl),kN,q9 zF (kZ (qA qG (qA qG (qA (qL c__law_draw hr (qA (pv 1) (qA qG qD))) (qA (qL c__law_draw hr (qA (pv 1) (qA qG qD))) qD))))) (pv 2) (fun _ _=>rfl)⟩)) qD)))),?_⟩
  rw [show L2.start ["_law_pot_here", "_law_many", "_law_way"] [.ref p,.int (m:Int)] = [some (.ref p),some (.int (m:Int)),none] from rfl]
  (push_cast only [])
  refine ⟨p,q',4,rfl,pt,by decide,by decide,fun way H1 w0 w1 pt1 bt1=>?_⟩
  (push_cast only [])
  (simp only [qK])
  (push_cast only [])
  refine ⟨by omega,by omega,fun c nc=>?_⟩
  have ncp:=pt1.ne nc
  refine yA (SDI p q' c way H1) ⟨none,[],rfl,rfl,(fun _ z=>by cases z),pt1.upd ncp.1 ncp.2,fun b o _ _ n e=>by rw [qS n];exact e,qH⟩ ?_ ?_
  ·rintro i σ H2 hi ⟨v,ss,rfl,sl,s01,pt2,k2,e2⟩
   rw [Ay] at hi
   (push_cast only [])
   refine ⟨p,q',2,rfl,pt2,by decide,by decide,fun r1 H3 a0 a1 pt3 bt3=>?_⟩
   refine ⟨p,q',2,rfl,pt3,by decide,by decide,fun r2 H4 b0 b1 pt4 bt4=>?_⟩
   refine ⟨by decide,fun L H5 n5 s5 e5=>?_⟩
   obtain ⟨x,hx,hx01⟩:=tM (Pd:=fun x=>x=0∨x=1) w0 w1 (a:=0) (b:=1) (c:=r1) (d:=r2) (.inl rfl) (.inr rfl) (by omega) (by omega)
   have y4:SameY p q' H2 H4:=bt3.y.trans bt4.y
   have e25:=s5 _ _ (y4 _ _ ncp.1.symm ncp.2.symm e2)
   refine ⟨_,kD e5,_,hx,_,e25,qO (by rw [Aa];omega),⟨_,ss ++ [x],rfl,by rw [Ar,sl];rfl,tW s01 hx01,(pt4.same s5).upd ncp.1 ncp.2,fun b o n1 n2 n3 e=>by rw [qS n3];exact s5 _ _ (y4 _ _ n1 n2 (k2 b o n1 n2 n3 e)),by rw [qH];simp⟩⟩
  ·rintro σ H2 ⟨v,ss,rfl,sl,s01,pt2,k2,e2⟩
   rw [Ay] at sl
   refine ⟨_,e2,fun t H3 nt s3 e3=>?_⟩
   have y2:SameY p q' H H2:=fun b o n1 n2 e=>by
    have e1:=bt1.y b o n1 n2 e
    exact k2 b o n1 n2 (qE e1 nc) e1
   have npt:=pt2.ne nt
   exact q t ss H3 (none_y y2 nt npt.1.symm npt.2.symm) sl s01 (pt2.same s3) (y2.trans (jR s3)) e3
theorem sum01:∀ (ss:List Int),(∀ x ∈ ss,x=0∨x=1)→0 ≤ ss.sum∧ss.sum ≤ (ss.length:Int)∧(ss.sum=0→∀ x ∈ ss,x=0)∧(ss.sum=(ss.length:Int)→∀ x ∈ ss,x=1)
 | [],_=>⟨by simp,by simp,(fun _ _ z=>by cases z),(fun _ _ z=>by cases z)⟩
 | y :: l,h=>by
  obtain ⟨a,b,c,d⟩:=sum01 l fun x hx=>h x (Ap _ hx)
  have hy:=h y Am
  rw [B3,Bf,Int.natCast_succ]
  refine ⟨by omega,by omega,fun e x hx=>?_,fun e x hx=>?_⟩
  ·rcases A3.mp hx with rfl | z
   ·omega
   ·exact c (by omega) x z
  ·rcases A3.mp hx with rfl | z
   ·omega
   ·exact d (by omega) x z
def Bd (m:Nat)(B:Int)(ns:List Int):Prop:=ns.getD 0 0=0∧∀ h,h < 2 ^ m→0 ≤ ns.getD h 0∧ns.getD h 0 ≤ B
def kB (most:Int)(m:Nat):Int:=(if m ≤ 3 then 2 else 4) * most
theorem Bd.le {m:Nat}{B B':Int}{ns:List Int}(b:Bd m B ns)(h:B ≤ B'):Bd m B' ns:=⟨b.1,fun k hk=>by have:=b.2 k hk;omega⟩
theorem add_bd {us:List Int}{c:Int}(c0:0 ≤ c)(hu:∀ t,0 ≤ us.getD t 0∧us.getD t 0 ≤ c)(h:Nat):∀ n,0 ≤ kY us h n∧kY us h n ≤ (n:Int) * c
 | 0=>by show (0:Int) ≤ 0∧(0:Int) ≤ _;simp
 | n + 1=>by
  have ih:=add_bd c0 hu h n
  have:=hu n
  have e:((n + 1:Nat):Int) * c=(n:Int) * c + c:=by push_cast;rw [Int.add_mul,Cy]
  rw [e]
  show 0 ≤ kY us h n + _∧kY us h n + _ ≤ _
  split <;> omega
theorem add_no (us:List Int):∀ n,kY us 0 n=0
 | 0=>rfl
 | n + 1=>by
  show kY us 0 n + (if qC 0 n=true then us.getD n 0 else 0)=0
  rw [add_no us n,Ax (by unfold qC;simp)]
  rfl
theorem sY {c:Int}(c0:0 ≤ c):∀ (l:List Int) (k:Nat),(∀ x ∈ l,0 ≤ x∧x ≤ c)→0 ≤ kG k l∧kG k l ≤ (k:Int) * c
 | [],k,_=>by
  have e:kG k [] = 0:=by cases k <;> rfl
  rw [e]
  exact ⟨AY _,Cn (by omega) c0⟩
 | y :: l,0,_=>by show (0:Int) ≤ 0∧(0:Int) ≤ _;simp
 | y :: l,k + 1,h=>by
  have a:=sY c0 l (k + 1) fun x hx=>h x (Ap _ hx)
  have b:=sY c0 l k fun x hx=>h x (Ap _ hx)
  have z:=h y Am
  have e:((k + 1:Nat):Int) * c=(k:Int) * c + c:=by push_cast;rw [Int.add_mul,Cy]
  show 0 ≤ max (kG (k + 1) l) (y + kG k l)∧max (kG (k + 1) l) (y + kG k l) ≤ _
  omega
def aM (h:Nat):Nat:=(h % 2 + h / 2 % 2 + h / 4 % 2 + h / 8 % 2 + h / 16 % 2) / 2
theorem pc_off {h i j:Nat}(hh:h < 32)(hi:i < 5)(hj:j < 5)(ij:i ≠ j)(bi:qC h i=true)(bj:qC h j=true):aM (h ^^^ 2 ^ i ^^^ 2 ^ j) + 1=aM h:=by
 have key:∀ (h:_root_.Fin 32) (i j:_root_.Fin 5),i.val ≠ j.val→qC h.val i.val=true→qC h.val j.val=true→aM (h.val ^^^ 2 ^ i.val ^^^ 2 ^ j.val) + 1=aM h.val:=by decide +kernel
 exact key ⟨h,hh⟩ ⟨i,hi⟩ ⟨j,hj⟩ ij bi bj
theorem pc_le {m h:Nat}(m5:m ≤ 5)(hh:h < 2 ^ m):aM h ≤ if m ≤ 3 then 1 else 2:=by
 have key:∀ (m:_root_.Fin 6) (h:_root_.Fin 32),h.val < 2 ^ m.val→aM h.val ≤ if m.val ≤ 3 then 1 else 2:=by decide +kernel
 have:=jA m5
 exact key ⟨m,by omega⟩ ⟨h,by omega⟩ hh
theorem pair_bd {es:List Edge}{m:Nat}{ns:List Int}{c:Int}(c0:0 ≤ c)(m5:m ≤ 5)(hl:ns.length=2 ^ m)(P:PPre es ns)(ok:∀ e ∈ es,EOk m e∧e.2.2 ≤ c):∀ n h,h ≤ n→h < 2 ^ m→0 ≤ ns.getD h 0∧ns.getD h 0 ≤ (aM h:Int) * c:=by
 have p32:=jA m5
 intro n
 induction n with
 | zero =>
  intro h hn hh
  obtain ⟨p1,p2,p3⟩:=P h (by omega)
  have h0:h=0:=by omega
  subst h0
  rcases p3 with z | ⟨e,_,b,_⟩
  ·rw [z]
   show (0:Int) ≤ 0∧(0:Int) ≤ ((aM 0:Nat):Int) * c
   have:aM 0=0:=by decide
   rw [this]
   simp
  ·unfold qC at b
   simp at b
 | succ n ih =>
  intro h hn hh
  obtain ⟨p1,p2,p3⟩:=P h (by omega)
  refine ⟨p1,?_⟩
  rcases p3 with z | ⟨e,he,b1,b2,x⟩
  ·rw [z]
   exact Cn (by omega) c0
  ·obtain ⟨⟨o1,o2,o3⟩,o4⟩:=ok e he
   have po:=pc_off (show h < 32 by omega) (show e.1 < 5 by omega) (show e.2.1 < 5 by omega) o3 b1 b2
   have tw:=uP (show h < 32 by omega) (show e.1 < 5 by omega) (show e.2.1 < 5 by omega) o3 b1 b2
   have pp:=AA e.1
   have pp2:=AA e.2.1
   have:=ih (h ^^^ 2 ^ e.1 ^^^ 2 ^ e.2.1) (by omega) (by omega)
   rw [x,← po]
   push_cast
   rw [Int.add_mul,Cy]
   omega
theorem join_bd {m:Nat}{f g ns:List Int}{a b:Int}(m5:m ≤ 5)(fb:Bd m a f)(gb:Bd m b g)(J:JoinTab m f g ns):Bd m (a + b) ns:=by
 refine ⟨?_,fun h hh=>?_⟩
 ·obtain ⟨x,x1,_,x3⟩:=J.att 0 (AA m)
  have:x=0:=by omega
  subst this
  rw [x3,fb.1]
  show (0:Int) + g.getD 0 0=0
  rw [gb.1]
  rfl
 ·obtain ⟨x,x1,_,x3⟩:=J.att h hh
  have p:=fb.2 x (by omega)
  have q:=gb.2 (h - x) (by omega)
  omega
def pY:Sp:=fun vs H Q _=>∃ (p q sa:Addr) (ss:List Int) (most:Int),vs=[.ref p,.ref sa,.int most]∧Pot H p q∧H sa=some (.tup (ss.map V.int))∧1 ≤ ss.length∧ss.length ≤ 5∧(∀ x ∈ ss,x=0∨x=1)∧1 ≤ most∧most ≤ 9∧∀ (t:Addr) (ns:List Int) (H':Hp),ns.length=2 ^ ss.length→bB (fun h=>ns.getD h 0) ss.length (gY ss 1 ss.length)→Bd ss.length ((ss.length:Int) * most + kB most ss.length) ns→Pot H' p q→SameY p q H H'→H' t=some (.tup (ns.map V.int))→Q (.ref t) H'
def KD (p q c:Addr)(most:Int)(G:Hp)(i:Nat)(σ:St)(H:Hp):Prop:=∃ (v:Option V) (ws:List Int),σ=[v,some (.ref p),some (.int most)]∧ws.length=i∧(∀ x ∈ ws,0 ≤ x∧x ≤ most)∧Pot H p q∧(∀ b o,b ≠ p→b ≠ q→b ≠ c→G b=some o→H b=some o)∧H c=some (.lst (ws.map V.int))
structure KR (most:Int)(p q r:Addr)(ss:List Int)(n:Nat)(G:Hp)(rs:List (Addr × Edge))(H:Hp):Prop where
 len:rs.length ≤ n
 row:R3 H ss.length rs
 sd:∀ x ∈ rs,ss.getD x.2.1 0=0∧ss.getD x.2.2.1 0=1
 wb:∀ x ∈ rs,x.2.2.2 ≤ 2 * most
 pot:Pot H p q
 kp:∀ b o,b ≠ p→b ≠ q→b ≠ r→G b=some o→H b=some o
 at':H r=some (.lst (rs.map fun x=>V.ref x.1))
theorem KR.y {most:Int}{p q r:Addr}{ss:List Int}{n:Nat}{G H H':Hp}{rs:List (Addr × Edge)}(k:KR most p q r ss n G rs H)(n1:r ≠ p)(n2:r ≠ q)(s:SameY p q H H')(pt:Pot H' p q):KR most p q r ss n G rs H' :=
 ⟨k.len,fun x hx=>⟨s _ _ (k.pot.net (k.row x hx).1).1 (k.pot.net (k.row x hx).1).2 (k.row x hx).1,(k.row x hx).2⟩,k.sd,k.wb,pt,fun b o a1 a2 a3 e=>s _ _ a1 a2 (k.kp b o a1 a2 a3 e),s _ _ n1 n2 k.at'⟩
theorem KR.le {most:Int}{p q r:Addr}{ss:List Int}{n n':Nat}{G H:Hp}{rs:List (Addr × Edge)}(k:KR most p q r ss n G rs H)(h:n ≤ n'):KR most p q r ss n' G rs H:=⟨AG k.len h,k.row,k.sd,k.wb,k.pot,k.kp,k.at'⟩
theorem KR.more {most:Int}{p q r y:Addr}{ss:List Int}{n:Nat}{G H:Hp}{rs:List (Addr × Edge)}{e:Edge}(k:KR most p q r ss n G rs H)(n1:p ≠ r)(n2:q ≠ r)(ey:H y=some (.tup [.int (e.1:Int),.int (e.2.1:Int),.int e.2.2]))(ok:EOk ss.length e)(sd:ss.getD e.1 0=0∧ss.getD e.2.1 0=1)(wb:e.2.2 ≤ 2 * most):KR most p q r ss (n + 1) G (rs ++ [(y,e)]) (upd H r (.lst ((rs.map fun x=>V.ref x.1) ++ [V.ref y]))):=by
 have nr:∀ {x:Addr} {L:List V},H x=some (.tup L)→x ≠ r:=fun h z=>by rw [z,k.at'] at h;cases h
 refine ⟨by have:=k.len;rw [Ar,A7];omega,fun x hx=>?_,fun x hx=>?_,fun x hx=>?_,k.pot.upd n1 n2,fun b o a1 a2 a3 e=>by rw [qS a3];exact k.kp b o a1 a2 a3 e,by rw [qH,A8];rfl⟩
 ·rcases Av.mp hx with z | z
  ·have h:=k.row x z
   exact ⟨by rw [qS (nr h.1)];exact h.1,h.2⟩
  ·rw [A4.mp z]
   exact ⟨by rw [qS (nr ey)];exact ey,ok⟩
 ·rcases Av.mp hx with z | z
  ·exact k.sd x z
  ·rw [A4.mp z]
   exact sd
 ·rcases Av.mp hx with z | z
  ·exact k.wb x z
  ·rw [A4.mp z]
   exact wb
def KE1 (p q sa c r:Addr)(ss:List Int)(most:Int)(G:Hp)(i:Nat)(σ:St)(H:Hp):Prop:=∃ (v5 v6 v7 v8 v9 v10:Option V) (rs:List (Addr × Edge)),σ=[some (.ref p),some (.ref sa),some (.int most),some (.ref c),some (.ref r),v5,v6,v7,v8,v9,v10]∧KR most p q r ss (5 * i) G rs H
def KE2 (p q sa c r:Addr)(ss:List Int)(most:Int)(a:Nat)(G:Hp)(j:Nat)(σ:St)(H:Hp):Prop:=∃ (v7 v8 v9 v10:Option V) (rs:List (Addr × Edge)),σ=[some (.ref p),some (.ref sa),some (.int most),some (.ref c),some (.ref r),some (.int (a:Int)),some (.int (ss.getD a 0)),v7,v8,v9,v10]∧KR most p q r ss (5 * a + j) G rs H
theorem yE:FnScope ["_law_pot_here", "_law_sides_here", "_law_most", "_law_worths", "_law_rows", "_law_i", "_law_side", "_law_j", "_law_other", "_law_single", "_law_second"] ["_law_pot_here", "_law_sides_here", "_law_most"] (qF s__law_kind_want):=⟨rfl,rfl,rfl,by decide +kernel,rfl,by decide +kernel,by decide +kernel⟩
theorem ok_kwant (F:Fun K "_law_kind_want" "_law_kind_want" s__law_kind_want f fd) (hm:mg "_law_kind_want" = some (.ref f)) (hb:Binds K fd ["_law_pot_here", "_law_sides_here", "_law_most"] []) (T:Txt mg) (c__law_draw:Cal P w K mg base "_law_draw" ["_law_pot_here", "_law_many"] 2 bN) (c__law_costs:Cal P w K mg base "_law_costs" ["_law_prices"] 1 z6) (c__law_paired:Cal P w K mg base "_law_paired" ["_law_many", "_law_rows"] 2 mT) (c__law_some:Cal P w K mg base "_law_some" ["_law_worths", "_law_many"] 2 uZ) (c__law_joined:Cal P w K mg base "_law_joined" ["_law_one", "_law_other"] 1 hJ):Cal P w K mg base "_law_kind_want" ["_law_pot_here", "_law_sides_here", "_law_most"] 3 pY:=by
 refine q4 F hm hb yE (fun vs H Q E h=>?_) (fun cdv A outer s H vs Q E hr h=>?_)
 ·obtain ⟨_,_,_,_,_,rfl,_⟩:=h;rfl
 ·obtain ⟨p,q',sa,ss,most,rfl,pt,esa,m1,m5,s01,mo1,mo9,q⟩:=h
  have sc:=yE
  have hp:=jA m5
  refine ⟨_,qJ (rE (i:=3) sc.nd rfl (Or.inl rfl) (N:=["_law_side", "_law_pot_here", "_law_most"]) (fr:=[none,some 0,some 2]) rfl (xE (pv 1)) (CScope.of rfl rfl rfl) rfl (fun _ _ _=>⟨qN (i:=0) (show List.Nodup (α:=Str) ["_law_side", "_law_pot_here", "_law_most"] by decide +kernel) rfl (Or.inl rfl),kN,qL c__law_draw hr (qA (pv 1) (qA (qV kW (pv 2) qG) qD))⟩))
   (qJ (qY (i:=4) sc.nd rfl (Or.inl rfl) (kZ qD))
   (qJ (jT AD rfl (gK rfl T.enumerate_ (qA (pv 1) qD)) (kU (n:=2) rfl (qT (qN (i:=5) sc.nd rfl (Or.inl rfl)) (qT (qN (i:=6) sc.nd rfl (Or.inl rfl)) kR)))
    (qI (jT AD rfl (gK rfl T.enumerate_ (qA (pv 1) qD)) (kU (n:=2) rfl (qT (qN (i:=7) sc.nd rfl (Or.inl rfl)) (qT (qN (i:=8) sc.nd rfl (Or.inl rfl)) kR)))
    (qI (j8 (PW.pt (yR (q5 jW (pv 6) qG (qZ _)) (yR (q5 jW (pv 8) qG (qZ _)) (xO (q5 nF (qL c__law_draw hr (qA (pv 0) (qA qG qD))) qG (qZ _)))))) (qI (zX (jX (pv 4) (qA (jK (qA (pv 5) (qA (pv 7) (qA (qV kW qG (qL c__law_draw hr (qA (pv 0) (qA (qV xU qG (pv 2)) qD)))) qD)))) qD)))) jB)))))
   (qJ (qY (i:=9) sc.nd rfl (Or.inl rfl) (kM zZ rfl T.tuple_ kL (qA (qL c__law_costs hr (qA (jI (N:=["_law_side", "_law_pot_here", "_law_most"]) (fr:=[none,some 0,some 2]) rfl (xE (pv 1)) (CScope.of rfl rfl rfl) rfl (fun _ _ _=>⟨qN (i:=0) (show List.Nodup (α:=Str) ["_law_side", "_law_pot_here", "_law_most"] by decide +kernel) rfl (Or.inl rfl),kN,qL c__law_draw hr (qA (pv 1) (qA (qV kW (pv 2) qG) qD))⟩)) qD)) qD)))
   (qJ (qY (i:=10) sc.nd rfl (Or.inl rfl) (qL c__law_paired hr (qA (qM len0 rfl T.len_ kX (qA (pv 1) qD)) (qA (pv 4) qD))))
   (qJ (j8 (PW.pt (yR (q5 (eqNil0 hr.units0) (pv 4) (kZ qD) (qZ _)) (xO (q5 in0 (qM (tD rfl) rfl T.sum_ dJ (qA (pv 1) qD)) (jK (qA qG (qA (qM len0 rfl T.len_ kX (qA (pv 1) qD)) qD))) rfl)))) (qI (qY (i:=10) sc.nd rfl (Or.inl rfl) (qL c__law_some hr (qA (pv 3) (qA (qV kW qG (qL c__law_draw hr (qA (pv 0) (qA qG qD)))) qD))))) jB)
   (qI (qU (q9 zF (kZ (qA (pv 9) (qA (pv 10) (qA (pv 10) (qA (qL c__law_joined hr (qA (pv 9) (qA (pv 10) qD))) qD))))) (qL c__law_draw hr (qA (pv 0) (qA qG qD))) (fun _ _=>rfl))))))))),?_⟩
  rw [show L2.start ["_law_pot_here", "_law_sides_here", "_law_most", "_law_worths", "_law_rows", "_law_i", "_law_side", "_law_j", "_law_other", "_law_single", "_law_second"] [.ref p,.ref sa,.int most] = [some (.ref p),some (.ref sa),some (.int most),none,none,none,none,none,none,none,none] from rfl]
  have nsp:=pt.net esa
  (push_cast only [esa])
  intro c nc
  have ncp:=pt.ne nc
  have nsc:sa ≠ c:=qE esa nc
  refine jS (KD p q' c most H) ⟨none,[],rfl,rfl,(fun _ z=>by cases z),pt.upd ncp.1 ncp.2,fun b o _ _ n e=>by rw [qS n];exact e,qH⟩ (fun j σ H' _ ⟨_,_,_,_,_,_,k,_⟩=>k _ _ nsp.1 nsp.2 nsc esa) ?_ ?_
  ·rintro i x σ H2 hx ⟨v,ws,rfl,wl,wb,pt2,k2,e2⟩
   have hi:i < ss.length:=by have:=(Ae.mp hx).1;rwa [Aa] at this
   (push_cast only [])
   refine ⟨p,q',most + 1,rfl,pt2,by omega,by omega,fun r H3 r0 r1 pt3 bt3=>?_⟩
   have e3:=bt3.y _ _ ncp.1.symm ncp.2.symm e2
   (push_cast only [e3])
   exact ⟨qO (by omega),⟨_,ws ++ [r],rfl,by simp [wl],tW wb ⟨r0,by omega⟩,pt3.upd ncp.1 ncp.2,fun b o n1 n2 n3 e=>by rw [qS n3];exact bt3.y _ _ n1 n2 (k2 b o n1 n2 n3 e),by rw [qH];simp⟩⟩
  ·rintro σ H2 ⟨v,ws,rfl,wl,wb,pt2,k2,e2⟩
   rw [Aa] at wl
   have y2:SameY p q' H H2:=fun b o n1 n2 e=>k2 b o n1 n2 (qE e nc) e
   have esa2:=y2 _ _ nsp.1 nsp.2 esa
   (simp only [qK])
   (push_cast only [])
   refine ⟨by decide,fun rw0 H3 n3 s3 e3=>?_⟩
   (simp only [qK])
   (push_cast only [])
   have nrp:=pt2.ne n3
   have esa3:=s3 _ _ esa2
   have pt3:=pt2.same s3
   have nsr:sa ≠ rw0:=qE esa2 n3
   have nsp3:=pt3.net esa3
   have gat:∀ {k:Nat} {v:V},(ss.map V.int)[k]? = some v→k < ss.length∧v=V.int (ss.getD k 0):=fun {k v} h=>by
    have hk:=(Ae.mp h).1
    rw [Aa] at hk
    refine ⟨hk,?_⟩
    rw [Af,Ag hk] at h
    rw [Ab,Ag hk]
    exact (A9 h).symm
   refine ⟨_,_,.inr ⟨rfl,esa3⟩,wY (KE1 p q' sa c rw0 ss most H3) ⟨_,_,_,_,_,_,[],rfl,⟨Bh _,(fun _ z=>by cases z),(fun _ z=>by cases z),(fun _ z=>by cases z),pt3,fun b o _ _ _ e=>e,e3⟩⟩ (fun i σ H' ⟨_,_,_,_,_,_,_,_,k⟩=>.inr ⟨rfl,k.kp _ _ nsp3.1 nsp3.2 nsr esa3⟩) ?_ ?_⟩
   ·rintro i v T' σ H4 H5 hv ⟨v5,v6,v7,v8,v9,v10,rs,rfl,k4⟩ nT s5 e5
    obtain ⟨hi,rfl⟩:=gat hv
    have k5:=k4.y nrp.1.symm nrp.2.symm (jR s5) (k4.pot.same s5)
    have esa5:=k5.kp _ _ nsp3.1 nsp3.2 nsr esa3
    (push_cast only [e5])
    refine ⟨_,_,.inr ⟨rfl,esa5⟩,wY (KE2 p q' sa c rw0 ss most i H3) ⟨_,_,_,_,rs,rfl,k5.le (by omega)⟩ (fun j σ H' ⟨_,_,_,_,_,_,k⟩=>.inr ⟨rfl,k.kp _ _ nsp3.1 nsp3.2 nsr esa3⟩) ?_ ?_⟩
    ·rintro j v2 T2 σ H6 H7 hv2 ⟨w7,w8,w9,w10,rs2,rfl,k6⟩ nT2 s7 e7
     obtain ⟨hj,rfl⟩:=gat hv2
     have k7:=k6.y nrp.1.symm nrp.2.symm (jR s7) (k6.pot.same s7)
     have stay:∀ {H':Hp},KR most p q' rw0 ss (5 * i + j) H3 rs2 H'→KE2 p q' sa c rw0 ss most i H3 (j + 1) [some (.ref p),some (.ref sa),some (.int most),some (.ref c),some (.ref rw0),some (.int (i:Int)),some (.int (ss.getD i 0)),some (.int (j:Int)),some (.int (ss.getD j 0)),w9,w10] H':=fun k=>⟨_,_,_,_,rs2,rfl,k.le (by omega)⟩
     (push_cast only [e7])
     split
     ·rename_i c1
      split
      ·rename_i c2
       refine ⟨p,q',3,rfl,k7.pot,by decide,by decide,fun r8 H8 a8 b8 pt8 bt8=>?_⟩
       have k8:=k7.y nrp.1.symm nrp.2.symm bt8.y pt8
       refine ⟨r8,rfl,?_⟩
       split
       ·have er8:=k8.at'
        have kl:=k8.len
        (push_cast only [er8])
        refine ⟨.inl ⟨by omega,by omega⟩,p,q',2 * most,rfl,k8.pot,by omega,by omega,fun r9 H9 a9 b9 pt9 bt9=>⟨_,rfl,by decide,fun y H10 n10 s10 e10=>?_⟩⟩
        have k10:=(k8.y nrp.1.symm nrp.2.symm bt9.y pt9).y nrp.1.symm nrp.2.symm (jR s10) (pt9.same s10)
        have g1:ss.getD i 0=0:=by simpa using c1
        have g2:ss.getD j 0=1:=by simpa using c2
        exact ⟨_,k10.at',qO (by rw [Aa];omega),⟨_,_,_,_,rs2 ++ [(y,(i,j,1 + r9))],rfl,k10.more nrp.1 nrp.2 e10 ⟨hi,hj,fun z=>by rw [show i=j from z,g2] at g1;cases g1⟩ ⟨g1,g2⟩ (by show 1 + r9 ≤ 2 * most;omega)⟩⟩
       ·exact stay k8
      ·exact stay k7
     ·exact stay k7
    ·rintro σ H6 ⟨w7,w8,w9,w10,rs2,rfl,k6⟩
     rw [Aa] at k6
     exact ⟨_,_,_,_,_,_,rs2,rfl,k6.le (by omega)⟩
   ·rintro σ H4 ⟨v5,v6,v7,v8,v9,v10,rs,rfl,k4⟩
    rw [Aa] at k4
    have esa4:=k4.kp _ _ nsp3.1 nsp3.2 nsr esa3
    (simp only [qK])
    (push_cast only [esa4])
    intro d nd
    have ndp:=k4.pot.ne nd
    have nsd:sa ≠ d:=qE esa4 nd
    have nsp4:=k4.pot.net esa4
    have nrd:rw0 ≠ d:=qE k4.at' nd
    refine jS (KD p q' d most H4) ⟨none,[],rfl,rfl,(fun _ z=>by cases z),k4.pot.upd ndp.1 ndp.2,fun b o _ _ n e=>by rw [qS n];exact e,qH⟩ (fun j σ H' _ ⟨_,_,_,_,_,_,k,_⟩=>k _ _ nsp4.1 nsp4.2 nsd esa4) ?_ ?_
    ·rintro i x σ H5 hx ⟨v,us,rfl,ul,ub,pt5,k5,e5⟩
     have hi:i < ss.length:=by have:=(Ae.mp hx).1;rwa [Aa] at this
     (push_cast only [])
     refine ⟨p,q',most + 1,rfl,pt5,by omega,by omega,fun r H6 r0 r1 pt6 bt6=>?_⟩
     have e6:=bt6.y _ _ ndp.1.symm ndp.2.symm e5
     (push_cast only [e6])
     exact ⟨qO (by omega),⟨_,us ++ [r],rfl,by simp [ul],tW ub ⟨r0,by omega⟩,pt6.upd ndp.1 ndp.2,fun b o n1 n2 n3 e=>by rw [qS n3];exact bt6.y _ _ n1 n2 (k5 b o n1 n2 n3 e),by rw [qH];simp⟩⟩
    ·rintro σ H5 ⟨v,us,rfl,ul,ub,pt5,k5,e5⟩
     rw [Aa] at ul
     have y5:SameY p q' H4 H5:=fun b o n1 n2 e=>k5 b o n1 n2 (qE e nd) e
     refine ⟨d,us,rfl,.inr e5,by omega,fun ct H6 n6 s6 e6=>⟨_,rfl,_,e6,fun sg H7 n7 s7 e7=>?_⟩⟩
     have y7:SameY p q' H4 H7:=(y5.trans (jR s6)).trans (jR s7)
     have pt7:=(pt5.same s6).same s7
     have k7:=k4.y nrp.1.symm nrp.2.symm y7 pt7
     have esa7:=y7 _ _ nsp4.1 nsp4.2 esa4
     have hss7:=qX esa7
     (simp only [qK])
     (push_cast only [hss7])
     refine ⟨rw0,ss.length,rs,rfl,k7.at',k7.row,m1,m5,fun se ps H8 n8 pl8 pp8 s8 e8=>?_⟩
     have k8:=k7.y nrp.1.symm nrp.2.symm (jR s8) (pt7.same s8)
     have esa8:=s8 _ _ esa7
     have esg8:=s8 _ _ e7
     have hss8:=qX esa8
     have er8:=k8.at'
     have ncr:c ≠ rw0:=qE e2 n3
     have ec8:H8 c=some (.lst (ws.map V.int)):=s8 _ _ (y7 _ _ ncp.1.symm ncp.2.symm (k4.kp _ _ ncp.1.symm ncp.2.symm ncr (s3 _ _ e2)))
     (simp only [qK])
     (push_cast only [er8,hss8])
     have y08:SameY p q' H H8:=fun b o n1 n2 e=>s8 _ _ (y7 _ _ n1 n2 (k4.kp b o n1 n2 (qE (y2 b o n1 n2 e) n3) (s3 _ _ (y2 b o n1 n2 e))))
     have hF:=lP ss 1 ss.length
     have hbit:=fun t (ht:t < ss.length)=>cS ss ss.length m5 t (by omega)
     have gl:(kE us).length=2 ^ ss.length:=by rw [jH,ul]
     have u1:∀ t,0 ≤ us.getD t 0∧us.getD t 0 ≤ most:=fun t=>by
      rw [Ab]
      cases e:us[t]? with
      | none=>exact ⟨AY _,show (0:Int) ≤ most by omega⟩
      | some x=>exact ub x (Aq e)
     have u0:=fun t=>(u1 t).1
     have cad:∀ h,h < 2 ^ ss.length→(kE us).getD h 0=kY us h ss.length:=fun h hh=>by
      rw [Ab,dH ss.length us ul m5 h hh]
      exact uI (by omega) _ m5
     have extA:∀ ns,(ns=kE us∨ns=ps∨JoinTab ss.length (kE us) ps ns)→bB (fun h=>ns.getD h 0) ss.length (gY ss 1 ss.length):=fun ns hn=>by
      have oneS:One 10 (gY ss 1 ss.length) ss.length (kE us):=rH m5 (.inl rfl) u0 cad
      have oneP:One 30 (gY ss 1 ss.length) ss.length ps:=by
       refine one_pair (es:=rs.map fun x=>x.2) m5 ⟨fun e he=>?_,fun h hh=>(pp8 h (by omega)).1,fun h hh e he b1 b2=>(pp8 h (by omega)).2.1 e he b1 b2,fun h hh=>(pp8 h (by omega)).2.2⟩
       obtain ⟨x,hx,rfl⟩:=Al.mp he
       obtain ⟨g1,g2⟩:=k8.sd x hx
       obtain ⟨o1,o2,_⟩:=(k8.row x hx).2
       rw [hbit _ o1,hbit _ o2,g1,g2,A2 o1,A2 o2]
       exact ⟨o1,o2,rfl,rfl⟩
      rcases hn with rfl | rfl | jt
      ·exact oneS.ext m5 hF
      ·exact oneP.ext m5 hF
      ·exact rW m5 hF oneS oneP jt
     have hm0:(0:Int) ≤ (ss.length:Int) * most:=Cn (by omega) (by omega)
     have hk0:0 ≤ kB most ss.length∧2 * most ≤ kB most ss.length:=by unfold kB;split <;> omega
     have bS:Bd ss.length ((ss.length:Int) * most) (kE us):=⟨by rw [cad 0 (AA _)];exact add_no us _,fun h hh=>by rw [cad h hh];exact add_bd (by omega) u1 h _⟩
     have mix:∀ qs,Bd ss.length (kB most ss.length) qs→∀ ns,(ns=kE us∨ns=qs∨JoinTab ss.length (kE us) qs ns)→Bd ss.length ((ss.length:Int) * most + kB most ss.length) ns:=fun qs bq ns hn=>by
      rcases hn with rfl | rfl | jt
      ·exact bS.le (by omega)
      ·exact bq.le (by omega)
      ·exact join_bd m5 bS bq jt
     have pB:Bd ss.length (kB most ss.length) ps:=by
      have pb:=pair_bd (c:=2 * most) (by omega) m5 pl8 pp8 (fun e he=>by
       obtain ⟨x,hx,rfl⟩:=Al.mp he
       exact ⟨(k8.row x hx).2,k8.wb x hx⟩)
      refine ⟨?_,fun h hh=>?_⟩
      ·have:=pb 0 0 (Ad _) (AA _)
       rw [show aM 0=0 by decide] at this
       omega
      ·have:=pb h h (Ad _) hh
       have q:=pc_le m5 hh
       have e:(aM h:Int) * (2 * most) ≤ kB most ss.length:=by
        unfold kB
        have z:aM h=0∨aM h=1∨aM h=2:=by revert q;split <;> omega
        rcases z with z | z | z <;> rw [z] at q ⊢ <;> revert q <;> split <;> omega
       omega
     refine ⟨by decide,fun el H9 n9 s9 e9=>⟨_,s9 _ _ er8,e9,?_⟩⟩
     generalize hct:(CtS.mk _)=ct
     have tail:∀ (se:Addr) (ps:List Int) (H9:Hp),ps.length=2 ^ ss.length→(∀ ns,(ns=kE us∨ns=ps∨JoinTab ss.length (kE us) ps ns)→bB (fun h=>ns.getD h 0) ss.length (gY ss 1 ss.length))→(∀ ns,(ns=kE us∨ns=ps∨JoinTab ss.length (kE us) ps ns)→Bd ss.length ((ss.length:Int) * most + kB most ss.length) ns)→Pot H9 p q'→SameY p q' H H9→H9 sg=some (.tup ((kE us).map V.int))→H9 se=some (.tup (ps.map V.int))→@mG ct [some (.ref p),some (.ref sa),some (.int most),some (.ref c),some (.ref rw0),v5,v6,v7,v8,some (.ref sg),some (.ref se)] H9:=by
      intro se ps H9 ql9 ext9 bnd9 pt9 y9 eg9 ex9
      subst hct
      (simp only [qK])
      (push_cast only [])
      refine ⟨sg,se,kE us,ps,ss.length,rfl,eg9,ex9,gl,ql9,m5,fun jn js H10 jl jt s10 e10=>?_⟩
      refine ⟨by decide,fun L H11 n11 s11 e11=>?_⟩
      have pt10:=pt9.same s10
      have nL:=pt10.ne n11
      have pt11:=pt10.same s11
      refine ⟨p,q',4,rfl,pt11,by decide,by decide,fun r H12 r0 r1 pt12 bt12=>?_⟩
      have hs12:=kD (bt12.y _ _ nL.1.symm nL.2.symm e11)
      have y12:SameY p q' H H12:=(y9.trans (jR (s10.trans s11))).trans bt12.y
      have up:∀ {x:Addr} {l:List V},H9 x=some (.tup l)→H12 x=some (.tup l):=fun {x l} e=>by
       have e':=s11 _ _ (s10 _ _ e)
       exact bt12.y _ _ (pt11.net e').1 (pt11.net e').2 e'
      have upj:H12 jn=some (.tup (js.map V.int)):=by
       have e':=s11 _ _ e10
       exact bt12.y _ _ (pt11.net e').1 (pt11.net e').2 e'
      rcases ints4 (r:=r) (by assumption) (by assumption) with rfl | rfl | rfl | rfl
      ·exact ⟨_,_,rfl,hs12,_,rfl,q sg _ H12 gl (ext9 _ (.inl rfl)) (bnd9 _ (.inl rfl)) pt12 y12 (up eg9)⟩
      ·exact ⟨_,_,rfl,hs12,_,rfl,q se _ H12 ql9 (ext9 _ (.inr (.inl rfl))) (bnd9 _ (.inr (.inl rfl))) pt12 y12 (up ex9)⟩
      ·exact ⟨_,_,rfl,hs12,_,rfl,q se _ H12 ql9 (ext9 _ (.inr (.inl rfl))) (bnd9 _ (.inr (.inl rfl))) pt12 y12 (up ex9)⟩
      ·exact ⟨_,_,rfl,hs12,_,rfl,q jn _ H12 jl (ext9 _ (.inr (.inr jt))) (bnd9 _ (.inr (.inr jt))) pt12 y12 upj⟩
     by_cases emp:(List.map (fun x=>V.ref x.1) rs).isEmpty=true
     ·rw [Au emp]
      have hss9:=qX (s9 _ _ esa8)
      refine ⟨ss,hss9,g9 (fun x hx=>by have:=s01 x hx;omega) (by omega),_,hss9,by decide,fun tz H10 n10 s10 e10=>⟨_,qX e10,rfl,rfl,?_⟩⟩
      have s910:=s9.trans s10
      by_cases inn:inV (V.int ss.sum) [V.int 0,V.int ((ss.map V.int).length:Int)] = true
      ·rw [Au inn]
       obtain ⟨z1,z2,z3,z4⟩:=sum01 ss s01
       have uni:ss.sum=0∨ss.sum=(ss.length:Int):=by
        unfold inV at inn
        simp [sP] at inn
        omega
       have pt10':=k8.pot.same s910
       refine ⟨p,q',2,rfl,pt10',by decide,by decide,fun r11 H11 a11 b11 pt11' bt11=>⟨_,rfl,?_⟩⟩
       obtain ⟨kk,rfl⟩:=AL a11
       have ec11:=bt11.y _ _ ncp.1.symm ncp.2.symm (s910 _ _ ec8)
       refine ⟨c,ws,1 + kk,by simp,ec11,by omega,by omega,(fun x hx=>by have:=wb x hx;omega),fun st qs H9' n9' ql9 tp9 s9' ex9=>?_⟩
       rw [wl] at ql9 tp9
       have pt9:=pt11'.same s9'
       have y9:SameY p q' H H9':=((y08.trans (jR s910)).trans bt11.y).trans (jR s9')
       have eg9:H9' sg=some (.tup ((kE us).map V.int)):=s9' _ _ (bt11.y _ _ (pt10'.net (s910 _ _ esg8)).1 (pt10'.net (s910 _ _ esg8)).2 (s910 _ _ esg8))
       have qB:Bd ss.length (kB most ss.length) qs:=by
        have w1:∀ h,∀ x ∈ vS ws h ss.length,0 ≤ x∧x ≤ most:=fun h x hx=>by
         unfold vS at hx
         obtain ⟨t,_,rfl⟩:=Al.mp hx
         show 0 ≤ ws.getD t 0∧ws.getD t 0 ≤ most
         rw [Ab]
         cases e:ws[t]? with
         | none=>exact ⟨AY _,show (0:Int) ≤ most by omega⟩
         | some x=>exact wb x (Aq e)
        refine ⟨?_,fun h hh=>?_⟩
        ·rw [tp9 0 (AA _)]
         have:vS ws 0 ss.length=[]:=by
          have:=lO ws 0 ss.length
          unfold vS
          rw [List.map_eq_nil_iff,List.filter_eq_nil_iff]
          intro t _
          unfold qC
          simp
         rw [this]
         cases (1 + kk) <;> rfl
        ·rw [tp9 h hh]
         have a:=sY (c:=most) (by omega) (vS ws h ss.length) (1 + kk) (w1 h)
         have b:((1 + kk:Nat):Int) * most ≤ 2 * most:=Int.mul_le_mul_of_nonneg_right (by omega) (by omega)
         omega
       have extB:∀ ns,(ns=kE us∨ns=qs∨JoinTab ss.length (kE us) qs ns)→bB (fun h=>ns.getD h 0) ss.length 0:=fun ns hn=>by
        have oneS:One 10 0 ss.length (kE us):=rH m5 (.inl rfl) u0 cad
        have oneT:One 30 0 ss.length qs:=one_top m5 (by omega) (.inr rfl) tp9
        have h0:0 < 2 ^ ss.length:=hp.2
        rcases hn with rfl | rfl | jt
        ·exact oneS.ext m5 h0
        ·exact oneT.ext m5 h0
        ·exact rW m5 h0 oneS oneT jt
       have bnd9:=mix qs qB
       have ext9:∀ ns,(ns=kE us∨ns=qs∨JoinTab ss.length (kE us) qs ns)→bB (fun h=>ns.getD h 0) ss.length (gY ss 1 ss.length):=fun ns hn=>by
        have gm:∀ t,t < ss.length→ss.getD t 0 ∈ ss:=fun t ht=>by
         rw [Ab,Ag ht]
         exact AK _
        rcases uni with u | u
        ·have e0:gY ss 1 ss.length=0:=by
          rcases Nat.eq_zero_or_pos (gY ss 1 ss.length) with z | z
          ·exact z
          ·obtain ⟨t,ht,b⟩:=a_bit m5 hF (by omega)
           rw [hbit t ht,z3 u _ (gm t ht)] at b
           simp at b
         rw [e0]
         exact extB ns hn
        ·refine ext_all m5 hF (fun t ht=>?_) (extB ns hn)
         rw [hbit t ht,z4 u _ (gm t ht),A2 ht]
         rfl
       exact tail st qs H9' ql9 ext9 bnd9 pt9 y9 eg9 ex9
      ·rw [Ax inn]
       have pt9:=k8.pot.same s910
       have y9:SameY p q' H H10:=y08.trans (jR s910)
       have eg9:=s910 _ _ esg8
       have ex9:=s910 _ _ e8
       exact tail se ps H10 pl8 extA (mix ps pB) pt9 y9 eg9 ex9
     ·rw [Ax emp]
      have pt9:=k8.pot.same s9
      have y9:SameY p q' H H9:=y08.trans (jR s9)
      have eg9:=s9 _ _ esg8
      have ex9:=s9 _ _ e8
      exact tail se ps H9 pl8 extA (mix ps pB) pt9 y9 eg9 ex9
theorem lim45 {x:Int}(h:x=4∨x=5){y:Nat}(hy:y < 2):(((4:Nat):Int) * 2 + kB 2 4) * (((1 + y:Nat):Int) + ((4:Nat):Int)) ≤ 399∧(((5:Nat):Int) * 1 + kB 1 5) * (((1 + y:Nat):Int) + ((5:Nat):Int)) ≤ 399:=by
 have c:y=0∨y=1:=by omega
 rcases c with rfl | rfl <;> decide
theorem lim7 {m n:Nat}(hm:m ≤ 3)(hn:n ≤ 5):((m:Int) * 7 + kB 7 m) * ((n:Int) + (m:Int)) ≤ 399:=by
 have key:∀ (m:_root_.Fin 4) (n:_root_.Fin 6),((m.val:Int) * 7 + kB 7 m.val) * ((n.val:Int) + (m.val:Int)) ≤ 399:=by decide +kernel
 exact key ⟨m,by omega⟩ ⟨n,by omega⟩
def TabE (H:Hp)(ss:List Int)(B:Int)(ts:List (Addr × List Int)):Prop:=∀ t ∈ ts,H t.1=some (.tup (t.2.map V.int))∧t.2.length=2 ^ ss.length∧bB (fun h=>t.2.getD h 0) ss.length (gY ss 1 ss.length)∧Bd ss.length B t.2
def pZ:Sp:=fun vs H Q _=>∃ (p q:Addr),vs=[.ref p,.int 7]∧Pot H p q∧∀ (t sa wt:Addr) (ss:List Int) (B:Int) (ts:List (Addr × List Int)) (H':Hp),1 ≤ ss.length→ss.length ≤ 5→1 ≤ ts.length→ts.length ≤ 5→(∀ x ∈ ss,x=0∨x=1)→TabE H' ss B ts→0 ≤ B→B * ((ts.length:Int) + (ss.length:Int)) ≤ 399→Pot H' p q→H' t=some (.tup [.ref sa,.ref wt])→H' sa=some (.tup (ss.map V.int))→H' wt=some (.tup (ts.map fun t=>V.ref t.1))→Q (.ref t) H'
def KTI (p q sa c:Addr)(ss:List Int)(most:Int)(G:Hp)(i:Nat)(σ:St)(H:Hp):Prop:=∃ (v:Option V) (ts:List (Addr × List Int)),σ=[v,some (.ref p),some (.ref sa),some (.int most)]∧ts.length=i∧TabE H ss ((ss.length:Int) * most + kB most ss.length) ts∧Pot H p q∧(∀ b o,b ≠ p→b ≠ q→b ≠ c→G b=some o→H b=some o)∧H c=some (.lst (ts.map fun t=>V.ref t.1))
theorem yF:FnScope ["_law_pot_here", "_law_most", "_law_many", "_law_hands", "_law_sides_here"] ["_law_pot_here", "_law_most"] (qF s__law_kind_town):=⟨rfl,rfl,rfl,by decide +kernel,rfl,by decide +kernel,by decide +kernel⟩
theorem ok_ktown (F:Fun K "_law_kind_town" "_law_kind_town" s__law_kind_town f fd) (hm:mg "_law_kind_town" = some (.ref f)) (hb:Binds K fd ["_law_pot_here", "_law_most"] []) (T:Txt mg) (c__law_draw:Cal P w K mg base "_law_draw" ["_law_pot_here", "_law_many"] 2 bN) (c__law_sides:Cal P w K mg base "_law_sides" ["_law_pot_here", "_law_many"] 3 pV) (c__law_kind_want:Cal P w K mg base "_law_kind_want" ["_law_pot_here", "_law_sides_here", "_law_most"] 3 pY):Cal P w K mg base "_law_kind_town" ["_law_pot_here", "_law_most"] 4 pZ:=by
 refine q4 F hm hb yF (fun vs H Q E h=>?_) (fun cdv A outer s H vs Q E hr h=>?_)
 ·obtain ⟨_,_,rfl,_⟩:=h;rfl
 ·obtain ⟨p,q',rfl,pt,q⟩:=h
  have sc:=yF
  refine ⟨_,qJ (tJ (i:=2) (j:=3) rfl sc.nd rfl rfl (by decide) rfl rfl (qA (qV kW qG (qL c__law_draw hr (qA (pv 0) (qA qG qD)))) (qA (qV kW qG (qL c__law_draw hr (qA (pv 0) (qA (q9 zF (kZ (qA qG (qA qG (qA qG (qA qG qD))))) (qL c__law_draw hr (qA (pv 0) (qA qG qD))) (fun _ _=>rfl)) qD)))) qD)) rfl)
   (qJ (j8 (q5 jW (qL c__law_draw hr (qA (pv 0) (qA qG qD))) qG (qZ _)) (qJ (tJ (i:=2) (j:=3) rfl sc.nd rfl rfl (by decide) rfl rfl (qA (q9 zF (kZ (qA qG (qA qG (qA qG (qA qG qD))))) (qL c__law_draw hr (qA (pv 0) (qA qG qD))) (fun _ _=>rfl)) (qA (qV kW qG (qL c__law_draw hr (qA (pv 0) (qA qG qD)))) qD)) rfl)
   (qI (qY (i:=1) sc.nd rfl (Or.inr rfl) (qV xR qG (pv 2))))) jB)
   (qJ (qY (i:=4) sc.nd rfl (Or.inr rfl) (qL c__law_sides hr (qA (pv 0) (qA (pv 2) qD))))
   (qI (qU (jK (qA (pv 4) (qA (kM zZ rfl T.tuple_ kL (qA (jI (N:=["_law_hand", "_law_pot_here", "_law_sides_here", "_law_most"]) (fr:=[none,some 0,some 4,some 1]) rfl (jD rfl T.range_ (qA (pv 3) qD)) (CScope.of rfl rfl rfl) rfl (fun _ _ _=>⟨qN (i:=0) (show List.Nodup (α:=Str) ["_law_hand", "_law_pot_here", "_law_sides_here", "_law_most"] by decide +kernel) rfl (Or.inl rfl),kN,qL c__law_kind_want hr (qA (pv 1) (qA (pv 2) (qA (pv 3) qD)))⟩)) qD)) qD))))))),?_⟩
  rw [show L2.start ["_law_pot_here", "_law_most", "_law_many", "_law_hands", "_law_sides_here"] [.ref p,.int 7] = [some (.ref p),some (.int 7),none,none,none] from rfl]
  (push_cast only [])
  refine ⟨p,q',3,rfl,pt,by decide,by decide,fun x1 H1 a1 b1 pt1 bt1=>⟨_,rfl,by decide,fun L1 H2 n2 s2 e2=>?_⟩⟩
  have nL1:=pt1.ne n2
  refine ⟨p,q',4,rfl,pt1.same s2,by decide,by decide,fun x3 H3 a3 b3 pt3 bt3=>?_⟩
  have hs3:=kD (bt3.y _ _ nL1.1.symm nL1.2.symm e2)
  obtain ⟨mm,hmm,m3⟩:=tM (Pd:=fun x=>x=3∨x=5) a3 b3 (a:=3) (b:=3) (c:=3) (d:=5) (.inl rfl) (.inl rfl) (.inl rfl) (.inr rfl)
  refine ⟨_,_,rfl,hs3,_,hmm,p,q',mm,rfl,pt3,by omega,by omega,fun x4 H4 a4 b4 pt4 bt4=>⟨_,rfl,?_⟩⟩
  obtain ⟨y1,rfl⟩:=AL a1
  obtain ⟨y4,rfl⟩:=AL a4
  (simp only [qK])
  rw [uE]
  generalize hct:(CtS.mk _)=ct
  have tail:∀ (m hn:Nat) (most:Int) (G:Hp),Pot G p q'→1 ≤ m→m ≤ 5→1 ≤ hn→hn ≤ 5→1 ≤ most→most ≤ 9→((m:Int) * most + kB most m) * ((hn:Int) + (m:Int)) ≤ 399→@mG ct [some (.ref p),some (.int most),some (.int (m:Int)),some (.int (hn:Int)),none] G:=fun m hn most G pt9 m1 m5 h1 h5 mo1 mo9 lim=>by
   subst hct
   (simp only [qK])
   (push_cast only [])
   refine ⟨p,q',m,rfl,pt9,by omega,fun sa ss H10 n10 sl s01 pt10 y10 e10=>?_⟩
   (simp only [qK])
   (push_cast only [])
   refine ⟨by omega,by omega,fun c nc=>?_⟩
   have ncp:=pt10.ne nc
   have nsc:sa ≠ c:=qE e10 nc
   have nsp:=pt10.net e10
   refine yA (KTI p q' sa c ss most H10) ⟨none,[],rfl,rfl,(fun _ z=>by cases z),pt10.upd ncp.1 ncp.2,fun b o _ _ n e=>by rw [qS n];exact e,qH⟩ ?_ ?_
   ·rintro i σ H11 hi ⟨v,ts,rfl,tl,tb,pt11,k11,e11⟩
    have esa11:=k11 _ _ nsp.1 nsp.2 nsc e10
    (push_cast only [])
    refine ⟨p,q',sa,ss,most,rfl,pt11,esa11,by omega,by omega,s01,by omega,by omega,fun t ns H12 nl ext bd pt12 y12 e12=>?_⟩
    have e11':=y12 _ _ ncp.1.symm ncp.2.symm e11
    (push_cast only [e11'])
    refine ⟨qO (by omega),⟨_,ts ++ [(t,ns)],rfl,by simp [tl],fun x hx=>?_,pt12.upd ncp.1 ncp.2,fun b o n1 n2 n3 e=>by rw [qS n3];exact y12 _ _ n1 n2 (k11 b o n1 n2 n3 e),by rw [qH];simp⟩⟩
    rcases Av.mp hx with z | z
    ·obtain ⟨g1,g2⟩:=tb x z
     have g3:=y12 _ _ (pt11.net g1).1 (pt11.net g1).2 g1
     exact ⟨by rw [qS (fun y=>by rw [y,e11'] at g3;cases g3)];exact g3,g2⟩
    ·rw [A4.mp z]
     have ntc:t ≠ c:=fun y=>by rw [y,e11'] at e12;cases e12
     exact ⟨by show upd H12 c _ t=_;rw [qS ntc];exact e12,nl,ext,bd⟩
   ·rintro σ H11 ⟨v,ts,rfl,tl,tb,pt11,k11,e11⟩
    have esa11:=k11 _ _ nsp.1 nsp.2 nsc e10
    refine ⟨_,e11,fun wt H12 n12 s12 e12=>?_⟩
    (push_cast only [])
    refine ⟨by decide,fun t H13 n13 s13 e13=>?_⟩
    have S:=s12.trans s13
    subst sl
    exact q t sa wt ss _ ts H13 (by omega) (by omega) (by omega) (by omega) s01 (fun x hx=>⟨S _ _ (tb x hx).1,(tb x hx).2⟩) (Int.add_nonneg (Cn (by omega) (by omega)) (by unfold kB;split <;> omega)) (by rw [tl,Ay];exact lim) (pt11.same S) e13 (S _ _ esa11) (s13 _ _ e12)
  (push_cast only [])
  refine ⟨p,q',8,rfl,pt4,by decide,by decide,fun x5 H5 a5 b5 pt5 bt5=>?_⟩
  refine ⟨rfl,?_⟩
  split
  ·refine ⟨by decide,fun L2 H6 n6 s6 e6=>?_⟩
   have nL2:=pt5.ne n6
   refine ⟨p,q',4,rfl,pt5.same s6,by decide,by decide,fun x7 H7 a7 b7 pt7 bt7=>?_⟩
   have hs7:=kD (bt7.y _ _ nL2.1.symm nL2.2.symm e6)
   obtain ⟨m7,hm7,m45⟩:=tM (Pd:=fun x=>x=4∨x=5) a7 b7 (a:=4) (b:=4) (c:=4) (d:=5) (.inl rfl) (.inl rfl) (.inl rfl) (.inr rfl)
   refine ⟨_,_,rfl,hs7,_,hm7,p,q',2,rfl,pt7,by decide,by decide,fun x8 H8 a8 b8 pt8 bt8=>⟨_,rfl,?_⟩⟩
   obtain ⟨y8,rfl⟩:=AL a8
   (simp only [qK])
   (push_cast only [])
   have l:=lim45 m45 (show y8 < 2 by omega)
   rcases m45 with rfl | rfl
   ·exact tail 4 (1 + y8) 2 H8 pt8 (by decide) (by decide) (by omega) (by omega) (by decide) (by decide) l.1
   ·exact tail 5 (1 + y8) 1 H8 pt8 (by decide) (by decide) (by omega) (by omega) (by decide) (by decide) l.2
  ·exact tail (1 + y1) (1 + y4) 7 H5 pt5 (by omega) (by omega) (by omega) (by omega) (by decide) (by decide) (lim7 (by omega) (by omega))
end
end K60
end
section
namespace K60
namespace S
open PySem L2
section
variable {P:Program}{w:World}{K:PySem.W.Frag}{mg:Str→Option Value}{base:Heap}{f:Addr}{fd:FuncData}
def out (h t:Nat):Nat:=if h / 2 ^ t % 2=1 then h - 2 ^ t else h
theorem bit_on {h t:Nat}(hh:h < 32)(ht:t < 5):decide (Builtin.bitAnd ((h:Int) / 2 ^ (t:Int).toNat) 1=1)=qC h t∧(qC h t=true→(h:Int) - 1 * 2 ^ (t:Int).toNat=(out h t:Int)∧out h t < h)∧(qC h t=false→out h t=h):=by
 have key:∀ (a:_root_.Fin 32) (b:_root_.Fin 5),decide (Builtin.bitAnd ((a.val:Int) / 2 ^ (b.val:Int).toNat) 1=1)=qC a.val b.val∧(qC a.val b.val=true→(a.val:Int) - 1 * 2 ^ (b.val:Int).toNat=(out a.val b.val:Int)∧out a.val b.val < a.val)∧(qC a.val b.val=false→out a.val b.val=a.val):=by decide +kernel
 exact key ⟨h,hh⟩ ⟨t,ht⟩
def natI (ps:List Nat):List V:=ps.map fun p:Nat=>V.int (p:Int)
def bitsL (F m:Nat):List Int:=(List.range m).map fun t=>if qC F t=true then 1 else 0
theorem bits_len (F m:Nat):(bitsL F m).length=m:=by unfold bitsL;simp
theorem bits_at {F m t:Nat}(ht:t < m):(bitsL F m).getD t 0=if qC F t=true then 1 else 0:=by
 unfold bitsL
 simp [Ab,ht]
def gW (F n:Nat):List Nat:=(List.range n).filter (qC F)
theorem nG (F i:Nat):gW F (i + 1)=gW F i ++ if qC F i=true then [i] else []:=by
 unfold gW
 rw [Bt,B2]
 congr 1
 cases e:qC F i <;> simp [List.filter,e]
theorem ones_sum {F m:Nat}(hm:m ≤ 5)(hF:F < 2 ^ m):((gW F m).map fun t:Nat=>(2:Int) ^ t).sum=(F:Int):=by
 have key:∀ (a:_root_.Fin 6) (b:_root_.Fin 32),b.val < 2 ^ a.val→((gW b.val a.val).map fun t:Nat=>(2:Int) ^ t).sum=(b.val:Int):=by decide +kernel
 have:=jA hm
 exact key ⟨m,by omega⟩ ⟨F,by omega⟩ hF
def lD:Sp:=fun vs H Q _=>∃ (a:Addr) (ts:List Nat),vs=[.ref a]∧H a=some (.lst (natI ts))∧ts.length ≤ 5∧(∀ t ∈ ts,t < 5)∧∀ H',Same H H'→Q (.int ((ts.map fun t:Nat=>(2:Int) ^ t).sum)) H'
def LH (c:Addr)(ts:List Nat)(G:Hp)(i:Nat)(σ:St)(H:Hp):Prop:=∃ v,σ=[v]∧SameX c G H∧H c=some (.lst (((ts.take i).map fun t:Nat=>(2:Int) ^ t).map V.int))
theorem two_le {t:Nat}(h:t < 5):(0:Int) ≤ 2 ^ t∧(2:Int) ^ t ≤ 16:=(show ∀ t,t < 5→(0:Int) ≤ 2 ^ t∧(2:Int) ^ t ≤ 16 by decide) t h
theorem bV:FnScope ["things"] ["things"] (qF s_heap_of):=⟨rfl,rfl,rfl,by decide +kernel,rfl,by decide +kernel,by decide +kernel⟩
theorem ok_heap (F:Fun K "heap_of" "heap_of" s_heap_of f fd) (hm:mg "heap_of" = some (.ref f)) (hb:Binds K fd ["things"] []) (T:Txt mg):Cal P w K mg base "heap_of" ["things"] 1 lD:=by
 refine q4 F hm hb bV (fun vs H Q E h=>?_) (fun cdv A outer s H vs Q E hr h=>?_)
 ·obtain ⟨_,_,rfl,_⟩:=h;rfl
 ·obtain ⟨a,ts,rfl,ha,hlen,hlt,q⟩:=h
  have sc:=bV
  refine ⟨_,qI (qU (qM (tD rfl) rfl T.sum_ dJ (qA (jI (N:=["thing"]) (fr:=[none]) rfl (yG (pv 0)) (CScope.of rfl rfl rfl) rfl (fun _ _ _=>⟨qN (i:=0) (show List.Nodup (α:=Str) ["thing"] by decide +kernel) rfl (Or.inl rfl),kN,qV tP qG (pv 0)⟩)) qD))),?_⟩
  rw [show L2.start ["things"] [.ref a] = [some (.ref a)] from rfl]
  (push_cast only [ha])
  intro c nc
  have nac:a ≠ c:=qE ha nc
  refine jS (LH c ts H) ⟨none,rfl,SameX.upd,qH⟩ (fun j σ H' _ ⟨_,_,s,_⟩=>s _ _ nac ha) ?_ ?_
  ·rintro i x σ H1 hx ⟨v,rfl,s1,e1⟩
   unfold natI at hx
   rw [Af] at hx
   obtain ⟨t,ht,rfl⟩:=Ah.mp hx
   have hi:i < ts.length:=(Ae.mp ht).1
   have t5:=hlt t (Aq ht)
   (push_cast only [e1])
   refine ⟨⟨by omega,by omega,by decide⟩,qO (by rw [An];omega),⟨_,rfl,s1.trans SameX.upd,?_⟩⟩
   rw [qH,Az,ht]
   simp
  ·rintro σ H1 ⟨v,rfl,s1,e1⟩
   rw [show (natI ts).length=ts.length by unfold natI;rw [Aa],AF] at e1
   refine ⟨_,kD e1,g9 (fun n hn=>?_) (by rw [Aa];omega),q H1 (s1.same nc)⟩
   obtain ⟨t,ht,rfl⟩:=Al.mp hn
   have:=two_le (hlt t ht)
   omega
def u7:Sp:=fun vs H Q _=>∃ (a:Addr) (F m:Nat),vs=[.ref a,.int 1]∧H a=some (.tup ((bitsL F m).map V.int))∧m ≤ 5∧F < 2 ^ m∧∀ H',Same H H'→Q (.int (F:Int)) H'
def LS2 (a c:Addr)(F:Nat)(G:Hp)(i:Nat)(σ:St)(H:Hp):Prop:=∃ v,σ=[v,some (.ref a),some (.int 1)]∧SameX c G H∧H c=some (.lst (natI (gW F i)))
theorem vK:FnScope ["sides", "side"] ["sides", "side"] (qF s_heap_of_side):=⟨rfl,rfl,rfl,by decide +kernel,rfl,by decide +kernel,by decide +kernel⟩
theorem ok_side (F:Fun K "heap_of_side" "heap_of_side" s_heap_of_side f fd) (hm:mg "heap_of_side" = some (.ref f)) (hb:Binds K fd ["sides", "side"] []) (T:Txt mg) (c_heap_of:Cal P w K mg base "heap_of" ["things"] 1 lD):Cal P w K mg base "heap_of_side" ["sides", "side"] 2 u7:=by
 refine q4 F hm hb vK (fun vs H Q E h=>?_) (fun cdv A outer s H vs Q E hr h=>?_)
 ·obtain ⟨_,_,_,rfl,_⟩:=h;rfl
 ·obtain ⟨a,F0,m,rfl,ha,m5,hF,q⟩:=h
  have sc:=vK
  refine ⟨_,qI (qU (qL c_heap_of hr (qA (jI (N:=["thing", "sides", "side"]) (fr:=[none,some 0,some 1]) rfl (jD rfl T.range_ (qA (qM len0 rfl T.len_ kX (qA (pv 0) qD)) qD)) (CScope.of rfl rfl rfl) rfl (fun _ _ _=>⟨qN (i:=0) (show List.Nodup (α:=Str) ["thing", "sides", "side"] by decide +kernel) rfl (Or.inl rfl),zS (q5 jW (q9 zF (pv 1) (pv 0) (fun _ _=>rfl)) (pv 2) (qZ _)),pv 0⟩)) qD))),?_⟩
  rw [show L2.start ["sides", "side"] [.ref a,.int 1] = [some (.ref a),some (.int 1)] from rfl]
  have hsa:=qX ha
  (push_cast only [hsa])
  rw [bits_len]
  refine ⟨by omega,by omega,fun c nc=>?_⟩
  have nac:a ≠ c:=qE ha nc
  have ol:∀ n,(gW F0 n).length ≤ n:=fun n=>by unfold gW;exact AG (Bi _ _) (by simp)
  refine yA (LS2 a c F0 H) ⟨none,rfl,SameX.upd,qH⟩ ?_ ?_
  ·rintro i σ H1 hi ⟨v,rfl,s1,e1⟩
   rw [Ay] at hi
   have hsa1:=qX (s1 _ _ nac ha)
   have hat:=jZ (ns:=bitsL F0 m) (n:=i) (by rw [bits_len];exact hi)
   rw [bits_at hi] at hat
   have oli:=ol i
   (push_cast only [hsa1,hat])
   cases hb:qC F0 i with
   | true =>
    rw [Au (by simp [hb])]
    refine ⟨_,e1,qO (by unfold natI;rw [Aa];omega),⟨_,rfl,s1.trans SameX.upd,?_⟩⟩
    rw [qH,nG,Au hb]
    unfold natI
    simp
   | false =>
    rw [Ax (by simp [hb])]
    refine ⟨_,rfl,s1,?_⟩
    rw [e1,nG,Ax (by rw [hb];decide),Bm]
  ·rintro σ H1 ⟨v,rfl,s1,e1⟩
   rw [Ay] at e1
   have olm:=ol m
   refine ⟨c,gW F0 m,rfl,e1,by omega,fun t ht=>?_,fun H2 s2=>?_⟩
   ·unfold gW at ht
    have:=AU.mp (Bn.mp ht).1
    omega
   ·rw [ones_sum m5 hF]
    exact q H2 ((s1.same nc).trans s2)
theorem xor_int {h F m:Nat}(hm:m ≤ 5)(hh:h < 2 ^ m)(hF:F < 2 ^ m):Builtin.bitXor (h:Int) (F:Int)=((h ^^^ F:Nat):Int)∧h ^^^ F < 2 ^ m∧(h ^^^ F) ^^^ F=h:=by
 have key:∀ (a:_root_.Fin 6) (b c:_root_.Fin 32),b.val < 2 ^ a.val→c.val < 2 ^ a.val→Builtin.bitXor (b.val:Int) (c.val:Int)=((b.val ^^^ c.val:Nat):Int)∧b.val ^^^ c.val < 2 ^ a.val∧(b.val ^^^ c.val) ^^^ c.val=b.val:=by decide +kernel
 have:=jA hm
 exact key ⟨m,by omega⟩ ⟨h,by omega⟩ ⟨F,by omega⟩ hh hF
def jV (ns:List Int)(F:Nat):List Int:=(List.range ns.length).map fun h=>ns.getD (h ^^^ F) 0
theorem oW (ns:List Int)(F:Nat):(jV ns F).length=ns.length:=by unfold jV;simp
theorem turn_at {ns:List Int}{F h:Nat}(hh:h < ns.length):(jV ns F).getD h 0=ns.getD (h ^^^ F) 0:=by
 unfold jV
 simp [Ab,hh]
theorem getD_ext {l m:List Int}(hl:l.length=m.length)(h:∀ i,i < l.length→l.getD i 0=m.getD i 0):l=m:=by
 apply Ca hl
 intro i q1 q2
 have:=h i q1
 simpa [Ab,q1,q2] using this
def mQ:Sp:=fun vs H Q _=>∃ (a b:Addr) (ns:List Int) (F m:Nat),vs=[.ref a,.ref b]∧H a=some (.tup (ns.map V.int))∧H b=some (.tup ((bitsL F m).map V.int))∧m ≤ 5∧F < 2 ^ m∧ns.length=2 ^ m∧∀ (l:Addr) (H':Hp),Same H H'→H' l=some (.tup ((jV ns F).map V.int))→Q (.ref l) H'
def LX1 (a c:Addr)(ns:List Int)(F:Nat)(G:Hp)(i:Nat)(σ:St)(H:Hp):Prop:=∃ v,σ=[v,some (.ref a),some (.int (F:Int))]∧SameX c G H∧H c=some (.lst (((List.range i).map fun h=>ns.getD (h ^^^ F) 0).map V.int))
theorem mX:FnScope ["want", "sides", "flips"] ["want", "sides"] (qF s_turned):=⟨rfl,rfl,rfl,by decide +kernel,rfl,by decide +kernel,by decide +kernel⟩
theorem ok_turned (F:Fun K "turned" "turned" s_turned f fd) (hm:mg "turned" = some (.ref f)) (hb:Binds K fd ["want", "sides"] []) (T:Txt mg) (c_heap_of_side:Cal P w K mg base "heap_of_side" ["sides", "side"] 2 u7):Cal P w K mg base "turned" ["want", "sides"] 3 mQ:=by
 refine q4 F hm hb mX (fun vs H Q E h=>?_) (fun cdv A outer s H vs Q E hr h=>?_)
 ·obtain ⟨_,_,_,_,_,rfl,_⟩:=h;rfl
 ·obtain ⟨a,b,ns,F0,m,rfl,ha,hb',m5,hF,hl,q⟩:=h
  have sc:=mX
  have hp:=jA m5
  refine ⟨_,kC (qY (i:=2) sc.nd rfl (Or.inr rfl) (qL c_heap_of_side hr (qA (pv 1) (qA qG qD))))
   (qI (qU (kM zZ rfl T.tuple_ kL (qA (jI (N:=["heap", "want", "flips"]) (fr:=[none,some 0,some 2]) rfl (jD rfl T.range_ (qA (qM len0 rfl T.len_ kX (qA (pv 0) qD)) qD)) (CScope.of rfl rfl rfl) rfl (fun _ _ _=>⟨qN (i:=0) (show List.Nodup (α:=Str) ["heap", "want", "flips"] by decide +kernel) rfl (Or.inl rfl),kN,q9 zF (pv 1) (qV op_xor (pv 0) (pv 2)) (fun _ _=>rfl)⟩)) qD)))),?_⟩
  rw [show L2.start ["want", "sides", "flips"] [.ref a,.ref b] = [some (.ref a),some (.ref b),none] from rfl]
  (push_cast only [])
  refine ⟨b,F0,m,rfl,hb',m5,hF,fun H1 s1=>?_⟩
  have ha1:=s1 _ _ ha
  have hsa:=qX ha1
  (push_cast only [hsa])
  refine ⟨by omega,by omega,fun c nc=>?_⟩
  have nac:a ≠ c:=qE ha1 nc
  refine yA (LX1 a c ns F0 H1) ⟨none,rfl,SameX.upd,qH⟩ ?_ ?_
  ·rintro i σ H2 hi ⟨v,rfl,s2,e2⟩
   rw [Ay] at hi
   obtain ⟨x0,x1,_⟩:=xor_int m5 (show i < 2 ^ m by omega) hF
   have hsa2:=qX (s2 _ _ nac ha1)
   have hat:=jZ (ns:=ns) (n:=i ^^^ F0) (by omega)
   rw [← x0] at hat
   (push_cast only [hsa2,hat,e2])
   refine ⟨qO (by simp;omega),⟨_,rfl,s2.trans SameX.upd,?_⟩⟩
   rw [qH,Bt]
   simp
  ·rintro σ H2 ⟨v,rfl,s2,e2⟩
   rw [Ay] at e2
   refine ⟨_,e2,fun l H3 nl s3 e3=>?_⟩
   exact q l H3 (s1.trans ((s2.same nc).trans s3)) e3
def fR (h m:Nat):List Nat:=(List.range m).filter fun t=>!qC h t
theorem d6 {h m t:Nat}:t ∈ fR h m ↔ t < m∧qC h t=false:=by
 unfold fR
 rw [Bn,AU]
 simp
theorem nE (h m:Nat):fR h (m + 1)=fR h m ++ if qC h m=true then [] else [m]:=by
 unfold fR
 rw [Bt,B2]
 congr 1
 cases e:qC h m <;> simp [e]
theorem rF (h m:Nat):(fR h m).length ≤ m:=by
 unfold fR
 exact AG (Bi _ _) (by simp)
def OkP (m h i j:Nat):Prop:=h < 2 ^ m∧i < j∧j < m∧qC h i=false∧qC h j=false
def OkT (m h i j k:Nat):Prop:=OkP m h i j∧k < m∧qC h k=false∧k ≠ i∧k ≠ j
def PB (ws:List Int)(h i j:Nat):Prop:=ws.getD (h ||| 2 ^ i ||| 2 ^ j) 0 + ws.getD h 0 > ws.getD (h ||| 2 ^ i) 0 + ws.getD (h ||| 2 ^ j) 0
noncomputable instance (ws:List Int) (h i j:Nat):Decidable (PB ws h i j):=by unfold PB;infer_instance
def PT (ws:List Int)(h a b c:Nat):Int:=ws.getD (h ||| 2 ^ a ||| 2 ^ b) 0 + ws.getD (h ||| 2 ^ c) 0
def TB (ws:List Int)(h i j k:Nat):Prop:=PT ws h i k j < PT ws h i j k∧PT ws h j k i < PT ws h i j k
noncomputable instance (ws:List Int) (h i j k:Nat):Decidable (TB ws h i j k):=by unfold TB;infer_instance
def eW (ws:List Int)(m:Nat):Prop:=∀ h i j,OkP m h i j→¬ PB ws h i j
def eV (ws:List Int)(m:Nat):Prop:=∀ h i j k,OkT m h i j k→¬ TB ws h i j k
theorem xQ {h t m:Nat}(hm:m ≤ 5)(hh:h < 2 ^ m)(ht:t < m):Builtin.bitOr (h:Int) ((2 ^ t:Nat):Int)=((h ||| 2 ^ t:Nat):Int)∧(h ||| 2 ^ t) < 2 ^ m:=by
 have key:∀ (a:_root_.Fin 6) (b:_root_.Fin 32) (c:_root_.Fin 5),b.val < 2 ^ a.val→c.val < a.val→Builtin.bitOr (b.val:Int) ((2 ^ c.val:Nat):Int)=((b.val ||| 2 ^ c.val:Nat):Int)∧(b.val ||| 2 ^ c.val) < 2 ^ a.val:=by decide +kernel
 have:=jA hm
 exact key ⟨m,by omega⟩ ⟨h,by omega⟩ ⟨t,by omega⟩ hh ht
theorem hpow (m:Nat):(1:Int) * 2 ^ (m:Int).toNat=((2 ^ m:Nat):Int):=by rw [Cy,Ay];norm_cast
def fP:Sp:=fun vs H Q _=>∃ h t m:Nat,vs=[.int (h:Int),.int (t:Int)]∧m ≤ 5∧h < 2 ^ m∧t < m∧Q (.int ((h ||| 2 ^ t:Nat):Int)) H
theorem mY:FnScope ["heap", "thing"] ["heap", "thing"] (qF s_put_in):=⟨rfl,rfl,rfl,by decide +kernel,rfl,by decide +kernel,by decide +kernel⟩
theorem ok_put (F:Fun K "put_in" "put_in" s_put_in f fd) (hm:mg "put_in" = some (.ref f)) (hb:Binds K fd ["heap", "thing"] []) (T:Txt mg):Cal P w K mg base "put_in" ["heap", "thing"] 1 fP:=by
 refine q4 F hm hb mY (fun vs H Q E h=>?_) (fun cdv A outer s H vs Q E hr h=>?_)
 ·obtain ⟨_,_,_,rfl,_⟩:=h;rfl
 ·obtain ⟨h,t,m,rfl,m5,hh,ht,q⟩:=h
  have sc:=mY
  refine ⟨_,qI (qU (qV op_or (pv 0) (qV tP qG (pv 1)))),?_⟩
  rw [show L2.start ["heap", "thing"] [.int (h:Int),.int (t:Int)] = [some (.int (h:Int)),some (.int (t:Int))] from rfl]
  (push_cast only [])
  rw [hpow,(xQ m5 hh ht).1]
  exact ⟨⟨by omega,by omega,by decide⟩,q⟩
def sp_has:Sp:=fun vs H Q _=>∃ h t:Nat,vs=[.int (h:Int),.int (t:Int)]∧h < 32∧t < 5∧Q (.bl (qC h t)) H
theorem lF:FnScope ["heap", "thing"] ["heap", "thing"] (qF s_has):=⟨rfl,rfl,rfl,by decide +kernel,rfl,by decide +kernel,by decide +kernel⟩
theorem ok_has (F:Fun K "has" "has" s_has f fd) (hm:mg "has" = some (.ref f)) (hb:Binds K fd ["heap", "thing"] []) (T:Txt mg):Cal P w K mg base "has" ["heap", "thing"] 1 sp_has:=by
 refine q4 F hm hb lF (fun vs H Q E h=>?_) (fun cdv A outer s H vs Q E hr h=>?_)
 ·obtain ⟨_,_,rfl,_⟩:=h;rfl
 ·obtain ⟨h,t,rfl,hh,ht,q⟩:=h
  have sc:=lF
  refine ⟨_,qI (qU (jQ jW (qV cH (qV op_shr (pv 0) (pv 1)) qG) qG (qZ _))),?_⟩
  rw [show L2.start ["heap", "thing"] [.int (h:Int),.int (t:Int)] = [some (.int (h:Int)),some (.int (t:Int))] from rfl]
  (push_cast only [])
  rw [(bit_on hh ht).1]
  exact ⟨by omega,q⟩
def o9:Sp:=fun vs H Q _=>∃ h m:Nat,vs=[.int (h:Int),.int (m:Int)]∧h < 32∧m ≤ 5∧∀ (l:Addr) (H':Hp),Same H H'→H' l=some (.lst (natI (fR h m)))→Q (.ref l) H'
def TBI (c:Addr)(h:Nat)(G:Hp)(i:Nat)(σ:St)(H:Hp):Prop:=∃ v:Option V,σ=[v,some (.int (h:Int))]∧SameX c G H∧H c=some (.lst (natI (fR h i)))
theorem yZ:FnScope ["heap", "many"] ["heap", "many"] (qF s_things_beside):=⟨rfl,rfl,rfl,by decide +kernel,rfl,by decide +kernel,by decide +kernel⟩
theorem ok_tb (F:Fun K "things_beside" "things_beside" s_things_beside f fd) (hm:mg "things_beside" = some (.ref f)) (hb:Binds K fd ["heap", "many"] []) (T:Txt mg) (c_has:Cal P w K mg base "has" ["heap", "thing"] 1 sp_has):Cal P w K mg base "things_beside" ["heap", "many"] 2 o9:=by
 refine q4 F hm hb yZ (fun vs H Q E h=>?_) (fun cdv A outer s H vs Q E hr h=>?_)
 ·obtain ⟨_,_,rfl,_⟩:=h;rfl
 ·obtain ⟨h,m,rfl,hh,m5,q⟩:=h
  have sc:=yZ
  refine ⟨_,qI (qU (jI (N:=["thing", "heap"]) (fr:=[none,some 0]) rfl (jD rfl T.range_ (qA (pv 1) qD)) (CScope.of rfl rfl rfl) rfl (fun _ _ _=>⟨qN (i:=0) (show List.Nodup (α:=Str) ["thing", "heap"] by decide +kernel) rfl (Or.inl rfl),zS (cC (z8 (qL c_has hr (qA (pv 1) (qA (pv 0) qD))))),pv 0⟩))),?_⟩
  rw [show L2.start ["heap", "many"] [.int (h:Int),.int (m:Int)] = [some (.int (h:Int)),some (.int (m:Int))] from rfl]
  (push_cast only [])
  refine ⟨by omega,by omega,fun c nc=>?_⟩
  refine yA (TBI c h H) ⟨none,rfl,SameX.upd,qH⟩ ?_ ?_
  ·rintro j σ H1 hj ⟨v,rfl,s1,e1⟩
   rw [Ay] at hj
   (push_cast only [])
   refine ⟨h,j,rfl,hh,by omega,?_⟩
   have ol:=rF h j
   cases eb:qC h j
   ·(push_cast only [e1])
    refine ⟨qO (by unfold natI;rw [Aa];omega),⟨_,rfl,s1.trans SameX.upd,?_⟩⟩
    rw [qH,nE,eb]
    unfold natI
    simp
   ·(push_cast only [e1])
    refine ⟨_,rfl,s1,?_⟩
    rw [e1,nE,eb]
    simp
  ·rintro σ H1 ⟨v,rfl,s1,e1⟩
   rw [Ay] at e1
   exact q c H1 (s1.same nc) e1
def PRows (H:Hp)(h m:Nat)(rs:List (Addr × (Nat × Nat))):Prop:=∀ r ∈ rs,H r.1=some (.tup [.int (r.2.1:Int),.int (r.2.2:Int)])∧OkP m h r.2.1 r.2.2
def sp_pb:Sp:=fun vs H Q _=>∃ h m:Nat,vs=[.int (h:Int),.int (m:Int)]∧h < 2 ^ m∧m ≤ 5∧∀ (l:Addr) (rs:List (Addr × (Nat × Nat))) (H':Hp),Same H H'→PRows H' h m rs→H' l=some (.lst (rs.map fun r=>V.ref r.1))→Q (.ref l) H'
def PBI (c l:Addr)(h m n:Nat)(v1:Option V)(G:Hp)(b:Nat)(σ:St)(H:Hp):Prop:=∃ (v2:Option V) (rs:List (Addr × (Nat × Nat))),σ=[v1,v2,some (.ref l)]∧SameX c G H∧PRows H h m rs∧rs.length ≤ n + b∧H c=some (.lst (rs.map fun r=>V.ref r.1))
def PBO (c l:Addr)(h m:Nat)(G:Hp)(a:Nat)(σ:St)(H:Hp):Prop:=∃ v1:Option V,PBI c l h m (5 * a) v1 G 0 σ H
theorem vI:FnScope ["heap", "many", "beside"] ["heap", "many"] (qF s_pairs_beside):=⟨rfl,rfl,rfl,by decide +kernel,rfl,by decide +kernel,by decide +kernel⟩
theorem ok_pb (F:Fun K "pairs_beside" "pairs_beside" s_pairs_beside f fd) (hm:mg "pairs_beside" = some (.ref f)) (hb:Binds K fd ["heap", "many"] []) (T:Txt mg) (c_things_beside:Cal P w K mg base "things_beside" ["heap", "many"] 2 o9):Cal P w K mg base "pairs_beside" ["heap", "many"] 3 sp_pb:=by
 refine q4 F hm hb vI (fun vs H Q E h=>?_) (fun cdv A outer s H vs Q E hr h=>?_)
 ·obtain ⟨_,_,rfl,_⟩:=h;rfl
 ·obtain ⟨h,m,rfl,hh,m5,q⟩:=h
  have sc:=vI
  have p32:=jA m5
  refine ⟨_,kC (qY (i:=2) sc.nd rfl (Or.inr rfl) (qL c_things_beside hr (qA (pv 0) (qA (pv 1) qD))))
   (qI (qU (pe_lc2 (N:=["i", "j", "beside"]) (fr:=[none,none,some 2]) rfl (yG (pv 2)) (CScope.of rfl rfl rfl) rfl (fun _ _ _=>⟨qN (i:=0) (show List.Nodup (α:=Str) ["i", "j", "beside"] by decide +kernel) rfl (Or.inl rfl),kN,yG (pv 2),qN (i:=1) (show List.Nodup (α:=Str) ["i", "j", "beside"] by decide +kernel) rfl (Or.inl rfl),zS (q5 op_lt (pv 0) (pv 1) (qZ _)),jK (qA (pv 0) (qA (pv 1) qD))⟩)))),?_⟩
  rw [show L2.start ["heap", "many", "beside"] [.int (h:Int),.int (m:Int)] = [some (.int (h:Int)),some (.int (m:Int)),none] from rfl]
  (push_cast only [])
  refine ⟨h,m,rfl,by omega,m5,fun l H1 s1 e1=>?_⟩
  (push_cast only [e1])
  intro c nc
  have nlc:l ≠ c:=qE e1 nc
  have ol:=rF h m
  have nl:(natI (fR h m)).length=(fR h m).length:=Aa ..
  refine jS (PBO c l h m H1) ⟨none,none,[],rfl,SameX.upd,(fun r hr=>by cases hr),Ad _,qH⟩ (fun j σ H' _ ⟨_,_,_,_,s,_⟩=>s _ _ nlc e1) ?_ ?_
  ·rintro a x σ H2 hx ⟨v1,v2,rs,rfl,s2,R2,d2,e2⟩
   have ha:a < (natI (fR h m)).length:=(Ae.mp hx).1
   unfold natI at hx
   rw [Af] at hx
   obtain ⟨i,hi,rfl⟩:=Ah.mp hx
   have e12:=s2 _ _ nlc e1
   (push_cast only [e12])
   refine jS (PBI c l h m (5 * a) (some (.int (i:Int))) H1) ⟨_,rs,rfl,s2,R2,d2,e2⟩ (fun j σ H' _ ⟨_,_,_,s,_⟩=>s _ _ nlc e1) ?_ ?_
   ·rintro b y σ H3 hy ⟨v2',rs',rfl,s3,R3,d3,e3⟩
    have hb3:b < (natI (fR h m)).length:=(Ae.mp hy).1
    unfold natI at hy
    rw [Af] at hy
    obtain ⟨j,hj,rfl⟩:=Ah.mp hy
    (push_cast only [])
    by_cases hij:i < j
    ·rw [Au (by simpa using hij)]
     (push_cast only [])
     refine ⟨by decide,fun t H4 nt s4 e4=>?_⟩
     have e34:=s4 _ _ e3
     have ok:OkP m h i j:=⟨hh,hij,(d6.mp (Aq hj)).1,(d6.mp (Aq hi)).2,(d6.mp (Aq hj)).2⟩
     have ne:∀ {b:Addr} {L:List V},H4 b=some (.tup L)→b ≠ c:=fun h z=>by rw [z,e34] at h;cases h
     refine ⟨_,e34,qO (by rw [Aa];omega),⟨_,rs' ++ [(t,(i,j))],rfl,(s3.trans s4.x).trans SameX.upd,fun r hr'=>?_,by rw [Ar];exact Nat.succ_le_succ d3,by rw [qH,A8];rfl⟩⟩
     rcases Av.mp hr' with y | y
     ·have:=s4 _ _ (R3 r y).1
      exact ⟨by rw [qS (ne this)];exact this,(R3 r y).2⟩
     ·rw [A4.mp y]
      exact ⟨by rw [qS (ne e4)];exact e4,ok⟩
    ·rw [Ax (by simpa using hij)]
     exact ⟨_,rs',rfl,s3,R3,Nat.le_succ_of_le d3,e3⟩
   ·rintro σ H3 ⟨v2',rs',rfl,s3,R3,d3,e3⟩
    exact ⟨_,_,rs',rfl,s3,R3,by omega,e3⟩
  ·rintro σ H2 ⟨v1,v2,rs,rfl,s2,R2,d2,e2⟩
   exact q c rs H2 (s1.trans (s2.same nc)) R2 e2
def sp_pbr:Sp:=fun vs H Q _=>∃ (a:Addr) (m h i j:Nat) (ws:List Int),vs=[.ref a,.int (h:Int),.int (i:Int),.int (j:Int)]∧H a=some (.tup (ws.map V.int))∧ws.length=2 ^ m∧m ≤ 5∧h < 2 ^ m∧i < m∧j < m∧Q (.bl (decide (PB ws h i j))) H
theorem vX:FnScope ["worths", "heap", "i", "j", "with_i", "with_j"] ["worths", "heap", "i", "j"] (qF s_pair_breaks):=⟨rfl,rfl,rfl,by decide +kernel,rfl,by decide +kernel,by decide +kernel⟩
theorem ok_pbr (F:Fun K "pair_breaks" "pair_breaks" s_pair_breaks f fd) (hm:mg "pair_breaks" = some (.ref f)) (hb:Binds K fd ["worths", "heap", "i", "j"] []) (T:Txt mg) (c_put_in:Cal P w K mg base "put_in" ["heap", "thing"] 1 fP):Cal P w K mg base "pair_breaks" ["worths", "heap", "i", "j"] 2 sp_pbr:=by
 refine q4 F hm hb vX (fun vs H Q E h=>?_) (fun cdv A outer s H vs Q E hr h=>?_)
 ·obtain ⟨_,_,_,_,_,_,rfl,_⟩:=h;rfl
 ·obtain ⟨a,m,h,i,j,ws,rfl,ha,hl,m5,hh,hi,hj,q⟩:=h
  have sc:=vX
  refine ⟨_,kC (qY (i:=4) sc.nd rfl (Or.inl rfl) (qL c_put_in hr (qA (pv 1) (qA (pv 2) qD))))
   (kC (qY (i:=5) sc.nd rfl (Or.inl rfl) (qL c_put_in hr (qA (pv 1) (qA (pv 3) qD))))
   (qI (qU (jQ nF (qV kW (q9 zF (pv 0) (qL c_put_in hr (qA (pv 4) (qA (pv 3) qD))) (fun _ _=>rfl)) (q9 zF (pv 0) (pv 1) (fun _ _=>rfl))) (qV kW (q9 zF (pv 0) (pv 4) (fun _ _=>rfl)) (q9 zF (pv 0) (pv 5) (fun _ _=>rfl))) (qZ _))))),?_⟩
  rw [show L2.start ["worths", "heap", "i", "j", "with_i", "with_j"] [.ref a,.int (h:Int),.int (i:Int),.int (j:Int)] = [some (.ref a),some (.int (h:Int)),some (.int (i:Int)),some (.int (j:Int)),none,none] from rfl]
  obtain ⟨_,o1⟩:=xQ m5 hh hi
  obtain ⟨_,o2⟩:=xQ m5 hh hj
  obtain ⟨_,o3⟩:=xQ m5 o1 hj
  have hs:=qX ha
  have a1:=jZ (ns:=ws) (n:=h ||| 2 ^ i) (by omega)
  have a2:=jZ (ns:=ws) (n:=h ||| 2 ^ j) (by omega)
  have a3:=jZ (ns:=ws) (n:=h ||| 2 ^ i ||| 2 ^ j) (by omega)
  have a4:=jZ (ns:=ws) (n:=h) (by omega)
  (push_cast only [])
  refine ⟨h,i,m,rfl,m5,hh,hi,?_⟩
  (push_cast only [])
  refine ⟨h,j,m,rfl,m5,hh,hj,?_⟩
  (push_cast only [])
  refine ⟨_,j,m,rfl,m5,o1,hj,?_⟩
  (push_cast only [hs,a1,a2,a3,a4])
  exact q
def mS:Sp:=fun vs H Q _=>∃ (a:Addr) (m h i j k:Nat) (ws:List Int),vs=[.ref a,.int (h:Int),.int (i:Int),.int (j:Int),.int (k:Int)]∧H a=some (.tup (ws.map V.int))∧ws.length=2 ^ m∧m ≤ 5∧h < 2 ^ m∧i < m∧j < m∧k < m∧Q (.int (PT ws h i j k)) H
theorem mZ:FnScope ["worths", "heap", "one", "other", "third"] ["worths", "heap", "one", "other", "third"] (qF s_parted):=⟨rfl,rfl,rfl,by decide +kernel,rfl,by decide +kernel,by decide +kernel⟩
theorem ok_parted3 (F:Fun K "parted" "parted" s_parted f fd) (hm:mg "parted" = some (.ref f)) (hb:Binds K fd ["worths", "heap", "one", "other", "third"] []) (T:Txt mg) (c_put_in:Cal P w K mg base "put_in" ["heap", "thing"] 1 fP):Cal P w K mg base "parted" ["worths", "heap", "one", "other", "third"] 2 mS:=by
 refine q4 F hm hb mZ (fun vs H Q E h=>?_) (fun cdv A outer s H vs Q E hr h=>?_)
 ·obtain ⟨_,_,_,_,_,_,_,rfl,_⟩:=h;rfl
 ·obtain ⟨a,m,h,i,j,k,ws,rfl,ha,hl,m5,hh,hi,hj,hk,q⟩:=h
  have sc:=mZ
  refine ⟨_,qI (qU (qV kW (q9 zF (pv 0) (qL c_put_in hr (qA (qL c_put_in hr (qA (pv 1) (qA (pv 2) qD))) (qA (pv 3) qD))) (fun _ _=>rfl)) (q9 zF (pv 0) (qL c_put_in hr (qA (pv 1) (qA (pv 4) qD))) (fun _ _=>rfl)))),?_⟩
  rw [show L2.start ["worths", "heap", "one", "other", "third"] [.ref a,.int (h:Int),.int (i:Int),.int (j:Int),.int (k:Int)] = [some (.ref a),some (.int (h:Int)),some (.int (i:Int)),some (.int (j:Int)),some (.int (k:Int))] from rfl]
  obtain ⟨_,o1⟩:=xQ m5 hh hi
  obtain ⟨_,o2⟩:=xQ m5 hh hk
  obtain ⟨_,o3⟩:=xQ m5 o1 hj
  have hs:=qX ha
  have a2:=jZ (ns:=ws) (n:=h ||| 2 ^ k) (by omega)
  have a3:=jZ (ns:=ws) (n:=h ||| 2 ^ i ||| 2 ^ j) (by omega)
  (push_cast only [])
  refine ⟨h,i,m,rfl,m5,hh,hi,?_⟩
  (push_cast only [])
  refine ⟨_,j,m,rfl,m5,o1,hj,?_⟩
  (push_cast only [hs,a3])
  refine ⟨h,k,m,rfl,m5,hh,hk,?_⟩
  (push_cast only [hs,a2])
  exact q
def o8:Sp:=fun vs H Q _=>∃ (a:Addr) (m h i j k:Nat) (ws:List Int),vs=[.ref a,.int (h:Int),.int (i:Int),.int (j:Int),.int (k:Int)]∧H a=some (.tup (ws.map V.int))∧ws.length=2 ^ m∧m ≤ 5∧h < 2 ^ m∧i < m∧j < m∧k < m∧Q (.bl (decide (TB ws h i j k))) H
theorem tb_max (ws:List Int)(h i j k:Nat):decide (PT ws h i j k > if PT ws h j k i > PT ws h i k j then PT ws h j k i else PT ws h i k j)=decide (TB ws h i j k):=by
 refine decide_eq_decide.mpr ⟨fun q=>?_,fun q=>?_⟩
 ·unfold TB
  split at q <;> omega
 ·unfold TB at q
  split <;> omega
theorem vW:FnScope ["worths", "heap", "i", "j", "k"] ["worths", "heap", "i", "j", "k"] (qF s_three_break):=⟨rfl,rfl,rfl,by decide +kernel,rfl,by decide +kernel,by decide +kernel⟩
theorem ok_tbr (F:Fun K "three_break" "three_break" s_three_break f fd) (hm:mg "three_break" = some (.ref f)) (hb:Binds K fd ["worths", "heap", "i", "j", "k"] []) (T:Txt mg) (c_parted:Cal P w K mg base "parted" ["worths", "heap", "one", "other", "third"] 2 mS):Cal P w K mg base "three_break" ["worths", "heap", "i", "j", "k"] 3 o8:=by
 refine q4 F hm hb vW (fun vs H Q E h=>?_) (fun cdv A outer s H vs Q E hr h=>?_)
 ·obtain ⟨_,_,_,_,_,_,_,rfl,_⟩:=h;rfl
 ·obtain ⟨a,m,h,i,j,k,ws,rfl,ha,hl,m5,hh,hi,hj,hk,q⟩:=h
  have sc:=vW
  refine ⟨_,qI (qU (jQ nF (qL c_parted hr (qA (pv 0) (qA (pv 1) (qA (pv 2) (qA (pv 3) (qA (pv 4) qD)))))) (qM (nP rfl) rfl T.max_ gH (qA (qL c_parted hr (qA (pv 0) (qA (pv 1) (qA (pv 2) (qA (pv 4) (qA (pv 3) qD)))))) (qA (qL c_parted hr (qA (pv 0) (qA (pv 1) (qA (pv 3) (qA (pv 4) (qA (pv 2) qD)))))) qD))) (qZ _))),?_⟩
  rw [show L2.start ["worths", "heap", "i", "j", "k"] [.ref a,.int (h:Int),.int (i:Int),.int (j:Int),.int (k:Int)] = [some (.ref a),some (.int (h:Int)),some (.int (i:Int)),some (.int (j:Int)),some (.int (k:Int))] from rfl]
  (push_cast only [])
  refine ⟨a,m,h,i,j,k,ws,rfl,ha,hl,m5,hh,hi,hj,hk,?_⟩
  (push_cast only [])
  refine ⟨a,m,h,i,k,j,ws,rfl,ha,hl,m5,hh,hi,hk,hj,?_⟩
  (push_cast only [])
  refine ⟨a,m,h,j,k,i,ws,rfl,ha,hl,m5,hh,hj,hk,hi,?_⟩
  (push_cast only [])
  rw [tb_max]
  exact q
def sp_fp:Sp:=fun vs H Q _=>∃ (a:Addr) (m:Nat) (ws:List Int),vs=[.ref a,.int (m:Int)]∧H a=some (.tup (ws.map V.int))∧ws.length=2 ^ m∧m ≤ 5∧eW ws m∧∀ H',Same H H'→Q .non H'
def FPO (a:Addr)(m:Nat)(G:Hp)(h:Nat)(σ:St)(H:Hp):Prop:=∃ v2 v3 v4:Option V,σ=[some (.ref a),some (.int (m:Int)),v2,v3,v4]∧Same G H
def FPI (a:Addr)(m h:Nat)(G:Hp)(c:Nat)(σ:St)(H:Hp):Prop:=∃ v3 v4:Option V,σ=[some (.ref a),some (.int (m:Int)),some (.int (h:Int)),v3,v4]∧Same G H
theorem gO:FnScope ["worths", "many", "heap", "i", "j"] ["worths", "many"] (qF s_first_pair):=⟨rfl,rfl,rfl,by decide +kernel,rfl,by decide +kernel,by decide +kernel⟩
theorem ok_fp (F:Fun K "first_pair" "first_pair" s_first_pair f fd) (hm:mg "first_pair" = some (.ref f)) (hb:Binds K fd ["worths", "many"] []) (T:Txt mg) (c_pairs_beside:Cal P w K mg base "pairs_beside" ["heap", "many"] 3 sp_pb) (c_pair_breaks:Cal P w K mg base "pair_breaks" ["worths", "heap", "i", "j"] 2 sp_pbr):Cal P w K mg base "first_pair" ["worths", "many"] 4 sp_fp:=by
 refine q4 F hm hb gO (fun vs H Q E h=>?_) (fun cdv A outer s H vs Q E hr h=>?_)
 ·obtain ⟨_,_,_,rfl,_⟩:=h;rfl
 ·obtain ⟨a,m,ws,rfl,ha,hl,m5,np,qn⟩:=h
  have sc:=gO
  have p32:=jA m5
  refine ⟨_,kC (jT AD rfl (jD rfl T.range_ (qA (qM len0 rfl T.len_ kX (qA (pv 0) qD)) qD)) (qN (i:=2) sc.nd rfl (Or.inl rfl))
    (qI (jT AD rfl (yG (qL c_pairs_beside hr (qA (pv 2) (qA (pv 1) qD)))) (kU (n:=2) rfl (qT (qN (i:=3) sc.nd rfl (Or.inl rfl)) (qT (qN (i:=4) sc.nd rfl (Or.inl rfl)) kR)))
    (qI (j8 (z8 (qL c_pair_breaks hr (qA (pv 0) (qA (pv 2) (qA (pv 3) (qA (pv 4) qD)))))) (qI (qU (jK (qA tN (qA (pv 2) (qA (pv 3) (qA (pv 4) qD))))))) jB)))))
   (qI (qU zH)),?_⟩
  rw [show L2.start ["worths", "many", "heap", "i", "j"] [.ref a,.int (m:Int)] = [some (.ref a),some (.int (m:Int)),none,none,none] from rfl]
  have hs:=qX ha
  (push_cast only [hs])
  rw [hl]
  refine ⟨by omega,by omega,z9 (FPO a m H) ⟨_,_,_,rfl,Same.refl H⟩ ?_ ?_⟩
  ·rintro h σ H1 hh ⟨v2,v3,v4,rfl,s1⟩
   rw [Ay] at hh
   (push_cast only [])
   refine ⟨h,m,rfl,hh,m5,fun l rs H2 s2 R2 e2=>?_⟩
   (push_cast only [e2])
   refine gF (FPI a m h H2) ⟨_,_,rfl,Same.refl H2⟩ (fun j σ H' _ ⟨_,_,_,s⟩=>s _ _ e2) ?_ ?_
   ·rintro c x σ H3 hx ⟨v3',v4',rfl,s3⟩
    rw [Af] at hx
    obtain ⟨r,hr',rfl⟩:=Ah.mp hx
    obtain ⟨er2,ok⟩:=R2 r (Aq hr')
    have er:=s3 _ _ er2
    (push_cast only [er])
    refine ⟨a,m,h,r.2.1,r.2.2,ws,rfl,s3 _ _ (s2 _ _ (s1 _ _ ha)),hl,m5,hh,Nat.lt_trans ok.2.1 ok.2.2.1,ok.2.2.1,?_⟩
    rw [Ai (np h _ _ ok)]
    (push_cast only [])
    exact ⟨_,_,rfl,s3⟩
   ·rintro σ H3 ⟨v3',v4',rfl,s3⟩
    exact ⟨_,_,_,rfl,(s1.trans s2).trans s3⟩
  ·rintro σ H1 ⟨v2,v3,v4,rfl,s1⟩
   (push_cast only [])
   exact qn H1 s1
def sp_ft:Sp:=fun vs H Q _=>∃ (a:Addr) (m:Nat) (ws:List Int),vs=[.ref a,.int (m:Int)]∧H a=some (.tup (ws.map V.int))∧ws.length=2 ^ m∧m ≤ 5∧eV ws m∧∀ H',Same H H'→Q .non H'
def FTO (a:Addr)(m:Nat)(G:Hp)(h:Nat)(σ:St)(H:Hp):Prop:=∃ v2 v3 v4 v5:Option V,σ=[some (.ref a),some (.int (m:Int)),v2,v3,v4,v5]∧Same G H
def FTI (a:Addr)(m h:Nat)(G:Hp)(c:Nat)(σ:St)(H:Hp):Prop:=∃ v3 v4 v5:Option V,σ=[some (.ref a),some (.int (m:Int)),some (.int (h:Int)),v3,v4,v5]∧Same G H
def FTK (a:Addr)(m h i j:Nat)(G:Hp)(c:Nat)(σ:St)(H:Hp):Prop:=∃ v5:Option V,σ=[some (.ref a),some (.int (m:Int)),some (.int (h:Int)),some (.int (i:Int)),some (.int (j:Int)),v5]∧Same G H
theorem vY:FnScope ["worths", "many", "heap", "i", "j", "k"] ["worths", "many"] (qF s_first_three):=⟨rfl,rfl,rfl,by decide +kernel,rfl,by decide +kernel,by decide +kernel⟩
theorem ok_ft (F:Fun K "first_three" "first_three" s_first_three f fd) (hm:mg "first_three" = some (.ref f)) (hb:Binds K fd ["worths", "many"] []) (T:Txt mg) (c_pairs_beside:Cal P w K mg base "pairs_beside" ["heap", "many"] 3 sp_pb) (c_things_beside:Cal P w K mg base "things_beside" ["heap", "many"] 2 o9) (c_three_break:Cal P w K mg base "three_break" ["worths", "heap", "i", "j", "k"] 3 o8):Cal P w K mg base "first_three" ["worths", "many"] 4 sp_ft:=by
 refine q4 F hm hb vY (fun vs H Q E h=>?_) (fun cdv A outer s H vs Q E hr h=>?_)
 ·obtain ⟨_,_,_,rfl,_⟩:=h;rfl
 ·obtain ⟨a,m,ws,rfl,ha,hl,m5,np,qn⟩:=h
  have sc:=vY
  have p32:=jA m5
  refine ⟨_,kC (jT AD rfl (jD rfl T.range_ (qA (qM len0 rfl T.len_ kX (qA (pv 0) qD)) qD)) (qN (i:=2) sc.nd rfl (Or.inl rfl))
    (qI (jT AD rfl (yG (qL c_pairs_beside hr (qA (pv 2) (qA (pv 1) qD)))) (kU (n:=2) rfl (qT (qN (i:=3) sc.nd rfl (Or.inl rfl)) (qT (qN (i:=4) sc.nd rfl (Or.inl rfl)) kR)))
    (qI (jT AD rfl (yG (qL c_things_beside hr (qA (pv 2) (qA (pv 1) qD)))) (qN (i:=5) sc.nd rfl (Or.inl rfl))
    (qI (j8 (PW.pt (yR (q5 cF (pv 5) (pv 3) (qZ _)) (yR (q5 cF (pv 5) (pv 4) (qZ _)) (xO (z8 (qL c_three_break hr (qA (pv 0) (qA (pv 2) (qA (pv 3) (qA (pv 4) (qA (pv 5) qD))))))))))) (qI (qU (jK (qA tN (qA (pv 2) (qA (pv 3) (qA (pv 4) (qA (pv 5) qD)))))))) jB)))))))
   (qI (qU zH)),?_⟩
  rw [show L2.start ["worths", "many", "heap", "i", "j", "k"] [.ref a,.int (m:Int)] = [some (.ref a),some (.int (m:Int)),none,none,none,none] from rfl]
  have hs:=qX ha
  (push_cast only [hs])
  rw [hl]
  refine ⟨by omega,by omega,z9 (FTO a m H) ⟨_,_,_,_,rfl,Same.refl H⟩ ?_ ?_⟩
  ·rintro h σ H1 hh ⟨v2,v3,v4,v5,rfl,s1⟩
   rw [Ay] at hh
   (push_cast only [])
   refine ⟨h,m,rfl,hh,m5,fun l rs H2 s2 R2 e2=>?_⟩
   (push_cast only [e2])
   refine gF (FTI a m h H2) ⟨_,_,_,rfl,Same.refl H2⟩ (fun j σ H' _ ⟨_,_,_,_,s⟩=>s _ _ e2) ?_ ?_
   ·rintro c x σ H3 hx ⟨v3',v4',v5',rfl,s3⟩
    rw [Af] at hx
    obtain ⟨r,hr',rfl⟩:=Ah.mp hx
    obtain ⟨er2,ok⟩:=R2 r (Aq hr')
    have er:=s3 _ _ er2
    (push_cast only [er])
    refine ⟨h,m,rfl,by omega,m5,fun l2 H4 s4 e4=>?_⟩
    (push_cast only [e4])
    refine gF (FTK a m h r.2.1 r.2.2 H4) ⟨_,rfl,Same.refl H4⟩ (fun j σ H' _ ⟨_,_,s⟩=>s _ _ e4) ?_ ?_
    ·rintro d x σ H5 hx ⟨v5'',rfl,s5⟩
     unfold natI at hx
     rw [Af] at hx
     obtain ⟨k,hk,rfl⟩:=Ah.mp hx
     obtain ⟨km,bk⟩:=d6.mp (Aq hk)
     have skip:FTK a m h r.2.1 r.2.2 H4 (d + 1) [some (.ref a),some (.int (m:Int)),some (.int (h:Int)),some (.int (r.2.1:Int)),some (.int (r.2.2:Int)),some (.int (k:Int))] H5:=⟨_,rfl,s5⟩
     (push_cast only [])
     split
     ·split
      ·rename_i k1 k2
       refine ⟨a,m,h,r.2.1,r.2.2,k,ws,rfl,((((s1.trans s2).trans s3).trans s4).trans s5) _ _ ha,hl,m5,hh,Nat.lt_trans ok.2.1 ok.2.2.1,ok.2.2.1,km,⟨_,rfl,?_⟩⟩
       rw [Ai (np h _ _ k ⟨ok,km,bk,(fun z=>by simp [z] at k1),(fun z=>by simp [z] at k2)⟩),Ax (by decide)]
       exact skip
      ·exact skip
     ·exact skip
    ·rintro σ H5 ⟨v5'',rfl,s5⟩
     exact ⟨_,_,_,rfl,(s3.trans s4).trans s5⟩
   ·rintro σ H3 ⟨v3',v4',v5',rfl,s3⟩
    exact ⟨_,_,_,_,rfl,(s1.trans s2).trans s3⟩
  ·rintro σ H1 ⟨v2,v3,v4,v5,rfl,s1⟩
   (push_cast only [])
   exact qn H1 s1
def hU:Sp:=fun vs H Q _=>∃ (a b:Addr) (ns:List Int) (F m:Nat),vs=[.ref a,.ref b]∧H a=some (.tup (ns.map V.int))∧H b=some (.tup ((bitsL F m).map V.int))∧m ≤ 5∧F < 2 ^ m∧ns.length=2 ^ m∧eW (jV ns F) m∧eV (jV ns F) m∧∀ (H':Hp),Same H H'→Q .non H'
theorem wF:FnScope ["want", "sides", "worths", "pair"] ["want", "sides"] (qF s_breaking):=⟨rfl,rfl,rfl,by decide +kernel,rfl,by decide +kernel,by decide +kernel⟩
theorem ok_breaking (F:Fun K "breaking" "breaking" s_breaking f fd) (hm:mg "breaking" = some (.ref f)) (hb:Binds K fd ["want", "sides"] []) (T:Txt mg) (c_turned:Cal P w K mg base "turned" ["want", "sides"] 3 mQ) (c_first_pair:Cal P w K mg base "first_pair" ["worths", "many"] 4 sp_fp) (c_first_three:Cal P w K mg base "first_three" ["worths", "many"] 4 sp_ft):Cal P w K mg base "breaking" ["want", "sides"] 5 hU:=by
 refine q4 F hm hb wF (fun vs H Q E h=>?_) (fun cdv A outer s H vs Q E hr h=>?_)
 ·obtain ⟨_,_,_,_,_,rfl,_⟩:=h;rfl
 ·obtain ⟨a,b,ns,F0,m,rfl,ha,hb',m5,hF,hl,np,nt,q⟩:=h
  have sc:=wF
  refine ⟨_,kC (qY (i:=2) sc.nd rfl (Or.inl rfl) (qL c_turned hr (qA (pv 0) (qA (pv 1) qD))))
   (kC (qY (i:=3) sc.nd rfl (Or.inl rfl) (qL c_first_pair hr (qA (pv 2) (qA (qM len0 rfl T.len_ kX (qA (pv 1) qD)) qD))))
   (kC (j8 (q5 lK (pv 3) zH (qZ _)) (qI (qU (pv 3))) jB)
   (qI (qU (qL c_first_three hr (qA (pv 2) (qA (qM len0 rfl T.len_ kX (qA (pv 1) qD)) qD))))))),?_⟩
  rw [show L2.start ["want", "sides", "worths", "pair"] [.ref a,.ref b] = [some (.ref a),some (.ref b),none,none] from rfl]
  (push_cast only [])
  refine ⟨a,b,ns,F0,m,rfl,ha,hb',m5,hF,hl,fun t H1 s1 e1=>?_⟩
  have hs1:=qX (s1 _ _ hb')
  (push_cast only [hs1])
  rw [bits_len]
  have tl:(jV ns F0).length=2 ^ m:=by rw [oW,hl]
  refine ⟨t,m,jV ns F0,rfl,e1,tl,m5,np,fun H2 s2=>?_⟩
  have hs2:=qX (s2 _ _ (s1 _ _ hb'))
  (push_cast only [hs2])
  rw [bits_len]
  exact ⟨t,m,jV ns F0,rfl,s2 _ _ e1,tl,m5,nt,fun H3 s3=>q H3 ((s1.trans s2).trans s3)⟩
def Odd (F m:Nat)(ws:List Int):Prop:=¬ (eW (jV ws F) m∧eV (jV ws F) m)
abbrev TW:=Addr × List Int
def WL (H:Hp)(m:Nat)(ts:List TW):Prop:=∀ r ∈ ts,H r.1=some (.tup (r.2.map V.int))∧r.2.length=2 ^ m
def refsT (ts:List TW):List V:=ts.map fun r=>V.ref r.1
def sp_fs:Sp:=fun vs H Q _=>∃ (t b w:Addr) (ts:List TW) (F m:Nat),vs=[.ref t]∧H t=some (.tup [.ref b,.ref w])∧H b=some (.tup ((bitsL F m).map V.int))∧H w=some (.tup (refsT ts))∧WL H m ts∧m ≤ 5∧F < 2 ^ m∧(∀ r ∈ ts,¬ Odd F m r.2)∧∀ (H':Hp),Same H H'→Q .non H'
def FSI (t b w:Addr)(G:Hp)(i:Nat)(σ:St)(H:Hp):Prop:=∃ v3 v4:Option V,σ=[some (.ref t),some (.ref b),some (.ref w),v3,v4]∧Same G H
theorem xC:FnScope ["town", "sides", "wants", "hand", "want"] ["town"] (qF s_first_strange):=⟨rfl,rfl,rfl,by decide +kernel,rfl,by decide +kernel,by decide +kernel⟩
theorem ok_fs (F:Fun K "first_strange" "first_strange" s_first_strange f fd) (hm:mg "first_strange" = some (.ref f)) (hb:Binds K fd ["town"] []) (T:Txt mg) (c_breaking:Cal P w K mg base "breaking" ["want", "sides"] 5 hU):Cal P w K mg base "first_strange" ["town"] 6 sp_fs:=by
 refine q4 F hm hb xC (fun vs H Q E h=>?_) (fun cdv A outer s H vs Q E hr h=>?_)
 ·obtain ⟨_,_,_,_,_,_,rfl,_⟩:=h;rfl
 ·obtain ⟨t,b,w0,ts,F0,m,rfl,ht,hb',hw,wl,m5,hF,no,q⟩:=h
  have sc:=xC
  refine ⟨_,kC (xP (pv 0) (kU (n:=2) rfl (qT (qN (i:=1) sc.nd rfl (Or.inl rfl)) (qT (qN (i:=2) sc.nd rfl (Or.inl rfl)) kR))))
   (kC (jT AD rfl (gK rfl T.enumerate_ (qA (pv 2) qD)) (kU (n:=2) rfl (qT (qN (i:=3) sc.nd rfl (Or.inl rfl)) (qT (qN (i:=4) sc.nd rfl (Or.inl rfl)) kR)))
    (qI (j8 (q5 lK (qL c_breaking hr (qA (pv 4) (qA (pv 1) qD))) zH (qZ _)) (qI (qU (pv 3))) jB)))
   (qI (qU zH))),?_⟩
  rw [show L2.start ["town", "sides", "wants", "hand", "want"] [.ref t] = [some (.ref t),none,none,none,none] from rfl]
  (push_cast only [ht])
  refine ⟨_,_,.inr ⟨rfl,hw⟩,?_⟩
  refine wY (FSI t b w0 H) ⟨_,_,rfl,Same.refl _⟩ (fun i σ H' ⟨_,_,_,s⟩=>.inr ⟨rfl,s _ _ hw⟩) ?_ ?_
  ·rintro i v T' σ H2 H3 hv ⟨v3,v4,rfl,s2⟩ nT s3 e3
   unfold refsT at hv
   rw [Af] at hv
   obtain ⟨r,hr',rfl⟩:=Ah.mp hv
   have hm':=Aq hr'
   have s13:=s2.trans s3
   obtain ⟨er,lr⟩:=wl r hm'
   obtain ⟨np,nt⟩:=Classical.not_not.mp (no r hm')
   (push_cast only [e3])
   refine ⟨r.1,b,r.2,F0,m,rfl,s13 _ _ er,s13 _ _ hb',m5,hF,lr,np,nt,fun H4 s4=>?_⟩
   (push_cast only [])
   exact ⟨_,_,rfl,s13.trans s4⟩
  ·rintro σ H2 ⟨v3,v4,rfl,s2⟩
   (push_cast only [])
   exact q _ s2
theorem zY {h i j k t:Nat}(hh:h < 32)(hi:i < 5)(hj:j < 5)(ht:t < 5)(ij:i ≠ j)(bi:qC h i=false)(bj:qC h j=false):(h ||| 2 ^ i)=h ^^^ 2 ^ i∧(h ||| 2 ^ i ||| 2 ^ j)=h ^^^ 2 ^ i ^^^ 2 ^ j∧qC (h ^^^ 2 ^ i ^^^ 2 ^ j) t=(qC h t || decide (t=i) || decide (t=j))∧qC (h ^^^ 2 ^ i) t=(qC h t || decide (t=i)):=by
 have key:∀ (h:_root_.Fin 32) (i j t:_root_.Fin 5),i.val ≠ j.val→qC h.val i.val=false→qC h.val j.val=false→(h.val ||| 2 ^ i.val)=h.val ^^^ 2 ^ i.val∧(h.val ||| 2 ^ i.val ||| 2 ^ j.val)=h.val ^^^ 2 ^ i.val ^^^ 2 ^ j.val∧qC (h.val ^^^ 2 ^ i.val ^^^ 2 ^ j.val) t.val=(qC h.val t.val || decide (t.val=i.val) || decide (t.val=j.val))∧qC (h.val ^^^ 2 ^ i.val) t.val=(qC h.val t.val || decide (t.val=i.val)):=by decide +kernel
 exact key ⟨h,hh⟩ ⟨i,hi⟩ ⟨j,hj⟩ ⟨t,ht⟩ ij bi bj
theorem xI (a b:Nat):a ^^^ b ^^^ b=a:=by rw [CD,Nat.xor_self,C6]
theorem ext_odd {ws:List Int}{F m:Nat}(m5:m ≤ 5)(hF:F < 2 ^ m)(wl:ws.length=2 ^ m)(ex:bB (fun h=>ws.getD h 0) m F):¬ Odd F m ws:=by
 have p32:=jA m5
 have ex':∀ A B i,A < 2 ^ m→B < 2 ^ m→i < m→qC A i=true→qC B i=false→(jV ws F).getD A 0 + (jV ws F).getD B 0 ≤ (jV ws F).getD (A ^^^ 2 ^ i) 0 + (jV ws F).getD (B ^^^ 2 ^ i) 0∨∃ j,j < m∧qC B j=true∧qC A j=false∧(jV ws F).getD A 0 + (jV ws F).getD B 0 ≤ (jV ws F).getD (A ^^^ 2 ^ i ^^^ 2 ^ j) 0 + (jV ws F).getD (B ^^^ 2 ^ i ^^^ 2 ^ j) 0:=fun A B i hA hB hi ai bi=>by
  have at':∀ h,h < 2 ^ m→(jV ws F).getD h 0=ws.getD (h ^^^ F) 0:=fun h hh=>turn_at (by omega)
  have xA:=BP hA hF
  have xB:=BP hB hF
  have A1:=kJ m5 hA hi
  have B1:=kJ m5 hB hi
  rw [at' A hA,at' B hB,at' _ A1,at' _ B1]
  rcases ex (A ^^^ F) (B ^^^ F) i xA xB hi (by rw [xI];exact ai) (by rw [xI];exact bi) with le | ⟨j,hj,bj,aj,le⟩
  ·exact .inl (by rw [jM A _ F,jM B _ F];exact le)
  ·rw [xI] at bj aj
   refine .inr ⟨j,hj,bj,aj,?_⟩
   rw [at' _ (kJ m5 A1 hj),at' _ (kJ m5 B1 hj),jM (A ^^^ 2 ^ i) _ F,jM (B ^^^ 2 ^ i) _ F,jM A _ F,jM B _ F]
   exact le
 clear ex
 intro od
 have od':¬ (eW (jV ws F) m∧eV (jV ws F) m):=od
 clear od
 revert ex' od'
 generalize jV ws F=us
 intro ex' od
 refine od ⟨fun h i j ⟨h1,h2,h3,h4,h5⟩ pb=>?_,fun h i j k ⟨⟨h1,h2,h3,h4,h5⟩,k1,k2,k3,k4⟩ tb=>?_⟩
 ·obtain ⟨e1,e2,e3,_⟩:=zY (t:=i) (k:=0) (show h < 32 by omega) (show i < 5 by omega) (show j < 5 by omega) (by omega) (by omega) h4 h5
  have f1:=(zY (t:=i) (k:=0) (show h < 32 by omega) (show j < 5 by omega) (show i < 5 by omega) (by omega) (by omega) h5 h4).1
  unfold PB at pb
  rw [e2,e1,f1] at pb
  have A1:=kJ m5 h1 (show i < m by omega)
  rcases ex' (h ^^^ 2 ^ i ^^^ 2 ^ j) h i (kJ m5 A1 h3) h1 (by omega) (by rw [e3];simp) h4 with le | ⟨t,ht,bt,at',_⟩
  ·rw [jM h (2 ^ i) (2 ^ j),xI] at le
   rw [jM h (2 ^ i) (2 ^ j)] at pb
   omega
  ·obtain ⟨_,_,e4,_⟩:=zY (t:=t) (k:=0) (show h < 32 by omega) (show i < 5 by omega) (show j < 5 by omega) (by omega) (by omega) h4 h5
   rw [e4,bt] at at'
   cases at'
 ·have kk:k < 5:=by omega
  obtain ⟨e1,e2,e3,_⟩:=zY (t:=i) (k:=0) (show h < 32 by omega) (show i < 5 by omega) (show j < 5 by omega) (by omega) (by omega) h4 h5
  obtain ⟨f1,f2,_,_⟩:=zY (t:=i) (k:=0) (show h < 32 by omega) (show j < 5 by omega) kk (by omega) (fun z=>k4 z.symm) h5 k2
  obtain ⟨g1,_,_,g4⟩:=zY (t:=i) (k:=0) (show h < 32 by omega) kk (show i < 5 by omega) (by omega) k3 k2 h4
  have g2:=(zY (t:=i) (k:=0) (show h < 32 by omega) (show i < 5 by omega) kk (by omega) (fun z=>k3 z.symm) h4 k2).2.1
  unfold TB PT at tb
  rw [e2,g2,f2,e1,f1,g1] at tb
  have A1:=kJ m5 h1 (show i < m by omega)
  have K1:=kJ m5 h1 k1
  rcases ex' (h ^^^ 2 ^ i ^^^ 2 ^ j) (h ^^^ 2 ^ k) i (kJ m5 A1 h3) K1 (by omega) (by rw [e3];simp) (by rw [g4,h4,Ai (fun z=>k3 z.symm)];rfl) with le | ⟨t,ht,bt,at',le⟩
  ·rw [jM h (2 ^ i) (2 ^ j),xI,jM h (2 ^ k) (2 ^ i)] at le
   rw [jM h (2 ^ i) (2 ^ j)] at tb
   omega
  ·obtain ⟨_,_,e4,_⟩:=zY (t:=t) (k:=0) (show h < 32 by omega) (show i < 5 by omega) (show j < 5 by omega) (by omega) (by omega) h4 h5
   obtain ⟨_,_,_,g5⟩:=zY (t:=t) (k:=0) (show h < 32 by omega) kk (show i < 5 by omega) (by omega) k3 k2 h4
   rw [g5] at bt
   rw [e4] at at'
   have tk:t=k:=by
    cases c:qC h t
    ·rw [c] at bt;simpa using bt
    ·rw [c] at at';simp at at'
   subst tk
   rw [jM h (2 ^ i) (2 ^ j),xI,jM h (2 ^ t) (2 ^ i),xI] at le
   rw [jM h (2 ^ i) (2 ^ j)] at tb
   omega
end
end S
section
variable {P:Program}{w:World}{K:PySem.W.Frag}{mg:Str→Option Value}{base:Heap}{f:Addr}{fd:FuncData}
def qP (ps:List Int)(F hp:Nat):List Int:=(List.range ps.length).map fun t=>if qC hp t=true then ps.getD t 0 + (if qC F t=true then -1 else 1) else ps.getD t 0
theorem kP (ps:List Int)(F hp:Nat):(qP ps F hp).length=ps.length:=by unfold qP;simp
theorem step_at {ps:List Int}{F hp t:Nat}(h:t < ps.length):(qP ps F hp)[t]? = some (if qC hp t=true then ps.getD t 0 + (if qC F t=true then -1 else 1) else ps.getD t 0):=by
 unfold qP
 rw [Af,C3 h]
 rfl
def zG (F X h:Nat):Nat→Int
 | 0=>0
 | n + 1=>zG F X h n + if qC X n=true∧qC h n=true then (if qC F n=true then -1 else 1) else 0
theorem bI {ps:List Int}{F X h:Nat}:∀ n,n ≤ ps.length→kY (qP ps F X) h n=kY ps h n + zG F X h n
 | 0,_=>rfl
 | n + 1,hn=>by
  have ih:=bI (ps:=ps) (F:=F) (X:=X) (h:=h) n (by omega)
  have e:(qP ps F X).getD n 0=if qC X n=true then ps.getD n 0 + (if qC F n=true then -1 else 1) else ps.getD n 0:=by
   rw [Ab,step_at (by omega)]
   rfl
  show kY (qP ps F X) h n + (if qC h n=true then (qP ps F X).getD n 0 else 0)=kY ps h n + (if qC h n=true then ps.getD n 0 else 0) + (zG F X h n + if qC X n=true∧qC h n=true then (if qC F n=true then -1 else 1) else 0)
  rw [ih,e]
  cases qC h n <;> cases qC X n <;> cases qC F n <;> simp <;> omega
theorem xK {F X h t:Nat}(hh:h < 32)(hF:F < 32)(ht:t < 5):∀ n,n ≤ 5→zG F X (h ^^^ 2 ^ t) n=zG F X h n + if t < n∧qC X t=true then (if qC (h ^^^ F) t=true then -1 else 1) else 0
 | 0,_=>by simp [zG]
 | n + 1,hn=>by
  have ih:=xK (X:=X) hh hF ht n (by omega)
  have x:=(kF hh ht (show n < 5 by omega)).1
  have y:=dN hh hF ht
  show zG F X (h ^^^ 2 ^ t) n + (if qC X n=true∧qC (h ^^^ 2 ^ t) n=true then (if qC F n=true then -1 else 1) else 0)=zG F X h n + (if qC X n=true∧qC h n=true then (if qC F n=true then -1 else 1) else 0) + if t < n + 1∧qC X t=true then (if qC (h ^^^ F) t=true then -1 else 1) else 0
  rw [ih,x,y]
  by_cases e:n=t
  ·subst e
   cases qC h n <;> cases qC X n <;> cases qC F n <;> simp <;> omega
  ·rw [Ai e,show (qC h n != false)=qC h n by cases qC h n <;> rfl]
   have c:(t < n + 1∧qC X t=true) ↔ (t < n∧qC X t=true):=by
    constructor
    ·rintro ⟨a,b⟩;exact ⟨by omega,b⟩
    ·rintro ⟨a,b⟩;exact ⟨by omega,b⟩
   simp only [c]
   omega
theorem xM {F X h i:Nat}(hX:X < 32)(hh:h < 32)(hF:F < 32)(hi:i < 5)(xi:qC X i=false):∀ n,n ≤ 5→zG F (X ^^^ 2 ^ i) h n=zG F X h n + if i < n then (if qC (h ^^^ F) i=true then 1 else 0) - (if qC F i=true then 1 else 0) else 0
 | 0,_=>by simp [zG]
 | n + 1,hn=>by
  have ih:=xM hX hh hF hi xi n (by omega)
  have x:=(kF hX hi (show n < 5 by omega)).1
  have y:=dN hh hF hi
  show zG F (X ^^^ 2 ^ i) h n + (if qC (X ^^^ 2 ^ i) n=true∧qC h n=true then (if qC F n=true then -1 else 1) else 0)=zG F X h n + (if qC X n=true∧qC h n=true then (if qC F n=true then -1 else 1) else 0) + if i < n + 1 then (if qC (h ^^^ F) i=true then 1 else 0) - (if qC F i=true then 1 else 0) else 0
  rw [ih,x,y]
  by_cases e:n=i
  ·subst e
   rw [xi]
   cases qC h n <;> cases qC F n <;> simp
  ·rw [Ai e,show (qC X n != false)=qC X n by cases qC X n <;> rfl]
   have c:(i < n + 1) ↔ (i < n):=by omega
   simp only [c]
   omega
theorem aI {F X S T:Nat}(hS:S < 32)(hT:T < 32)(hF:F < 32):∀ n,n ≤ 5→zG F X S n < zG F X T n→∃ x,x < n∧qC X x=true∧qC (T ^^^ F) x=true∧qC (S ^^^ F) x=false
 | 0,_,h=>absurd h (by simp [zG])
 | n + 1,hn,h=>by
  by_cases c:zG F X S n < zG F X T n
  ·obtain ⟨x,x1,x2⟩:=aI hS hT hF n (by omega) c
   exact ⟨x,by omega,x2⟩
  ·have h':zG F X S n + (if qC X n=true∧qC S n=true then (if qC F n=true then -1 else 1) else 0) < zG F X T n + (if qC X n=true∧qC T n=true then (if qC F n=true then -1 else 1) else 0):=h
   have y:=dN hS hF (show n < 5 by omega)
   have z:=dN hT hF (show n < 5 by omega)
   refine ⟨n,by omega,?_,?_,?_⟩
   ·cases e:qC X n with
    | true=>rfl
    | false=>rw [e] at h';simp at h';omega
   ·rw [z]
    revert h'
    cases qC S n <;> cases qC T n <;> cases qC F n <;> cases qC X n <;> simp <;> omega
   ·rw [y]
    revert h'
    cases qC S n <;> cases qC T n <;> cases qC F n <;> cases qC X n <;> simp <;> omega
theorem cY (P:Nat→Prop)(k:Nat→Int):∀ n,(∃ a,a < n∧P a)→∃ a,a < n∧P a∧∀ b,b < n→P b→k b ≤ k a
 | 0,h=>by obtain ⟨a,z,_⟩:=h;omega
 | n + 1,h=>by
  by_cases c:∃ a,a < n∧P a
  ·obtain ⟨a,a1,a2,a3⟩:=cY P k n c
   by_cases d:P n∧k a < k n
   ·refine ⟨n,by omega,d.1,fun b hb pb=>?_⟩
    by_cases e:b=n
    ·rw [e];exact AY _
    ·have:=a3 b (by omega) pb;omega
   ·refine ⟨a,by omega,a2,fun b hb pb=>?_⟩
    by_cases e:b=n
    ·subst e
     by_cases f:k a < k b
     ·exact absurd ⟨pb,f⟩ d
     ·omega
    ·exact a3 b (by omega) pb
  ·obtain ⟨a,a1,a2⟩:=h
   have e:a=n:=by
    by_cases e:a=n
    ·exact e
    ·exact absurd ⟨a,by omega,a2⟩ c
   subst e
   refine ⟨a,a1,a2,fun b hb pb=>?_⟩
   by_cases e:b=a
   ·rw [e];exact AY _
   ·exact absurd ⟨b,by omega,pb⟩ c
def dist (a b:Nat):Nat:=(a ^^^ b) % 2 + (a ^^^ b) / 2 % 2 + (a ^^^ b) / 4 % 2 + (a ^^^ b) / 8 % 2 + (a ^^^ b) / 16 % 2
theorem sE {T S x:Nat}(hT:T < 32)(hS:S < 32)(hx:x < 5)(n:qC T x ≠ qC S x):dist (T ^^^ 2 ^ x) S < dist T S:=by
 have key:∀ (T S:_root_.Fin 32) (x:_root_.Fin 5),qC T.val x.val ≠ qC S.val x.val→dist (T.val ^^^ 2 ^ x.val) S.val < dist T.val S.val:=by decide +kernel
 exact key ⟨T,hT⟩ ⟨S,hS⟩ ⟨x,hx⟩ n
theorem eO {A B F t:Nat}(hA:A < 32)(hB:B < 32)(hF:F < 32)(ht:t < 5)(h:qC (A ^^^ F) t ≠ qC (B ^^^ F) t):qC A t ≠ qC B t:=fun z=>h (by rw [dN hA hF ht,dN hB hF ht,z])
theorem uK {f:Nat→Int}{m F X T0:Nat}(m5:m ≤ 5)(hF:F < 2 ^ m)(ex:bB f m F)(hT:T0 < 2 ^ m)(top:∀ S,S < 2 ^ m→f S ≤ f T0)(least:∀ T,T < 2 ^ m→f T=f T0→zG F X T0 m ≤ zG F X T m):∀ S,S < 2 ^ m→f S - zG F X S m ≤ f T0 - zG F X T0 m:=by
 have p32:2 ^ m ≤ 2 ^ 5:=Aw (by decide) m5
 obtain ⟨S1,s1,_,s1t⟩:=cY (fun _=>True) (fun S=>f S - zG F X S m) (2 ^ m) ⟨T0,hT,trivial⟩
 obtain ⟨S,sl,su,sf⟩:=cY (fun S=>f S - zG F X S m=f S1 - zG F X S1 m) f (2 ^ m) ⟨S1,s1,rfl⟩
 have su':f S - zG F X S m=f S1 - zG F X S1 m:=su
 have st:∀ Y,Y < 2 ^ m→f Y - zG F X Y m ≤ f S - zG F X S m:=fun Y hY=>by
  have:f Y - zG F X Y m ≤ f S1 - zG F X S1 m:=s1t Y hY trivial
  omega
 suffices h:f S - zG F X S m ≤ f T0 - zG F X T0 m from fun Y hY=>by have:=st Y hY;omega
 refine Classical.byContradiction fun bad=>?_
 obtain ⟨T,tl,⟨tv,tk⟩,tn⟩:=cY (fun T=>f T=f T0∧zG F X T m=zG F X T0 m) (fun T=>-(dist T S:Int)) (2 ^ m) ⟨T0,hT,rfl,rfl⟩
 have fS:f S ≤ f T0:=top S sl
 have ne:f S ≠ f T0:=fun z=>by have:=least S sl z;omega
 obtain ⟨x,xm,xX,xT,xS⟩:=aI (F:=F) (X:=X) (show S < 32 by omega) (show T < 32 by omega) (show F < 32 by omega) m m5 (by omega)
 have x5:x < 5:=by omega
 have tT:=xK (F:=F) (X:=X) (show T < 32 by omega) (show F < 32 by omega) x5 m m5
 have tS:=xK (F:=F) (X:=X) (show S < 32 by omega) (show F < 32 by omega) x5 m m5
 rw [Au ⟨xm,xX⟩,Au xT] at tT
 rw [Au ⟨xm,xX⟩,xS,Ax (by decide)] at tS
 have lT:=kJ m5 tl xm
 have lS:=kJ m5 sl xm
 rcases ex T S x tl sl xm xT xS with le | ⟨y,ym,yS,yT,le⟩
 ·have a:=st _ lS
  have b:=top _ lT
  by_cases c:f (T ^^^ 2 ^ x)=f T0
  ·have:=least _ lT c
   omega
  ·have g:=sf (S ^^^ 2 ^ x) lS (show f (S ^^^ 2 ^ x) - zG F X (S ^^^ 2 ^ x) m=f S1 - zG F X S1 m by omega)
   omega
 ·have y5:y < 5:=by omega
  have yx:y ≠ x:=fun z=>by rw [z,xS] at yS;cases yS
  have uT:=xK (F:=F) (X:=X) (show T ^^^ 2 ^ x < 32 by omega) (show F < 32 by omega) y5 m m5
  have uS:=xK (F:=F) (X:=X) (show S ^^^ 2 ^ x < 32 by omega) (show F < 32 by omega) y5 m m5
  have bT:qC (T ^^^ 2 ^ x ^^^ F) y=false:=by rw [vU (by omega) (by omega) x5 y5,yT,Ai yx];rfl
  have bS:qC (S ^^^ 2 ^ x ^^^ F) y=true:=by rw [vU (by omega) (by omega) x5 y5,yS,Ai yx];rfl
  have lT2:=kJ m5 lT ym
  have lS2:=kJ m5 lS ym
  have a:=st _ lS2
  have b:=top _ lT2
  cases yX:qC X y with
  | true =>
   rw [Au ⟨ym,yX⟩,bT,Ax (by decide)] at uT
   rw [Au ⟨ym,yX⟩,Au bS] at uS
   have d1:=sE (show T < 32 by omega) (show S < 32 by omega) x5 (eO (F:=F) (by omega) (by omega) (by omega) x5 (by rw [xT,xS];decide))
   have d2:=sE (show T ^^^ 2 ^ x < 32 by omega) (show S < 32 by omega) y5 (eO (F:=F) (by omega) (by omega) (by omega) y5 (by rw [bT,yS];decide))
   have g:=tn (T ^^^ 2 ^ x ^^^ 2 ^ y) lT2 ⟨by omega,by omega⟩
   have g' : -(dist (T ^^^ 2 ^ x ^^^ 2 ^ y) S:Int) ≤ -(dist T S:Int):=g
   clear uT uS tT tS lT lS lT2 lS2 a b le xm ym hT hF m5 p32 sl tl s1 x5 y5 yx su su' fS ne tv tk bad g
   omega
  | false =>
   rw [Ax (fun z=>by rw [yX] at z;cases z.2)] at uT uS
   by_cases c:f (T ^^^ 2 ^ x ^^^ 2 ^ y)=f T0
   ·have:=least _ lT2 c
    omega
   ·have g:=sf (S ^^^ 2 ^ x ^^^ 2 ^ y) lS2 (show f (S ^^^ 2 ^ x ^^^ 2 ^ y) - zG F X (S ^^^ 2 ^ x ^^^ 2 ^ y) m=f S1 - zG F X S1 m by omega)
    omega
def mxf (u:Nat→Int):Nat→Int
 | 0=>u 0
 | n + 1=>max (mxf u n) (u (n + 1))
theorem dE (u:Nat→Int):∀ {n k},k ≤ n→u k ≤ mxf u n
 | 0,k,h=>by rw [show k=0 by omega];exact AY _
 | n + 1,k,h=>by
  show u k ≤ max (mxf u n) (u (n + 1))
  by_cases e:k=n + 1
  ·rw [e];omega
  ·have:=dE u (show k ≤ n by omega);omega
theorem dC (u:Nat→Int):∀ n,∃ k,k ≤ n∧mxf u n=u k
 | 0=>⟨0,Ad _,rfl⟩
 | n + 1=>by
  obtain ⟨k,k1,k2⟩:=dC u n
  by_cases c:mxf u n ≤ u (n + 1)
  ·exact ⟨n + 1,Ad _,by show max _ _=_;omega⟩
  ·exact ⟨k,by omega,by show max _ _=_;omega⟩
theorem mxf_is {u:Nat→Int}{n k:Nat}(hk:k ≤ n)(top:∀ j,j ≤ n→u j ≤ u k):mxf u n=u k:=by
 obtain ⟨j,j1,j2⟩:=dC u n
 have:=top j j1
 have:=dE u hk
 omega
theorem nH {u v:Nat→Int}:∀ {n},(∀ k,k ≤ n→u k=v k)→mxf u n=mxf v n
 | 0,h=>h 0 (Ad _)
 | n + 1,h=>by
  show max _ _=max _ _
  rw [nH fun k hk=>h k (by omega),h (n + 1) (Ad _)]
def upX (f:Nat→Int)(m F X:Nat):Int:=mxf (fun h=>f h - zG F X h m) (2 ^ m - 1)
def pF (s:Nat→Int)(m:Nat):Prop:=∀ A i j,A < 2 ^ m→i < m→j < m→i ≠ j→qC A i=false→qC A j=false→s A + s (A ^^^ 2 ^ i ^^^ 2 ^ j) ≤ s (A ^^^ 2 ^ i) + s (A ^^^ 2 ^ j)
theorem up_sub {f:Nat→Int}{m F:Nat}(m5:m ≤ 5)(hF:F < 2 ^ m)(ex:bB f m F):pF (upX f m F) m:=by
 intro A i j hA hi hj ij ai aj
 have p32:2 ^ m ≤ 2 ^ 5:=Aw (by decide) m5
 have pp:=AA m
 have i5:i < 5:=by omega
 have j5:j < 5:=by omega
 have hAi:=kJ m5 hA hi
 have hAj:=kJ m5 hA hj
 have aij:qC (A ^^^ 2 ^ i) j=false:=by rw [(kF (show A < 32 by omega) i5 j5).1,aj,Ai (fun z=>ij z.symm)];rfl
 have m1:=fun h (hh:h < 2 ^ m)=>xM (F:=F) (h:=h) (show A < 32 by omega) (by omega) (by omega) i5 ai m m5
 have m2:=fun h (hh:h < 2 ^ m)=>xM (F:=F) (h:=h) (show A < 32 by omega) (by omega) (by omega) j5 aj m m5
 have m3:=fun h (hh:h < 2 ^ m)=>xM (F:=F) (h:=h) (show A ^^^ 2 ^ i < 32 by omega) (by omega) (by omega) j5 aij m m5
 simp only [Au hi] at m1
 simp only [Au hj] at m2 m3
 obtain ⟨S,s1,s2⟩:=dC (fun h=>f h - zG F (A ^^^ 2 ^ i ^^^ 2 ^ j) h m) (2 ^ m - 1)
 obtain ⟨T,t1,t2⟩:=dC (fun h=>f h - zG F A h m) (2 ^ m - 1)
 have s2':upX f m F (A ^^^ 2 ^ i ^^^ 2 ^ j)=f S - zG F (A ^^^ 2 ^ i ^^^ 2 ^ j) S m:=s2
 have t2':upX f m F A=f T - zG F A T m:=t2
 have gi:∀ h,h < 2 ^ m→f h - zG F (A ^^^ 2 ^ i) h m ≤ upX f m F (A ^^^ 2 ^ i):=fun h hh=>dE (fun h=>f h - zG F (A ^^^ 2 ^ i) h m) (show h ≤ 2 ^ m - 1 by omega)
 have gj:∀ h,h < 2 ^ m→f h - zG F (A ^^^ 2 ^ j) h m ≤ upX f m F (A ^^^ 2 ^ j):=fun h hh=>dE (fun h=>f h - zG F (A ^^^ 2 ^ j) h m) (show h ≤ 2 ^ m - 1 by omega)
 have sl:S < 2 ^ m:=by omega
 have tl:T < 2 ^ m:=by omega
 rw [s2',t2',m3 S sl,m1 S sl]
 by_cases c:qC (T ^^^ F) j=true∧qC (S ^^^ F) j=false
 ·have lT:=kJ m5 tl hj
  have lS:=kJ m5 sl hj
  have tT:=xK (F:=F) (X:=A) (show T < 32 by omega) (show F < 32 by omega) j5 m m5
  have tS:=xK (F:=F) (X:=A) (show S < 32 by omega) (show F < 32 by omega) j5 m m5
  rw [Ax (fun z=>by rw [aj] at z;cases z.2)] at tT tS
  have ji:i ≠ j:=ij
  rcases ex T S j tl sl hj c.1 c.2 with le | ⟨k,km,kS,kT,le⟩
  ·have a:=gi _ lS
   have b:=gj _ lT
   rw [m1 _ lS,vU (by omega) (by omega) j5 i5,Ai ji,show (qC (S ^^^ F) i != false)=qC (S ^^^ F) i by cases qC (S ^^^ F) i <;> rfl] at a
   rw [m2 _ lT,vU (by omega) (by omega) j5 j5,c.1,A2 rfl] at b
   rw [c.2]
   simp only [bne_self_eq_false,AI,B8] at b ⊢
   generalize (if qC F i=true then (1:Int) else 0)=z1 at a ⊢
   generalize (if qC F j=true then (1:Int) else 0)=z2 at b ⊢
   generalize (if qC (S ^^^ F) i=true then (1:Int) else 0)=z3 at a ⊢
   clear m1 m2 m3 gi gj s1 t1 s2 t2 s2' t2' hAi hAj pp p32 hA hi hj i5 j5 m5 hF ij lT lS sl tl
   omega
  ·have k5:k < 5:=by omega
   have kj:k ≠ j:=fun z=>by rw [z,c.2] at kS;cases kS
   have lT2:=kJ m5 lT km
   have lS2:=kJ m5 lS km
   have uT:=xK (F:=F) (X:=A) (show T ^^^ 2 ^ j < 32 by omega) (show F < 32 by omega) k5 m m5
   have uS:=xK (F:=F) (X:=A) (show S ^^^ 2 ^ j < 32 by omega) (show F < 32 by omega) k5 m m5
   have bT:qC (T ^^^ 2 ^ j ^^^ F) k=false:=by rw [vU (by omega) (by omega) j5 k5,kT,Ai kj];rfl
   have bS:qC (S ^^^ 2 ^ j ^^^ F) k=true:=by rw [vU (by omega) (by omega) j5 k5,kS,Ai kj];rfl
   rw [bT,Ax (show ¬ (false=true) by decide)] at uT
   rw [bS,Au rfl] at uS
   have a:=gi _ lS2
   have b:=gj _ lT2
   rw [m1 _ lS2,vU (by omega) (by omega) k5 i5,vU (by omega) (by omega) j5 i5,Ai ji,show (qC (S ^^^ F) i != false)=qC (S ^^^ F) i by cases qC (S ^^^ F) i <;> rfl] at a
   rw [m2 _ lT2,vU (by omega) (by omega) k5 j5,vU (by omega) (by omega) j5 j5,c.1,A2 rfl,Ai (fun z=>kj z.symm)] at b
   rw [c.2]
   have q:∀ b c:Bool,(b=true→c=true→False)→(if (b != c)=true then (1:Int) else 0) ≤ (if b=true then 1 else 0) + if c=true then 1 else 0:=by intro b c;cases b <;> cases c <;> simp
   have w:(if (qC (S ^^^ F) i != decide (i=k))=true then (1:Int) else 0) ≤ if qC (S ^^^ F) i=true then 1 else 0:=by
    by_cases e:i=k
    ·subst e
     rw [kS,A2 rfl]
     decide
    ·rw [Ai e]
     cases qC (S ^^^ F) i <;> decide
   simp only [bne_self_eq_false,AI,B8,Bool.bne_false] at b ⊢
   generalize (if qC F i=true then (1:Int) else 0)=z1 at a ⊢
   generalize (if qC F j=true then (1:Int) else 0)=z2 at b ⊢
   generalize (if qC (S ^^^ F) i=true then (1:Int) else 0)=z3 at w ⊢
   generalize (if (qC (S ^^^ F) i != decide (i=k))=true then (1:Int) else 0)=z4 at w a
   clear m1 m2 m3 gi gj s1 t1 s2 t2 s2' t2' hAi hAj pp p32 hA hi hj i5 j5 m5 hF ij lT lS sl tl lT2 lS2 k5 kj q
   by_cases d:qC A k=true
   ·rw [Au ⟨km,d⟩] at uT uS
    omega
   ·rw [Ax (fun z=>d z.2)] at uT uS
    omega
 ·have a:=gi S sl
  have b:=gj T tl
  rw [m1 S sl] at a
  rw [m2 T tl] at b
  have q:(if qC (T ^^^ F) j=true then (1:Int) else 0) ≤ if qC (S ^^^ F) j=true then 1 else 0:=by
   revert c
   cases qC (T ^^^ F) j <;> cases qC (S ^^^ F) j <;> simp
  generalize (if qC F i=true then (1:Int) else 0)=z1 at a ⊢
  generalize (if qC F j=true then (1:Int) else 0)=z2 at b ⊢
  generalize (if qC (S ^^^ F) i=true then (1:Int) else 0)=z3 at a ⊢
  generalize (if qC (S ^^^ F) j=true then (1:Int) else 0)=z4 at q ⊢
  generalize (if qC (T ^^^ F) j=true then (1:Int) else 0)=z5 at q b
  clear m1 m2 m3 gi gj s1 t1 s2 t2 s2' t2' hAi hAj pp p32 hA hi hj i5 j5 m5 hF ij sl tl
  omega
def zC (A:Nat)(l:List Nat):Nat:=l.foldl (fun h t=>h ^^^ 2 ^ t) A
def uN (m A:Nat):List Nat→Prop
 | []=>True
 | t :: l=>t < m∧qC A t=false∧uN m (A ^^^ 2 ^ t) l
theorem sA {m:Nat}(m5:m ≤ 5):∀ (l:List Nat) {A x:Nat},A < 2 ^ m→x < m→uN m A l→qC A x=false→x ∉ l→uN m (A ^^^ 2 ^ x) l
 | [],_,_,_,_,_,_,_=>trivial
 | t :: l,A,x,hA,hx,⟨t1,t2,t3⟩,ax,xl=>by
  have p32:2 ^ m ≤ 2 ^ 5:=Aw (by decide) m5
  have xt:x ≠ t:=fun z=>xl (z ▸ Am)
  refine ⟨t1,?_,?_⟩
  ·rw [(kF (show A < 32 by omega) (show x < 5 by omega) (show t < 5 by omega)).1,t2,Ai (fun z=>xt z.symm)];rfl
  ·rw [jM]
   refine sA m5 l (kJ m5 hA t1) hx t3 ?_ (fun z=>xl (Ap _ z))
   rw [(kF (show A < 32 by omega) (show t < 5 by omega) (show x < 5 by omega)).1,ax,Ai xt];rfl
theorem pS {s:Nat→Int}{m:Nat}(m5:m ≤ 5)(sb:pF s m):∀ (l:List Nat) {A x:Nat},A < 2 ^ m→x < m→uN m A l→qC A x=false→x ∉ l→s (zC A l ^^^ 2 ^ x) - s (zC A l) ≤ s (A ^^^ 2 ^ x) - s A
 | [],A,x,_,_,_,_,_=>AY _
 | t :: l,A,x,hA,hx,⟨t1,t2,t3⟩,ax,xl=>by
  have p32:2 ^ m ≤ 2 ^ 5:=Aw (by decide) m5
  have xt:x ≠ t:=fun z=>xl (z ▸ Am)
  have ih:=pS m5 sb l (kJ m5 hA t1) hx t3 (by rw [(kF (show A < 32 by omega) (show t < 5 by omega) (show x < 5 by omega)).1,ax,Ai xt];rfl) (fun z=>xl (Ap _ z))
  have:=sb A t x hA t1 hx (fun z=>xt z.symm) t2 ax
  show s (zC (A ^^^ 2 ^ t) l ^^^ 2 ^ x) - s (zC (A ^^^ 2 ^ t) l) ≤ _
  omega
theorem i9 (l:List Nat):∀ (A t:Nat),zC (A ^^^ 2 ^ t) l=zC A l ^^^ 2 ^ t:=by
 induction l with
 | nil=>intro A t;rfl
 | cons x l ih =>
  intro A t
  show zC (A ^^^ 2 ^ t ^^^ 2 ^ x) l=zC (A ^^^ 2 ^ x) l ^^^ 2 ^ t
  rw [jM,ih]
theorem uX {s:Nat→Int}{m:Nat}(m5:m ≤ 5)(sb:pF s m)(d:List Nat):∀ (l:List Nat) {C:Nat},C < 2 ^ m→uN m C l→uN m C d→(∀ x ∈ l,x ∉ d)→s (zC (zC C d) l) - s (zC C d) ≤ s (zC C l) - s C
 | [],_,_,_,_,_=>by show s _ - s _ ≤ s _ - s _;exact Int.le_of_eq (by show s (zC _ _) - s (zC _ _)=s _ - s _;simp [zC])
 | t :: l,C,hC,⟨t1,t2,t3⟩,fd,xl=>by
  have td:=xl t Am
  have ih:=uX m5 sb d l (kJ m5 hC t1) t3 (sA m5 d hC t1 fd t2 td) (fun x hx=>xl x (Ap _ hx))
  have:=pS m5 sb d hC t1 fd t2 td
  rw [i9] at ih
  show s (zC (zC C d ^^^ 2 ^ t) l) - s (zC C d) ≤ s (zC (C ^^^ 2 ^ t) l) - s C
  omega
def cB (A B:Nat):List Nat:=(List.range 5).filter fun t=>qC A t && !qC B t
def eA (A:Nat):List Nat→Bool
 | []=>true
 | t :: l=>decide (t < 5) && (!qC A t) && eA (A ^^^ 2 ^ t) l
theorem rC:∀ A B:_root_.Fin 32,eA (A.val &&& B.val) (cB A.val B.val)=true∧zC (A.val &&& B.val) (cB A.val B.val)=A.val∧zC B.val (cB A.val B.val)=A.val ||| B.val∧(A.val ||| B.val) < 32:=by decide +kernel
theorem lU {m A:Nat}:∀ l:List Nat,(∀ t ∈ l,t < m)→eA A l=true→uN m A l
 | [],_,_=>trivial
 | t :: l,hl,h=>by
  have h':(decide (t < 5) && (!qC A t) && eA (A ^^^ 2 ^ t) l)=true:=h
  rw [AE,AE] at h'
  exact ⟨hl t Am,by simpa using h'.1.2,lU l (fun x hx=>hl x (Ap _ hx)) h'.2⟩
theorem sub_lat {s:Nat→Int}{m:Nat}(m5:m ≤ 5)(sb:pF s m){A B:Nat}(hA:A < 2 ^ m)(hB:B < 2 ^ m):s (A &&& B) + s (A ||| B) ≤ s A + s B:=by
 have p32:2 ^ m ≤ 2 ^ 5:=Aw (by decide) m5
 obtain ⟨f1,e1,e2,_⟩:=rC ⟨A,by omega⟩ ⟨B,by omega⟩
 obtain ⟨f2,e3,_,_⟩:=rC ⟨B,by omega⟩ ⟨A,by omega⟩
 simp only at f1 e1 e2 f2 e3
 rw [Nat.and_comm] at f2 e3
 have mem:∀ (A B:Nat),A < 2 ^ m→∀ t ∈ cB A B,t < m∧qC A t=true∧qC B t=false:=fun A B hA t ht=>by
  unfold cB at ht
  rw [Bn,AU,AE] at ht
  exact ⟨tZ m5 hA ht.1 ht.2.1,ht.2.1,by simpa using ht.2.2⟩
 have hC:A &&& B < 2 ^ m:=Ck Nat.and_le_left hA
 have:=uX m5 sb (cB B A) (cB A B) hC (lU _ (fun t ht=>(mem A B hA t ht).1) f1) (lU _ (fun t ht=>(mem B A hB t ht).1) f2) (fun x hx hy=>by
  have a:=(mem A B hA x hx).2.1
  have b:=(mem B A hB x hy).2.2
  rw [a] at b
  cases b)
 rw [e3,e2,e1] at this
 omega
def fmin (s:Nat→Int)(al:Nat→Bool):Nat→Nat
 | 0=>0
 | n + 1=>if al n=true∧s n < s (fmin s al n) then n else fmin s al n
theorem zO {s:Nat→Int}{al:Nat→Bool}(a0:al 0=true):∀ n,al (fmin s al n)=true∧(fmin s al n=0∨fmin s al n < n)∧∀ Y,Y < n→al Y=true→s (fmin s al n) < s Y∨(s (fmin s al n)=s Y∧fmin s al n ≤ Y)
 | 0=>⟨a0,.inl rfl,fun Y h=>by omega⟩
 | n + 1=>by
  obtain ⟨i1,i2,i3⟩:=zO (s:=s) a0 n
  show al (if al n=true∧s n < s (fmin s al n) then n else fmin s al n)=true∧_
  have e:fmin s al (n + 1)=if al n=true∧s n < s (fmin s al n) then n else fmin s al n:=rfl
  rw [e]
  by_cases c:al n=true∧s n < s (fmin s al n)
  ·rw [Au c]
   refine ⟨c.1,.inr (Ba n),fun Y hY aY=>?_⟩
   by_cases z:Y=n
   ·rw [z];exact .inr ⟨rfl,Ad _⟩
   ·rcases i3 Y (by omega) aY with h | h
    ·exact .inl (by omega)
    ·exact .inl (by omega)
  ·rw [Ax c]
   refine ⟨i1,i2.imp id (by omega),fun Y hY aY=>?_⟩
   by_cases z:Y=n
   ·subst z
    by_cases d:s Y < s (fmin s al Y)
    ·exact absurd ⟨aY,d⟩ c
    ·rcases i2 with h | h
     ·by_cases q:s (fmin s al Y) < s Y
      ·exact .inl q
      ·exact .inr ⟨by omega,by omega⟩
     ·by_cases q:s (fmin s al Y) < s Y
      ·exact .inl q
      ·exact .inr ⟨by omega,by omega⟩
   ·exact i3 Y (by omega) aY
theorem cW {s s':Nat→Int}{al al':Nat→Bool}{c:Int}:∀ {n},(∀ Y,Y ≤ n→s Y=s' Y + c)→(∀ Y,Y < n→al Y=al' Y)→fmin s al n=fmin s' al' n
 | 0,_,_=>rfl
 | n + 1,hs,ha=>by
  have ih:=cW (n:=n) (fun Y hY=>hs Y (by omega)) (fun Y hY=>ha Y (by omega))
  have l:∀ n,fmin s' al' n ≤ n:=fun n=>by
   induction n with
   | zero=>exact Ad _
   | succ n ih=>show (if _ then n else _) ≤ n + 1;split <;> omega
  show (if _ then n else _)=if _ then n else _
  rw [ih,ha n (by omega)]
  have e1:=hs n (by omega)
  have e2:=hs (fmin s' al' n) (by have:=l n;omega)
  have e:(s n < s (fmin s' al' n)) ↔ (s' n < s' (fmin s' al' n)):=by omega
  simp only [e]
theorem oA {s:Nat→Int}{al:Nat→Bool}(a0:al 0=true){n b:Nat}(n0:0 < n)(hb:b < n)(ab:al b=true)(h:∀ Y,Y < n→al Y=true→s b < s Y∨(s b=s Y∧b ≤ Y)):b=fmin s al n:=by
 obtain ⟨i1,i2,i3⟩:=zO (s:=s) a0 n
 have l:fmin s al n < n:=by omega
 have h1:=h _ l i1
 have h2:=i3 b hb ab
 omega
theorem sC {s:Nat→Int}{m K:Nat}(m5:m ≤ 5)(sb:pF s m){B:Nat}(hB:B < 2 ^ m)(aB:B &&& K=0)(eB:s B=s (fmin s (fun X=>decide (X &&& K=0)) (2 ^ m))):fmin s (fun X=>decide (X &&& K=0)) (2 ^ m) &&& B=fmin s (fun X=>decide (X &&& K=0)) (2 ^ m):=by
 have pp:=AA m
 obtain ⟨i1,i2,i3⟩:=zO (s:=s) (al:=fun X=>decide (X &&& K=0)) (by simp) (2 ^ m)
 revert i1 i2 i3 eB
 generalize fmin s (fun X=>decide (X &&& K=0)) (2 ^ m)=b
 intro eB i1 i2 i3
 have bl:b < 2 ^ m:=by omega
 have bK:b &&& K=0:=by simpa using i1
 have le:=sub_lat m5 sb bl hB
 have k1:(b &&& B) &&& K=0:=by rw [Nat.and_assoc,Nat.and_comm B K,← Nat.and_assoc,bK,Nat.zero_and]
 have k2:(b ||| B) &&& K=0:=by rw [Nat.and_or_distrib_right,bK,aB,Nat.or_self]
 have l1:b &&& B ≤ b:=Nat.and_le_left
 have o1:=i3 (b &&& B) (by omega) (by simpa using k1)
 have o2:=i3 (b ||| B) (Nat.or_lt_two_pow bl hB) (by simpa using k2)
 omega
def dM (ws ps:List Int)(h:Nat):Int:=ws.getD h 0 - kY ps h ps.length
def jP (ws ps:List Int):Int:=mxf (dM ws ps) (2 ^ ps.length - 1)
def kK (ts:List (List Int))(ps:List Int):Int:=(ts.map fun ws=>jP ws ps).sum + ps.sum
theorem mO {ws ps:List Int}{F X:Nat}:jP ws (qP ps F X)=upX (dM ws ps) ps.length F X:=by
 unfold jP upX
 rw [kP]
 refine nH fun h _=>?_
 unfold dM
 rw [kP,bI _ (Ad _)]
 omega
theorem full_on {m t:Nat}(m5:m ≤ 5)(ht:t < m):qC (2 ^ m - 1) t=true:=by
 have key:∀ (m:_root_.Fin 6) (t:_root_.Fin 5),t.val < m.val→qC (2 ^ m.val - 1) t.val=true:=by decide +kernel
 exact key ⟨m,by omega⟩ ⟨t,by omega⟩ ht
theorem bE:∀ (ps:List Int) (h n:Nat),(∀ t,t < n→qC h t=true)→kY ps h n=(ps.take n).sum
 | ps,h,0,_=>by simp [kY]
 | ps,h,n + 1,b=>by
  show kY ps h n + (if qC h n=true then ps.getD n 0 else 0)=_
  rw [bE ps h n (fun t ht=>b t (by omega)),Au (b n (by omega)),Az,Ci]
  congr 1
  rw [Ab]
  cases ps[n]? <;> simp
theorem bH {ps:List Int}{F X:Nat}(p5:ps.length ≤ 5):(qP ps F X).sum=ps.sum + zG F X (2 ^ ps.length - 1) ps.length:=by
 have on:=fun t (ht:t < ps.length)=>full_on p5 ht
 have a:=bE (qP ps F X) (2 ^ ps.length - 1) ps.length on
 have b:=bE ps (2 ^ ps.length - 1) ps.length on
 rw [AB (by rw [kP];exact Ad _)] at a
 rw [AB (Ad _)] at b
 rw [← a,← b,bI _ (Ad _)]
theorem uW {α:Type}{m:Nat}{g:α→Nat→Int}:∀ l:List α,(∀ x ∈ l,pF (g x) m)→pF (fun X=>(l.map fun x=>g x X).sum) m
 | [],_=>fun A i j _ _ _ _ _ _=>by simp
 | x :: l,h=>fun A i j a1 a2 a3 a4 a5 a6=>by
  have h1:=h x Am A i j a1 a2 a3 a4 a5 a6
  have h2:=uW l (fun y hy=>h y (Ap _ hy)) A i j a1 a2 a3 a4 a5 a6
  simp only [AN,B3] at h2 ⊢
  omega
def Kinds (ts:List (List Int))(m F:Nat):Prop:=∀ ws ∈ ts,bB (fun h=>ws.getD h 0) m F
theorem uC {ws ps:List Int}{F:Nat}(p5:ps.length ≤ 5)(hF:F < 2 ^ ps.length)(ex:bB (fun h=>ws.getD h 0) ps.length F):bB (dM ws ps) ps.length F:=ext_less p5 hF ex
theorem p8 {m F:Nat}(m5:m ≤ 5)(hF:F < 2 ^ m):pF (fun X=>zG F X (2 ^ m - 1) m) m:=by
 intro A i j hA hi hj ij ai aj
 have p32:2 ^ m ≤ 2 ^ 5:=Aw (by decide) m5
 have pp:=AA m
 have aij:qC (A ^^^ 2 ^ i) j=false:=by rw [(kF (show A < 32 by omega) (show i < 5 by omega) (show j < 5 by omega)).1,aj,Ai (fun z=>ij z.symm)];rfl
 have l:=kJ m5 hA hi
 have m1:=xM (F:=F) (h:=2 ^ m - 1) (show A < 32 by omega) (by omega) (by omega) (show i < 5 by omega) ai m m5
 have m2:=xM (F:=F) (h:=2 ^ m - 1) (show A < 32 by omega) (by omega) (by omega) (show j < 5 by omega) aj m m5
 have m3:=xM (F:=F) (h:=2 ^ m - 1) (show A ^^^ 2 ^ i < 32 by omega) (by omega) (by omega) (show j < 5 by omega) aij m m5
 rw [Au hi] at m1
 rw [Au hj] at m2 m3
 show zG F A (2 ^ m - 1) m + zG F (A ^^^ 2 ^ i ^^^ 2 ^ j) (2 ^ m - 1) m ≤ zG F (A ^^^ 2 ^ i) (2 ^ m - 1) m + zG F (A ^^^ 2 ^ j) (2 ^ m - 1) m
 omega
theorem o6 {ts:List (List Int)}{ps:List Int}{F:Nat}(p5:ps.length ≤ 5)(hF:F < 2 ^ ps.length)(kd:Kinds ts ps.length F):pF (fun X=>kK ts (qP ps F X)) ps.length:=by
 have h1:=uW (m:=ps.length) (g:=fun ws X=>jP ws (qP ps F X)) ts (fun ws hw=>by
  have:=up_sub p5 hF (uC p5 hF (kd ws hw))
  intro A i j a1 a2 a3 a4 a5 a6
  simp only [mO]
  exact this A i j a1 a2 a3 a4 a5 a6)
 have h2:=p8 p5 hF
 intro A i j a1 a2 a3 a4 a5 a6
 have g1:=h1 A i j a1 a2 a3 a4 a5 a6
 have g2:=h2 A i j a1 a2 a3 a4 a5 a6
 unfold kK
 simp only [bH p5]
 simp only at g1 g2
 omega
def zE (F:Nat)(ps:List Int):Nat→Nat
 | 0=>0
 | n + 1=>zE F ps n + if qC F n=true∧ps.getD n 0=0 then 2 ^ n else 0
theorem vV (F:Nat)(ps:List Int):∀ n,zE F ps n < 2 ^ n
 | 0=>by show 0 < 1;decide
 | n + 1=>by
  have:=vV F ps n
  have e:2 ^ (n + 1)=2 ^ n + 2 ^ n:=by rw [CL];omega
  show zE F ps n + (if qC F n=true∧ps.getD n 0=0 then 2 ^ n else 0) < 2 ^ (n + 1)
  rw [e]
  have pp:=AA n
  revert this pp
  generalize 2 ^ n=q
  intro this pp
  split <;> omega
theorem fM (F:Nat)(ps:List Int):∀ k,k ≤ 5→∀ t,t < 5→(qC (zE F ps k) t=true ↔ t < k∧qC F t=true∧ps.getD t 0=0)
 | 0,_,t,ht=>by
  show qC 0 t=true ↔ _
  unfold qC
  simp
 | k + 1,hk,t,ht=>by
  have ih:=fM F ps k (by omega) t ht
  have lt:=vV F ps k
  have p:2 ^ k ≤ 2 ^ 4:=Aw (by decide) (by omega)
  have key:∀ (x:_root_.Fin 32) (k t:_root_.Fin 5),x.val < 2 ^ k.val→qC (x.val + 2 ^ k.val) t.val=(if t.val=k.val then true else qC x.val t.val)∧qC x.val k.val=false:=by decide +kernel
  have kk:=key ⟨zE F ps k,by omega⟩ ⟨k,by omega⟩ ⟨t,ht⟩ lt
  show qC (zE F ps k + (if qC F k=true∧ps.getD k 0=0 then 2 ^ k else 0)) t=true ↔ _
  by_cases e:qC F k=true∧ps.getD k 0=0
  ·rw [Au e,kk.1]
   by_cases z:t=k
   ·rw [Au z,z]
    exact ⟨fun _=>⟨Ba k,e⟩,fun _=>rfl⟩
   ·rw [Ax z,ih]
    constructor
    ·rintro ⟨a,b⟩;exact ⟨by omega,b⟩
    ·rintro ⟨a,b⟩;exact ⟨by omega,b⟩
  ·rw [Ax e,Nat.add_zero,ih]
   constructor
   ·rintro ⟨a,b⟩;exact ⟨by omega,b⟩
   ·rintro ⟨a,b⟩
    refine ⟨?_,b⟩
    by_cases z:t=k
    ·exact absurd (z ▸ b) e
    ·omega
theorem sL {X K:Nat}(hX:X < 32)(hK:K < 32):X &&& K=0 ↔ ∀ t,t < 5→¬ (qC X t=true∧qC K t=true):=by
 have key:∀ (X K:_root_.Fin 32),X.val &&& K.val=0 ↔ ∀ t:_root_.Fin 5,¬ (qC X.val t.val=true∧qC K.val t.val=true):=by decide +kernel
 rw [key ⟨X,hX⟩ ⟨K,hK⟩]
 exact ⟨fun h t ht=>h ⟨t,ht⟩,fun h t=>h t.val t.isLt⟩
def fI (F:Nat)(ps:List Int)(X:Nat):Bool:=decide (X &&& zE F ps ps.length=0)
def yC (ts:List (List Int))(F:Nat)(ps:List Int):Nat:=fmin (fun X=>kK ts (qP ps F X)) (fI F ps) (2 ^ ps.length)
theorem vE (F:Nat)(ps:List Int):fI F ps 0=true:=by unfold fI;simp
theorem cK (ts:List (List Int))(F:Nat)(ps:List Int):yC ts F ps < 2 ^ ps.length:=by
 have pp:=AA ps.length
 have:=(zO (s:=fun X=>kK ts (qP ps F X)) (vE F ps) (2 ^ ps.length)).2.1
 unfold yC
 omega
theorem iB (ps:List Int)(F:Nat):qP ps F 0=ps:=by
 refine List.ext_getElem? fun t=>?_
 by_cases h:t < ps.length
 ·rw [step_at h,Ax (by unfold qC;simp),Ab,Ag h]
  rfl
 ·rw [List.getElem?_eq_none (by rw [kP];omega),List.getElem?_eq_none (by omega)]
theorem nxt_less {ts:List (List Int)}{F:Nat}{ps:List Int}(n:yC ts F ps ≠ 0):kK ts (qP ps F (yC ts F ps)) < kK ts ps:=by
 have pp:=AA ps.length
 have:=(zO (s:=fun X=>kK ts (qP ps F X)) (vE F ps) (2 ^ ps.length)).2.2 0 pp (vE F ps)
 have e:fmin (fun X=>kK ts (qP ps F X)) (fI F ps) (2 ^ ps.length)=yC ts F ps:=rfl
 rw [e] at this
 simp only [iB] at this
 omega
theorem wO {F X:Nat}{ps:List Int}(p5:ps.length ≤ 5)(hX:X < 2 ^ ps.length)(al:fI F ps X=true)(nn:∀ x ∈ ps,0 ≤ x):∀ x ∈ qP ps F X,0 ≤ x:=by
 intro x hx
 have p32:2 ^ ps.length ≤ 2 ^ 5:=Aw (by decide) p5
 have st:=vV F ps ps.length
 unfold qP at hx
 obtain ⟨t,ht,rfl⟩:=Al.mp hx
 rw [AU] at ht
 have g:0 ≤ ps.getD t 0:=by
  rw [Ab,Ag ht]
  exact nn _ (AK ht)
 unfold fI at al
 have al':=(sL (show X < 32 by omega) (show zE F ps ps.length < 32 by omega)).mp (AS al) t (by omega)
 rw [fM F ps _ p5 t (by omega)] at al'
 split
 ·rename_i b
  split
  ·rename_i c
   have:ps.getD t 0 ≠ 0:=fun z=>al' ⟨b,ht,c,z⟩
   omega
  ·omega
 ·exact g
theorem tR (ts:List (List Int))(F:Nat)(ps:List Int):fI F ps (yC ts F ps)=true:=(zO (s:=fun X=>kK ts (qP ps F X)) (vE F ps) (2 ^ ps.length)).1
theorem sZ:∀ (l:List Int),(∀ x ∈ l,0 ≤ x)→0 ≤ l.sum
 | [],_=>by simp
 | x :: l,h=>by
  have:=h x Am
  have:=sZ l fun y hy=>h y (Ap _ hy)
  rw [B3]
  omega
theorem nX (ps:List Int):∀ n,kY ps 0 n=0
 | 0=>rfl
 | n + 1=>by
  show kY ps 0 n + (if qC 0 n=true then ps.getD n 0 else 0)=0
  rw [nX ps n,Ax (by unfold qC;simp)]
  rfl
theorem surp_nn {ts:List (List Int)}{ps:List Int}(z:∀ ws ∈ ts,0 ≤ ws.getD 0 0)(nn:∀ x ∈ ps,0 ≤ x):0 ≤ kK ts ps:=by
 have h1:=sZ (ts.map fun ws=>jP ws ps) (fun x hx=>by
  obtain ⟨ws,hw,rfl⟩:=Al.mp hx
  have:=dE (dM ws ps) (Bh (2 ^ ps.length - 1))
  have g:dM ws ps 0=ws.getD 0 0:=by unfold dM;rw [nX];omega
  have:=z ws hw
  unfold jP
  omega)
 have h2:=sZ ps nn
 unfold kK
 omega
def sO (ts:List (List Int))(ps qs:List Int):Prop:=∀ ws ∈ ts,∀ h,h < 2 ^ ps.length→(dM ws ps h=jP ws ps ↔ dM ws qs h=jP ws qs)
theorem up_same {ws ps qs:List Int}{F:Nat}(p5:ps.length ≤ 5)(hl:ps.length=qs.length)(hF:F < 2 ^ ps.length)(ex:bB (fun h=>ws.getD h 0) ps.length F)(bs:∀ h,h < 2 ^ ps.length→(dM ws ps h=jP ws ps ↔ dM ws qs h=jP ws qs))(X:Nat):jP ws (qP ps F X) - jP ws ps=jP ws (qP qs F X) - jP ws qs:=by
 have pp:=AA ps.length
 obtain ⟨k,k1,k2⟩:=dC (dM ws ps) (2 ^ ps.length - 1)
 have k2':jP ws ps=dM ws ps k:=k2
 obtain ⟨T,t1,t2,t3⟩:=cY (fun h=>dM ws ps h=jP ws ps) (fun h=>- zG F X h ps.length) (2 ^ ps.length) ⟨k,by omega,k2'.symm⟩
 have t2':=(bs T t1).mp t2
 have one:∀ (rs:List Int),rs.length=ps.length→bB (dM ws rs) rs.length F→dM ws rs T=jP ws rs→(∀ h,h < 2 ^ ps.length→(dM ws rs h=jP ws rs→dM ws ps h=jP ws ps))→jP ws (qP rs F X)=jP ws rs - zG F X T ps.length:=fun rs hr er tr br=>by
  rw [mO]
  have top:∀ S,S < 2 ^ rs.length→dM ws rs S ≤ dM ws rs T:=fun S hS=>by
   rw [tr]
   exact dE (dM ws rs) (show S ≤ 2 ^ rs.length - 1 by omega)
  have bm:=uK (X:=X) (by omega) (by rw [hr];exact hF) er (by rw [hr];exact t1) top (fun S hS e=>by
   have:=t3 S (by rw [← hr];exact hS) (br S (by rw [← hr];exact hS) (by omega))
   rw [hr]
   omega)
  have e:=mxf_is (u:=fun h=>dM ws rs h - zG F X h rs.length) (n:=2 ^ rs.length - 1) (k:=T) (by rw [hr];omega) (fun j hj=>bm j (by rw [hr] at hj ⊢;omega))
  unfold upX
  rw [e,tr,hr]
 have a:=one ps rfl (uC p5 hF ex) t2 (fun _ _ e=>e)
 have b:=one qs hl.symm (by rw [← hl];exact (hl ▸ uC (ws:=ws) (ps:=qs) (F:=F) (by omega) (by rw [← hl];exact hF) (by rw [← hl];exact ex))) t2' (fun h hh e=>(bs h hh).mpr e)
 omega
theorem nxt_same {ts:List (List Int)}{F:Nat}{ps qs:List Int}(p5:ps.length ≤ 5)(hl:ps.length=qs.length)(hF:F < 2 ^ ps.length)(kd:Kinds ts ps.length F)(bs:sO ts ps qs)(al:∀ X,X < 2 ^ ps.length→fI F ps X=fI F qs X):yC ts F ps=yC ts F qs:=by
 unfold yC
 rw [← hl]
 refine cW (c:=kK ts ps - kK ts qs) (fun X _=>?_) al
 have g:∀ l:List (List Int),(∀ ws ∈ l,ws ∈ ts)→(l.map fun ws=>jP ws (qP ps F X)).sum - (l.map fun ws=>jP ws ps).sum=(l.map fun ws=>jP ws (qP qs F X)).sum - (l.map fun ws=>jP ws qs).sum:=by
  intro l
  induction l with
  | nil=>intro _;rfl
  | cons ws l ih =>
   intro h
   have a:=ih fun x hx=>h x (Ap _ hx)
   have hw:=h ws Am
   have b:=up_same p5 hl hF (kd ws hw) (bs ws hw) X
   simp only [AN,B3]
   omega
 have a:=g ts (fun _ h=>h)
 have b:=bH (F:=F) (X:=X) p5
 have c:=bH (ps:=qs) (F:=F) (X:=X) (by omega)
 rw [← hl] at c
 show kK ts (qP ps F X)=kK ts (qP qs F X) + (kK ts ps - kK ts qs)
 unfold kK
 omega
def j6 (ts:List (List Int))(F:Nat):Nat→List Int→List Nat × List Int
 | 0,ps=>([],ps)
 | n + 1,ps=>if yC ts F ps=0 then ([],ps) else (yC ts F ps :: (j6 ts F n (qP ps F (yC ts F ps))).1,(j6 ts F n (qP ps F (yC ts F ps))).2)
theorem wR {ts:List (List Int)}{F n:Nat}{ps:List Int}(h:yC ts F ps=0):j6 ts F n ps=([],ps):=by
 cases n with
 | zero=>rfl
 | succ n=>show (if _ then _ else _)=_;rw [Au h]
theorem rB {ts:List (List Int)}{F n:Nat}{ps:List Int}(z:∀ ws ∈ ts,0 ≤ ws.getD 0 0)(p5:ps.length ≤ 5)(nn:∀ x ∈ ps,0 ≤ x)(sn:kK ts ps ≤ (n:Int))(h:yC ts F ps ≠ 0):∃ k,n=k + 1∧kK ts (qP ps F (yC ts F ps)) ≤ (k:Int)∧(∀ x ∈ qP ps F (yC ts F ps),0 ≤ x)∧j6 ts F n ps=(yC ts F ps :: (j6 ts F k (qP ps F (yC ts F ps))).1,(j6 ts F k (qP ps F (yC ts F ps))).2):=by
 have l:=nxt_less h
 have nn':=wO p5 (cK ts F ps) (tR ts F ps) nn
 have g:=surp_nn z nn'
 cases n with
 | zero=>omega
 | succ k=>exact ⟨k,rfl,by omega,nn',by show (if _ then _ else _)=_;rw [Ax h]⟩
theorem dP {ps:List Int}{F X:Nat}{c:Int}(h:∀ x ∈ ps,x ≤ c):∀ x ∈ qP ps F X,x ≤ c + 1:=fun x hx=>by
 unfold qP at hx
 obtain ⟨t,ht,rfl⟩:=Al.mp hx
 rw [AU] at ht
 have g:ps.getD t 0 ≤ c:=by
  rw [Ab,Ag ht]
  exact h _ (AK ht)
 split
 ·split <;> omega
 ·omega
end
end K60
end
section
namespace K60
namespace S
open PySem L2
section
variable {P:Program}{w:World}{K:PySem.W.Frag}{mg:Str→Option Value}{base:Heap}{f:Addr}{fd:FuncData}
def topI (L:List Int):Int:=L.max?.getD 0
theorem uU {L:List Int}{m:Int}(hm:m ∈ L)(hx:∀ x ∈ L,x ≤ m):topI L=m:=by
 unfold topI
 rw [List.max?_eq_some_iff.mpr ⟨hm,hx⟩]
 rfl
def pW:Sp:=fun vs H Q _=>∃ (d:Addr) (ws:List Int) (b:Int),vs=[.ref d,.int b]∧H d=some (.tup (ws.map V.int))∧0 ≤ b∧b ≤ 1000000000∧ws.length ≤ 32∧∀ (t:Addr) (H':Hp),H t=none→Same H H'→H' t=some (.tup ((ws.map fun x=>b * x).map V.int))→Q (.ref t) H'
def PI (c:Addr)(ws:List Int)(b:Int)(G:Hp)(i:Nat)(σ:St)(H:Hp):Prop:=∃ v:Option V,σ=[v,some (.int b)]∧SameX c G H∧H c=some (.lst (((ws.take i).map fun x=>b * x).map V.int))
theorem wD:FnScope ["want", "by"] ["want", "by"] (qF s_in_parts):=⟨rfl,rfl,rfl,by decide +kernel,rfl,by decide +kernel,by decide +kernel⟩
theorem ok_parts (F:Fun K "in_parts" "in_parts" s_in_parts f fd) (hm:mg "in_parts" = some (.ref f)) (hb:Binds K fd ["want", "by"] []) (T:Txt mg):Cal P w K mg base "in_parts" ["want", "by"] 1 pW:=by
 refine q4 F hm hb wD (fun vs H Q E h=>?_) (fun cdv A outer s H vs Q E hr h=>?_)
 ·obtain ⟨_,_,_,rfl,_⟩:=h;rfl
 ·obtain ⟨d,ws,b,rfl,hd,b0,b1,wl,q⟩:=h
  have sc:=wD
  refine ⟨_,qI (qU (kM zZ rfl T.tuple_ kL (qA (jI (N:=["worth", "by"]) (fr:=[none,some 1]) rfl (xE (pv 0)) (CScope.of rfl rfl rfl) rfl (fun _ _ _=>⟨qN (i:=0) (show List.Nodup (α:=Str) ["worth", "by"] by decide +kernel) rfl (Or.inl rfl),kN,qV xU (pv 1) (pv 0)⟩)) qD))),?_⟩
  rw [show L2.start ["want", "by"] [.ref d,.int b] = [some (.ref d),some (.int b)] from rfl]
  (push_cast only [hd])
  intro c nc
  have ndc:d ≠ c:=qE hd nc
  refine jS (PI c ws b H) ⟨none,rfl,SameX.upd,qH⟩ (fun j σ H' _ ⟨_,_,s,_⟩=>s _ _ ndc hd) ?_ ?_
  ·rintro j x σ H1 hx ⟨v,rfl,s1,e1⟩
   rw [Af] at hx
   obtain ⟨n,hn',rfl⟩:=Ah.mp hx
   have hj:j < ws.length:=(Ae.mp hn').1
   (push_cast only [e1])
   refine ⟨.inl ⟨by omega,by omega⟩,qO (by rw [An];omega),⟨_,rfl,s1.trans SameX.upd,?_⟩⟩
   rw [qH,Az,hn']
   simp
  ·rintro σ H1 ⟨v,rfl,s1,e1⟩
   rw [Aa,AF] at e1
   have S1:=s1.same nc
   exact ⟨_,e1,fun t H2 n2 s2 e2=>q t H2 (jG S1 n2) (S1.trans s2) e2⟩
structure Rows (H:Hp)(tw sa wa:Addr)(ts:List (Addr × List Int))(m:Nat):Prop where
 tw:H tw=some (.tup [.ref sa,.ref wa])
 wa:H wa=some (.tup (ts.map fun t=>V.ref t.1))
 few:ts.length ≤ 5
 five:m ≤ 5
 row:∀ t ∈ ts,H t.1=some (.tup (t.2.map V.int))∧t.2.length=2 ^ m∧∀ x ∈ t.2,0 ≤ x∧x ≤ 10000
theorem Rows.same {H H':Hp}{tw sa wa:Addr}{ts:List (Addr × List Int)}{m:Nat}(R:Rows H tw sa wa ts m)(s:Same H H'):Rows H' tw sa wa ts m :=
 ⟨s _ _ R.tw,s _ _ R.wa,R.few,R.five,fun t ht=>⟨s _ _ (R.row t ht).1,(R.row t ht).2⟩⟩
def yH (b:Int)(ns ws:List Int):Int:=topI (kI (ws.map fun x=>b * x) ns)
def fL (ts:List (Addr × List Int))(b:Int)(ns:List Int):Int:=(ts.map fun t=>yH b ns t.2).sum + ns.sum
theorem oE:∀ (ns:List Int),(∀ x ∈ ns,0 ≤ x∧x ≤ 100000000000000)→∀ y ∈ kE ns,0 ≤ y∧y ≤ 100000000000000 * (ns.length:Int):=by
 intro ns
 generalize hn:ns.length=n
 induction n generalizing ns with
 | zero =>
  intro _ y hy
  rw [BN hn] at hy
  have:y=0:=by simpa [kE] using hy
  omega
 | succ n ih =>
  intro h y hy
  obtain ⟨ms,p,rfl⟩:∃ ms p,ns=ms ++ [p]:=by
   have hne:ns ≠ []:=by rintro rfl;simp at hn
   exact ⟨ns.dropLast,ns.getLast hne,(BQ hne).symm⟩
  have hml:ms.length=n:=by simpa using hn
  have ihm:=ih ms hml fun x hx=>h x (Bw _ hx)
  have hp:=h p (by simp)
  rw [vC] at hy
  rcases Av.mp hy with z | z
  ·have:=ihm y z
   omega
  ·obtain ⟨u,hu,rfl⟩:=Al.mp z
   have:=ihm u hu
   omega
theorem i4 {b:Int}{ns ws:List Int}(b0:0 ≤ b)(b1:b ≤ 1000000000)(n5:ns.length ≤ 5)(hn:∀ x ∈ ns,0 ≤ x∧x ≤ 100000000000000)(hw:∀ x ∈ ws,0 ≤ x∧x ≤ 10000):∀ y ∈ kI (ws.map fun x=>b * x) ns,-(2 ^ 50) ≤ y∧y ≤ 2 ^ 50:=by
 intro y hy
 unfold kI zw at hy
 obtain ⟨⟨u,c⟩,hq,rfl⟩:=Al.mp hy
 obtain ⟨h1,h2⟩:=C1 hq
 obtain ⟨x,hx,rfl⟩:=Al.mp h1
 have hc:=oE ns hn c h2
 have hx':=hw x hx
 have m0:0 ≤ b * x:=Cn b0 hx'.1
 have m1:b * x ≤ 1000000000 * 10000:=Int.mul_le_mul b1 hx'.2 hx'.1 (by decide)
 show -(2 ^ 50) ≤ b * x - c∧b * x - c ≤ 2 ^ 50
 have e:(2:Int) ^ 50=1125899906842624:=by decide
 omega
theorem great_abs {b:Int}{ns ws:List Int}(b0:0 ≤ b)(b1:b ≤ 1000000000)(n5:ns.length ≤ 5)(hn:∀ x ∈ ns,0 ≤ x∧x ≤ 100000000000000)(hw:∀ x ∈ ws,0 ≤ x∧x ≤ 10000) : -(2 ^ 50) ≤ yH b ns ws∧yH b ns ws ≤ 2 ^ 50:=by
 unfold yH topI
 cases e:(kI (ws.map fun x=>b * x) ns).max? with
 | none=>decide
 | some m=>exact i4 b0 b1 n5 hn hw m (List.max?_eq_some_iff.mp e).1
theorem sumFits_big {ns:List Int}(h:∀ n ∈ ns,-(2 ^ 50) ≤ n∧n ≤ 2 ^ 50)(hl:ns.length ≤ 1000):lB ns:=by
 have e:(2:Int) ^ 50=1125899906842624:=by decide
 rw [e] at h
 have key:∀ (l:List Int),(∀ n ∈ l,-1125899906842624 ≤ n∧n ≤ 1125899906842624)→-(1125899906842624 * (l.length:Int)) ≤ l.sum∧l.sum ≤ 1125899906842624 * (l.length:Int):=fun l=>by
  induction l with
  | nil=>intro _;simp
  | cons a l ih =>
   intro h
   have i:=ih fun n hn=>h n (Ap _ hn)
   have x:=h a (by simp)
   rw [B3,Bf]
   push_cast
   omega
 refine ⟨fun n hn=>?_,fun j hj=>?_⟩
 ·have:=h n hn
  have e2:(2:Int) ^ 62=4611686018427387904:=by decide
  omega
 ·have:=key (ns.take j) fun n hn=>h n (Bl hn)
  rw [An] at this
  have e3:(2:Int) ^ 63=9223372036854775808:=by decide
  unfold InLong
  omega
def bJ:Sp:=fun vs H Q _=>∃ (tw sa wa na:Addr) (ts:List (Addr × List Int)) (b:Int) (ns:List Int),vs=[.ref tw,.int b,.ref na]∧Rows H tw sa wa ts ns.length∧H na=some (.tup (ns.map V.int))∧(∀ x ∈ ns,0 ≤ x∧x ≤ 100000000000000)∧0 ≤ b∧b ≤ 1000000000∧∀ H',Same H H'→Q (.int (fL ts b ns)) H'
def SI (c na:Addr)(b:Int)(ns:List Int)(ts:List (Addr × List Int))(G:Hp)(i:Nat)(σ:St)(H:Hp):Prop:=∃ v:Option V,σ=[v,some (.int b),some (.ref na)]∧SameX c G H∧H c=some (.lst (((ts.take i).map fun t=>yH b ns t.2).map V.int))
theorem bQ:FnScope ["town", "by", "numbers"] ["town", "by", "numbers"] (qF s_surplus):=⟨rfl,rfl,rfl,by decide +kernel,rfl,by decide +kernel,by decide +kernel⟩
theorem ok_surplus (F:Fun K "surplus" "surplus" s_surplus f fd) (T:Txt mg) (c_in_parts:Cal P w K mg base "in_parts" ["want", "by"] 1 pW) (c_greatest_gain:Cal P w K mg base "greatest_gain" ["want", "prices"] 3 p0):FnOk P w K mg base CX0 4 f fd ["town", "by", "numbers"] bJ:=by
 refine F.ok bQ (fun vs H Q E h=>?_) (fun cdv A outer s H vs Q E hr h=>?_)
 ·obtain ⟨_,_,_,_,_,_,_,rfl,_⟩:=h;rfl
 ·obtain ⟨tw,sa,wa,na,ts,b,ns,rfl,R,hna,nb,b0,b1,q⟩:=h
  have sc:=bQ
  refine ⟨_,qI (qU (qV kW (qM (tD rfl) rfl T.sum_ dJ (qA (jI (N:=["want", "by", "numbers"]) (fr:=[none,some 1,some 2]) rfl (xE (q9 zF (pv 0) qG (fun _ _=>rfl))) (CScope.of rfl rfl rfl) rfl (fun _ _ _=>⟨qN (i:=0) (show List.Nodup (α:=Str) ["want", "by", "numbers"] by decide +kernel) rfl (Or.inl rfl),kN,qL c_greatest_gain hr (qA (qL c_in_parts hr (qA (pv 0) (qA (pv 1) qD))) (qA (pv 2) qD))⟩)) qD)) (qM (tD rfl) rfl T.sum_ dJ (qA (pv 2) qD)))),?_⟩
  rw [show L2.start ["town", "by", "numbers"] [.ref tw,.int b,.ref na] = [some (.ref tw),some (.int b),some (.ref na)] from rfl]
  have hstw:=qX R.tw
  have hwa:=R.wa
  have hswa:=qX R.wa
  (push_cast only [hstw,hswa,hwa])
  intro c nc
  have nwc:wa ≠ c:=qE R.wa nc
  have nnc:na ≠ c:=qE hna nc
  refine jS (SI c na b ns ts H) ⟨none,rfl,SameX.upd,qH⟩ (fun j σ H' _ ⟨_,_,s,_⟩=>s _ _ nwc R.wa) ?_ ?_
  ·rintro j x σ H1 hx ⟨v,rfl,s1,e1⟩
   rw [Af] at hx
   obtain ⟨t,ht,rfl⟩:=Ah.mp hx
   have hj:j < ts.length:=(Ae.mp ht).1
   obtain ⟨et,tl,tb⟩:=R.row t (Aq ht)
   have et1:=s1 _ _ (qE et nc) et
   have hp:=jA R.five
   have few:=R.few
   (push_cast only [])
   refine ⟨t.1,t.2,b,rfl,et1,b0,b1,by omega,fun u H2 nu s2 e2=>?_⟩
   have hna2:=s2 _ _ (s1 _ _ nnc hna)
   refine ⟨u,na,_,ns,rfl,e2,hna2,R.five,by rw [Aa];exact tl,fun g H3 s3 hg hgx=>?_⟩
   have eg:yH b ns t.2=g:=uU hg hgx
   have e3:=s3 _ _ (s2 _ _ e1)
   (push_cast only [e3])
   refine ⟨qO (by rw [An];omega),⟨_,rfl,(s1.trans (s2.trans s3).x).trans SameX.upd,?_⟩⟩
   rw [qH,Az,ht,← eg]
   simp
  ·rintro σ H1 ⟨v,rfl,s1,e1⟩
   rw [Aa,AF] at e1
   have S1:=s1.same nc
   have few:=R.few
   refine ⟨_,kD e1,sumFits_big (fun n hn=>?_) (by rw [Aa];omega),ns,qX (S1 _ _ hna),sumFits_big (fun n hn=>?_) (by have:=R.five;omega),q H1 S1⟩
   ·obtain ⟨t,ht,rfl⟩:=Al.mp hn
    exact great_abs b0 b1 R.five nb (R.row t ht).2.2
   ·have:=nb n hn
    have e:(2:Int) ^ 50=1125899906842624:=by decide
    omega
def mR:Sp:=fun vs H Q _=>∃ s:Int,vs=[.int s]∧Q (.int (if s=1 then -1 else 1)) H
theorem bU:FnScope ["side"] ["side"] (qF s_step_of):=⟨rfl,rfl,rfl,by decide +kernel,rfl,by decide +kernel,by decide +kernel⟩
theorem ok_stepof (F:Fun K "step_of" "step_of" s_step_of f fd) (hm:mg "step_of" = some (.ref f)) (hb:Binds K fd ["side"] []) (T:Txt mg):Cal P w K mg base "step_of" ["side"] 1 mR:=by
 refine q4 F hm hb bU (fun vs H Q E h=>?_) (fun cdv A outer s H vs Q E hr h=>?_)
 ·obtain ⟨_,rfl,_⟩:=h;rfl
 ·obtain ⟨x,rfl,q⟩:=h
  have sc:=bU
  refine ⟨_,qI (qU (d5 (q5 jW (pv 0) qG (qZ _)) (wJ vT qG) qG)),?_⟩
  rw [show L2.start ["side"] [.int x] = [some (.int x)] from rfl]
  by_cases e:x=1
  ·subst e
   (push_cast only [])
   exact q
  ·rw [Ax e] at q
   (push_cast only [e])
   exact q
def msk (h:Int):Nat:=(h % 32).toNat
theorem msk_nat {h:Nat}(hh:h < 32):msk (h:Int)=h:=by
 unfold msk
 omega
theorem msk_bit {h:Int}{t:Nat}(ht:t < 5):decide (h / 2 ^ (t:Int).toNat % 2=1)=qC (msk h) t:=by
 unfold qC msk
 rw [decide_eq_decide,Ay]
 have c:t=0∨t=1∨t=2∨t=3∨t=4:=by omega
 rcases c with z | z | z | z | z <;> subst z
 ·show h / 1 % 2=1 ↔ (h % 32).toNat / 1 % 2=1
  omega
 ·show h / 2 % 2=1 ↔ (h % 32).toNat / 2 % 2=1
  omega
 ·show h / 4 % 2=1 ↔ (h % 32).toNat / 4 % 2=1
  omega
 ·show h / 8 % 2=1 ↔ (h % 32).toNat / 8 % 2=1
  omega
 ·show h / 16 % 2=1 ↔ (h % 32).toNat / 16 % 2=1
  omega
def aE:Sp:=fun vs H Q _=>∃ (h:Int) (t:Nat),vs=[.int h,.int (t:Int)]∧t < 5∧Q (.bl (qC (msk h) t)) H
theorem ok_hasM (F:Fun K "has" "has" s_has f fd) (hm:mg "has" = some (.ref f)) (hb:Binds K fd ["heap", "thing"] []) (T:Txt mg):Cal P w K mg base "has" ["heap", "thing"] 1 aE:=by
 refine q4 F hm hb lF (fun vs H Q E h=>?_) (fun cdv A outer s H vs Q E hr h=>?_)
 ·obtain ⟨_,_,rfl,_⟩:=h;rfl
 ·obtain ⟨h,t,rfl,ht,q⟩:=h
  have sc:=lF
  refine ⟨_,qI (qU (jQ jW (qV cH (qV op_shr (pv 0) (pv 1)) qG) qG (qZ _))),?_⟩
  rw [show L2.start ["heap", "thing"] [.int h,.int (t:Int)] = [some (.int h),some (.int (t:Int))] from rfl]
  (push_cast only [])
  rw [PyProof.Rows.bitAnd_m1,msk_bit ht]
  exact ⟨by omega,q⟩
def sp_step:Sp:=fun vs H Q _=>∃ (a b:Addr) (ps:List Int) (F:Nat) (h:Int),vs=[.ref b,.ref a,.int h]∧H a=some (.tup (ps.map V.int))∧H b=some (.tup ((bitsL F ps.length).map V.int))∧ps.length ≤ 5∧∀ (t:Addr) (H':Hp),Same H H'→H' t=some (.tup ((qP ps F (msk h)).map V.int))→Q (.ref t) H'
def STI (c:Addr)(ps:List Int)(F:Nat)(h:Int)(G:Hp)(i:Nat)(σ:St)(H:Hp):Prop:=∃ v1 v2 v3:Option V,σ=[v1,v2,v3,some (.int h)]∧SameX c G H∧H c=some (.lst (((qP ps F (msk h)).take i).map V.int))
theorem bR:FnScope ["sides", "prices", "heap"] ["sides", "prices", "heap"] (qF s_stepped):=⟨rfl,rfl,rfl,by decide +kernel,rfl,by decide +kernel,by decide +kernel⟩
theorem ok_step (F:Fun K "stepped" "stepped" s_stepped f fd) (hm:mg "stepped" = some (.ref f)) (hb:Binds K fd ["sides", "prices", "heap"] []) (T:Txt mg) (c_has:Cal P w K mg base "has" ["heap", "thing"] 1 aE) (c_step_of:Cal P w K mg base "step_of" ["side"] 1 mR):Cal P w K mg base "stepped" ["sides", "prices", "heap"] 2 sp_step:=by
 refine q4 F hm hb bR (fun vs H Q E h=>?_) (fun cdv A outer s H vs Q E hr h=>?_)
 ·obtain ⟨_,_,_,_,_,rfl,_⟩:=h;rfl
 ·obtain ⟨a,b,ps,Fn,h,rfl,ha,hb',p5,q⟩:=h
  have sc:=bR
  refine ⟨_,qI (qU (kM zZ rfl T.tuple_ kL (qA (jI (N:=["thing", "side", "price", "heap"]) (fr:=[none,none,none,some 2]) rfl (pi_ez rfl T.enumerate_ rfl T.zip_ (qA (pv 0) (qA (pv 1) qD))) (CScope.of rfl rfl rfl) rfl (fun _ _ _=>⟨kU (n:=2) rfl (qT (qN (i:=0) (show List.Nodup (α:=Str) ["thing", "side", "price", "heap"] by decide +kernel) rfl (Or.inl rfl)) (qT (kU (n:=2) rfl (qT (qN (i:=1) (show List.Nodup (α:=Str) ["thing", "side", "price", "heap"] by decide +kernel) rfl (Or.inl rfl)) (qT (qN (i:=2) (show List.Nodup (α:=Str) ["thing", "side", "price", "heap"] by decide +kernel) rfl (Or.inl rfl)) kR))) kR)),kN,d5 (z8 (qL c_has hr (qA (pv 3) (qA (pv 0) qD)))) (qV kW (pv 2) (qL c_step_of hr (qA (pv 1) qD))) (pv 2)⟩)) qD))),?_⟩
  rw [show L2.start ["sides", "prices", "heap"] [.ref b,.ref a,.int h] = [some (.ref b),some (.ref a),some (.int h)] from rfl]
  (push_cast only [])
  refine ⟨_,_,_,.inr ⟨rfl,hb'⟩,_,.inr ⟨rfl,ha⟩,fun c nc=>?_⟩
  have nac:=qE ha nc
  have nbc:=qE hb' nc
  refine cl_ez (STI c ps Fn h H) ⟨none,none,none,rfl,SameX.upd,qH⟩ (fun i σ H2 ⟨_,_,_,_,s,_⟩=>⟨.inr ⟨rfl,s _ _ nbc hb'⟩,.inr ⟨rfl,s _ _ nac ha⟩⟩) ?_ ?_
  ·rintro i u v T1 T2 σ H1 H2 hu hv ⟨v1,v2,v3,rfl,s1,e1⟩ s2 eT1 eT2
   rw [Af] at hu hv
   obtain ⟨y,hy,rfl⟩:=Ah.mp hu
   obtain ⟨x,hx,rfl⟩:=Ah.mp hv
   have hi:i < ps.length:=(Ae.mp hx).1
   have hy':y=if qC Fn i=true then 1 else 0:=by
    have:=bits_at (F:=Fn) hi
    rw [Ab,hy] at this
    exact this
   have xg:ps.getD i 0=x:=by rw [Ab,hx];rfl
   have e12:=s2 _ _ e1
   have st:=step_at (F:=Fn) (hp:=msk h) hi
   rw [xg] at st
   have fin:∀ z:Int,z=(if qC (msk h) i=true then x + (if qC Fn i=true then -1 else 1) else x)→((qP ps Fn (msk h)).take i).length < sizeLine∧STI c ps Fn h H (i + 1) [some (.int (i:Int)),some (.int y),some (.int x),some (.int h)] (upd H2 c (.lst (((qP ps Fn (msk h)).take i).map V.int ++ [V.int z]))):=fun z hz=>⟨qO (by rw [An];omega),_,_,_,rfl,(s1.trans s2.x).trans SameX.upd,by rw [qH,Az,st,hz,A8];rfl⟩
   (push_cast only [eT1,eT2])
   refine ⟨h,i,rfl,by omega,?_⟩
   cases e:qC (msk h) i
   ·rw [e] at fin
    (push_cast only [e12])
    exact fin _ rfl
   ·rw [e] at fin
    (push_cast only [])
    refine ⟨y,rfl,?_⟩
    (push_cast only [e12])
    refine fin _ ?_
    rw [Au rfl,hy']
    cases qC Fn i <;> rfl
  ·rintro σ H1 ⟨v1,v2,v3,rfl,s1,e1⟩
   rw [Aa,Aa,bits_len,CG,AB (by rw [kP];exact Ad _)] at e1
   exact ⟨_,e1,fun l H2 _ s2 e2=>q l H2 ((s1.same nc).trans s2) e2⟩
theorem lR {ws ns:List Int}(n5:ns.length ≤ 5)(wl:ws.length=2 ^ ns.length){h:Nat}(hh:h < 2 ^ ns.length):(kI ws ns).getD h 0=dM ws ns h:=by
 have p32:=jA n5
 unfold kI dM
 have hw:ws[h]? = some (ws.getD h 0):=by rw [Ab,Ag (by omega)];rfl
 rw [Ab,oK hw (dH _ ns rfl n5 h hh),← uI (ws:=ns) (h:=h) (by omega) _ n5]
 rfl
theorem top_vmax {ws ns:List Int}(n5:ns.length ≤ 5)(wl:ws.length=2 ^ ns.length):jP ws ns ∈ kI ws ns∧∀ x ∈ kI ws ns,x ≤ jP ws ns:=by
 have p32:=jA n5
 have gl:=vB wl
 obtain ⟨k,k1,k2⟩:=dC (dM ws ns) (2 ^ ns.length - 1)
 refine ⟨?_,fun x hx=>?_⟩
 ·have e:jP ws ns=(kI ws ns).getD k 0:=by rw [lR n5 wl (by omega)];exact k2
  rw [e,Ab,Ag (by omega)]
  exact AK _
 ·obtain ⟨j,hj,rfl⟩:=List.getElem_of_mem hx
  have e:=lR n5 wl (h:=j) (by omega)
  rw [Ab,Ag hj] at e
  have:=dE (dM ws ns) (show j ≤ 2 ^ ns.length - 1 by omega)
  show (kI ws ns)[j] ≤ mxf _ _
  rw [← e] at this
  exact this
theorem great_is {ws ns:List Int}(n5:ns.length ≤ 5)(wl:ws.length=2 ^ ns.length):yH 1 ns ws=jP ws ns:=by
 have m1:(ws.map fun x=>1 * x)=ws:=by
  refine (List.map_congr_left (g:=id) fun x _=>Cy x).trans ?_
  simp
 obtain ⟨a,b⟩:=top_vmax n5 wl
 unfold yH
 rw [m1]
 exact uU a b
theorem surp_is {ts:List (Addr × List Int)}{ns:List Int}(n5:ns.length ≤ 5)(wl:∀ t ∈ ts,t.2.length=2 ^ ns.length):fL ts 1 ns=kK (ts.map fun t=>t.2) ns:=by
 unfold fL kK
 congr 1
 rw [AV]
 congr 1
 refine List.map_congr_left fun t ht=>?_
 exact great_is n5 (wl t ht)
def dA (F:Nat)(ps:List Int)(n:Nat):List Nat:=(List.range n).filter fun t=>qC F t && decide (ps.getD t 0=0)
theorem fZ (F:Nat)(ps:List Int)(n:Nat):dA F ps (n + 1)=dA F ps n ++ if qC F n=true∧ps.getD n 0=0 then [n] else []:=by
 unfold dA
 rw [Bt,B2]
 congr 1
 by_cases z:qC F n=true∧ps.getD n 0=0
 ·rw [Au z]
  have:(qC F n && decide (ps.getD n 0=0))=true:=by rw [z.1,A2 z.2];rfl
  simp only [List.filter,this]
 ·rw [Ax z]
  have:(qC F n && decide (ps.getD n 0=0))=false:=by
   cases h:qC F n
   ·rfl
   ·rw [Ai (fun y=>z ⟨h,y⟩)];rfl
  simp only [List.filter,this]
theorem bG (F:Nat)(ps:List Int)(n:Nat):(dA F ps n).length ≤ n:=AG (Bi _ _) (by simp)
theorem bF (F:Nat)(ps:List Int):∀ n,((dA F ps n).map fun t:Nat=>(2:Int) ^ t).sum=((zE F ps n:Nat):Int)
 | 0=>rfl
 | n + 1=>by
  rw [fZ,A8,Ci,bF F ps n]
  show _=((zE F ps n + (if qC F n=true∧ps.getD n 0=0 then 2 ^ n else 0):Nat):Int)
  split
  ·simp
  ·simp
def mayN (F:Nat)(ps:List Int)(n:Nat):List Nat:=(List.range n).filter (fI F ps)
theorem mayN_succ (F:Nat)(ps:List Int)(n:Nat):mayN F ps (n + 1)=mayN F ps n ++ if fI F ps n=true then [n] else []:=by
 unfold mayN
 rw [Bt,B2]
 congr 1
 cases h:fI F ps n <;> simp [h]
theorem mayN_len (F:Nat)(ps:List Int)(n:Nat):(mayN F ps n).length ≤ n:=AG (Bi _ _) (by simp)
def tE:Sp:=fun vs H Q _=>∃ (a b:Addr) (ps:List Int) (F:Nat),vs=[.ref b,.ref a]∧H a=some (.tup (ps.map V.int))∧H b=some (.tup ((bitsL F ps.length).map V.int))∧ps.length ≤ 5∧∀ (l:Addr) (H':Hp),H l=none→Same H H'→H' l=some (.lst (natI (mayN F ps (2 ^ ps.length))))→Q (.ref l) H'
def MYI (c:Addr)(ps:List Int)(F:Nat)(G:Hp)(i:Nat)(σ:St)(H:Hp):Prop:=∃ v1 v2 v3:Option V,σ=[v1,v2,v3]∧SameX c G H∧H c=some (.lst (natI (dA F ps i)))
def MYJ (c:Addr)(ps:List Int)(F:Nat)(G:Hp)(i:Nat)(σ:St)(H:Hp):Prop:=∃ v:Option V,σ=[v,some (.int ((zE F ps ps.length:Nat):Int))]∧SameX c G H∧H c=some (.lst (natI (mayN F ps i)))
theorem yD:FnScope ["sides", "prices", "stuck"] ["sides", "prices"] (qF s_heaps_that_may):=⟨rfl,rfl,rfl,by decide +kernel,rfl,by decide +kernel,by decide +kernel⟩
theorem ok_may (F:Fun K "heaps_that_may" "heaps_that_may" s_heaps_that_may f fd) (hm:mg "heaps_that_may" = some (.ref f)) (hb:Binds K fd ["sides", "prices"] []) (T:Txt mg) (c_heap_of:Cal P w K mg base "heap_of" ["things"] 1 lD):Cal P w K mg base "heaps_that_may" ["sides", "prices"] 2 tE:=by
 refine q4 F hm hb yD (fun vs H Q E h=>?_) (fun cdv A outer s H vs Q E hr h=>?_)
 ·obtain ⟨_,_,_,_,rfl,_⟩:=h;rfl
 ·obtain ⟨a,b,ps,Fn,rfl,ha,hb',p5,q⟩:=h
  have sc:=yD
  have p32:=jA p5
  have stl:=vV Fn ps ps.length
  refine ⟨_,qJ (qY (i:=2) sc.nd rfl (Or.inr rfl) (qL c_heap_of hr (qA (jI (N:=["thing", "side", "price"]) (fr:=[none,none,none]) rfl (pi_ez rfl T.enumerate_ rfl T.zip_ (qA (pv 0) (qA (pv 1) qD))) (CScope.of rfl rfl rfl) rfl (fun _ _ _=>⟨kU (n:=2) rfl (qT (qN (i:=0) (show List.Nodup (α:=Str) ["thing", "side", "price"] by decide +kernel) rfl (Or.inl rfl)) (qT (kU (n:=2) rfl (qT (qN (i:=1) (show List.Nodup (α:=Str) ["thing", "side", "price"] by decide +kernel) rfl (Or.inl rfl)) (qT (qN (i:=2) (show List.Nodup (α:=Str) ["thing", "side", "price"] by decide +kernel) rfl (Or.inl rfl)) kR))) kR)),zS (PW.pt (yR (q5 jW (pv 1) qG (qZ _)) (xO (q5 jW (pv 2) qG (qZ _))))),pv 0⟩)) qD)))
   (qI (qU (jI (N:=["heap", "stuck"]) (fr:=[none,some 2]) rfl (jD rfl T.range_ (qA (qV tP qG (qM len0 rfl T.len_ kX (qA (pv 0) qD))) qD)) (CScope.of rfl rfl rfl) rfl (fun _ _ _=>⟨qN (i:=0) (show List.Nodup (α:=Str) ["heap", "stuck"] by decide +kernel) rfl (Or.inl rfl),zS (q5 jW (qV cH (pv 0) (pv 1)) qG (qZ _)),pv 0⟩)))),?_⟩
  rw [show L2.start ["sides", "prices", "stuck"] [.ref b,.ref a] = [some (.ref b),some (.ref a),none] from rfl]
  (push_cast only [])
  refine ⟨_,_,_,.inr ⟨rfl,hb'⟩,_,.inr ⟨rfl,ha⟩,fun c nc=>?_⟩
  have nac:=qE ha nc
  have nbc:=qE hb' nc
  refine cl_ez (MYI c ps Fn H) ⟨none,none,none,rfl,SameX.upd,qH⟩ (fun i σ H2 ⟨_,_,_,_,s,_⟩=>⟨.inr ⟨rfl,s _ _ nbc hb'⟩,.inr ⟨rfl,s _ _ nac ha⟩⟩) ?_ ?_
  ·rintro i u v T1 T2 σ H1 H2 hu hv ⟨v1,v2,v3,rfl,s1,e1⟩ s2 eT1 eT2
   rw [Af] at hu hv
   obtain ⟨y,hy,rfl⟩:=Ah.mp hu
   obtain ⟨x,hx,rfl⟩:=Ah.mp hv
   have hi:i < ps.length:=(Ae.mp hx).1
   have hy':y=if qC Fn i=true then 1 else 0:=by
    have:=bits_at (F:=Fn) hi
    rw [Ab,hy] at this
    exact this
   have xg:ps.getD i 0=x:=by rw [Ab,hx];rfl
   have e12:=s2 _ _ e1
   have sl:=bG Fn ps i
   have nx:=fZ Fn ps i
   rw [xg] at nx
   (push_cast only [eT1,eT2])
   cases e:qC Fn i with
   | false =>
    rw [e] at hy' nx
    rw [Ax (by decide)] at hy'
    rw [Ax (fun z=>by cases z.1),Bm] at nx
    subst hy'
    rw [Ax (by decide)]
    exact ⟨_,_,_,rfl,s1.trans s2.x,by rw [nx];exact e12⟩
   | true =>
    rw [e] at hy' nx
    rw [Au rfl] at hy'
    subst hy'
    rw [Au rfl]
    by_cases z:x=0
    ·rw [Au ⟨rfl,z⟩] at nx
     rw [Au z]
     refine ⟨_,e12,qO (by unfold natI;rw [Aa];omega),⟨_,_,_,rfl,(s1.trans s2.x).trans SameX.upd,?_⟩⟩
     rw [qH,nx]
     unfold natI
     simp
    ·rw [Ax (fun y=>z y.2),Bm] at nx
     rw [Ax z]
     exact ⟨_,_,_,rfl,s1.trans s2.x,by rw [nx];exact e12⟩
  ·rintro σ H1 ⟨v1,v2,v3,rfl,s1,e1⟩
   rw [Aa,Aa,bits_len,CG] at e1
   have S1:=s1.same nc
   have sl:=bG Fn ps ps.length
   have hb1:=S1 _ _ hb'
   have hsb:=qX hb1
   refine ⟨c,dA Fn ps ps.length,rfl,e1,by omega,fun t ht=>?_,fun H2 s2=>?_⟩
   ·have:=AU.mp (Bn.mp ht).1
    omega
   rw [bF]
   have hsb2:=qX (s2 _ _ hb1)
   (push_cast only [])
   (simp only [qK])
   (push_cast only [hsb2])
   rw [bits_len,hpow]
   refine ⟨⟨by omega,by omega,by decide⟩,by omega,by omega,fun d nd=>?_⟩
   refine yA (MYJ d ps Fn H2) ⟨none,rfl,SameX.upd,qH⟩ ?_ ?_
   ·rintro i σ H3 hi ⟨v,rfl,s3,e3⟩
    rw [Ay] at hi
    have ml:=mayN_len Fn ps i
    (push_cast only [])
    rw [fH (show i < 32 by omega) (show zE Fn ps ps.length < 32 by omega)]
    have nx:=mayN_succ Fn ps i
    by_cases z:i &&& zE Fn ps ps.length=0
    ·have al:fI Fn ps i=true:=by unfold fI;exact A2 z
     rw [Au al] at nx
     rw [Au (by simpa using z)]
     (push_cast only [e3])
     refine ⟨qO (by unfold natI;rw [Aa];omega),⟨_,rfl,s3.trans SameX.upd,?_⟩⟩
     rw [qH,nx]
     unfold natI
     simp
    ·have al:fI Fn ps i=false:=by unfold fI;exact Ai z
     rw [al,Ax (by decide),Bm] at nx
     rw [Ax (by simpa using z)]
     exact ⟨_,rfl,s3,by rw [nx];exact e3⟩
   ·rintro σ H3 ⟨v,rfl,s3,e3⟩
    rw [Ay] at e3
    exact q d H3 (jG (S1.trans s2) nd) ((S1.trans s2).trans (s3.same nd)) e3
end
end S
end K60
end
section
namespace K60
namespace S
open PySem L2
section
variable {P:Program}{w:World}{K:PySem.W.Frag}{mg:Str→Option Value}{base:Heap}{f:Addr}{fd:FuncData}
structure Tn (H:Hp)(tw sa wa:Addr)(ts:List (Addr × List Int))(m F:Nat):Prop where
 R:Rows H tw sa wa ts m
 sa:H sa=some (.tup ((bitsL F m).map V.int))
 hF:F < 2 ^ m
 kd:Kinds (ts.map fun t=>t.2) m F
 ne:ts ≠ []
theorem Tn.same {H H':Hp}{tw sa wa:Addr}{ts:List (Addr × List Int)}{m F:Nat}(R:Tn H tw sa wa ts m F)(s:Same H H'):Tn H' tw sa wa ts m F:=⟨R.R.same s,s _ _ R.sa,R.hF,R.kd,R.ne⟩
theorem pair_ge {w h a b:Int}(z:HT.lexLt (jE [Ky.i a,Ky.i b]) (jE [Ky.i w,Ky.i h])=false):w < a∨(w=a∧h ≤ b):=by
 have e1:jE [Ky.i w,Ky.i h] = [w,h]:=rfl
 have e2:jE [Ky.i a,Ky.i b] = [a,b]:=rfl
 rw [e1,e2,HT.lexLt_cons] at z
 by_cases e:a=w
 ·rw [Au e,HT.lexLt_cons] at z
  by_cases e':b=h
  ·exact .inr ⟨e.symm,by omega⟩
  ·rw [Ax e'] at z
   have:=of_decide_eq_false z
   exact .inr ⟨e.symm,by omega⟩
 ·rw [Ax e] at z
  have:=of_decide_eq_false z
  exact .inl (by omega)
def R2 (H:Hp)(rs:List (Addr × Int × Int)):Prop:=∀ r ∈ rs,H r.1=some (.tup [.int r.2.1,.int r.2.2])
theorem R2.k {H:Hp}{rs:List (Addr × Int × Int)}(R:R2 H rs):RowsK H (rs.map fun r=>(r.1,[Ky.i r.2.1,Ky.i r.2.2])):=by
 refine ⟨fun r hr=>?_,[none,none],fun r hr=>?_⟩
 ·obtain ⟨r',hr',rfl⟩:=Al.mp hr
  refine ⟨R r' hr',fun k hk=>?_⟩
  have:k = .i r'.2.1∨k = .i r'.2.2:=by simpa using hk
  rcases this with rfl | rfl <;> trivial
 ·obtain ⟨r',hr',rfl⟩:=Al.mp hr
  rfl
theorem R2.least {rs:List (Addr × Int × Int)}{m:Addr × List Ky}(hm:m ∈ rs.map fun r=>(r.1,[Ky.i r.2.1,Ky.i r.2.2]))(hmin:∀ r ∈ rs.map (fun r=>(r.1,[Ky.i r.2.1,Ky.i r.2.2])),HT.lexLt (jE r.2) (jE m.2)=false):∃ r ∈ rs,m=(r.1,[Ky.i r.2.1,Ky.i r.2.2])∧∀ r' ∈ rs,r.2.1 < r'.2.1∨(r.2.1=r'.2.1∧r.2.2 ≤ r'.2.2):=by
 obtain ⟨r,hr,rfl⟩:=Al.mp hm
 exact ⟨r,hr,rfl,fun r' hr'=>pair_ge (hmin _ (Al.mpr ⟨r',hr',rfl⟩))⟩
def aD:Sp:=fun vs H Q _=>∃ (tw sa wa na:Addr) (ts:List (Addr × List Int)) (ps:List Int) (F:Nat),vs=[.ref tw,.ref na]∧Tn H tw sa wa ts ps.length F∧H na=some (.tup (ps.map V.int))∧(∀ x ∈ ps,0 ≤ x∧x ≤ 100000)∧∀ H',Same H H'→Q (.int ((yC (ts.map fun t=>t.2) F ps:Nat):Int)) H'
def NXI (tw sa na c:Addr)(ts:List (List Int))(ps:List Int)(F:Nat)(G:Hp)(i:Nat)(σ:St)(H:Hp):Prop:=∃ (v:Option V) (rs:List (Addr × Int × Int)),σ=[v,some (.ref tw),some (.ref sa),some (.ref na)]∧(rs.map fun r=>r.2)=((mayN F ps (2 ^ ps.length)).take i).map (fun X:Nat=>(kK ts (qP ps F X),(X:Int)))∧R2 H rs∧SameX c G H∧H c=some (.lst (rs.map fun r=>V.ref r.1))
theorem mayN_mem {F:Nat}{ps:List Int}{n X:Nat}:X ∈ mayN F ps n ↔ X < n∧fI F ps X=true:=by
 unfold mayN
 rw [Bn,AU]
theorem dR:FnScope ["town", "prices", "sides"] ["town", "prices"] (qF s_next_step):=⟨rfl,rfl,rfl,by decide +kernel,rfl,by decide +kernel,by decide +kernel⟩
theorem ok_next (F:Fun K "next_step" "next_step" s_next_step f fd) (hm:mg "next_step" = some (.ref f)) (hb:Binds K fd ["town", "prices"] []) (T:Txt mg) (c_surplus:Cal P w K mg base "surplus" ["town", "by", "numbers"] 4 bJ) (c_stepped:Cal P w K mg base "stepped" ["sides", "prices", "heap"] 2 sp_step) (c_heaps_that_may:Cal P w K mg base "heaps_that_may" ["sides", "prices"] 2 tE):Cal P w K mg base "next_step" ["town", "prices"] 5 aD:=by
 refine q4 F hm hb dR (fun vs H Q E h=>?_) (fun cdv A outer s H vs Q E hr h=>?_)
 ·obtain ⟨_,_,_,_,_,_,_,rfl,_⟩:=h;rfl
 ·obtain ⟨tw,sa,wa,na,ts,ps,Fn,rfl,TN,hna,nb,q⟩:=h
  have sc:=dR
  have p5:=TN.R.five
  have p32:=jA p5
  have htw:=qX TN.R.tw
  have i0:∀ x y:V,xH [x,y] 0=some x:=fun _ _=>rfl
  refine ⟨_,qJ (qY (i:=2) sc.nd rfl (Or.inr rfl) (q9 zF (pv 0) qG (fun _ _=>rfl)))
   (qI (qU (q9 zF (qM (minP0 rfl (hu128 hr)) rfl T.min_ uJ (qA (jI (N:=["heap", "town", "sides", "prices"]) (fr:=[none,some 0,some 2,some 1]) rfl (yG (qL c_heaps_that_may hr (qA (pv 2) (qA (pv 1) qD)))) (CScope.of rfl rfl rfl) rfl (fun _ _ _=>⟨qN (i:=0) (show List.Nodup (α:=Str) ["heap", "town", "sides", "prices"] by decide +kernel) rfl (Or.inl rfl),kN,jK (qA (qL c_surplus hr (qA (pv 1) (qA qG (qA (qL c_stepped hr (qA (pv 2) (qA (pv 3) (qA (pv 0) qD)))) qD)))) (qA (pv 0) qD))⟩)) qD)) qG (fun _ _=>rfl)))),?_⟩
  rw [show L2.start ["town", "prices", "sides"] [.ref tw,.ref na] = [some (.ref tw),some (.ref na),none] from rfl]
  (push_cast only [htw,i0])
  (simp only [qK])
  (push_cast only [])
  refine ⟨na,sa,ps,Fn,rfl,hna,TN.sa,p5,fun l H1 n1 s1 e1=>?_⟩
  (push_cast only [e1])
  intro c nc
  have nlc:l ≠ c:=qE e1 nc
  have TN1:=TN.same s1
  have na1:=s1 _ _ hna
  refine jS (NXI tw sa na c (ts.map fun t=>t.2) ps Fn H1) ⟨none,[],rfl,rfl,(fun _ z=>by cases z),SameX.upd,qH⟩ (fun j σ H' _ ⟨_,_,_,_,_,s,_⟩=>s _ _ nlc e1) ?_ ?_
  ·rintro i x σ H2 hx ⟨v,rs,rfl,re,rr,s2,e2⟩
   unfold natI at hx
   rw [Af] at hx
   obtain ⟨X,hX,rfl⟩:=Ah.mp hx
   obtain ⟨xl,xa⟩:=mayN_mem.mp (Aq hX)
   have hi:i < (mayN Fn ps (2 ^ ps.length)).length:=(Ae.mp hX).1
   have ml:=mayN_len Fn ps (2 ^ ps.length)
   have na2:=s2 _ _ (qE na1 nc) na1
   have sa2:=s2 _ _ (qE TN1.sa nc) TN1.sa
   (push_cast only [])
   refine ⟨na,sa,ps,Fn,(X:Int),rfl,na2,sa2,p5,fun t H3 s3 e3=>?_⟩
   rw [msk_nat (by omega)] at e3
   (push_cast only [])
   have c2:=s3 _ _ e2
   have st:∀ {b:Addr} {o:HO},H1 b=some o→H3 b=some o:=fun {b o} e=>s3 _ _ (s2 _ _ (qE e nc) e)
   have wl:∀ t ∈ ts,t.2.length=2 ^ ps.length:=fun t ht=>(TN.R.row t ht).2.1
   have nn:=wO p5 xl xa (fun x hx=>(nb x hx).1)
   have up:=dP (F:=Fn) (X:=X) (c:=100000) (fun x hx=>(nb x hx).2)
   refine ⟨tw,sa,wa,t,ts,1,qP ps Fn X,rfl,?_,e3,fun x hx=>⟨nn x hx,by have:=up x hx;omega⟩,by decide,by decide,fun H4 s4=>⟨by decide,fun p H5 np s5 e5=>?_⟩⟩
   ·rw [kP]
    exact ⟨st TN1.R.tw,st TN1.R.wa,TN1.R.few,p5,fun t ht=>⟨st (TN1.R.row t ht).1,(TN1.R.row t ht).2⟩⟩
   ·rw [surp_is (by rw [kP];exact p5) (by rw [kP];exact wl)] at e5
    have c5:=s5 _ _ (s4 _ _ c2)
    have rl:rs.length=i:=by
     have:=AW List.length re
     rw [Aa,Aa,An] at this
     omega
    refine ⟨_,c5,qO (by rw [Aa];omega),⟨_,rs ++ [(p,kK (ts.map fun t=>t.2) (qP ps Fn X),(X:Int))],rfl,?_,fun r hr=>?_,(s2.trans ((s3.trans s4).trans s5).x).trans SameX.upd,by rw [qH];simp⟩⟩
    ·rw [A8,re,Az,hX]
     simp
    ·have ne:∀ {b:Addr} {L:List V},H5 b=some (.tup L)→b ≠ c:=fun h z=>by rw [z,c5] at h;cases h
     rcases Av.mp hr with z | z
     ·have h:=s5 _ _ (s4 _ _ (s3 _ _ (rr r z)))
      rw [qS (ne h)]
      exact h
     ·rw [A4.mp z]
      rw [qS (ne e5)]
      exact e5
  ·rintro σ H2 ⟨v,rs,rfl,re,rr,s2,e2⟩
   unfold natI at re
   rw [Aa,AF] at re
   (push_cast only [])
   have hne:rs ≠ []:=by
    intro z
    rw [z,CF] at re
    have:=mayN_mem.mpr ⟨p32.2,vE Fn ps⟩
    rw [List.map_eq_nil_iff.mp re.symm] at this
    cases this
   refine ⟨rs.map fun r=>(r.1,[Ky.i r.2.1,Ky.i r.2.2]),by rw [kD e2,AV];rfl,R2.k rr,by simpa using hne,fun m hm hmin=>?_⟩
   obtain ⟨r,hr',rfl,lst⟩:=R2.least hm hmin
   refine ⟨_,qX (rr r hr'),_,rfl,?_⟩
   have in1:r.2 ∈ (mayN Fn ps (2 ^ ps.length)).map fun X:Nat=>(kK (ts.map fun t=>t.2) (qP ps Fn X),(X:Int)):=by rw [← re];exact Al.mpr ⟨r,hr',rfl⟩
   obtain ⟨X,hX,ex⟩:=Al.mp in1
   obtain ⟨xl,xa⟩:=mayN_mem.mp hX
   have x1:r.2.1=kK (ts.map fun t=>t.2) (qP ps Fn X):=by rw [← ex]
   have x2:r.2.2=(X:Int):=by rw [← ex]
   have un:=oA (s:=fun X=>kK (ts.map fun t=>t.2) (qP ps Fn X)) (vE Fn ps) p32.2 xl xa (fun Y hY aY=>by
    have in2:(kK (ts.map fun t=>t.2) (qP ps Fn Y),(Y:Int)) ∈ rs.map fun r=>r.2:=by rw [re];exact Al.mpr ⟨Y,mayN_mem.mpr ⟨hY,aY⟩,rfl⟩
    obtain ⟨r',h',e'⟩:=Al.mp in2
    have y1:r'.2.1=kK (ts.map fun t=>t.2) (qP ps Fn Y):=by rw [e']
    have y2:r'.2.2=(Y:Int):=by rw [e']
    have:=lst r' h'
    show kK (ts.map fun t=>t.2) (qP ps Fn X) < kK (ts.map fun t=>t.2) (qP ps Fn Y)∨kK (ts.map fun t=>t.2) (qP ps Fn X)=kK (ts.map fun t=>t.2) (qP ps Fn Y)∧X ≤ Y
    omega)
   rw [x2]
   have:=q H2 (s1.trans (s2.same nc))
   unfold yC at this
   rw [← un] at this
   exact this
def mW:Sp:=fun vs H Q _=>∃ (tw sa wa na:Addr) (ts:List (Addr × List Int)) (ps:List Int) (F:Nat),vs=[.ref tw,.ref na]∧Tn H tw sa wa ts ps.length F∧H na=some (.tup (ps.map V.int))∧∀ (g l1 l2:Addr) (rs:List (Addr × List Int)) (H':Hp),H l1=none→H l2=none→Same H H'→H' g=some (.tup [.ref l1,.ref l2])→H' l1=some (.lst (natI (mayN F ps (2 ^ ps.length))))→H' l2=some (.lst (rs.map fun r=>V.ref r.1))→(∀ r ∈ rs,H' r.1=some (.tup (r.2.map V.int)))→(rs.map fun r=>r.2)=ts.map (fun t=>dG (kI t.2 ps) (jP t.2 ps) (kI t.2 ps).length)→Q (.ref g) H'
def GRI (na c:Addr)(ts:List (Addr × List Int))(ps:List Int)(G:Hp)(i:Nat)(σ:St)(H:Hp):Prop:=∃ (v:Option V) (rs:List (Addr × List Int)),σ=[v,some (.ref na)]∧(rs.map fun r=>r.2)=(ts.take i).map (fun t=>dG (kI t.2 ps) (jP t.2 ps) (kI t.2 ps).length)∧(∀ r ∈ rs,H r.1=some (.tup (r.2.map V.int)))∧SameX c G H∧H c=some (.lst (rs.map fun r=>V.ref r.1))
theorem dS:FnScope ["town", "prices", "sides", "wants"] ["town", "prices"] (qF s_ground_of):=⟨rfl,rfl,rfl,by decide +kernel,rfl,by decide +kernel,by decide +kernel⟩
theorem ok_ground (F:Fun K "ground_of" "ground_of" s_ground_of f fd) (hm:mg "ground_of" = some (.ref f)) (hb:Binds K fd ["town", "prices"] []) (T:Txt mg) (c_heaps_that_may:Cal P w K mg base "heaps_that_may" ["sides", "prices"] 2 tE) (c_best_heaps:Cal P w K mg base "best_heaps" ["want", "prices"] 3 aF):Cal P w K mg base "ground_of" ["town", "prices"] 4 mW:=by
 refine q4 F hm hb dS (fun vs H Q E h=>?_) (fun cdv A outer s H vs Q E hr h=>?_)
 ·obtain ⟨_,_,_,_,_,_,_,rfl,_⟩:=h;rfl
 ·obtain ⟨tw,sa,wa,na,ts,ps,Fn,rfl,TN,hna,q⟩:=h
  have sc:=dS
  have p5:=TN.R.five
  have few:=TN.R.few
  have p32:=jA p5
  have htw:=TN.R.tw
  refine ⟨_,qJ (xP (pv 0) (kU (n:=2) rfl (qT (qN (i:=2) sc.nd rfl (Or.inl rfl)) (qT (qN (i:=3) sc.nd rfl (Or.inl rfl)) kR))))
   (qI (qU (jK (qA (qL c_heaps_that_may hr (qA (pv 2) (qA (pv 1) qD))) (qA (jI (N:=["want", "prices"]) (fr:=[none,some 1]) rfl (xE (pv 3)) (CScope.of rfl rfl rfl) rfl (fun _ _ _=>⟨qN (i:=0) (show List.Nodup (α:=Str) ["want", "prices"] by decide +kernel) rfl (Or.inl rfl),kN,qL c_best_heaps hr (qA (pv 0) (qA (pv 1) qD))⟩)) qD))))),?_⟩
  rw [show L2.start ["town", "prices", "sides", "wants"] [.ref tw,.ref na] = [some (.ref tw),some (.ref na),none,none] from rfl]
  (push_cast only [htw])
  (simp only [qK])
  (push_cast only [])
  refine ⟨na,sa,ps,Fn,rfl,hna,TN.sa,p5,fun l H1 n1 s1 e1=>?_⟩
  have TN1:=TN.same s1
  have na1:=s1 _ _ hna
  have wa1:=TN1.R.wa
  (push_cast only [wa1])
  intro c nc
  have nwc:wa ≠ c:=qE wa1 nc
  have nnc:na ≠ c:=qE na1 nc
  have nlc:l ≠ c:=qE e1 nc
  refine jS (GRI na c ts ps H1) ⟨none,[],rfl,rfl,(fun _ z=>by cases z),SameX.upd,qH⟩ (fun j σ H' _ ⟨_,_,_,_,_,s,_⟩=>s _ _ nwc wa1) ?_ ?_
  ·rintro i x σ H2 hx ⟨v,rs,rfl,re,rr,s2,e2⟩
   rw [Af] at hx
   obtain ⟨t,ht,rfl⟩:=Ah.mp hx
   have hi:i < ts.length:=(Ae.mp ht).1
   obtain ⟨et,tl,tb⟩:=TN1.R.row t (Aq ht)
   obtain ⟨v1,v2⟩:=top_vmax p5 tl
   have et2:=s2 _ _ (qE et nc) et
   (push_cast only [])
   refine ⟨t.1,na,t.2,ps,jP t.2 ps,rfl,et2,s2 _ _ nnc na1,p5,tl,v1,v2,fun u H3 n3 s3 e3=>?_⟩
   have c3:=s3 _ _ e2
   have rl:rs.length=i:=by
    have:=AW List.length re
    rw [Aa,Aa,An] at this
    omega
   (push_cast only [c3])
   refine ⟨qO (by omega),⟨_,rs ++ [(u,dG (kI t.2 ps) (jP t.2 ps) (kI t.2 ps).length)],rfl,?_,fun r hr=>?_,(s2.trans s3.x).trans SameX.upd,by rw [qH];simp⟩⟩
   ·rw [A8,re,Az,ht]
    simp
   ·have ne:∀ {b:Addr} {L:List V},H3 b=some (.tup L)→b ≠ c:=fun h z=>by rw [z,c3] at h;cases h
    rcases Av.mp hr with z | z
    ·have h:=s3 _ _ (rr r z)
     rw [qS (ne h)]
     exact h
    ·rw [A4.mp z]
     rw [qS (ne e3)]
     exact e3
  ·rintro σ H2 ⟨v,rs,rfl,re,rr,s2,e2⟩
   rw [Aa,AF] at re
   have S2:=s1.trans (s2.same nc)
   (push_cast only [])
   refine ⟨by decide,fun g H3 n3 s3 e3=>?_⟩
   exact q g l c rs H3 n1 (jG s1 nc) (S2.trans s3) e3 (s3 _ _ (s2 _ _ nlc e1)) (s3 _ _ e2) (fun r hr=>s3 _ _ (rr r hr)) re
end
end S
end K60
end
section
namespace K60
namespace S
open PySem L2
section
variable {P:Program}{w:World}{K:PySem.W.Frag}{mg:Str→Option Value}{base:Heap}{f:Addr}{fd:FuncData}
def firstL (F m:Nat)(top:Int):List Int:=(List.range m).map fun t=>if qC F t=true then top else 0
theorem first_len (F m:Nat)(top:Int):(firstL F m top).length=m:=by unfold firstL;simp
theorem first_mem {F m:Nat}{top x:Int}(h:x ∈ firstL F m top):x=top∨x=0:=by
 unfold firstL at h
 obtain ⟨t,_,rfl⟩:=Al.mp h
 split
 ·exact .inl rfl
 ·exact .inr rfl
def IsTop (ts:List (List Int))(m:Nat)(x:Int):Prop:=(∃ ws ∈ ts,ws.getD (2 ^ m - 1) 0=x)∧∀ ws ∈ ts,ws.getD (2 ^ m - 1) 0 ≤ x
theorem IsTop.one {ts:List (List Int)}{m:Nat}{x y:Int}(a:IsTop ts m x)(b:IsTop ts m y):x=y:=by
 obtain ⟨⟨u,u1,u2⟩,u3⟩:=a
 obtain ⟨⟨v,v1,v2⟩,v3⟩:=b
 have:=u3 v v1
 have:=v3 u u1
 omega
theorem last_at {xs:List Int}{m:Nat}(h:xs.length=2 ^ m):xH (xs.map V.int) (-1)=some (V.int (xs.getD (2 ^ m - 1) 0)):=by
 have pp:=AA m
 have hne:xs ≠ []:=by rintro rfl;simp at h;omega
 obtain ⟨ys,y,rfl⟩:∃ ys y,xs=ys ++ [y]:=⟨xs.dropLast,xs.getLast hne,(BQ hne).symm⟩
 rw [A8]
 refine (L2.atI_last _ _).trans ?_
 rw [← h]
 simp
def sp_first:Sp:=fun vs H Q _=>∃ (tw sa wa:Addr) (ts:List (Addr × List Int)) (m F:Nat),vs=[.ref tw]∧Tn H tw sa wa ts m F∧∀ (top:Int) (t:Addr) (H':Hp),IsTop (ts.map fun t=>t.2) m top→Same H H'→H' t=some (.tup ((firstL F m top).map V.int))→Q (.ref t) H'
def FSJ (c:Addr)(ts:List (Addr × List Int))(m:Nat)(G:Hp)(i:Nat)(σ:St)(H:Hp):Prop:=∃ v:Option V,σ=[v]∧SameX c G H∧H c=some (.lst (((ts.take i).map fun t=>t.2.getD (2 ^ m - 1) 0).map V.int))
def FSK (c:Addr)(F m:Nat)(top:Int)(G:Hp)(i:Nat)(σ:St)(H:Hp):Prop:=∃ v:Option V,σ=[v,some (.int top)]∧SameX c G H∧H c=some (.lst (((firstL F m top).take i).map V.int))
theorem vL:FnScope ["town", "top"] ["town"] (qF s_first_prices):=⟨rfl,rfl,rfl,by decide +kernel,rfl,by decide +kernel,by decide +kernel⟩
theorem ok_first (F:Fun K "first_prices" "first_prices" s_first_prices f fd) (hm:mg "first_prices" = some (.ref f)) (hb:Binds K fd ["town"] []) (T:Txt mg):Cal P w K mg base "first_prices" ["town"] 1 sp_first:=by
 refine q4 F hm hb vL (fun vs H Q E h=>?_) (fun cdv A outer s H vs Q E hr h=>?_)
 ·obtain ⟨_,_,_,_,_,_,rfl,_⟩:=h;rfl
 ·obtain ⟨tw,sa,wa,ts,m,Fn,rfl,TN,q⟩:=h
  have sc:=vL
  have few:=TN.R.few
  have p5:=TN.R.five
  have htw:=qX TN.R.tw
  have hwa:=TN.R.wa
  have i0:∀ x y:V,xH [x,y] 0=some x:=fun _ _=>rfl
  have i1:∀ x y:V,xH [x,y] 1=some y:=fun _ _=>rfl
  refine ⟨_,qJ (qY (i:=1) sc.nd rfl (Or.inr rfl) (qM (iQ rfl) rfl T.max_ gH (qA (jI (N:=["want"]) (fr:=[none]) rfl (xE (q9 zF (pv 0) qG (fun _ _=>rfl))) (CScope.of rfl rfl rfl) rfl (fun _ _ _=>⟨qN (i:=0) (show List.Nodup (α:=Str) ["want"] by decide +kernel) rfl (Or.inl rfl),kN,q9 zF (pv 0) (wJ vT qG) (fun _ _=>rfl)⟩)) qD)))
   (qI (qU (kM zZ rfl T.tuple_ kL (qA (jI (N:=["side", "top"]) (fr:=[none,some 1]) rfl (xE (q9 zF (pv 0) qG (fun _ _=>rfl))) (CScope.of rfl rfl rfl) rfl (fun _ _ _=>⟨qN (i:=0) (show List.Nodup (α:=Str) ["side", "top"] by decide +kernel) rfl (Or.inl rfl),kN,d5 (q5 jW (pv 0) qG (qZ _)) (pv 1) qG⟩)) qD)))),?_⟩
  rw [show L2.start ["town", "top"] [.ref tw] = [some (.ref tw),none] from rfl]
  (push_cast only [htw,i0,i1,hwa])
  intro c nc
  have nwc:wa ≠ c:=qE hwa nc
  refine jS (FSJ c ts m H) ⟨none,rfl,SameX.upd,qH⟩ (fun j σ H' _ ⟨_,_,s,_⟩=>s _ _ nwc hwa) ?_ ?_
  ·rintro i x σ H2 hx ⟨v,rfl,s2,e2⟩
   rw [Af] at hx
   obtain ⟨t,ht,rfl⟩:=Ah.mp hx
   have hi:i < ts.length:=(Ae.mp ht).1
   obtain ⟨et,tl,tb⟩:=TN.R.row t (Aq ht)
   have et2:=qX (s2 _ _ (qE et nc) et)
   have la:=last_at tl
   (push_cast only [et2,la,e2])
   refine ⟨qO (by rw [An];omega),⟨_,rfl,s2.trans SameX.upd,?_⟩⟩
   rw [qH,Az,ht]
   simp
  ·rintro σ H2 ⟨v,rfl,s2,e2⟩
   rw [Aa,AF] at e2
   have S2:=s2.same nc
   have TN2:=TN.same S2
   have htw2:=qX TN2.R.tw
   have sa2:=TN2.sa
   refine ⟨_,kD e2,by simpa using TN.ne,fun top tm tx=>?_⟩
   have it:IsTop (ts.map fun t=>t.2) m top:=by
    obtain ⟨t,ht,et⟩:=Al.mp tm
    refine ⟨⟨t.2,Al.mpr ⟨t,ht,rfl⟩,et⟩,fun ws hw=>?_⟩
    obtain ⟨t',ht',rfl⟩:=Al.mp hw
    exact tx _ (Al.mpr ⟨t',ht',rfl⟩)
   (push_cast only [])
   (simp only [qK])
   (push_cast only [htw2,i0,sa2])
   intro d nd
   have nsd:sa ≠ d:=qE sa2 nd
   refine jS (FSK d Fn m top H2) ⟨none,rfl,SameX.upd,qH⟩ (fun j σ H' _ ⟨_,_,s,_⟩=>s _ _ nsd sa2) ?_ ?_
   ·rintro i x σ H3 hx ⟨v,rfl,s3,e3⟩
    rw [Af] at hx
    obtain ⟨y,hy,rfl⟩:=Ah.mp hx
    have hi:i < m:=by
     have:=(Ae.mp hy).1
     rwa [bits_len] at this
    have hy':y=if qC Fn i=true then 1 else 0:=by
     have:=bits_at (F:=Fn) hi
     rw [Ab,hy] at this
     exact this
    have fa:(firstL Fn m top)[i]? = some (if qC Fn i=true then top else 0):=by
     unfold firstL
     rw [Af,C3 hi]
     rfl
    have fin:∀ z:Int,z=(if qC Fn i=true then top else 0)→((firstL Fn m top).take i).length < sizeLine∧FSK d Fn m top H2 (i + 1) [some (.int y),some (.int top)] (upd H3 d (.lst (((firstL Fn m top).take i).map V.int ++ [V.int z]))):=fun z hz=>⟨qO (by rw [An];omega),_,rfl,s3.trans SameX.upd,by rw [qH,Az,fa,hz,A8];rfl⟩
    cases e:qC Fn i with
    | false =>
     rw [e,Ax (by decide)] at hy'
     rw [e] at fin
     subst hy'
     (push_cast only [e3])
     exact fin _ rfl
    | true =>
     rw [e,Au rfl] at hy'
     rw [e] at fin
     subst hy'
     (push_cast only [e3])
     exact fin _ rfl
   ·rintro σ H3 ⟨v,rfl,s3,e3⟩
    rw [Aa,bits_len,AB (by rw [first_len];exact Ad _)] at e3
    (push_cast only [])
    exact ⟨_,e3,fun l H4 _ s4 e4=>q top l H4 it ((S2.trans (s3.same nd)).trans s4) e4⟩
theorem rZ {ts:List (List Int)}{F:Nat}{ps qs:List Int}(p5:ps.length ≤ 5)(hl:ps.length=qs.length)(wl:∀ ws ∈ ts,ws.length=2 ^ ps.length)(g1:mayN F ps (2 ^ ps.length)=mayN F qs (2 ^ qs.length))(g2:ts.map (fun ws=>dG (kI ws ps) (jP ws ps) (kI ws ps).length)=ts.map (fun ws=>dG (kI ws qs) (jP ws qs) (kI ws qs).length)):sO ts ps qs∧∀ X,X < 2 ^ ps.length→fI F ps X=fI F qs X:=by
 refine ⟨fun ws hw h hh=>?_,fun X hX=>?_⟩
 ·have e:=List.map_inj_left.mp g2 ws hw
  have w1:=wl ws hw
  have w2:ws.length=2 ^ qs.length:=by rw [w1,hl]
  have key:∀ (rs:List Int),rs.length ≤ 5→ws.length=2 ^ rs.length→h < 2 ^ rs.length→((h:Int) ∈ dG (kI ws rs) (jP ws rs) (kI ws rs).length ↔ dM ws rs h=jP ws rs):=fun rs r5 rl rh=>by
   rw [← lR r5 rl rh]
   unfold dG
   rw [Al]
   constructor
   ·rintro ⟨k,hk,ek⟩
    have ek':k=h:=by exact_mod_cast ek
    subst ek'
    exact AS (Bn.mp hk).2
   ·intro z
    exact ⟨h,Bn.mpr ⟨AU.mpr (by rw [vB rl];exact rh),A2 z⟩,rfl⟩
  rw [← key ps p5 w1 hh,← key qs (by omega) w2 (by rw [← hl];exact hh),e]
 ·have:X ∈ mayN F ps (2 ^ ps.length) ↔ X ∈ mayN F qs (2 ^ qs.length):=by rw [g1]
  rw [mayN_mem,mayN_mem,← hl] at this
  cases a:fI F ps X <;> cases b:fI F qs X
  ·rfl
  ·exact absurd (this.mpr ⟨hX,b⟩).2 (by rw [a];decide)
  ·exact absurd (this.mp ⟨hX,a⟩).2 (by rw [b];decide)
  ·rfl
def sp_on:Sp:=fun vs H Q _=>∃ (tw sa wa na:Addr) (ts:List (Addr × List Int)) (ps:List Int) (F N:Nat),vs=[.ref tw,.ref na]∧Tn H tw sa wa ts ps.length F∧H na=some (.tup (ps.map V.int))∧(∀ x ∈ ps,0 ≤ x∧x ≤ 1000)∧kK (ts.map fun t=>t.2) ps ≤ (N:Int)∧N ≤ 900∧∀ (t r p:Addr) (H':Hp),Same H H'→H' t=some (.tup [.ref r,.ref p])→H' r=some (.tup (natI (j6 (ts.map fun t=>t.2) F N ps).1))→H' p=some (.tup ((j6 (ts.map fun t=>t.2) F N ps).2.map V.int))→Q (.ref t) H'
structure Grd (r:Addr)(H:Hp)(g:Addr)(ts:List (Addr × List Int))(F:Nat)(ps:List Int):Prop where
 ex:∃ (l1 l2:Addr) (rs:List (Addr × List Int)),l1 ≠ r∧l2 ≠ r∧H g=some (.tup [.ref l1,.ref l2])∧H l1=some (.lst (natI (mayN F ps (2 ^ ps.length))))∧H l2=some (.lst (rs.map fun r=>V.ref r.1))∧(∀ r ∈ rs,H r.1=some (.tup (r.2.map V.int)))∧(rs.map fun r=>r.2)=ts.map (fun t=>dG (kI t.2 ps) (jP t.2 ps) (kI t.2 ps).length)
def SOI (tw r:Addr)(ts:List (Addr × List Int))(F N:Nat)(ps0:List Int)(G:Hp)(n:Nat)(σ:St)(H:Hp):Prop:=∃ (v5:Option V) (pa g:Addr) (ps:List Int) (row:List Nat),σ=[some (.ref tw),some (.ref pa),some (.ref r),some (.ref g),some (.int ((yC (ts.map fun t=>t.2) F ps:Nat):Int)),v5]∧ps.length=ps0.length∧(∀ x ∈ ps,0 ≤ x∧x ≤ 1000 + (row.length:Int))∧row.length + n=N∧kK (ts.map fun t=>t.2) ps ≤ (n:Int)∧j6 (ts.map fun t=>t.2) F N ps0=(row ++ (j6 (ts.map fun t=>t.2) F n ps).1,(j6 (ts.map fun t=>t.2) F n ps).2)∧SameX r G H∧G r=some (.lst [])∧H r=some (.lst (natI row))∧H pa=some (.tup (ps.map V.int))∧Grd r H g ts F ps
theorem Grd.same {r:Addr}{H H':Hp}{g:Addr}{ts:List (Addr × List Int)}{F:Nat}{ps:List Int}(G:Grd r H g ts F ps)(hr:∃ xs,H r=some (.lst xs))(s:SameX r H H'):Grd r H' g ts F ps:=by
 obtain ⟨l1,l2,rs,n1,n2,h1,h2,h3,h4,h5⟩:=G.ex
 obtain ⟨xs,er⟩:=hr
 have nt:∀ {b:Addr} {L:List V},H b=some (.tup L)→b ≠ r:=fun h z=>by rw [z,er] at h;cases h
 exact ⟨l1,l2,rs,n1,n2,s _ _ (nt h1) h1,s _ _ n1 h2,s _ _ n2 h3,fun x hx=>s _ _ (nt (h4 x hx)) (h4 x hx),h5⟩
theorem wA:FnScope ["town", "prices", "row", "ground", "heap", "before"] ["town", "prices"] (qF s_steps_on):=⟨rfl,rfl,rfl,by decide +kernel,rfl,by decide +kernel,by decide +kernel⟩
theorem ok_on (F:Fun K "steps_on" "steps_on" s_steps_on f fd) (hm:mg "steps_on" = some (.ref f)) (hb:Binds K fd ["town", "prices"] []) (T:Txt mg) (c_ground_of:Cal P w K mg base "ground_of" ["town", "prices"] 4 mW) (c_next_step:Cal P w K mg base "next_step" ["town", "prices"] 5 aD) (c_stepped:Cal P w K mg base "stepped" ["sides", "prices", "heap"] 2 sp_step):Cal P w K mg base "steps_on" ["town", "prices"] 6 sp_on:=by
 refine q4 F hm hb wA (fun vs H Q E h=>?_) (fun cdv A outer s H vs Q E hr h=>?_)
 ·obtain ⟨_,_,_,_,_,_,_,_,rfl,_⟩:=h;rfl
 ·obtain ⟨tw,sa,wa,na,ts,ps0,Fn,N,rfl,TN,hna,nb,sN,N9,q⟩:=h
  have sc:=wA
  have p5:=TN.R.five
  have few:=TN.R.few
  refine ⟨_,qJ (qY (i:=2) sc.nd rfl (Or.inl rfl) (kZ qD))
   (qJ (qY (i:=3) sc.nd rfl (Or.inl rfl) (qL c_ground_of hr (qA (pv 0) (qA (pv 1) qD))))
   (qJ (qY (i:=4) sc.nd rfl (Or.inl rfl) (qL c_next_step hr (qA (pv 0) (qA (pv 1) qD))))
   (qJ (rD AD (q5 cF (pv 4) qG (qZ _)) (qJ (zX (jX (pv 2) (qA (pv 4) qD)))
   (qJ (qY (i:=1) sc.nd rfl (Or.inl rfl) (qL c_stepped hr (qA (q9 zF (pv 0) qG (fun _ _=>rfl)) (qA (pv 1) (qA (pv 4) qD)))))
   (qJ (qY (i:=5) sc.nd rfl (Or.inl rfl) (pv 3))
   (qJ (qY (i:=3) sc.nd rfl (Or.inl rfl) (qL c_ground_of hr (qA (pv 0) (qA (pv 1) qD))))
   (qI (j8 (q5 (neGr0 hr.units) (pv 3) (pv 5) (qZ _)) (qI (qY (i:=4) sc.nd rfl (Or.inl rfl) (qL c_next_step hr (qA (pv 0) (qA (pv 1) qD))))) jB)))))))
   (qI (qU (jK (qA (kM zZ rfl T.tuple_ kL (qA (pv 2) qD)) (qA (pv 1) qD)))))))),?_⟩
  rw [show L2.start ["town", "prices", "row", "ground", "heap", "before"] [.ref tw,.ref na] = [some (.ref tw),some (.ref na),none,none,none,none] from rfl]
  (push_cast only [])
  refine ⟨by decide,fun r H1 nr s1 e1=>?_⟩
  have TN1:=TN.same s1
  have na1:=s1 _ _ hna
  (push_cast only [])
  (simp only [qK])
  (push_cast only [])
  refine ⟨tw,sa,wa,na,ts,ps0,Fn,rfl,TN1,na1,fun g l1 l2 rs H2 f1 f2 s2 g1 g2 g3 g4 g5=>?_⟩
  (push_cast only [])
  (simp only [qK])
  (push_cast only [])
  refine ⟨tw,sa,wa,na,ts,ps0,Fn,rfl,TN1.same s2,s2 _ _ na1,fun x hx=>by have:=nb x hx;omega,fun H3 s3=>?_⟩
  (push_cast only [])
  (simp only [qK])
  have e13:=s3 _ _ (s2 _ _ e1)
  have S3:=(s1.trans s2).trans s3
  have up3:∀ {b:Addr} {o:HO},H2 b=some o→H3 b=some o:=fun {b o} e=>s3 _ _ e
  have TN3:=TN.same S3
  have wl:∀ ws ∈ ts.map (fun t=>t.2),ws.length=2 ^ ps0.length:=fun ws hw=>by
   obtain ⟨t,ht,rfl⟩:=Al.mp hw
   exact (TN.R.row t ht).2.1
  have z0:∀ ws ∈ ts.map (fun t=>t.2),0 ≤ ws.getD 0 0:=fun ws hw=>by
   have l:=wl ws hw
   obtain ⟨t,ht,rfl⟩:=Al.mp hw
   have pp:=AA ps0.length
   rw [Ab,Ag (show 0 < t.2.length by rw [l];exact pp)]
   exact ((TN.R.row t ht).2.2 _ (AK _)).1
  refine ⟨SOI tw r ts Fn N ps0 H3,⟨N,_,na,g,ps0,[],rfl,rfl,(fun x hx=>by have:=nb x hx;simp;omega),by simp,sN,rfl,SameX.refl,e13,e13,s3 _ _ (s2 _ _ na1),⟨l1,l2,rs,(qE e1 f1).symm,(qE e1 f2).symm,up3 g1,up3 g2,up3 g3,fun r hr=>up3 (g4 r hr),g5⟩⟩,?_⟩
  rintro n σ H4 ⟨v5,pa,g',ps,row,rfl,pl,pb,rn,sn,run,s4,r0,r4,pa4,G4⟩
  have p5':ps.length ≤ 5:=by omega
  have p32:=jA p5'
  have nlt:=cK (ts.map fun t=>t.2) Fn ps
  have nal:=tR (ts.map fun t=>t.2) Fn ps
  have k4:∀ {b:Addr} {o:HO},H b=some o→H4 b=some o:=fun {b o} e=>s4 _ _ (qE e nr) (S3 _ _ e)
  by_cases z:yC (ts.map fun t=>t.2) Fn ps=0
  ·rw [wR z,Bm] at run
   rw [z]
   (push_cast only [])
   rw [Ax (by simp)]
   refine ⟨_,r4,fun l H5 n5 s5 e5=>⟨by decide,fun p H6 n6 s6 e6=>?_⟩⟩
   exact q p l pa H6 (fun b o e=>s6 _ _ (s5 _ _ (k4 e))) e6 (by rw [run];exact s6 _ _ e5) (by rw [run];exact s6 _ _ (s5 _ _ pa4))
  ·have z':((yC (ts.map fun t=>t.2) Fn ps:Nat):Int) ≠ 0:=by omega
   obtain ⟨k,rfl,sk,nn',rm⟩:=rB z0 p5' (fun x hx=>(pb x hx).1) sn z
   generalize hX:yC (ts.map fun t=>t.2) Fn ps=X at *
   (push_cast only [z'])
   refine ⟨fun σ' H'=>SOI tw r ts Fn N ps0 H3 k σ' H',fun σ' H' zz=>⟨k,by omega,zz⟩,_,r4,_,r4,qO (by unfold natI;rw [Aa];omega),?_⟩
   have npr:pa ≠ r:=fun y=>by rw [y,r4] at pa4;cases pa4
   have u5:SameX r H4 (upd H4 r (.lst (natI row ++ [V.int (X:Int)]))):=SameX.upd
   have r5:upd H4 r (.lst (natI row ++ [V.int (X:Int)])) r=some (.lst (natI (row ++ [X]))):=by rw [qH];unfold natI;simp
   have G5:=G4.same ⟨_,r4⟩ u5
   revert u5 r5 G5
   generalize upd H4 r (.lst (natI row ++ [V.int (X:Int)]))=H5
   intro u5 r5 G5
   have k5:∀ {b:Addr} {o:HO},H b=some o→H5 b=some o:=fun {b o} e=>u5 _ _ (qE e nr) (k4 e)
   have TN5:Tn H5 tw sa wa ts ps0.length Fn:=TN.same fun b o e=>k5 e
   have htw5:=qX TN5.R.tw
   have i0:∀ x y:V,xH [x,y] 0=some x:=fun _ _=>rfl
   (simp only [qK])
   (push_cast only [htw5,i0])
   refine ⟨pa,sa,ps,Fn,(X:Int),rfl,u5 _ _ npr pa4,by rw [pl];exact TN5.sa,p5',fun pc H6 s6 e6=>?_⟩
   rw [msk_nat (by omega)] at e6
   (push_cast only [])
   (simp only [qK])
   (push_cast only [])
   (simp only [qK])
   (push_cast only [])
   have sl:(qP ps Fn X).length=ps0.length:=by rw [kP];exact pl
   refine ⟨tw,sa,wa,pc,ts,qP ps Fn X,Fn,rfl,by rw [sl];exact TN5.same s6,e6,fun g2 m1 m2 rs2 H7 f1' f2' s7 h1 h2 h3 h4 h5=>?_⟩
   have r67:=s6 _ _ r5
   have r7:=s7 _ _ r67
   have G7:Grd r H7 g2 ts Fn (qP ps Fn X):=⟨m1,m2,rs2,(qE r67 f1').symm,(qE r67 f2').symm,h1,h2,h3,h4,h5⟩
   obtain ⟨o1,o2,rs1,_,_,j1,j2,j3,j4,j5⟩:=G5.ex
   have S57:=s6.trans s7
   (push_cast only [])
   (simp only [qK])
   (push_cast only [↓a_rNeGr])
   have ni:∀ xs:List Nat,natI xs=(xs.map fun x:Nat=>(x:Int)).map V.int:=fun xs=>by unfold natI;rw [AV];rfl
   refine ⟨m1,m2,h1,o1,o2,S57 _ _ j1,_,by rw [h2,ni],_,rs2,h3,by rw [← ni];exact S57 _ _ j2,rs1,S57 _ _ j3,h4,fun x hx=>S57 _ _ (j4 x hx),?_⟩
   have fin:∀ H8,Same H7 H8→SOI tw r ts Fn N ps0 H3 k [some (V.ref tw),some (V.ref pc),some (V.ref r),some (V.ref g2),some (V.int ((yC (ts.map fun t=>t.2) Fn (qP ps Fn X):Nat):Int)),some (V.ref g')] H8:=fun H8 s8=>by
    refine ⟨_,pc,g2,qP ps Fn X,row ++ [X],rfl,sl,fun x hx=>⟨nn' x hx,?_⟩,by rw [Ar,A7];omega,sk,?_,(s4.trans u5).trans (S57.trans s8).x,r0,s8 _ _ r7,s8 _ _ (s7 _ _ e6),G7.same ⟨_,r7⟩ s8.x⟩
    ·have:=dP (F:=Fn) (X:=X) (c:=1000 + (row.length:Int)) (fun x hx=>(pb x hx).2) x hx
     rw [Ar,A7]
     omega
    ·rw [run,rm,CB]
     rfl
   by_cases c:(!(decide ((mayN Fn (qP ps Fn X) (2 ^ (qP ps Fn X).length)).map (fun x:Nat=>(x:Int))=(mayN Fn ps (2 ^ ps.length)).map fun x:Nat=>(x:Int)) && decide (rs2.map (fun x=>x.2)=rs1.map fun x=>x.2)))=true
   ·rw [Au c]
    refine ⟨tw,sa,wa,pc,ts,qP ps Fn X,Fn,rfl,by rw [sl];exact TN5.same S57,s7 _ _ e6,fun x hx=>?_,fun H8 s8=>fin H8 s8⟩
    have:=dP (F:=Fn) (X:=X) (c:=1000 + (row.length:Int)) (fun x hx=>(pb x hx).2) x hx
    exact ⟨nn' x hx,by omega⟩
   ·rw [Ax c]
    simp only [Bool.not_eq_true,Bool.not_eq_false',AE,Bb] at c
    obtain ⟨c1,c2⟩:=c
    have c1':=(BO (fun a b h=>by exact_mod_cast h)).mp c1
    rw [h5,j5] at c2
    have gs:=rZ (ts:=ts.map fun t=>t.2) (F:=Fn) (ps:=ps) (qs:=qP ps Fn X) p5' (kP ps Fn X).symm (by rw [pl];exact wl) c1'.symm (by rw [AV,AV];exact c2.symm)
    have ns:=nxt_same p5' (kP ps Fn X).symm (by rw [pl];exact TN.hF) (by rw [pl];exact TN.kd) gs.1 gs.2
    have:=fin H7 (Same.refl H7)
    rw [← ns,hX] at this
    exact this
def sp_steps:Sp:=fun vs H Q _=>∃ (tw sa wa:Addr) (ts:List (Addr × List Int)) (m F:Nat),vs=[.ref tw]∧Tn H tw sa wa ts m F∧(∀ top,IsTop (ts.map fun t=>t.2) m top→0 ≤ top∧top ≤ 1000∧kK (ts.map fun t=>t.2) (firstL F m top) ≤ 399)∧∀ (top:Int) (t r p:Addr) (H':Hp),IsTop (ts.map fun t=>t.2) m top→Same H H'→H' t=some (.tup [.ref r,.ref p])→H' r=some (.tup (natI (j6 (ts.map fun t=>t.2) F 399 (firstL F m top)).1))→H' p=some (.tup ((j6 (ts.map fun t=>t.2) F 399 (firstL F m top)).2.map V.int))→Q (.ref t) H'
theorem wB:FnScope ["town"] ["town"] (qF s_steps_of):=⟨rfl,rfl,rfl,by decide +kernel,rfl,by decide +kernel,by decide +kernel⟩
theorem ok_steps (F:Fun K "steps_of" "steps_of" s_steps_of f fd) (hm:mg "steps_of" = some (.ref f)) (hb:Binds K fd ["town"] []) (T:Txt mg) (c_first_prices:Cal P w K mg base "first_prices" ["town"] 1 sp_first) (c_steps_on:Cal P w K mg base "steps_on" ["town", "prices"] 6 sp_on):Cal P w K mg base "steps_of" ["town"] 7 sp_steps:=by
 refine q4 F hm hb wB (fun vs H Q E h=>?_) (fun cdv A outer s H vs Q E hr h=>?_)
 ·obtain ⟨_,_,_,_,_,_,rfl,_⟩:=h;rfl
 ·obtain ⟨tw,sa,wa,ts,m,Fn,rfl,TN,bd,q⟩:=h
  have sc:=wB
  refine ⟨_,qI (qU (qL c_steps_on hr (qA (pv 0) (qA (qL c_first_prices hr (qA (pv 0) qD)) qD)))),?_⟩
  rw [show L2.start ["town"] [.ref tw] = [some (.ref tw)] from rfl]
  (push_cast only [])
  refine ⟨tw,sa,wa,ts,m,Fn,rfl,TN,fun top p H1 it s1 e1=>?_⟩
  obtain ⟨t0,t1,t2⟩:=bd top it
  refine ⟨tw,sa,wa,p,ts,firstL Fn m top,Fn,399,rfl,by rw [first_len];exact TN.same s1,e1,fun x hx=>?_,t2,by decide,fun t r p2 H2 s2 e2 r2 p2'=>?_⟩
  ·rcases first_mem hx with z | z <;> omega
  ·exact q top t r p2 H2 it (s1.trans s2) e2 r2 p2'
def cpl (m F:Nat):Nat:=(2 ^ m - 1) ^^^ F
theorem cpl_facts {m F t:Nat}(m5:m ≤ 5)(hF:F < 2 ^ m)(ht:t < m):qC (cpl m F) t = !qC F t:=by
 have key:∀ (m:_root_.Fin 6) (F:_root_.Fin 32) (t:_root_.Fin 5),F.val < 2 ^ m.val→t.val < m.val→qC (cpl m.val F.val) t.val = !qC F.val t.val:=by decide +kernel
 have:=jA m5
 exact key ⟨m,by omega⟩ ⟨F,by omega⟩ ⟨t,by omega⟩ hF ht
theorem cpl_lt {m F:Nat}(hF:F < 2 ^ m):cpl m F < 2 ^ m:=by
 have pp:=AA m
 exact BP (by omega) hF
theorem ext_cpl {g:Nat→Int}{m F:Nat}(m5:m ≤ 5)(hF:F < 2 ^ m)(ex:bB g m F):bB g m (cpl m F):=by
 intro X Y i hX hY hi xi yi
 have p32:=jA m5
 have hC:=cpl_lt hF
 have fl:∀ Z t,Z < 2 ^ m→t < m→qC (Z ^^^ cpl m F) t = !qC (Z ^^^ F) t:=fun Z t hZ ht=>by
  rw [dN (show Z < 32 by omega) (show cpl m F < 32 by omega) (show t < 5 by omega),dN (show Z < 32 by omega) (show F < 32 by omega) (show t < 5 by omega),cpl_facts m5 hF ht]
  cases qC Z t <;> cases qC F t <;> rfl
 rw [fl X i hX hi] at xi
 rw [fl Y i hY hi] at yi
 rcases ex Y X i hY hX hi (by cases b:qC (Y ^^^ F) i;(· rw [b] at yi;cases yi);rfl) (by cases b:qC (X ^^^ F) i;(· rfl);rw [b] at xi;cases xi) with le | ⟨j,hj,b1,b2,le⟩
 ·exact .inl (by omega)
 ·exact .inr ⟨j,hj,by rw [fl Y j hY hj,b2];rfl,by rw [fl X j hX hj,b1];rfl,by omega⟩
end
end S
section
variable {P:Program}{w:World}{K:PySem.W.Frag}{mg:Str→Option Value}{base:Heap}{f:Addr}{fd:FuncData}
def pX:Sp:=fun vs H Q _=>∃ (wa na:Addr) (ts:List (Addr × List Int)) (ps:List Int),vs=[.ref wa,.ref na]∧H wa=some (.tup (ts.map fun t=>V.ref t.1))∧ts.length ≤ 5∧(∀ t ∈ ts,H t.1=some (.tup (t.2.map V.int))∧t.2.length=2 ^ ps.length∧∀ x ∈ t.2,0 ≤ x∧x ≤ 10000)∧H na=some (.tup (ps.map V.int))∧ps.length ≤ 5∧(∀ x ∈ ps,0 ≤ x∧x ≤ 100000)∧∀ H',Same H H'→Q (.int (kK (ts.map fun t=>t.2) ps)) H'
def LSO (c cl:Addr)(ts:List (Addr × List Int))(ps:List Int)(G:Hp)(i:Nat)(σ:St)(H:Hp):Prop:=∃ v:Option V,σ=[v,some (.ref cl)]∧SameX c G H∧H c=some (.lst (((ts.take i).map fun t=>jP t.2 ps).map V.int))
theorem vM:FnScope ["_law_wants", "_law_prices", "_law_costs_here"] ["_law_wants", "_law_prices"] (qF s__law_surplus):=⟨rfl,rfl,rfl,by decide +kernel,rfl,by decide +kernel,by decide +kernel⟩
theorem ok_lsurp (F:Fun K "_law_surplus" "_law_surplus" s__law_surplus f fd) (hm:mg "_law_surplus" = some (.ref f)) (hb:Binds K fd ["_law_wants", "_law_prices"] []) (T:Txt mg) (c__law_costs:Cal P w K mg base "_law_costs" ["_law_prices"] 1 z6):Cal P w K mg base "_law_surplus" ["_law_wants", "_law_prices"] 2 pX:=by
 refine q4 F hm hb vM (fun vs H Q E h=>?_) (fun cdv A outer s H vs Q E hr h=>?_)
 ·obtain ⟨_,_,_,_,rfl,_⟩:=h;rfl
 ·obtain ⟨wa,na,ts,ps,rfl,hwa,few,row,hna,p5,nb,q⟩:=h
  have sc:=vM
  have p32:=jA p5
  refine ⟨_,kC (qY (i:=2) sc.nd rfl (Or.inr rfl) (qL c__law_costs hr (qA (pv 1) qD)))
   (qI (qU (qV kW (qM (tD rfl) rfl T.sum_ dJ (qA (jI (N:=["_law_want", "_law_costs_here"]) (fr:=[none,some 2]) rfl (xE (pv 0)) (CScope.of rfl rfl rfl) rfl (fun _ _ _=>⟨qN (i:=0) (show List.Nodup (α:=Str) ["_law_want", "_law_costs_here"] by decide +kernel) rfl (Or.inl rfl),kN,qM (iQ rfl) rfl T.max_ gH (qA (jI (N:=["_law_worth", "_law_cost"]) (fr:=[none,none]) rfl (lH rfl T.zip_ (qA (pv 0) (qA (pv 1) qD))) (CScope.of rfl rfl rfl) rfl (fun _ _ _=>⟨kU (n:=2) rfl (qT (qN (i:=0) (show List.Nodup (α:=Str) ["_law_worth", "_law_cost"] by decide +kernel) rfl (Or.inl rfl)) (qT (qN (i:=1) (show List.Nodup (α:=Str) ["_law_worth", "_law_cost"] by decide +kernel) rfl (Or.inl rfl)) kR)),kN,qV xR (pv 0) (pv 1)⟩)) qD)⟩)) qD)) (qM (tD rfl) rfl T.sum_ dJ (qA (pv 1) qD))))),?_⟩
  rw [show L2.start ["_law_wants", "_law_prices", "_law_costs_here"] [.ref wa,.ref na] = [some (.ref wa),some (.ref na),none] from rfl]
  (push_cast only [])
  refine ⟨na,ps,rfl,.inl hna,p5,fun cl H1 n1 s1 e1=>?_⟩
  have wa1:=s1 _ _ hwa
  (push_cast only [wa1])
  intro c nc
  have nwc:wa ≠ c:=qE wa1 nc
  have ncc:cl ≠ c:=qE e1 nc
  refine jS (LSO c cl ts ps H1) ⟨none,rfl,SameX.upd,qH⟩ (fun j σ H' _ ⟨_,_,s,_⟩=>s _ _ nwc wa1) ?_ ?_
  ·rintro i x σ H2 hx ⟨v,rfl,s2,e2⟩
   rw [Af] at hx
   obtain ⟨t,ht,rfl⟩:=Ah.mp hx
   have hi:i < ts.length:=(Ae.mp ht).1
   obtain ⟨et,tl,tb⟩:=row t (Aq ht)
   have et2:=s2 _ _ (qE (s1 _ _ et) nc) (s1 _ _ et)
   have cl2:=s2 _ _ ncc e1
   (push_cast only [])
   refine ⟨_,_,_,.inr ⟨rfl,et2⟩,_,.inl ⟨rfl,cl2⟩,fun d nd=>?_⟩
   have ntd:t.1 ≠ d:=qE et2 nd
   have ncd:cl ≠ d:=qE cl2 nd
   refine uG (ZW d (fun x y=>x - y) t.2 (kE ps) [] H2) ⟨none,none,rfl,SameX.upd,qH⟩ (fun i σ H' ⟨_,_,_,s,_⟩=>⟨.inr ⟨rfl,s _ _ ntd et2⟩,.inl ⟨rfl,s _ _ ncd cl2⟩⟩) ?_ ?_
   ·rintro k u v T' σ H3 H4 hu hv ⟨v1,v2,rfl,s3,e3⟩ nt s4 e4
    rw [Af] at hu hv
    obtain ⟨x,hx,rfl⟩:=Ah.mp hu
    obtain ⟨y,hy,rfl⟩:=Ah.mp hv
    have ec:=s4 _ _ e3
    have hk:k < t.2.length:=(Ae.mp hx).1
    (push_cast only [e4,ec])
    refine ⟨qO (by rw [An];omega),⟨_,_,rfl,(s3.trans s4.x).trans SameX.upd,?_⟩⟩
    rw [qH,Az,oK hx hy]
    simp
   ·rintro σ H3 ⟨v1,v2,rfl,s3,e3⟩
    rw [Aa,Aa,jH,tl,CG,AB (by rw [sQ (by rw [jH];exact tl)];omega)] at e3
    obtain ⟨v1,v2⟩:=S.top_vmax p5 tl
    have c3:=s3 _ _ (qE e2 nd) e2
    refine ⟨_,kD e3,cV p5 tl,fun mx mx1 mx2=>?_⟩
    have em:mx=jP t.2 ps:=Int.le_antisymm (v2 mx mx1) (mx2 _ v1)
    subst em
    (push_cast only [c3])
    refine ⟨qO (by rw [An];omega),⟨_,rfl,(s2.trans (s3.same nd).x).trans SameX.upd,?_⟩⟩
    rw [qH,Az,ht]
    simp
  ·rintro σ H2 ⟨v,rfl,s2,e2⟩
   rw [Aa,AF] at e2
   have S2:=s1.trans (s2.same nc)
   have e50:(2:Int) ^ 50=1125899906842624:=by decide
   refine ⟨_,kD e2,S.sumFits_big (fun n hn=>?_) (by rw [Aa];omega),ps,qX (S2 _ _ hna),S.sumFits_big (fun n hn=>by have:=nb n hn;omega) (by omega),by have:=q H2 S2;unfold kK at this;rw [AV] at this;exact this⟩
   obtain ⟨t,ht,rfl⟩:=Al.mp hn
   obtain ⟨_,tl,tb⟩:=row t ht
   rw [← S.great_is p5 tl]
   exact S.great_abs (by decide) (by decide) p5 (fun x hx=>by have:=nb x hx;omega) tb
def Way (way:Int)(F G m:Nat):Prop:=way=1∧G=F∨way = -1∧∀ t,t < m→qC G t = !qC F t
theorem far_at {way:Int}{F G m i:Nat}(wy:Way way F G m)(hi:i < m):∃ x:Int,xH [V.int way,V.int (0 - way)] (if qC F i=true then 1 else 0)=some (V.int x)∧x=if qC G i=true then -1 else 1:=by
 rcases wy with ⟨rfl,rfl⟩ | ⟨rfl,h⟩
 ·cases qC G i
  ·exact ⟨1,rfl,rfl⟩
  ·exact ⟨-1,rfl,rfl⟩
 ·rw [h i hi]
  cases qC F i
  ·exact ⟨-1,rfl,rfl⟩
  ·exact ⟨1,rfl,rfl⟩
def fQ:Sp:=fun vs H Q _=>∃ (sa na:Addr) (ps:List Int) (hp:Nat) (way:Int) (F G:Nat),vs=[.ref sa,.ref na,.int (hp:Int),.int way]∧H sa=some (.tup ((S.bitsL F ps.length).map V.int))∧H na=some (.tup (ps.map V.int))∧ps.length ≤ 5∧hp < 2 ^ ps.length∧Way way F G ps.length∧∀ (t:Addr) (H':Hp),H t=none→Same H H'→H' t=some (.tup ((qP ps G hp).map V.int))→Q (.ref t) H'
def BHI (sa na c bl:Addr)(ps:List Int)(hp:Nat)(way:Int)(g:Nat)(G:Hp)(i:Nat)(σ:St)(H:Hp):Prop:=∃ v5 v6 v7:Option V,σ=[some (.ref sa),some (.ref na),some (.int (hp:Int)),some (.int way),some (.ref c),v5,v6,v7]∧SameX c G H∧H c=some (.lst (((qP ps g hp).take i).map V.int))
theorem gB:FnScope ["_law_sides_here", "_law_prices", "_law_heap", "_law_way", "_law_found", "_law_k", "_law_bit", "_law_far"] ["_law_sides_here", "_law_prices", "_law_heap", "_law_way"] (qF s__law_behind):=⟨rfl,rfl,rfl,by decide +kernel,rfl,by decide +kernel,by decide +kernel⟩
theorem iL (F:Fun K "_law_behind" "_law_behind" s__law_behind f fd) (hm:mg "_law_behind" = some (.ref f)) (hb:Binds K fd ["_law_sides_here", "_law_prices", "_law_heap", "_law_way"] []) (T:Txt mg) (c__law_bits:Cal P w K mg base "_law_bits" ["_law_many"] 1 wQ):Cal P w K mg base "_law_behind" ["_law_sides_here", "_law_prices", "_law_heap", "_law_way"] 2 fQ:=by
 refine q4 F hm hb gB (fun vs H Q E h=>?_) (fun cdv A outer s H vs Q E hr h=>?_)
 ·obtain ⟨_,_,_,_,_,_,_,rfl,_⟩:=h;rfl
 ·obtain ⟨sa,na,ps,hp,way,Fn,Gn,rfl,hsa,hna,p5,hh,wy,q⟩:=h
  have sc:=gB
  have p32:=jA p5
  refine ⟨_,qJ (qY (i:=4) sc.nd rfl (Or.inl rfl) (kZ qD))
   (qJ (jT AD rfl (gK rfl T.enumerate_ (qA (qL c__law_bits hr (qA (qM len0 rfl T.len_ kX (qA (pv 0) qD)) qD)) qD)) (kU (n:=2) rfl (qT (qN (i:=5) sc.nd rfl (Or.inl rfl)) (qT (qN (i:=6) sc.nd rfl (Or.inl rfl)) kR)))
    (qJ (qY (i:=7) sc.nd rfl (Or.inl rfl) (qV xU (q9 zF (kZ (qA (pv 3) (qA (qV xR qG (pv 3)) qD))) (q9 zF (pv 0) (pv 5) (fun _ _=>rfl)) (fun _ _=>rfl)) (qV yU (qV xV (pv 2) (pv 6)) qG)))
   (qI (zX (jX (pv 4) (qA (qV kW (q9 zF (pv 1) (pv 5) (fun _ _=>rfl)) (pv 7)) qD))))))
   (qI (qU (kM zZ rfl T.tuple_ kL (qA (pv 4) qD))))),?_⟩
  rw [show L2.start ["_law_sides_here", "_law_prices", "_law_heap", "_law_way", "_law_found", "_law_k", "_law_bit", "_law_far"] [.ref sa,.ref na,.int (hp:Int),.int way] = [some (.ref sa),some (.ref na),some (.int (hp:Int)),some (.int way),none,none,none,none] from rfl]
  (push_cast only [])
  refine ⟨by decide,fun c H1 nc s1 e1=>?_⟩
  have hss:=qX (s1 _ _ hsa)
  (simp only [qK])
  (push_cast only [hss])
  rw [S.bits_len]
  refine ⟨ps.length,rfl,p5,fun bl H2 n2 s2 e2=>?_⟩
  have S2:=s1.trans s2
  (push_cast only [])
  refine ⟨_,_,.inl ⟨rfl,e2⟩,?_⟩
  have nbc:bl ≠ c:=(qE e1 n2).symm
  refine wY (BHI sa na c bl ps hp way Gn H2) ⟨_,_,_,rfl,SameX.refl,s2 _ _ e1⟩ (fun i σ H' ⟨_,_,_,_,s,_⟩=>.inl ⟨rfl,s _ _ nbc e2⟩) ?_ ?_
  ·rintro i v T' σ H3 H4 hv ⟨v5,v6,v7,rfl,s3,e3⟩ nT s4 e4
   have il:i < (bitsL ps.length).length:=by
    have:=(Ae.mp hv).1
    rwa [Aa] at this
   rw [bits_len p5] at il
   have hv':V.int ((2 ^ i:Nat):Int)=v:=by
    rw [Af,fE p5 il] at hv
    exact A9 hv
   subst hv'
   have k4:∀ {b:Addr} {o:HO},H b=some o→H4 b=some o:=fun {b o} e=>s4 _ _ (s3 _ _ (qE e nc) (S2 _ _ e))
   have a1:=jZ (ns:=S.bitsL Fn ps.length) (n:=i) (by rw [S.bits_len];exact il)
   rw [S.bits_at il] at a1
   have a2:=jZ (ns:=ps) (n:=i) il
   have e34:=s4 _ _ e3
   (push_cast only [e4])
   (simp only [qK])
   (push_cast only [])
   refine ⟨by decide,fun L H5 n5 s5 e5=>?_⟩
   obtain ⟨fr,hf,ef⟩:=far_at (i:=i) wy il
   have pp:=AA i
   have b01:=wX (h:=hp) (t:=i)
   have r01:(hp:Int) / ((2 ^ i:Nat):Int) % 2=0∨(hp:Int) / ((2 ^ i:Nat):Int) % 2=1:=by omega
   have m16:((2 ^ i:Nat):Int) ≤ 16:=by
    have:=Aw (show 0 < 2 by decide) (show i ≤ 4 by omega)
    exact_mod_cast this
   have m0:(0:Int) < ((2 ^ i:Nat):Int):=by exact_mod_cast pp
   refine ⟨_,qX (s5 _ _ (k4 hsa)),_,a1,_,_,rfl,kD e5,_,hf,⟨by omega,by omega⟩,_,rfl,.inr ⟨by rcases r01 with z | z <;> rw [z] <;> decide,by rcases r01 with z | z <;> rw [z] <;> decide⟩,_,s5 _ _ e34,_,qX (s5 _ _ (k4 hna)),_,a2,_,rfl,_,s5 _ _ e34,qO (by rw [Aa,An];omega),⟨_,_,_,rfl,(s3.trans (s4.trans s5).x).trans SameX.upd,?_⟩⟩
   rw [qH,Az,step_at il,ef]
   have:ps.getD i 0 + (if qC Gn i=true then -1 else 1) * ((hp:Int) / ((2 ^ i:Nat):Int) % 2)=if qC hp i=true then ps.getD i 0 + (if qC Gn i=true then -1 else 1) else ps.getD i 0:=by
    cases b:qC hp i with
    | true =>
     rw [b] at b01
     rw [AS b01,Au rfl,Int.mul_one]
    | false =>
     rw [b] at b01
     have:=of_decide_eq_false b01
     rw [show (hp:Int) / ((2 ^ i:Nat):Int) % 2=0 by omega,Int.mul_zero,Int.add_zero,Ax (by decide)]
   rw [this]
   simp
  ·rintro σ H3 ⟨v5,v6,v7,rfl,s3,e3⟩
   rw [Aa,bits_len p5,AB (by rw [kP];exact Ad _)] at e3
   (simp only [qK])
   (push_cast only [e3])
   intro l H4 n4 s4 e4
   have S3:Same H H3:=fun b o e=>s3 _ _ (qE e nc) (S2 _ _ e)
   exact q l H4 (jG S3 n4) (S3.trans s4) e4
theorem aP {G X:Nat}{ps:List Int}(p5:ps.length ≤ 5)(hX:X < 2 ^ ps.length)(nn:∀ x ∈ ps,0 ≤ x):(∀ x ∈ qP ps G X,0 ≤ x) ↔ fI G ps X=true:=by
 refine ⟨fun h=>?_,fun h=>wO p5 hX h nn⟩
 have p32:=jA p5
 have st:=vV G ps ps.length
 unfold fI
 refine A2 ((sL (show X < 32 by omega) (by omega)).mpr fun t ht ⟨b1,b2⟩=>?_)
 rw [fM G ps _ p5 t ht] at b2
 obtain ⟨t1,t2,t3⟩:=b2
 have e:=step_at (F:=G) (hp:=X) t1
 rw [Au b1,Au t2,t3] at e
 have:=h _ (Aq e)
 omega
def sp_lls:Sp:=fun vs H Q _=>∃ (tw sa wa na:Addr) (ts:List (Addr × List Int)) (ps:List Int) (way:Int) (F G:Nat),vs=[.ref tw,.ref na,.int way]∧S.Tn H tw sa wa ts ps.length F∧H na=some (.tup (ps.map V.int))∧1 ≤ ps.length∧(∀ x ∈ ps,0 ≤ x∧x ≤ 99999)∧Way way F G ps.length∧G < 2 ^ ps.length∧Kinds (ts.map fun t=>t.2) ps.length G∧∀ H',Same H H'→Q (.int ((yC (ts.map fun t=>t.2) G ps:Nat):Int)) H'
def LLI (tw na c:Addr)(way:Int)(ts:List (List Int))(ps:List Int)(F:Nat)(G:Hp)(i:Nat)(σ:St)(H:Hp):Prop:=∃ (v4 v5:Option V) (rs:List (Addr × Int × Int)),σ=[some (.ref tw),some (.ref na),some (.int way),some (.ref c),v4,v5,none,none]∧(rs.map fun r=>r.2)=(S.mayN F ps i).map (fun X:Nat=>(kK ts (qP ps F X),(X:Int)))∧S.R2 H rs∧SameX c G H∧H c=some (.lst (rs.map fun r=>V.ref r.1))
def LLB (c l:Addr)(mn:Int)(rs:List (Addr × Int × Int))(G:Hp)(i:Nat)(σ:St)(H:Hp):Prop:=∃ v1 v2:Option V,σ=[v1,v2,some (.ref l)]∧SameX c G H∧H c=some (.lst ((((rs.take i).filter fun r=>decide (r.2.1=mn)).map fun r=>r.2.2).map V.int))
def LLW (c l:Addr)(b:Nat)(L:List Int)(G:Hp)(i:Nat)(σ:St)(H:Hp):Prop:=∃ (v1:Option V) (ws:List Int),σ=[v1,some (.ref l)]∧ws.length ≤ i∧(∀ x ∈ ws,x=(b:Int))∧((b:Int) ∈ L.take i→ws ≠ [])∧SameX c G H∧H c=some (.lst (ws.map V.int))
def LLA (c:Addr)(x:Int)(L:List Int)(G:Hp)(i:Nat)(σ:St)(H:Hp):Prop:=∃ v1:Option V,σ=[v1,some (.int x)]∧SameX c G H∧H c=some (.lst (((L.take i).map fun y=>decide (Builtin.bitAnd x y=x)).map V.bl))
theorem z7:FnScope ["_law_burg", "_law_prices", "_law_way", "_law_some_here", "_law_heap", "_law_behind_here", "_law_best", "_law_within"] ["_law_burg", "_law_prices", "_law_way"] (qF s__law_least_step):=⟨rfl,rfl,rfl,by decide +kernel,rfl,by decide +kernel,by decide +kernel⟩
theorem ok_lls (F:Fun K "_law_least_step" "_law_least_step" s__law_least_step f fd) (hm:mg "_law_least_step" = some (.ref f)) (hb:Binds K fd ["_law_burg", "_law_prices", "_law_way"] []) (T:Txt mg) (c__law_behind:Cal P w K mg base "_law_behind" ["_law_sides_here", "_law_prices", "_law_heap", "_law_way"] 2 fQ) (c__law_surplus:Cal P w K mg base "_law_surplus" ["_law_wants", "_law_prices"] 2 pX):Cal P w K mg base "_law_least_step" ["_law_burg", "_law_prices", "_law_way"] 3 sp_lls:=by
 refine q4 F hm hb z7 (fun vs H Q E h=>?_) (fun cdv A outer s H vs Q E hr h=>?_)
 ·obtain ⟨_,_,_,_,_,_,_,_,_,rfl,_⟩:=h;rfl
 ·obtain ⟨tw,sa,wa,na,ts,ps,way,Fn,Gn,rfl,TN,hna,p1,nb,wy,hG,kd,q⟩:=h
  have sc:=z7
  have p5:=TN.R.five
  have p32:=jA p5
  obtain ⟨t0,ts',ets⟩:∃ t0 ts',ts=t0 :: ts':=by
   cases h:ts with
   | nil=>exact absurd h TN.ne
   | cons x l=>exact ⟨x,l,rfl⟩
  have m0:=TN.R.row t0 (by rw [ets];exact Am)
  have i0:∀ x y:V,xH [x,y] 0=some x:=fun _ _=>rfl
  have i1:∀ x y:V,xH [x,y] 1=some y:=fun _ _=>rfl
  have at0:xH (ts.map fun t=>V.ref t.1) 0=some (V.ref t0.1):=by rw [ets];show xH _ ((0:Nat):Int)=_;exact zL rfl
  refine ⟨_,qJ (qY (i:=3) sc.nd rfl (Or.inr rfl) (kZ qD))
   (qJ (jT AD rfl (jD rfl T.range_ (qA (qM len0 rfl T.len_ kX (qA (q9 zF (q9 zF (pv 0) qG (fun _ _=>rfl)) qG (fun _ _=>rfl)) qD)) qD)) (qN (i:=4) sc.nd rfl (Or.inl rfl))
    (qJ (qY (i:=5) sc.nd rfl (Or.inl rfl) (qL c__law_behind hr (qA (q9 zF (pv 0) qG (fun _ _=>rfl)) (qA (pv 1) (qA (pv 4) (qA (pv 2) qD))))))
   (qI (j8 (q5 op_ge (qM (min0 rfl) rfl T.min_ uJ (qA (pv 5) qD)) qG (qZ _)) (qI (zX (jX (pv 3) (qA (jK (qA (qL c__law_surplus hr (qA (q9 zF (pv 0) qG (fun _ _=>rfl)) (qA (pv 5) qD))) (qA (pv 4) qD))) qD)))) jB))))
   (qJ (qY (i:=6) sc.nd rfl (Or.inr rfl) (jI (N:=["_law_here", "_law_heap", "_law_some_here"]) (fr:=[none,none,some 3]) rfl (yG (pv 3)) (CScope.of rfl rfl rfl) rfl (fun _ _ _=>⟨kU (n:=2) rfl (qT (qN (i:=0) (show List.Nodup (α:=Str) ["_law_here", "_law_heap", "_law_some_here"] by decide +kernel) rfl (Or.inl rfl)) (qT (qN (i:=1) (show List.Nodup (α:=Str) ["_law_here", "_law_heap", "_law_some_here"] by decide +kernel) rfl (Or.inl rfl)) kR)),zS (q5 jW (pv 0) (q9 zF (qM (minP0 rfl (hu128 hr)) rfl T.min_ uJ (qA (pv 2) qD)) qG (fun _ _=>rfl)) (qZ _)),pv 1⟩)))
   (qJ (iE (N:=["_law_one", "_law_best"]) (fr:=[none,some 6]) (i:=7) "_law_one" sc.nd rfl (Or.inl rfl) rfl (yG (pv 6)) (CScope1.of rfl rfl rfl rfl (fun _ _=>rfl) (fun _=>rfl)) rfl (fun _ _ _=>⟨qN (i:=0) (show List.Nodup (α:=Str) ["_law_one", "_law_best"] by decide +kernel) rfl (Or.inr rfl),zS (z8 (qM (all0 rfl) rfl T.all_ mF (qA (jI (N:=["_law_other", "_law_one"]) (fr:=[none,some 0]) rfl (yG (pv 1)) (CScope.of rfl rfl rfl) rfl (fun _ _ _=>⟨qN (i:=0) (show List.Nodup (α:=Str) ["_law_other", "_law_one"] by decide +kernel) rfl (Or.inl rfl),kN,jQ jW (qV cH (pv 1) (pv 0)) (pv 1) (qZ _)⟩)) qD))),pv 0⟩))
   (qI (qU (d5 (q5 (neNil0 hr.units0) (pv 7) (kZ qD) (qZ _)) (q9 zF (pv 7) qG (fun _ _=>rfl)) zH)))))),?_⟩
  rw [show L2.start ["_law_burg", "_law_prices", "_law_way", "_law_some_here", "_law_heap", "_law_behind_here", "_law_best", "_law_within"] [.ref tw,.ref na,.int way] = [some (.ref tw),some (.ref na),some (.int way),none,none,none,none,none] from rfl]
  (push_cast only [])
  refine ⟨by decide,fun c H1 nc s1 e1=>?_⟩
  have TN1:=TN.same s1
  have na1:=s1 _ _ hna
  have htw1:=qX TN1.R.tw
  have hwa1:=qX TN1.R.wa
  have ht01:=qX (s1 _ _ m0.1)
  (simp only [qK])
  (push_cast only [htw1,i1,i0,hwa1,at0,ht01])
  rw [m0.2.1]
  refine ⟨by omega,by omega,z9 (LLI tw na c way (ts.map fun t=>t.2) ps Gn H1) ⟨_,_,[],rfl,rfl,(fun _ z=>by cases z),SameX.refl,e1⟩ ?_ ?_⟩
  ·rintro X σ H2 hX ⟨v4,v5,rs,rfl,re,rr,s2,e2⟩
   rw [Ay] at hX
   have k2:∀ {b:Addr} {o:HO},H b=some o→H2 b=some o:=fun {b o} e=>s2 _ _ (qE e nc) (s1 _ _ e)
   have TN2:S.Tn H2 tw sa wa ts ps.length Fn:=TN.same fun b o e=>k2 e
   have htw2:=qX TN2.R.tw
   (push_cast only [htw2,i0])
   refine ⟨sa,na,ps,X,way,Fn,Gn,rfl,TN2.sa,k2 hna,p5,hX,wy,fun t H3 nt s3 e3=>?_⟩
   have hst:=qX e3
   (push_cast only [])
   (simp only [qK])
   (push_cast only [hst])
   have sne:qP ps Gn X ≠ []:=fun z=>by
    have:=AW List.length z
    rw [kP] at this
    have h0:ps.length=0:=this
    omega
   refine ⟨qP ps Gn X,rfl,sne,fun mn mnm mnl=>?_⟩
   have nx:=S.mayN_succ Gn ps X
   have nn0:∀ x ∈ ps,0 ≤ x:=fun x hx=>(nb x hx).1
   by_cases z:0 ≤ mn
   ·have al:=(aP (G:=Gn) p5 hX nn0).mp fun x hx=>by have:=mnl x hx;omega
    rw [Au al] at nx
    rw [Au z]
    have nn:=wO p5 hX al nn0
    have up:=dP (F:=Gn) (X:=X) (c:=99999) (fun x hx=>(nb x hx).2)
    have k3:∀ {b:Addr} {o:HO},H b=some o→H3 b=some o:=fun {b o} e=>s3 _ _ (k2 e)
    refine ⟨_,s3 _ _ e2,_,qX (k3 TN.R.tw),_,i1 _ _,wa,t,ts,qP ps Gn X,rfl,k3 TN.R.wa,TN.R.few,(fun t ht=>⟨k3 (TN.R.row t ht).1,by rw [kP];exact (TN.R.row t ht).2.1,(TN.R.row t ht).2.2⟩),e3,by rw [kP];exact p5,(fun x hx=>⟨nn x hx,by have:=up x hx;omega⟩),fun H4 s4=>⟨by decide,fun p H5 np s5 e5=>?_⟩⟩
    have c5:=s5 _ _ (s4 _ _ (s3 _ _ e2))
    have rl:rs.length ≤ X:=by
     have:=AW List.length re
     have ml:=S.mayN_len Gn ps X
     rw [Aa,Aa] at this
     omega
    refine ⟨_,c5,qO (by rw [Aa];omega),⟨_,_,rs ++ [(p,kK (ts.map fun t=>t.2) (qP ps Gn X),(X:Int))],rfl,?_,fun r hr=>?_,(s2.trans ((s3.trans s4).trans s5).x).trans SameX.upd,by rw [qH];simp⟩⟩
    ·rw [A8,re,nx,A8]
     rfl
    ·have ne:∀ {b:Addr} {L:List V},H5 b=some (.tup L)→b ≠ c:=fun h z=>by rw [z,c5] at h;cases h
     rcases Av.mp hr with z | z
     ·have h:=s5 _ _ (s4 _ _ (s3 _ _ (rr r z)))
      rw [qS (ne h)]
      exact h
     ·rw [A4.mp z]
      rw [qS (ne e5)]
      exact e5
   ·have al:¬ fI Gn ps X=true:=fun a=>z ((aP p5 hX nn0).mpr a _ mnm)
    rw [Ax al,Bm] at nx
    rw [Ax z]
    exact ⟨_,_,rs,rfl,by rw [nx];exact re,fun r hr=>s3 _ _ (rr r hr),s2.trans s3.x,s3 _ _ e2⟩
  ·rintro σ H2 ⟨v4,v5,rs,rfl,re,rr,s2,e2⟩
   rw [Ay] at re
   (simp only [qK])
   (push_cast only [e2])
   have b0:=cK (ts.map fun t=>t.2) Gn ps
   have ba:=tR (ts.map fun t=>t.2) Gn ps
   have bs:=(zO (s:=fun X=>kK (ts.map fun t=>t.2) (qP ps Gn X)) (vE Gn ps) (2 ^ ps.length)).2.2
   have eb:fmin (fun X=>kK (ts.map fun t=>t.2) (qP ps Gn X)) (fI Gn ps) (2 ^ ps.length)=yC (ts.map fun t=>t.2) Gn ps:=rfl
   rw [eb] at bs
   have bw:=fun B hB aB eB=>sC (s:=fun X=>kK (ts.map fun t=>t.2) (qP ps Gn X)) (K:=zE Gn ps ps.length) (m:=ps.length) p5 (o6 p5 hG kd) (B:=B) hB aB eB
   have eb2:fmin (fun X=>kK (ts.map fun t=>t.2) (qP ps Gn X)) (fun X=>decide (X &&& zE Gn ps ps.length=0)) (2 ^ ps.length)=yC (ts.map fun t=>t.2) Gn ps:=rfl
   rw [eb2] at bw
   generalize yC (ts.map fun t=>t.2) Gn ps=b at *
   have memr:∀ r ∈ rs,∃ X:Nat,X < 2 ^ ps.length∧fI Gn ps X=true∧r.2=(kK (ts.map fun t=>t.2) (qP ps Gn X),(X:Int)):=fun r hr=>by
    have:r.2 ∈ (S.mayN Gn ps (2 ^ ps.length)).map fun X:Nat=>(kK (ts.map fun t=>t.2) (qP ps Gn X),(X:Int)):=by rw [← re];exact Al.mpr ⟨r,hr,rfl⟩
    obtain ⟨X,hX,ex⟩:=Al.mp this
    obtain ⟨x1,x2⟩:=S.mayN_mem.mp hX
    exact ⟨X,x1,x2,ex.symm⟩
   obtain ⟨rb,hrb,erb⟩:∃ r ∈ rs,r.2=(kK (ts.map fun t=>t.2) (qP ps Gn b),(b:Int)):=by
    have:(kK (ts.map fun t=>t.2) (qP ps Gn b),(b:Int)) ∈ rs.map fun r=>r.2:=by rw [re];exact Al.mpr ⟨b,S.mayN_mem.mpr ⟨b0,ba⟩,rfl⟩
    obtain ⟨r,hr,er⟩:=Al.mp this
    exact ⟨r,hr,er⟩
   intro d nd
   have ncd:c ≠ d:=qE e2 nd
   refine jS (LLB d c (kK (ts.map fun t=>t.2) (qP ps Gn b)) rs H2) ⟨none,none,rfl,SameX.upd,qH⟩ (fun j σ H' _ ⟨_,_,_,s,_⟩=>s _ _ ncd e2) ?_ ?_
   ·rintro i x σ H3 hx ⟨v1,v2,rfl,s3,e3⟩
    rw [Af] at hx
    obtain ⟨r,hr',rfl⟩:=Ah.mp hx
    have hrm:=Aq hr'
    have e23:=s3 _ _ ncd e2
    have er3:=s3 _ _ (qE (rr r hrm) nd) (rr r hrm)
    have R3:S.R2 H3 rs:=fun y hy=>s3 _ _ (qE (rr y hy) nd) (rr y hy)
    (push_cast only [er3])
    refine ⟨rs.map fun r=>(r.1,[Ky.i r.2.1,Ky.i r.2.2]),by rw [kD e23,AV];rfl,S.R2.k R3,by simpa using List.ne_nil_of_mem hrb,fun m hm hmin=>?_⟩
    obtain ⟨r0,hr0,rfl,lst⟩:=S.R2.least hm hmin
    obtain ⟨X0,x1,x2,x3⟩:=memr r0 hr0
    have er0:r0.2.1=kK (ts.map fun t=>t.2) (qP ps Gn b):=by
     have h1:=lst rb hrb
     have h2:=bs X0 x1 x2
     rw [x3,erb] at h1
     rw [x3]
     show kK (ts.map fun t=>t.2) (qP ps Gn X0)=_
     simp only at h1
     omega
    refine ⟨_,qX (R3 r0 hr0),_,rfl,rfl,?_⟩
    rw [er0]
    have tk:((rs.take (i + 1)).filter fun r=>decide (r.2.1=kK (ts.map fun t=>t.2) (qP ps Gn b)))=((rs.take i).filter fun r=>decide (r.2.1=kK (ts.map fun t=>t.2) (qP ps Gn b))) ++ if r.2.1=kK (ts.map fun t=>t.2) (qP ps Gn b) then [r] else []:=by
     rw [Az,hr',Option.toList_some,B2]
     congr 1
     by_cases q:r.2.1=kK (ts.map fun t=>t.2) (qP ps Gn b) <;> simp [q]
    by_cases z:r.2.1=kK (ts.map fun t=>t.2) (qP ps Gn b)
    ·rw [Au z] at tk
     rw [Au (by rw [z])]
     have rl:rs.length ≤ 32:=by
      have:=AW List.length re
      have ml:=S.mayN_len Gn ps (2 ^ ps.length)
      rw [Aa,Aa] at this
      omega
     refine ⟨_,e3,qO ?_,⟨_,_,rfl,s3.trans SameX.upd,?_⟩⟩
     ·rw [Aa,Aa]
      have:=Bi (fun r=>decide (r.2.1=kK (ts.map fun t=>t.2) (qP ps Gn b))) (rs.take i)
      rw [An] at this
      omega
     ·rw [qH,tk]
      simp
    ·rw [Ax z,Bm] at tk
     rw [Ax (fun y=>z (by injection y))]
     exact ⟨_,_,rfl,s3,by rw [tk];exact e3⟩
   ·rintro σ H3 ⟨v1,v2,rfl,s3,e3⟩
    rw [Aa,AF] at e3
    have Lm:∀ x,x ∈ ((rs.filter fun r=>decide (r.2.1=kK (ts.map fun t=>t.2) (qP ps Gn b))).map fun r=>r.2.2)→∃ X:Nat,x=(X:Int)∧X < 2 ^ ps.length∧fI Gn ps X=true∧kK (ts.map fun t=>t.2) (qP ps Gn X)=kK (ts.map fun t=>t.2) (qP ps Gn b):=fun x hx=>by
     obtain ⟨r,hr,rfl⟩:=Al.mp hx
     obtain ⟨hr1,hr2⟩:=Bn.mp hr
     obtain ⟨X,x1,x2,x3⟩:=memr r hr1
     have:=AS hr2
     rw [x3] at this ⊢
     exact ⟨X,rfl,x1,x2,this⟩
    have Lb:(b:Int) ∈ ((rs.filter fun r=>decide (r.2.1=kK (ts.map fun t=>t.2) (qP ps Gn b))).map fun r=>r.2.2):=Al.mpr ⟨rb,Bn.mpr ⟨hrb,A2 (by rw [erb])⟩,by rw [erb]⟩
    have Ll:((rs.filter fun r=>decide (r.2.1=kK (ts.map fun t=>t.2) (qP ps Gn b))).map fun r=>r.2.2).length ≤ 32:=by
     have:=AW List.length re
     have ml:=S.mayN_len Gn ps (2 ^ ps.length)
     rw [Aa,Aa] at this
     have:=Bi (fun r=>decide (r.2.1=kK (ts.map fun t=>t.2) (qP ps Gn b))) rs
     rw [Aa]
     omega
    have S3:Same H2 H3:=s3.same nd
    revert Lm Lb Ll e3
    generalize ((rs.filter fun r=>decide (r.2.1=kK (ts.map fun t=>t.2) (qP ps Gn b))).map fun r=>r.2.2)=L
    intro e3 Lm Lb Ll
    (simp only [qK])
    (push_cast only [e3])
    intro p np
    have ndp:d ≠ p:=qE e3 np
    refine jS (LLW p d b L H3) ⟨none,[],rfl,Ad _,(fun _ z=>by cases z),(fun z=>by simp at z),SameX.upd,qH⟩ (fun j σ H' _ ⟨_,_,_,_,_,_,s,_⟩=>s _ _ ndp e3) ?_ ?_
    ·rintro i x σ H4 hx ⟨v1,ws,rfl,wl,wb,wn,s4,e4⟩
     rw [Af] at hx
     obtain ⟨y,hy,rfl⟩:=Ah.mp hx
     have hi:i < L.length:=(Ae.mp hy).1
     have d4:=s4 _ _ ndp e3
     (push_cast only [d4])
     intro u nu
     have ndu:d ≠ u:=qE d4 nu
     have npu:p ≠ u:=qE e4 nu
     refine jS (LLA u y L H4) ⟨none,rfl,SameX.upd,qH⟩ (fun j σ H' _ ⟨_,_,s,_⟩=>s _ _ ndu d4) ?_ ?_
     ·rintro j x σ H5 hx ⟨v1,rfl,s5,e5⟩
      rw [Af] at hx
      obtain ⟨y2,hy2,rfl⟩:=Ah.mp hx
      have hj:j < L.length:=(Ae.mp hy2).1
      (push_cast only [e5])
      refine ⟨qO (by rw [An];omega),⟨_,rfl,s5.trans SameX.upd,?_⟩⟩
      rw [qH,Az,hy2]
      simp
     ·rintro σ H5 ⟨v1,rfl,s5,e5⟩
      rw [Aa,AF] at e5
      refine ⟨_,kD e5,?_⟩
      have p5':=s5 _ _ npu e4
      obtain ⟨X,rfl,x1,x2,x3⟩:=Lm y (Aq hy)
      have bX:=bw X x1 (by unfold fI at x2;exact AS x2) x3
      by_cases z:((L.map fun y2=>decide (Builtin.bitAnd (X:Int) y2=(X:Int))).all id)=true
      ·rw [Au z]
       have zb:=Bu.mp z _ (Al.mpr ⟨(b:Int),Lb,rfl⟩)
       have zb':Builtin.bitAnd (X:Int) (b:Int)=(X:Int):=AS zb
       rw [fH (by omega) (by omega),Nat.and_comm,bX] at zb'
       refine ⟨_,p5',qO (by rw [Aa];omega),⟨_,ws ++ [(X:Int)],rfl,by rw [Ar,A7];omega,fun x hx=>?_,fun _=>by simp,(s4.trans (s5.same nu).x).trans SameX.upd,by rw [qH];simp⟩⟩
       rcases Av.mp hx with g | g
       ·exact wb x g
       ·rw [A4.mp g,zb']
      ·rw [Ax z]
       refine ⟨_,ws,rfl,by omega,wb,fun g=>?_,s4.trans (s5.same nu).x,p5'⟩
       rw [Az,hy] at g
       rcases Av.mp g with g | g
       ·exact wn g
       ·have g':(b:Int)=(X:Int):=by simpa using g
        have g2:b=X:=by exact_mod_cast g'
        subst g2
        refine absurd (Bu.mpr fun v hv=>?_) z
        obtain ⟨y2,hy2,rfl⟩:=Al.mp hv
        obtain ⟨Y,rfl,y1,y2',y3⟩:=Lm y2 hy2
        have bY:=bw Y y1 (by unfold fI at y2';exact AS y2') y3
        show decide _=true
        rw [fH (by omega) (by omega),bY]
        exact A2 rfl
    ·rintro σ H4 ⟨v1,ws,rfl,wl,wb,wn,s4,e4⟩
     rw [Aa,AF] at wn
     (simp only [qK])
     (push_cast only [e4])
     have wne:=wn Lb
     obtain ⟨w0,ws',rfl⟩:∃ w0 ws',ws=w0 :: ws':=by
      cases ws with
      | nil=>exact absurd rfl wne
      | cons x l=>exact ⟨x,l,rfl⟩
     refine ⟨by decide,fun e0 H5 n5 s5 e5=>⟨_,s5 _ _ e4,e5,?_⟩⟩
     rw [Au (by simp)]
     refine ⟨_,kD (s5 _ _ e4),V.int w0,by show xH _ ((0:Nat):Int)=_;exact zL rfl,?_⟩
     rw [wb w0 Am]
     exact q H5 fun b o e=>s5 _ _ (s4 _ _ (qE (S3 _ _ (s2 _ _ (qE e nc) (s1 _ _ e))) np) (S3 _ _ (s2 _ _ (qE e nc) (s1 _ _ e))))
def mV:Sp:=fun vs H Q _=>∃ (tw sa wa:Addr) (ts:List (Addr × List Int)) (m F G:Nat) (way:Int),vs=[.ref tw,.int way]∧S.Tn H tw sa wa ts m F∧Way way F G m∧∀ (top:Int) (t:Addr) (H':Hp),S.IsTop (ts.map fun t=>t.2) m top→Same H H'→H' t=some (.tup ((S.firstL G m top).map V.int))→Q (.ref t) H'
def FSL (c:Addr)(G0 m:Nat)(top:Int)(co:Int)(G:Hp)(i:Nat)(σ:St)(H:Hp):Prop:=∃ v:Option V,σ=[v,some (.int top),some (.int co)]∧SameX c G H∧H c=some (.lst (((S.firstL G0 m top).take i).map V.int))
theorem way_co {way:Int}{F G m:Nat}(wy:Way way F G m):∃ co:Int,xH [V.non,V.int 1,V.int 0] way=some (V.int co)∧∀ i,i < m→((if qC F i=true then 1 else 0)=co ↔ qC G i=true):=by
 rcases wy with ⟨rfl,rfl⟩ | ⟨rfl,h⟩
 ·refine ⟨1,rfl,fun i hi=>?_⟩
  cases qC G i <;> simp
 ·refine ⟨0,rfl,fun i hi=>?_⟩
  rw [h i hi]
  cases qC F i <;> simp
theorem gS:FnScope ["_law_burg", "_law_way", "_law_top", "_law_costly"] ["_law_burg", "_law_way"] (qF s__law_first):=⟨rfl,rfl,rfl,by decide +kernel,rfl,by decide +kernel,by decide +kernel⟩
theorem iK (F:Fun K "_law_first" "_law_first" s__law_first f fd) (hm:mg "_law_first" = some (.ref f)) (hb:Binds K fd ["_law_burg", "_law_way"] []) (T:Txt mg):Cal P w K mg base "_law_first" ["_law_burg", "_law_way"] 1 mV:=by
 refine q4 F hm hb gS (fun vs H Q E h=>?_) (fun cdv A outer s H vs Q E hr h=>?_)
 ·obtain ⟨_,_,_,_,_,_,_,_,rfl,_⟩:=h;rfl
 ·obtain ⟨tw,sa,wa,ts,m,Fn,Gn,way,rfl,TN,wy,q⟩:=h
  have sc:=gS
  have few:=TN.R.few
  have p5:=TN.R.five
  have htw:=qX TN.R.tw
  have hwa:=TN.R.wa
  have i0:∀ x y:V,xH [x,y] 0=some x:=fun _ _=>rfl
  have i1:∀ x y:V,xH [x,y] 1=some y:=fun _ _=>rfl
  obtain ⟨co,hco,eco⟩:=way_co wy
  refine ⟨_,qJ (qY (i:=2) sc.nd rfl (Or.inr rfl) (qM (iQ rfl) rfl T.max_ gH (qA (jI (N:=["_law_want"]) (fr:=[none]) rfl (xE (q9 zF (pv 0) qG (fun _ _=>rfl))) (CScope.of rfl rfl rfl) rfl (fun _ _ _=>⟨qN (i:=0) (show List.Nodup (α:=Str) ["_law_want"] by decide +kernel) rfl (Or.inl rfl),kN,q9 zF (pv 0) (wJ vT qG) (fun _ _=>rfl)⟩)) qD)))
   (qJ (qY (i:=3) sc.nd rfl (Or.inr rfl) (q9 zF (kZ (qA zH (qA qG (qA qG qD)))) (pv 1) (fun _ _=>rfl)))
   (qI (qU (kM zZ rfl T.tuple_ kL (qA (jI (N:=["_law_side", "_law_top", "_law_costly"]) (fr:=[none,some 2,some 3]) rfl (xE (q9 zF (pv 0) qG (fun _ _=>rfl))) (CScope.of rfl rfl rfl) rfl (fun _ _ _=>⟨qN (i:=0) (show List.Nodup (α:=Str) ["_law_side", "_law_top", "_law_costly"] by decide +kernel) rfl (Or.inl rfl),kN,qV xU (pv 1) (kM oF rfl T.int_ pC (qA (jQ jW (pv 0) (pv 2) (qZ _)) qD))⟩)) qD))))),?_⟩
  rw [show L2.start ["_law_burg", "_law_way", "_law_top", "_law_costly"] [.ref tw,.int way] = [some (.ref tw),some (.int way),none,none] from rfl]
  (push_cast only [htw,i0,i1,hwa])
  intro c nc
  have nwc:wa ≠ c:=qE hwa nc
  refine jS (S.FSJ c ts m H) ⟨none,rfl,SameX.upd,qH⟩ (fun j σ H' _ ⟨_,_,s,_⟩=>s _ _ nwc hwa) ?_ ?_
  ·rintro i x σ H2 hx ⟨v,rfl,s2,e2⟩
   rw [Af] at hx
   obtain ⟨t,ht,rfl⟩:=Ah.mp hx
   have hi:i < ts.length:=(Ae.mp ht).1
   obtain ⟨et,tl,tb⟩:=TN.R.row t (Aq ht)
   have et2:=qX (s2 _ _ (qE et nc) et)
   have la:=S.last_at tl
   (push_cast only [et2,la,e2])
   refine ⟨qO (by rw [An];omega),⟨_,rfl,s2.trans SameX.upd,?_⟩⟩
   rw [qH,Az,ht]
   simp
  ·rintro σ H2 ⟨v,rfl,s2,e2⟩
   rw [Aa,AF] at e2
   have S2:=s2.same nc
   refine ⟨_,kD e2,by simpa using TN.ne,fun top tm tx=>?_⟩
   have it:S.IsTop (ts.map fun t=>t.2) m top:=by
    obtain ⟨t,ht,et⟩:=Al.mp tm
    refine ⟨⟨t.2,Al.mpr ⟨t,ht,rfl⟩,et⟩,fun ws hw=>?_⟩
    obtain ⟨t',ht',rfl⟩:=Al.mp hw
    exact tx _ (Al.mpr ⟨t',ht',rfl⟩)
   (push_cast only [])
   (simp only [qK])
   (push_cast only [])
   refine ⟨by decide,fun L H3 n3 s3 e3=>⟨_,kD e3,_,hco,?_⟩⟩
   have S3:=S2.trans s3
   have TN3:=TN.same S3
   have htw3:=qX TN3.R.tw
   have sa3:=TN3.sa
   (simp only [qK])
   (push_cast only [htw3,i0,sa3])
   intro d nd
   have nsd:sa ≠ d:=qE sa3 nd
   refine jS (FSL d Gn m top co H3) ⟨none,rfl,SameX.upd,qH⟩ (fun j σ H' _ ⟨_,_,s,_⟩=>s _ _ nsd sa3) ?_ ?_
   ·rintro i x σ H4 hx ⟨v,rfl,s4,e4⟩
    rw [Af] at hx
    obtain ⟨y,hy,rfl⟩:=Ah.mp hx
    have hi:i < m:=by
     have:=(Ae.mp hy).1
     rwa [S.bits_len] at this
    have hy':y=if qC Fn i=true then 1 else 0:=by
     have:=S.bits_at (F:=Fn) hi
     rw [Ab,hy] at this
     exact this
    have fa:(S.firstL Gn m top)[i]? = some (if qC Gn i=true then top else 0):=by
     unfold S.firstL
     rw [Af,C3 hi]
     rfl
    have ec:=eco i hi
    rw [← hy'] at ec
    (push_cast only [e4])
    refine ⟨.inr ⟨by split <;> decide,by split <;> decide⟩,qO (by rw [An];omega),⟨_,rfl,s4.trans SameX.upd,?_⟩⟩
    rw [qH,Az,fa]
    by_cases g:qC Gn i=true
    ·rw [Au (ec.mpr g),Au g,Int.mul_one]
     simp
    ·rw [Ax (fun z=>g (ec.mp z)),Ax g,Int.mul_zero]
     simp
   ·rintro σ H4 ⟨v,rfl,s4,e4⟩
    rw [Aa,S.bits_len,AB (by rw [S.first_len];exact Ad _)] at e4
    (push_cast only [])
    exact ⟨_,e4,fun l H5 _ s5 e5=>q top l H5 it ((S3.trans (s4.same nd)).trans s5) e5⟩
def mU:Sp:=fun vs H Q _=>∃ (tw sa wa:Addr) (ts:List (Addr × List Int)) (m F G:Nat) (way:Int),vs=[.ref tw,.int way]∧S.Tn H tw sa wa ts m F∧Way way F G m∧G < 2 ^ m∧1 ≤ m∧Kinds (ts.map fun t=>t.2) m G∧(∀ top,S.IsTop (ts.map fun t=>t.2) m top→0 ≤ top∧top ≤ 1000∧kK (ts.map fun t=>t.2) (S.firstL G m top) ≤ 399)∧∀ (top:Int) (t r p:Addr) (H':Hp),S.IsTop (ts.map fun t=>t.2) m top→Same H H'→H' t=some (.tup [.ref r,.ref p])→H' r=some (.tup (S.natI (j6 (ts.map fun t=>t.2) G 399 (S.firstL G m top)).1))→H' p=some (.tup ((j6 (ts.map fun t=>t.2) G 399 (S.firstL G m top)).2.map V.int))→Q (.ref t) H'
def LTI (tw r:Addr)(way:Int)(ts:List (Addr × List Int))(F:Nat)(ps0:List Int)(G:Hp)(n:Nat)(σ:St)(H:Hp):Prop:=∃ (pa:Addr) (ps:List Int) (row:List Nat),σ=[some (.ref tw),some (.int way),some (.ref pa),some (.ref r),some (.int ((yC (ts.map fun t=>t.2) F ps:Nat):Int))]∧ps.length=ps0.length∧(∀ x ∈ ps,0 ≤ x∧x ≤ 1000 + (row.length:Int))∧row.length + n=399∧kK (ts.map fun t=>t.2) ps ≤ (n:Int)∧j6 (ts.map fun t=>t.2) F 399 ps0=(row ++ (j6 (ts.map fun t=>t.2) F n ps).1,(j6 (ts.map fun t=>t.2) F n ps).2)∧SameX r G H∧G r=some (.lst [])∧H r=some (.lst (S.natI row))∧H pa=some (.tup (ps.map V.int))
theorem gQ:FnScope ["_law_burg", "_law_way", "_law_prices", "_law_row", "_law_heap"] ["_law_burg", "_law_way"] (qF s__law_steps):=⟨rfl,rfl,rfl,by decide +kernel,rfl,by decide +kernel,by decide +kernel⟩
theorem iJ (F:Fun K "_law_steps" "_law_steps" s__law_steps f fd) (hm:mg "_law_steps" = some (.ref f)) (hb:Binds K fd ["_law_burg", "_law_way"] []) (T:Txt mg) (c__law_first:Cal P w K mg base "_law_first" ["_law_burg", "_law_way"] 1 mV) (c__law_least_step:Cal P w K mg base "_law_least_step" ["_law_burg", "_law_prices", "_law_way"] 3 sp_lls) (c__law_behind:Cal P w K mg base "_law_behind" ["_law_sides_here", "_law_prices", "_law_heap", "_law_way"] 2 fQ):Cal P w K mg base "_law_steps" ["_law_burg", "_law_way"] 4 mU:=by
 refine q4 F hm hb gQ (fun vs H Q E h=>?_) (fun cdv A outer s H vs Q E hr h=>?_)
 ·obtain ⟨_,_,_,_,_,_,_,_,rfl,_⟩:=h;rfl
 ·obtain ⟨tw,sa,wa,ts,m,Fn,Gn,way,rfl,TN,wy,hG,m1,kd,bd,q⟩:=h
  have sc:=gQ
  have p5:=TN.R.five
  have few:=TN.R.few
  refine ⟨_,qJ (qY (i:=2) sc.nd rfl (Or.inl rfl) (qL c__law_first hr (qA (pv 0) (qA (pv 1) qD))))
   (qJ (qY (i:=3) sc.nd rfl (Or.inl rfl) (kZ qD))
   (qJ (qY (i:=4) sc.nd rfl (Or.inl rfl) (qL c__law_least_step hr (qA (pv 0) (qA (pv 2) (qA (pv 1) qD)))))
   (qJ (rD AD (PW.pt (yR (q5 lK (pv 4) zH (qZ _)) (yR (q5 nF (pv 4) qG (qZ _)) (xO (q5 op_lt (qM len0 rfl T.len_ kX (qA (pv 3) qD)) qG (qZ _)))))) (qJ (zX (jX (pv 3) (qA (pv 4) qD)))
   (qJ (qY (i:=2) sc.nd rfl (Or.inl rfl) (qL c__law_behind hr (qA (q9 zF (pv 0) qG (fun _ _=>rfl)) (qA (pv 2) (qA (pv 4) (qA (pv 1) qD))))))
   (qI (qY (i:=4) sc.nd rfl (Or.inl rfl) (qL c__law_least_step hr (qA (pv 0) (qA (pv 2) (qA (pv 1) qD)))))))))
   (qI (qU (jK (qA (kM zZ rfl T.tuple_ kL (qA (pv 3) qD)) (qA (pv 2) qD)))))))),?_⟩
  rw [show L2.start ["_law_burg", "_law_way", "_law_prices", "_law_row", "_law_heap"] [.ref tw,.int way] = [some (.ref tw),some (.int way),none,none,none] from rfl]
  (push_cast only [])
  refine ⟨tw,sa,wa,ts,m,Fn,Gn,way,rfl,TN,wy,fun top pa0 H1 it s1 e1=>?_⟩
  obtain ⟨t0,t1,t2⟩:=bd top it
  have q':=fun t r p H' s a b c=>q top t r p H' it s a b c
  have fl:=S.first_len Gn m top
  have fb:∀ x ∈ S.firstL Gn m top,0 ≤ x∧x ≤ 1000:=fun x hx=>by rcases S.first_mem hx with z | z <;> omega
  revert t2 q' fl fb e1
  generalize S.firstL Gn m top=ps0
  intro e1 t2 q' fl fb
  (push_cast only [])
  (simp only [qK])
  (push_cast only [])
  refine ⟨by decide,fun r H2 nr s2 e2=>?_⟩
  have S2:=s1.trans s2
  (push_cast only [])
  (simp only [qK])
  (push_cast only [])
  refine ⟨tw,sa,wa,pa0,ts,ps0,way,Fn,Gn,rfl,by rw [fl];exact TN.same S2,s2 _ _ e1,by omega,fun x hx=>by have:=fb x hx;omega,by rw [fl];exact wy,by rw [fl];exact hG,by rw [fl];exact kd,fun H3 s3=>?_⟩
  (push_cast only [])
  (simp only [qK])
  have e13:=s3 _ _ e2
  have S3:=S2.trans s3
  have nr0:H r=none:=jG s1 nr
  have wl:∀ ws ∈ ts.map (fun t=>t.2),ws.length=2 ^ m:=fun ws hw=>by
   obtain ⟨t,ht,rfl⟩:=Al.mp hw
   exact (TN.R.row t ht).2.1
  have z0:∀ ws ∈ ts.map (fun t=>t.2),0 ≤ ws.getD 0 0:=fun ws hw=>by
   have l:=wl ws hw
   obtain ⟨t,ht,rfl⟩:=Al.mp hw
   have pp:=AA m
   rw [Ab,Ag (show 0 < t.2.length by rw [l];exact pp)]
   exact ((TN.R.row t ht).2.2 _ (AK _)).1
  refine ⟨LTI tw r way ts Gn ps0 H3,⟨399,pa0,ps0,[],rfl,rfl,(fun x hx=>by have:=fb x hx;simp;omega),rfl,t2,rfl,SameX.refl,e13,e13,s3 _ _ (s2 _ _ e1)⟩,?_⟩
  rintro n σ H4 ⟨pa,ps,row,rfl,pl,pb,rn,sn,run,s4,r0,r4,pa4⟩
  have p5':ps.length ≤ 5:=by omega
  have p32:=jA p5'
  have nlt:=cK (ts.map fun t=>t.2) Gn ps
  have k4:∀ {b:Addr} {o:HO},H b=some o→H4 b=some o:=fun {b o} e=>s4 _ _ (qE e nr0) (S3 _ _ e)
  by_cases z:yC (ts.map fun t=>t.2) Gn ps=0
  ·rw [wR z,Bm] at run
   rw [z]
   (push_cast only [])
   rw [Ax (by omega)]
   refine ⟨_,r4,fun l H5 n5 s5 e5=>⟨by decide,fun p H6 n6 s6 e6=>?_⟩⟩
   exact q' p l pa H6 (fun b o e=>s6 _ _ (s5 _ _ (k4 e))) e6 (by rw [run];exact s6 _ _ e5) (by rw [run];exact s6 _ _ (s5 _ _ pa4))
  ·have z':(0:Int) < ((yC (ts.map fun t=>t.2) Gn ps:Nat):Int):=by omega
   obtain ⟨k,rfl,sk,nn',rm⟩:=rB z0 p5' (fun x hx=>(pb x hx).1) sn z
   generalize hX:yC (ts.map fun t=>t.2) Gn ps=X at *
   have hsr4:=kD r4
   (push_cast only [z',hsr4])
   rw [Au (by unfold S.natI;rw [Aa];omega)]
   refine ⟨fun σ' H'=>LTI tw r way ts Gn ps0 H3 k σ' H',fun σ' H' zz=>⟨k,by omega,zz⟩,_,r4,_,r4,qO (by unfold S.natI;rw [Aa];omega),?_⟩
   have npr:pa ≠ r:=fun y=>by rw [y,r4] at pa4;cases pa4
   have u5:SameX r H4 (upd H4 r (.lst (S.natI row ++ [V.int (X:Int)]))):=SameX.upd
   have r5:upd H4 r (.lst (S.natI row ++ [V.int (X:Int)])) r=some (.lst (S.natI (row ++ [X]))):=by rw [qH];unfold S.natI;simp
   revert u5 r5
   generalize upd H4 r (.lst (S.natI row ++ [V.int (X:Int)]))=H5
   intro u5 r5
   have k5:∀ {b:Addr} {o:HO},H b=some o→H5 b=some o:=fun {b o} e=>u5 _ _ (qE e nr0) (k4 e)
   have TN5:S.Tn H5 tw sa wa ts m Fn:=TN.same fun b o e=>k5 e
   have htw5:=qX TN5.R.tw
   have i0:∀ x y:V,xH [x,y] 0=some x:=fun _ _=>rfl
   have plm:ps.length=m:=by omega
   (simp only [qK])
   (push_cast only [htw5,i0])
   refine ⟨sa,pa,ps,X,way,Fn,Gn,rfl,by rw [plm];exact TN5.sa,u5 _ _ npr pa4,p5',by omega,by rw [plm];exact wy,fun pc H6 nc6 s6 e6=>?_⟩
   have sl:(qP ps Gn X).length=m:=by rw [kP];exact plm
   have up:=dP (F:=Gn) (X:=X) (c:=1000 + (row.length:Int)) (fun x hx=>(pb x hx).2)
   (push_cast only [])
   (simp only [qK])
   (push_cast only [])
   refine ⟨tw,sa,wa,pc,ts,qP ps Gn X,way,Fn,Gn,rfl,by rw [sl];exact TN5.same s6,e6,by omega,fun x hx=>⟨nn' x hx,by have:=up x hx;omega⟩,by rw [sl];exact wy,by rw [sl];exact hG,by rw [sl];exact kd,fun H7 s7=>?_⟩
   (push_cast only [])
   refine ⟨pc,qP ps Gn X,row ++ [X],rfl,by omega,fun x hx=>⟨nn' x hx,?_⟩,by rw [Ar,A7];omega,sk,?_,(s4.trans u5).trans (s6.trans s7).x,r0,s7 _ _ (s6 _ _ r5),s7 _ _ e6⟩
   ·have:=up x hx
    rw [Ar,A7]
    omega
   ·rw [run,rm,CB]
    rfl
def uB:V→Bool
 | .int _=>true
 | _=>false
theorem tyN_isI {H:Hp}{x:V}{t:String}(h:zM H x=some t):((t == "int" || (t == "bool" && true)) && !(t == "bool"))=uB x:=by
 cases x with
 | non=>cases h;rfl
 | bl b=>cases h;rfl
 | int i=>cases h;rfl
 | str i=>cases h;rfl
 | ref a =>
  cases e:H a with
  | none=>simp [zM,e] at h
  | some o =>
   cases o with
   | lst xs=>simp [zM,e] at h;subst h;rfl
   | tup xs=>simp [zM,e] at h;subst h;rfl
   | dK xs=>simp [zM,e] at h;subst h;rfl
   | _=>simp [zM,e] at h
 | _=>cases h
theorem j0 {H H':Hp}(s:Same H H'){x:V}{t:String}(h:zM H x=some t):zM H' x=some t:=by
 cases x with
 | ref a =>
  cases e:H a with
  | none=>simp [zM,e] at h
  | some o=>simp only [zM,e] at h;simp only [zM,s a o e];exact h
 | _=>exact h
def pU:Sp:=fun vs H Q _=>∃ (x:V) (t:String),vs=[x]∧zM H x=some t∧Q (.bl (uB x)) H
theorem wC:FnScope ["thing"] ["thing"] (qF s_is_whole):=⟨rfl,rfl,rfl,by decide +kernel,rfl,by decide +kernel,by decide +kernel⟩
theorem ok_whole (F:Fun K "is_whole" "is_whole" s_is_whole f fd) (hm:mg "is_whole" = some (.ref f)) (hb:Binds K fd ["thing"] []) (T:Txt mg):Cal P w K mg base "is_whole" ["thing"] 1 pU:=by
 refine q4 F hm hb wC (fun vs H Q E h=>?_) (fun cdv A outer s H vs Q E hr h=>?_)
 ·obtain ⟨_,_,rfl,_⟩:=h;rfl
 ·obtain ⟨x,t,rfl,hx,q⟩:=h
  have sc:=wC
  refine ⟨_,qI (qU (zI (qM dF rfl T.isinstance_ kA (qA (pv 0) (qA (jU (v:=.ty "int") rfl T.int_ pC rfl) qD))) (gC (tO (qM dF rfl T.isinstance_ kA (qA (pv 0) (qA (jU (v:=.ty "bool") rfl T.bool_ w4 rfl) qD))))))),?_⟩
  rw [show L2.start ["thing"] [x] = [some (x)] from rfl]
  rw [← tyN_isI hx] at q
  (push_cast only [])
  refine ⟨_,hx,?_⟩
  obtain ⟨_,ht⟩:=oT (K:=K) hx
  rcases ht with rfl | rfl | rfl | rfl | rfl | rfl | rfl
  all_goals first
   | (rw [Ax (by decide)];simpa using q)
   | (rw [Au (by decide)];refine ⟨_,hx,?_⟩;simpa using q)
def Kn (H:Hp)(xs:List V):Prop:=∀ x ∈ xs,∃ t,zM H x=some t
theorem Kn.same {H H':Hp}(s:Same H H'){xs:List V}(k:Kn H xs):Kn H' xs:=fun x hx=>let ⟨t,e⟩:=k x hx;⟨t,j0 s e⟩
theorem Kn.ints {H:Hp}(ns:List Int):Kn H (ns.map V.int):=fun x hx=>by
 obtain ⟨n,_,rfl⟩:=Al.mp hx
 exact ⟨"int",rfl⟩
def mP:Sp:=fun vs H Q _=>(∃ (x:V) (k:Int) (t:String),vs=[x,.int k]∧zM H x=some t∧(t == "tuple")=false∧Q (.bl false) H) ∨
 ∃ (a:Addr) (k:Int) (xs:List V),vs=[.ref a,.int k]∧H a=some (.tup xs)∧Kn H xs∧xs.length < 1000∧∀ H',Same H H'→Q (.bl (decide ((xs.length:Int)=k) && xs.all uB)) H'
def LW (c:Addr)(xs:List V)(G:Hp)(i:Nat)(σ:St)(H:Hp):Prop:=∃ v,σ=[v]∧SameX c G H∧H c=some (.lst (((xs.take i).map uB).map V.bl))
theorem yQ:FnScope ["thing", "many"] ["thing", "many"] (qF s_are_wholes):=⟨rfl,rfl,rfl,by decide +kernel,rfl,by decide +kernel,by decide +kernel⟩
theorem iH (F:Fun K "are_wholes" "are_wholes" s_are_wholes f fd) (hm:mg "are_wholes" = some (.ref f)) (hb:Binds K fd ["thing", "many"] []) (T:Txt mg) (c_is_whole:Cal P w K mg base "is_whole" ["thing"] 1 pU):Cal P w K mg base "are_wholes" ["thing", "many"] 2 mP:=by
 refine q4 F hm hb yQ (fun vs H Q E h=>?_) (fun cdv A outer s H vs Q E hr h=>?_)
 ·rcases h with h | h
  ·obtain ⟨_,_,_,rfl,_⟩:=h;rfl
  ·obtain ⟨_,_,_,rfl,_⟩:=h;rfl
 ·rcases h with h | h
  ·obtain ⟨x,k,t,rfl,hx,ht,q⟩:=h
   have sc:=yQ
   refine ⟨_,qI (qU (zI (qM dF rfl T.isinstance_ kA (qA (pv 0) (qA (jU (v:=.ty "tuple") rfl T.tuple_ kL rfl) qD))) (zI (jQ jW (qM len0 rfl T.len_ kX (qA (pv 0) qD)) (pv 1) (qZ _)) (gC (qM (all0 rfl) rfl T.all_ mF (qA (jI (N:=["part"]) (fr:=[none]) rfl (xE (pv 0)) (CScope.of rfl rfl rfl) rfl (fun _ _ _=>⟨qN (i:=0) (show List.Nodup (α:=Str) ["part"] by decide +kernel) rfl (Or.inl rfl),kN,qL c_is_whole hr (qA (pv 0) qD)⟩)) qD)))))),?_⟩
   rw [show L2.start ["thing", "many"] [x,.int k] = [some (x),some (.int k)] from rfl]
   (push_cast only [])
   refine ⟨_,hx,?_⟩
   (push_cast only [])
   rw [Ax (by rw [ht];decide)]
   exact q
  ·obtain ⟨a,k,xs,rfl,ha,hk,hlen,q⟩:=h
   have sc:=yQ
   refine ⟨_,qI (qU (zI (qM dF rfl T.isinstance_ kA (qA (pv 0) (qA (jU (v:=.ty "tuple") rfl T.tuple_ kL rfl) qD))) (zI (jQ jW (qM len0 rfl T.len_ kX (qA (pv 0) qD)) (pv 1) (qZ _)) (gC (qM (all0 rfl) rfl T.all_ mF (qA (jI (N:=["part"]) (fr:=[none]) rfl (xE (pv 0)) (CScope.of rfl rfl rfl) rfl (fun _ _ _=>⟨qN (i:=0) (show List.Nodup (α:=Str) ["part"] by decide +kernel) rfl (Or.inl rfl),kN,qL c_is_whole hr (qA (pv 0) qD)⟩)) qD)))))),?_⟩
   rw [show L2.start ["thing", "many"] [.ref a,.int k] = [some (.ref a),some (.int k)] from rfl]
   have hsa:=qX ha
   (push_cast only [ha,hsa])
   by_cases hl:(xs.length:Int)=k
   ·rw [Au hl]
    intro c nc
    have nac:a ≠ c:=qE ha nc
    refine jS (LW c xs H) ⟨none,rfl,SameX.upd,qH⟩ (fun j σ H' _ ⟨_,_,s,_⟩=>s _ _ nac ha) ?_ ?_
    ·rintro i x σ H1 hx ⟨v,rfl,s1,e1⟩
     obtain ⟨t,ht⟩:=hk x (Aq hx)
     have ht1:=j0 (s1.same nc) ht
     have hi:i < xs.length:=(Ae.mp hx).1
     (push_cast only [e1])
     refine ⟨_,_,rfl,ht1,?_⟩
     refine ⟨_,e1,qO (by rw [Aa,Aa,An];omega),⟨_,rfl,s1.trans SameX.upd,?_⟩⟩
     rw [qH,Az,hx]
     simp
    ·rintro σ H1 ⟨v,rfl,s1,e1⟩
     rw [AF] at e1
     refine ⟨_,kD e1,?_⟩
     have:=q H1 (s1.same nc)
     rw [A2 hl,BS] at this
     rw [List.all_map]
     exact this
   ·rw [Ax hl]
    have:=q H (Same.refl H)
    rw [Ai hl,BC] at this
    exact this
theorem isI_int {x:V}(h:uB x=true):∃ i,x = .int i:=by
 cases x with
 | int i=>exact ⟨i,rfl⟩
 | _=>cases h
theorem fX:∀ {xs:List V},xs.all uB=true→∃ ns:List Int,xs=ns.map V.int
 | [],_=>⟨[],rfl⟩
 | x :: r,h=>by
  rw [Cf,AE] at h
  obtain ⟨ns,e⟩:=fX h.2
  obtain ⟨i,rfl⟩:=isI_int h.1
  exact ⟨i :: ns,by rw [e];rfl⟩
inductive Rs (H:Hp):V→Option (List V)→Prop
 | kind {x:V} {t:String} (k:zM H x=some t) (z:(t == "tuple")=false):Rs H x none
 | tup {a:Addr} {xs:List V} (h:H a=some (.tup xs)) (k:Kn H xs) (l:xs.length < 1000):Rs H (.ref a) (some xs)
inductive Pc (H:Hp):V→Option (Option (List V) × Option (List V))→Prop
 | kind {x:V} {t:String} (k:zM H x=some t) (z:(t == "tuple")=false):Pc H x none
 | len {a:Addr} {xs:List V} (h:H a=some (.tup xs)) (n:xs.length ≠ 2):Pc H (.ref a) none
 | two {a:Addr} {u v:V} {o1 o2:Option (List V)} (h:H a=some (.tup [u,v])) (r1:Rs H u o1) (r2:Rs H v o2):Pc H (.ref a) (some (o1,o2))
theorem Rs.same {H H':Hp}{x:V}{o:Option (List V)}(r:Rs H x o)(s:Same H H'):Rs H' x o:=by
 cases r with
 | kind k z=>exact .kind (j0 s k) z
 | tup h k l=>exact .tup (s _ _ h) (k.same s) l
theorem Pc.same {H H':Hp}{x:V}{o:Option (Option (List V) × Option (List V))}(r:Pc H x o)(s:Same H H'):Pc H' x o:=by
 cases r with
 | kind k z=>exact .kind (j0 s k) z
 | len h n=>exact .len (s _ _ h) n
 | two h r1 r2=>exact .two (s _ _ h) (r1.same s) (r2.same s)
theorem Rs.ints {H:Hp}{a:Addr}{ns:List Int}(h:H a=some (.tup (ns.map V.int)))(l:ns.length < 1000):Rs H (.ref a) (some (ns.map V.int)):=.tup h (Kn.ints ns) (by rw [Aa];exact l)
def eqI:V→Int→Bool
 | .int j,i=>decide (j=i)
 | _,_=>false
def gU:List V→List Int→Bool
 | [],[]=>true
 | x :: xs,n :: ns=>eqI x n && gU xs ns
 | _,_=>false
theorem eqI_iff {x:V}{i:Int}:eqI x i=true ↔ x = .int i:=by
 cases x with
 | int j=>exact ⟨fun h=>(by rw [AS h]),fun h=>(by cases h;exact A2 rfl)⟩
 | _=>exact ⟨fun h=>(by cases h),fun h=>(by cases h)⟩
theorem zN:∀ {xs:List V} {ns:List Int},gU xs ns=true ↔ xs=ns.map V.int
 | [],[]=>⟨fun _=>rfl,fun _=>rfl⟩
 | [],n :: ns=>⟨fun h=>(by cases h),fun h=>(by cases h)⟩
 | x :: xs,[]=>⟨fun h=>(by cases h),fun h=>(by cases h)⟩
 | x :: xs,n :: ns=>by
  show (eqI x n && gU xs ns)=true ↔ x :: xs=V.int n :: ns.map V.int
  rw [AE,eqI_iff,zN,List.cons.injEq]
theorem bZ (xs ns:List Int):gU (xs.map V.int) ns=decide (xs=ns):=by
 rw [Bs,zN,Bb]
 exact ⟨fun h=>BO (fun a b e=>V.int.inj e) |>.mp h,fun h=>by rw [h]⟩
def xD:Option (List V)→List Int→Bool
 | some xs,ns=>gU xs ns
 | none,_=>false
def bW:Option (Option (List V) × Option (List V))→List Int→List Int→Bool
 | some (o1,o2),ns,ms=>xD o1 ns && xD o2 ms
 | none,_,_=>false
def lN (F:Nat)(row ps:List Int):List Int:=row.foldl (fun ps h=>qP ps F (S.msk h)) ps
theorem aS (F:Nat):∀ (row ps:List Int),(lN F row ps).length=ps.length
 | [],_=>rfl
 | h :: row,ps=>by
  show (lN F row (qP ps F (S.msk h))).length=_
  rw [aS F row,kP]
theorem aR (ts:List (List Int))(F:Nat):∀ n ps,ps.length ≤ 5→lN F ((j6 ts F n ps).1.map fun x:Nat=>(x:Int)) ps=(j6 ts F n ps).2
 | 0,ps,_=>rfl
 | n + 1,ps,h5=>by
  by_cases z:yC ts F ps=0
  ·rw [wR z]
   rfl
  ·have e:j6 ts F (n + 1) ps=(yC ts F ps :: (j6 ts F n (qP ps F (yC ts F ps))).1,(j6 ts F n (qP ps F (yC ts F ps))).2):=by show (if _ then _ else _)=_;rw [Ax z]
   have ih:=aR ts F n (qP ps F (yC ts F ps)) (by rw [kP];exact h5)
   have p32:=jA h5
   have lt:=cK ts F ps
   rw [e]
   show lN F _ (qP ps F (S.msk (yC ts F ps:Int)))=_
   rw [S.msk_nat (by omega)]
   exact ih
def sp_led:Sp:=fun vs H Q _=>∃ (tw sa wa ra:Addr) (ts:List (Addr × List Int)) (m F:Nat) (row:List Int),vs=[.ref tw,.ref ra]∧S.Tn H tw sa wa ts m F∧H ra=some (.tup (row.map V.int))∧∀ (top:Int) (t:Addr) (H':Hp),S.IsTop (ts.map fun t=>t.2) m top→Same H H'→H' t=some (.tup ((lN F row (S.firstL F m top)).map V.int))→Q (.ref t) H'
def LDI (tw ra:Addr)(F m:Nat)(row:List Int)(top:Int)(G:Hp)(i:Nat)(σ:St)(H:Hp):Prop:=∃ (pa:Addr) (v:Option V),σ=[some (.ref tw),some (.ref ra),some (.ref pa),v]∧Same G H∧H pa=some (.tup ((lN F (row.take i) (S.firstL F m top)).map V.int))
theorem m8:FnScope ["town", "row", "prices", "heap"] ["town", "row"] (qF s_led_by):=⟨rfl,rfl,rfl,by decide +kernel,rfl,by decide +kernel,by decide +kernel⟩
theorem ok_led (F:Fun K "led_by" "led_by" s_led_by f fd) (hm:mg "led_by" = some (.ref f)) (hb:Binds K fd ["town", "row"] []) (T:Txt mg) (c_first_prices:Cal P w K mg base "first_prices" ["town"] 1 S.sp_first) (c_stepped:Cal P w K mg base "stepped" ["sides", "prices", "heap"] 2 S.sp_step):Cal P w K mg base "led_by" ["town", "row"] 3 sp_led:=by
 refine q4 F hm hb m8 (fun vs H Q E h=>?_) (fun cdv A outer s H vs Q E hr h=>?_)
 ·obtain ⟨_,_,_,_,_,_,_,_,rfl,_⟩:=h;rfl
 ·obtain ⟨tw,sa,wa,ra,ts,m,Fn,row,rfl,TN,hra,q⟩:=h
  have sc:=m8
  have p5:=TN.R.five
  refine ⟨_,qJ (qY (i:=2) sc.nd rfl (Or.inl rfl) (qL c_first_prices hr (qA (pv 0) qD)))
   (qJ (jT AD rfl (xE (pv 1)) (qN (i:=3) sc.nd rfl (Or.inl rfl))
    (qI (qY (i:=2) sc.nd rfl (Or.inl rfl) (qL c_stepped hr (qA (q9 zF (pv 0) qG (fun _ _=>rfl)) (qA (pv 2) (qA (pv 3) qD)))))))
   (qI (qU (pv 2)))),?_⟩
  rw [show L2.start ["town", "row", "prices", "heap"] [.ref tw,.ref ra] = [some (.ref tw),some (.ref ra),none,none] from rfl]
  (push_cast only [])
  refine ⟨tw,sa,wa,ts,m,Fn,rfl,TN,fun top t H1 it s1 e1=>?_⟩
  have ra1:=s1 _ _ hra
  have TN1:=TN.same s1
  (push_cast only [])
  (simp only [qK])
  (push_cast only [ra1])
  refine gF (LDI tw ra Fn m row top H1) ⟨t,_,rfl,Same.refl H1,e1⟩ (fun j σ H' _ ⟨_,_,_,s,_⟩=>s _ _ ra1) ?_ ?_
  ·rintro i x σ H2 hx ⟨pa,v,rfl,s2,e2⟩
   rw [Af] at hx
   obtain ⟨h,hh,rfl⟩:=Ah.mp hx
   have htw2:=qX (s2 _ _ TN1.R.tw)
   have i0:∀ x y:V,xH [x,y] 0=some x:=fun _ _=>rfl
   have ll:=aS Fn (row.take i) (S.firstL Fn m top)
   rw [S.first_len] at ll
   (push_cast only [htw2,i0])
   refine ⟨pa,sa,_,Fn,h,rfl,e2,by rw [ll];exact s2 _ _ TN1.sa,by omega,fun t3 H3 s3 e3=>?_⟩
   (push_cast only [])
   refine ⟨t3,_,rfl,s2.trans s3,?_⟩
   rw [Az,hh]
   unfold lN
   rw [List.foldl_append]
   exact e3
  ·rintro σ H2 ⟨pa,v,rfl,s2,e2⟩
   rw [Aa,AF] at e2
   (simp only [qK])
   (push_cast only [])
   exact q top pa H2 it (s1.trans s2) e2
def pK (m:Nat):Option (Option (List V) × Option (List V))→Bool
 | some (some xs,some ys)=>xs.all uB && (decide ((ys.length:Int)=(m:Int)) && ys.all uB)
 | _=>false
def o7:Sp:=fun vs H Q _=>∃ (tw sa wa:Addr) (ts:List (Addr × List Int)) (m F:Nat) (x:V) (o:Option (Option (List V) × Option (List V))),vs=[.ref tw,x]∧S.Tn H tw sa wa ts m F∧Pc H x o∧∀ H',Same H H'→Q (.bl (pK m o)) H'
theorem nA:FnScope ["town", "thing", "row", "prices"] ["town", "thing"] (qF s_is_way):=⟨rfl,rfl,rfl,by decide +kernel,rfl,by decide +kernel,by decide +kernel⟩
theorem ok_way (F:Fun K "is_way" "is_way" s_is_way f fd) (hm:mg "is_way" = some (.ref f)) (hb:Binds K fd ["town", "thing"] []) (T:Txt mg) (c_are_wholes:Cal P w K mg base "are_wholes" ["thing", "many"] 2 mP):Cal P w K mg base "is_way" ["town", "thing"] 3 o7:=by
 refine q4 F hm hb nA (fun vs H Q E h=>?_) (fun cdv A outer s H vs Q E hr h=>?_)
 ·obtain ⟨_,_,_,_,_,_,_,_,rfl,_⟩:=h;rfl
 ·obtain ⟨tw,sa,wa,ts,m,Fn,x,o,rfl,TN,pc,q⟩:=h
  have sc:=nA
  refine ⟨_,qJ (j8 (PW.pt (aK (cC (z8 (qM dF rfl T.isinstance_ kA (qA (pv 1) (qA (jU (v:=.ty "tuple") rfl T.tuple_ kL rfl) qD))))) (lG (q5 cF (qM len0 rfl T.len_ kX (qA (pv 1) qD)) qG (qZ _))))) (qI (qU nD)) jB)
   (qJ (xP (pv 1) (kU (n:=2) rfl (qT (qN (i:=2) sc.nd rfl (Or.inl rfl)) (qT (qN (i:=3) sc.nd rfl (Or.inl rfl)) kR))))
   (qI (qU (zI (qM dF rfl T.isinstance_ kA (qA (pv 2) (qA (jU (v:=.ty "tuple") rfl T.tuple_ kL rfl) qD))) (zI (qL c_are_wholes hr (qA (pv 2) (qA (qM len0 rfl T.len_ kX (qA (pv 2) qD)) qD))) (gC (qL c_are_wholes hr (qA (pv 3) (qA (qM len0 rfl T.len_ kX (qA (q9 zF (pv 0) qG (fun _ _=>rfl)) qD)) qD))))))))),?_⟩
  rw [show L2.start ["town", "thing", "row", "prices"] [.ref tw,x] = [some (.ref tw),some (x),none,none] from rfl]
  cases pc with
  | kind k z =>
   (push_cast only [])
   refine ⟨_,k,?_⟩
   rw [Au (by rw [z];rfl)]
   exact q H (Same.refl H)
  | len h n =>
   have hs:=qX h
   (push_cast only [h,hs])
   rw [Au (by simp;omega)]
   exact q H (Same.refl H)
  | @two a u v o1 o2 h r1 r2 =>
   have hs:=qX h
   (push_cast only [h,hs])
   (simp only [qK])
   (push_cast only [h])
   (simp only [qK])
   (push_cast only [])
   rw [Ax (by decide)]
   have sa1:=qX TN.sa
   cases r1 with
   | kind k z =>
    refine ⟨_,k,?_⟩
    rw [Ax (by rw [z];decide)]
    exact q H (Same.refl H)
   | @tup a1 xs h1 kn l =>
    refine ⟨"tuple",(by simp only [h1]),?_⟩
    rw [Au (by decide)]
    refine ⟨a1,rfl,_,qX h1,.inr ⟨a1,_,xs,rfl,h1,kn,l,fun H1 s1=>⟨_,rfl,?_⟩⟩⟩
    rw [A2 rfl,BS]
    cases hx:xs.all uB with
    | false =>
     have w:pK m (some (some xs,o2))=false:=by cases o2 <;> simp [pK,hx]
     rw [w] at q
     rw [Ax (by decide)]
     exact q H1 s1
    | true =>
     rw [Au rfl]
     refine ⟨_,qX (s1 _ _ TN.R.tw),.ref sa,rfl,sa,rfl,_,qX (s1 _ _ TN.sa),?_⟩
     rw [Aa,S.bits_len]
     cases r2 with
     | kind k z=>exact .inl ⟨_,_,_,rfl,j0 s1 k,z,q H1 s1⟩
     | @tup a2 ys h2 kn2 l2 =>
      refine .inr ⟨a2,_,ys,rfl,s1 _ _ h2,kn2.same s1,l2,fun H2 s2=>?_⟩
      have w:pK m (some (some xs,some ys))=(decide ((ys.length:Int)=(m:Int)) && ys.all uB):=by simp [pK,hx]
      rw [w] at q
      exact q H2 (s1.trans s2)
def pD (ts:List (Addr × List Int))(m F:Nat)(top:Int)(row ps:List Int):Bool:=decide (lN F row (S.firstL F m top)=ps) && (decide (row=(j6 (ts.map fun t=>t.2) F 399 (S.firstL F m top)).1.map fun x:Nat=>(x:Int)) && decide (ps=(j6 (ts.map fun t=>t.2) F 399 (S.firstL F m top)).2))
def p6:Sp:=fun vs H Q _=>∃ (tw sa wa a ra pa:Addr) (ts:List (Addr × List Int)) (m F:Nat) (row ps:List Int),vs=[.ref tw,.ref a]∧S.Tn H tw sa wa ts m F∧(∀ top,S.IsTop (ts.map fun t=>t.2) m top→0 ≤ top∧top ≤ 1000∧kK (ts.map fun t=>t.2) (S.firstL F m top) ≤ 399)∧H a=some (.tup [.ref ra,.ref pa])∧H ra=some (.tup (row.map V.int))∧H pa=some (.tup (ps.map V.int))∧∀ (top:Int) (H':Hp),S.IsTop (ts.map fun t=>t.2) m top→Same H H'→Q (.bl (pD ts m F top row ps)) H'
theorem vJ:FnScope ["town", "thing", "row", "prices"] ["town", "thing"] (qF s_is_way_below):=⟨rfl,rfl,rfl,by decide +kernel,rfl,by decide +kernel,by decide +kernel⟩
theorem ok_below (F:Fun K "is_way_below" "is_way_below" s_is_way_below f fd) (hm:mg "is_way_below" = some (.ref f)) (hb:Binds K fd ["town", "thing"] []) (T:Txt mg) (c_led_by:Cal P w K mg base "led_by" ["town", "row"] 3 sp_led) (c_steps_of:Cal P w K mg base "steps_of" ["town"] 7 S.sp_steps):Cal P w K mg base "is_way_below" ["town", "thing"] 8 p6:=by
 refine q4 F hm hb vJ (fun vs H Q E h=>?_) (fun cdv A outer s H vs Q E hr h=>?_)
 ·obtain ⟨_,_,_,_,_,_,_,_,_,_,_,rfl,_⟩:=h;rfl
 ·obtain ⟨tw,sa,wa,a,ra,pa,ts,m,Fn,row,ps,rfl,TN,bd,ha,hra,hpa,q⟩:=h
  have sc:=vJ
  refine ⟨_,qJ (xP (pv 1) (kU (n:=2) rfl (qT (qN (i:=2) sc.nd rfl (Or.inl rfl)) (qT (qN (i:=3) sc.nd rfl (Or.inl rfl)) kR))))
   (qI (qU (zI (jQ (eqT0 hr.units0) (qL c_led_by hr (qA (pv 0) (qA (pv 2) qD))) (pv 3) (qZ _)) (gC (jQ (eqPP0 hr.units) (pv 1) (qL c_steps_of hr (qA (pv 0) qD)) (qZ _)))))),?_⟩
  rw [show L2.start ["town", "thing", "row", "prices"] [.ref tw,.ref a] = [some (.ref tw),some (.ref a),none,none] from rfl]
  (push_cast only [ha])
  (simp only [qK])
  (push_cast only [])
  refine ⟨tw,sa,wa,ra,ts,m,Fn,row,rfl,TN,hra,fun top t H1 it s1 e1=>?_⟩
  (push_cast only [])
  refine ⟨_,e1,ps,s1 _ _ hpa,?_⟩
  have fin:=q top
  unfold pD at fin
  by_cases c:lN Fn row (S.firstL Fn m top)=ps
  ·rw [Au c]
   rw [A2 c,BS] at fin
   refine ⟨tw,sa,wa,ts,m,Fn,rfl,TN.same s1,bd,fun top2 t2 r2 p2 H2 it2 s2 e2 r2' p2'=>?_⟩
   have:=it2.one it
   subst this
   have ni:∀ xs:List Nat,S.natI xs=(xs.map fun x:Nat=>(x:Int)).map V.int:=fun xs=>by unfold S.natI;rw [AV];rfl
   rw [ni] at r2'
   have S2:=s1.trans s2
   show rEqPP _ _ _ _
   rw [a_rEqPP]
   refine ⟨a,t2,ra,pa,r2,p2,row,ps,_,_,rfl,rfl,S2 _ _ ha,e2,S2 _ _ hra,S2 _ _ hpa,r2',p2',?_⟩
   exact fin H2 it S2
  ·rw [Ax c]
   rw [Ai c,BC] at fin
   exact fin H1 it s1
theorem wU (ts:List (List Int))(F:Nat):∀ n ps,(j6 ts F n ps).1.length ≤ n∧(j6 ts F n ps).2.length=ps.length
 | 0,ps=>⟨Ad _,rfl⟩
 | n + 1,ps=>by
  by_cases z:yC ts F ps=0
  ·rw [wR z]
   exact ⟨Bh _,rfl⟩
  ·have e:j6 ts F (n + 1) ps=(yC ts F ps :: (j6 ts F n (qP ps F (yC ts F ps))).1,(j6 ts F n (qP ps F (yC ts F ps))).2):=by show (if _ then _ else _)=_;rw [Ax z]
   obtain ⟨a,b⟩:=wU ts F n (qP ps F (yC ts F ps))
   rw [e]
   refine ⟨by show _ + 1 ≤ _;omega,?_⟩
   rw [kP] at b
   exact b
def gN (ts:List (Addr × List Int))(m F:Nat)(top:Int):List Int:=(j6 (ts.map fun t=>t.2) F 399 (S.firstL F m top)).1.map fun x:Nat=>(x:Int)
def fA (ts:List (Addr × List Int))(m F:Nat)(top:Int):List Int:=(j6 (ts.map fun t=>t.2) F 399 (S.firstL F m top)).2
theorem below_is {ts:List (Addr × List Int)}{m F:Nat}{top:Int}{row ps:List Int}(m5:m ≤ 5):pD ts m F top row ps=(decide (row=gN ts m F top) && decide (ps=fA ts m F top)):=by
 unfold pD
 by_cases h:row=gN ts m F top∧ps=fA ts m F top
 ·have:=aR (ts.map fun t=>t.2) F 399 (S.firstL F m top) (by rw [S.first_len];exact m5)
  rw [h.1,h.2]
  unfold gN fA
  rw [this,A2 rfl]
  rfl
 ·have z:(decide (row=gN ts m F top) && decide (ps=fA ts m F top))=false:=by
   rw [Bool.and_eq_false_iff,decide_eq_false_iff_not,decide_eq_false_iff_not]
   by_cases c:row=gN ts m F top
   ·exact .inr fun y=>h ⟨c,y⟩
   ·exact .inl c
  show (_ && (decide (row=gN ts m F top) && decide (ps=fA ts m F top)))=_
  rw [z,Bool.and_false]
def bL:Sp:=fun vs H Q _=>∃ (tw sa wa:Addr) (ts:List (Addr × List Int)) (m F:Nat) (x:V) (o:Option (Option (List V) × Option (List V))),vs=[.ref tw,x]∧S.Tn H tw sa wa ts m F∧(∀ top,S.IsTop (ts.map fun t=>t.2) m top→0 ≤ top∧top ≤ 1000∧kK (ts.map fun t=>t.2) (S.firstL F m top) ≤ 399)∧Pc H x o∧∀ (top:Int) (H':Hp),S.IsTop (ts.map fun t=>t.2) m top→Same H H'→Q (.bl (bW o (gN ts m F top) (fA ts m F top))) H'
theorem top_ex {ts:List (List Int)}(m:Nat):ts ≠ []→∃ top,S.IsTop ts m top:=by
 induction ts with
 | nil=>exact fun h=>absurd rfl h
 | cons ws ts ih =>
  intro _
  by_cases e:ts=[]
  ·subst e
   exact ⟨_,⟨ws,Am,rfl⟩,fun u hu=>by rw [A4.mp hu];exact AY _⟩
  ·obtain ⟨top,⟨u,hu,eu⟩,le⟩:=ih e
   by_cases c:top ≤ ws.getD (2 ^ m - 1) 0
   ·refine ⟨_,⟨ws,Am,rfl⟩,fun v hv=>?_⟩
    rcases A3.mp hv with z | z
    ·rw [z];exact AY _
    ·exact Int.le_trans (le v z) c
   ·refine ⟨top,⟨u,Ap _ hu,eu⟩,fun v hv=>?_⟩
    rcases A3.mp hv with z | z
    ·rw [z];omega
    ·exact le v z
theorem oR {m:Nat}{o:Option (Option (List V) × Option (List V))}(h:pK m o=true):∃ row ps:List Int,o=some (some (row.map V.int),some (ps.map V.int))∧ps.length=m:=by
 match o,h with
 | some (some xs,some ys),h =>
  have h':(xs.all uB && (decide ((ys.length:Int)=(m:Int)) && ys.all uB))=true:=h
  simp only [AE,Bb] at h'
  obtain ⟨h1,h2,h3⟩:=h'
  obtain ⟨row,rfl⟩:=fX h1
  obtain ⟨ps,rfl⟩:=fX h3
  rw [Aa] at h2
  exact ⟨row,ps,rfl,by omega⟩
theorem eS (ns:List Int):(ns.map V.int).all uB=true:=by
 rw [List.all_map,Bu]
 intros
 rfl
theorem way_no {m:Nat}{o:Option (Option (List V) × Option (List V))}{ns ms:List Int}(h:pK m o=false)(l:ms.length=m):bW o ns ms=false:=by
 cases e:bW o ns ms with
 | false=>rfl
 | true =>
  match o,h,e with
  | some (some xs,some ys),h,e =>
   have e':(gU xs ns && gU ys ms)=true:=e
   rw [AE,zN,zN] at e'
   have h':(xs.all uB && (decide ((ys.length:Int)=(m:Int)) && ys.all uB))=false:=h
   rw [e'.1,e'.2,eS,eS,Aa,l,A2 rfl] at h'
   cases h'
  | some (some xs,none),h,e=>rw [show bW (some (some xs,none)) ns ms=(gU xs ns && false) from rfl,Bool.and_false] at e;cases e
  | some (none,_),h,e=>cases e
  | none,h,e=>cases e
theorem vH:FnScope ["town", "thing"] ["town", "thing"] (qF s_shows_rising):=⟨rfl,rfl,rfl,by decide +kernel,rfl,by decide +kernel,by decide +kernel⟩
theorem ok_shows (F:Fun K "shows_rising" "shows_rising" s_shows_rising f fd) (T:Txt mg) (c_is_way:Cal P w K mg base "is_way" ["town", "thing"] 3 o7) (c_first_strange:Cal P w K mg base "first_strange" ["town"] 6 S.sp_fs) (c_is_way_below:Cal P w K mg base "is_way_below" ["town", "thing"] 8 p6):FnOk P w K mg base CX0 9 f fd ["town", "thing"] bL:=by
 refine F.ok vH (fun vs H Q E h=>?_) (fun cdv A outer s H vs Q E hr h=>?_)
 ·obtain ⟨_,_,_,_,_,_,_,_,rfl,_⟩:=h;rfl
 ·obtain ⟨tw,sa,wa,ts,m,Fn,x,o,rfl,TN,bd,pc,q⟩:=h
  have sc:=vH
  have p5:=TN.R.five
  refine ⟨_,qI (qU (zI (qL c_is_way hr (qA (pv 0) (qA (pv 1) qD))) (zI (jQ cG (qL c_first_strange hr (qA (pv 0) qD)) zH (qZ _)) (gC (qL c_is_way_below hr (qA (pv 0) (qA (pv 1) qD))))))),?_⟩
  rw [show L2.start ["town", "thing"] [.ref tw,x] = [some (.ref tw),some (x)] from rfl]
  (push_cast only [])
  refine ⟨tw,sa,wa,ts,m,Fn,x,o,rfl,TN,pc,fun H1 s1=>?_⟩
  obtain ⟨top,it⟩:=top_ex (ts:=ts.map fun t=>t.2) m (by simpa using TN.ne)
  have dl:(fA ts m Fn top).length=m:=by
   have:=(wU (ts.map fun t=>t.2) Fn 399 (S.firstL Fn m top)).2
   rw [S.first_len] at this
   exact this
  cases hw:pK m o with
  | false =>
   (push_cast only [])
   have:=q top H1 it s1
   rw [way_no hw dl] at this
   exact this
  | true =>
   obtain ⟨row,ps,rfl,pl⟩:=oR hw
   have TN1:=TN.same s1
   (push_cast only [])
   refine ⟨tw,sa,wa,ts,Fn,m,rfl,TN1.R.tw,TN1.sa,TN1.R.wa,(fun r hr=>⟨(TN1.R.row r hr).1,(TN1.R.row r hr).2.1⟩),p5,TN.hF,(fun r hr=>S.ext_odd p5 TN.hF (TN.R.row r hr).2.1 (TN.kd r.2 (Al.mpr ⟨r,hr,rfl⟩))),fun H2 s2=>?_⟩
   show if V.non=V.non then _ else _
   rw [Au rfl]
   have S2:=s1.trans s2
   cases pc with
   | @two a u v o1 o2 h r1 r2 =>
    generalize e1:row.map V.int=xs at r1 q hw
    generalize e2:ps.map V.int=ys at r2 q hw
    cases r1 with
    | @tup a1 _ h1 kn1 l1 =>
     cases r2 with
     | @tup a2 _ h2 kn2 l2 =>
      subst e1 e2
      refine ⟨tw,sa,wa,a,a1,a2,ts,m,Fn,row,ps,rfl,TN1.same s2,bd,S2 _ _ h,S2 _ _ h1,S2 _ _ h2,fun top2 H3 it2 s3=>?_⟩
      have:=q top2 H3 it2 (S2.trans s3)
      rw [below_is p5,← bZ,← bZ]
      exact this
theorem qe_ix {X:Cx}{a b:Expr}{ta tb:TE}{pos:Pos}{r:R2}(hr:IxR X r)(ha:QE X a ta)(hb:QE X b tb)(hs:eU b):QE X (.Subscript a b pos) (tOp r ta tb):=⟨q9 hr ha.get hb.get hs⟩
theorem aJ {X:Cx}{op:Operator}{r:R2}{a b:Expr}{ta tb:TE}{pos:Pos}(ho:vR X (binaryOp op) r)(ha:QE X a ta)(hb:QE X b tb):QE X (.BinOp a op b pos) (tOp r ta tb):=⟨qV ho ha.get hb.get⟩
theorem qs_ret {X:Cx}{e:Expr}{te:TE}{pos:Pos}(he:QE X e te):QS X (.Return (some e) pos) (tRet te):=⟨qU he.get⟩
theorem sF {xs:List V}{k:Nat}(h:k ≤ xs.length):zP xs none (some (k:Int))=xs.take k:=by
 unfold zP
 rw [HT.sIx_none,HT.sIx_nat,Nat.min_eq_left h,BW,Nat.sub_zero]
theorem cZ {xs:List V}(k:Nat):zP xs (some (k:Int)) none=xs.drop k:=by
 unfold zP
 rw [HT.sIx_none,HT.sIx_nat]
 by_cases h:k ≤ xs.length
 ·rw [Nat.min_eq_left h,AB (by rw [Bg];omega)]
 ·rw [List.drop_eq_nil_of_le (show xs.length ≤ k by omega),Nat.min_eq_right (by omega),List.drop_eq_nil_of_le (Ad _),List.take_nil]
theorem lV (xs:List V)(a b:Option Int):(zP xs a b).length ≤ xs.length:=by
 unfold zP
 rw [An,Bg]
 omega
theorem eJ {xs:List V}{a b:Option Int}{x:V}(h:x ∈ zP xs a b):x ∈ xs:=by
 unfold zP at h
 exact BG (Bl h)
theorem gX {H H':Hp}{T14:Same H H'}{rs:List Int}{od:V}{xs:List V}(kod:∃ t,zM H od=some t)(h:∀ x ∈ xs,x ∈ rs.map V.int∨x=od):Kn H' xs:=fun x hx=>by
 rcases h x hx with z | z
 ·obtain ⟨n,_,rfl⟩:=Al.mp z
  exact ⟨"int",rfl⟩
 ·obtain ⟨t,k⟩:=kod
  rw [z]
  exact ⟨t,j0 T14 k⟩
def fP:Sp:=fun vs H Q _=>∃ (a:Addr) (k:Nat) (x:V) (xs:List V),vs=[.ref a,.int (k:Int),x]∧H a=some (.tup xs)∧k ≤ xs.length∧xs.length ≤ 900∧∀ (o:Addr) (H':Hp),Same H H'→H' o=some (.tup (xs.take k ++ [x] ++ xs.drop (k + 1)))→Q (.ref o) H'
theorem wG:FnScope ["_law_row", "_law_at", "_law_piece"] ["_law_row", "_law_at", "_law_piece"] (qF s__law_put):=⟨rfl,rfl,rfl,by decide +kernel,rfl,by decide +kernel,by decide +kernel⟩
theorem ok_put (F:Fun K "_law_put" "_law_put" s__law_put f fd) (hm:mg "_law_put" = some (.ref f)) (hb:Binds K fd ["_law_row", "_law_at", "_law_piece"] []) (T:Txt mg):Cal P w K mg base "_law_put" ["_law_row", "_law_at", "_law_piece"] 1 fP:=by
 refine q4 F hm hb wG (fun vs H Q E h=>?_) (fun cdv A outer s H vs Q E hr h=>?_)
 ·obtain ⟨_,_,_,_,rfl,_⟩:=h;rfl
 ·obtain ⟨a,k,x,xs,rfl,ha,kl,few,q⟩:=h
  have sc:=wG
  refine ⟨_,qI (qU (qV mE (qV mE (j9 p7 (pv 0) zR (zQ (pv 1))) (jK (qA (pv 2) qD))) (j9 p7 (pv 0) (zQ (qV kW (pv 1) qG)) zR))),?_⟩
  rw [show L2.start ["_law_row", "_law_at", "_law_piece"] [.ref a,.int (k:Int),x] = [some (.ref a),some (.int (k:Int)),some (x)] from rfl]
  have c1:=sF kl
  have c2:zP xs (some ((k:Int) + 1)) none=xs.drop (k + 1):=cZ (k + 1)
  (push_cast only [ha,c1])
  refine fun p1 H1 s1 e1=>⟨by decide,fun p2 H2 n2 s2 e2=>⟨_,s2 _ _ e1,_,e2,?_,fun p3 H3 s3 e3=>⟨_,s3 _ _ (s2 _ _ (s1 _ _ ha)),fun p4 H4 s4 e4=>⟨_,s4 _ _ e3,_,e4,?_,fun p5 H5 s5 e5=>?_⟩⟩⟩⟩
  ·rw [An,A7]
   exact Bj (qO (by omega))
  ·rw [c2,Ar,An,Bg,A7]
   exact Bj (qO (by omega))
  ·rw [c2] at e5
   exact q p5 H5 ((((s1.trans s2).trans s3).trans s4).trans s5) e5
theorem dY:FnScope ["_law_pot_here", "_law_told", "_law_row", "_law_prices", "_law_at", "_law_place", "_law_heap", "_law_odd", "_law_rows", "_law_some_here"] ["_law_pot_here", "_law_told"] (qF s__law_bent):=⟨rfl,rfl,rfl,by decide +kernel,rfl,by decide +kernel,by decide +kernel⟩
theorem nY {H H':Hp}{p q:Addr}(h:Pot H p q)(h':Pot H' p q)(s:SameY p q H H'){x:V}{t:String}(k:zM H x=some t):zM H' x=some t:=by
 cases x with
 | ref a =>
  obtain ⟨_,cs,i,j,l,e1,e2⟩:=h
  obtain ⟨_,cs',i',j',l',e1',e2'⟩:=h'
  by_cases z1:a=p
  ·subst z1
   simp only [zM,e1] at k
   simp only [zM,e1',k]
  by_cases z2:a=q
  ·subst z2
   simp only [zM,e2] at k
   simp only [zM,e2',k]
  cases e:H a with
  | none=>simp [zM,e] at k
  | some o=>simp only [zM,e] at k;simp only [zM,s a o z1 z2 e];exact k
 | _=>exact k
theorem Rs.sy {H H':Hp}{p q:Addr}{x:V}{o:Option (List V)}(r:Rs H x o)(h:Pot H p q)(h':Pot H' p q)(s:SameY p q H H'):Rs H' x o:=by
 cases r with
 | kind k z=>exact .kind (nY h h' s k) z
 | tup e k l=>exact .tup (s _ _ (h.net e).1 (h.net e).2 e) (fun x hx=>let ⟨t,z⟩:=k x hx;⟨t,nY h h' s z⟩) l
theorem Pc.sy {H H':Hp}{p q:Addr}{x:V}{o:Option (Option (List V) × Option (List V))}(r:Pc H x o)(h:Pot H p q)(h':Pot H' p q)(s:SameY p q H H'):Pc H' x o:=by
 cases r with
 | kind k z=>exact .kind (nY h h' s k) z
 | len e n=>exact .len (s _ _ (h.net e).1 (h.net e).2 e) n
 | two e r1 r2=>exact .two (s _ _ (h.net e).1 (h.net e).2 e) (r1.sy h h' s) (r2.sy h h' s)
theorem pcT {H:Hp}{a:Addr}{u v:V}(h:H a=some (.tup [u,v]))(r1:∃ o,Rs H u o)(r2:∃ o,Rs H v o):∃ o,Pc H (.ref a) o:=let ⟨_,a⟩:=r1;let ⟨_,b⟩:=r2;⟨_,.two h a b⟩
theorem tI {H H':Hp}{a:Addr}{ns:List Int}{od:V}{k:Nat}(s:Same H H')(e:H' a=some (.tup ((ns.map V.int).take k ++ [od] ++ (ns.map V.int).drop (k + 1))))(l:ns.length ≤ 900)(kod:∃ t,zM H od=some t):∃ o,Rs H' (.ref a) o:=⟨_,.tup e (gX (T14:=s) (rs:=ns) kod fun z hz=>by
 rcases Av.mp hz with w | w
 ·rcases Av.mp w with w | w
  ·exact .inl (Bl w)
  ·exact .inr (A4.mp w)
 ·exact .inl (BG w)) (by rw [Ar,Ar,An,Bg,Aa,A7];omega)⟩
def aG:Sp:=fun vs H Q _=>∃ (p q o r pa:Addr) (rs ps:List Int),vs=[.ref p,.ref o]∧Pot H p q∧H o=some (.tup [.ref r,.ref pa])∧H r=some (.tup (rs.map V.int))∧H pa=some (.tup (ps.map V.int))∧rs.length ≤ 399∧1 ≤ ps.length∧ps.length ≤ 5∧∀ (x:V) (o':Option (Option (List V) × Option (List V))) (H':Hp),Pc H' x o'→Pot H' p q→SameY p q H H'→Q x H'
theorem ok_bent (F:Fun K "_law_bent" "_law_bent" s__law_bent f fd) (hm:mg "_law_bent" = some (.ref f)) (hb:Binds K fd ["_law_pot_here", "_law_told"] []) (T:Txt mg) (c__law_draw:Cal P w K mg base "_law_draw" ["_law_pot_here", "_law_many"] 2 bN) (c__law_put:Cal P w K mg base "_law_put" ["_law_row", "_law_at", "_law_piece"] 1 fP):Cal P w K mg base "_law_bent" ["_law_pot_here", "_law_told"] 3 aG:=by
 refine q4 F hm hb dY (fun vs H Q E h=>?_) (fun cdv A outer s H vs Q E hr h=>?_)
 ·obtain ⟨_,_,_,_,_,_,_,rfl,_⟩:=h;rfl
 ·obtain ⟨p,q',o,r,pa,rs,ps,rfl,pt,ho,hr',hp,rl,p1,p5,q⟩:=h
  have sc:=dY
  refine ⟨_,QSs.get (j7 (qs_of (xP (pv 1) (kU (n:=2) rfl (qT (qN (i:=2) sc.nd rfl (Or.inl rfl)) (qT (qN (i:=3) sc.nd rfl (Or.inl rfl)) kR)))))
   (j7 (qs_of (tJ (i:=4) (j:=5) rfl sc.nd rfl rfl (by decide) rfl rfl (qA (qL c__law_draw hr (qA (pv 0) (qA (qV kW (qM len0 rfl T.len_ kX (qA (pv 2) qD)) qG) qD))) (qA (qL c__law_draw hr (qA (pv 0) (qA (qM len0 rfl T.len_ kX (qA (pv 3) qD)) qD))) qD)) rfl))
   (j7 (qs_of (qY (i:=6) sc.nd rfl (Or.inl rfl) (qV xR (qL c__law_draw hr (qA (pv 0) (qA qG qD))) qG)))
   (j7 (dB (i:=7) sc.nd rfl (Or.inl rfl) (qe_ix zF (xN (qW (q8 zH) (qW (q8 nD) (qW (q8 tN) (qW (zT (qW (q8 qG) jN)) (qW (q8 (pv 6)) (qW (q8 qG) jN))))))) (q8 (qL c__law_draw hr (qA (pv 0) (qA qG qD)))) (fun _ _=>rfl)))
   (j7 (dB (i:=8) sc.nd rfl (Or.inl rfl) (xN (qW (q8 (qV mE (qV mE (j9 p7 (pv 2) zR (zQ (pv 4))) (jK (qA (pv 7) qD))) (j9 p7 (pv 2) (zQ (pv 4)) zR))) (qW (q8 (qV mE (j9 p7 (pv 2) zR (zQ (pv 4))) (j9 p7 (pv 2) (zQ (qV kW (pv 4) qG)) zR))) (qW (q8 (pe_rev (pv 2) (wJ vT qG) (fun _ _ _ h=>⟨_,rfl,h⟩))) (qW (q8 (qV mE (pv 2) (j9 p7 (pv 2) (zQ (wJ vT qG)) zR))) (qW (q8 (kM listA0 rfl T.list_ pA (lJ (pv 2) qD))) (qW (q8 (jK qD)) jN))))))))
   (j7 (dB (i:=8) sc.nd rfl (Or.inl rfl) (aJ mD (q8 (pv 8)) (xN (qW (q8 (qL c__law_put hr (qA (pv 2) (qA (pv 4) (qA (pv 6) qD))))) (qW (q8 (qL c__law_put hr (qA (pv 2) (qA (pv 4) (qA (pv 7) qD))))) jN)))))
   (j7 (dB (i:=9) sc.nd rfl (Or.inl rfl) (xN (qW (zT (qW (q8 (q9 zF (pv 8) (qL c__law_draw hr (qA (pv 0) (qA qG qD))) (fun _ _=>rfl))) (qW (q8 (pv 3)) jN))) (qW (zT (qW (q8 (pv 2)) (qW (q8 (qL c__law_put hr (qA (pv 3) (qA (pv 5) (qA (qV kW (q9 zF (pv 3) (pv 5) (fun _ _=>rfl)) qG) qD))))) jN))) jN))))
   (j7 (dB (i:=9) sc.nd rfl (Or.inl rfl) (aJ mD (q8 (pv 9)) (xN (qW (zT (qW (q8 (pv 2)) (qW (q8 (qL c__law_put hr (qA (pv 3) (qA (pv 5) (qA (qV xR (q9 zF (pv 3) (pv 5) (fun _ _=>rfl)) qG) qD))))) jN))) (qW (zT (qW (q8 (pv 2)) (qW (q8 (qL c__law_put hr (qA (pv 3) (qA (pv 5) (qA (pv 7) qD))))) jN))) jN)))))
   (j7 (dB (i:=9) sc.nd rfl (Or.inl rfl) (aJ mD (q8 (pv 9)) (xN (qW (zT (qW (q8 (pv 2)) (qW (q8 (pe_rev (pv 3) (wJ vT qG) (fun _ _ _ h=>⟨_,rfl,h⟩))) jN))) (qW (zT (qW (q8 (pv 2)) (qW (q8 (j9 p7 (pv 3) (zQ qG) zR)) jN))) (qW (zT (qW (q8 (pv 2)) (qW (q8 (qV mE (pv 3) (jK (qA qG qD)))) jN))) (qW (zT (qW (q8 (pv 2)) (qW (q8 (kM listA0 rfl T.list_ pA (qA (pv 3) qD))) jN))) (qW (xN (qW (q8 (pv 2)) (qW (q8 (pv 3)) jN))) jN))))))))
   (j7 (dB (i:=9) sc.nd rfl (Or.inl rfl) (aJ mD (q8 (pv 9)) (xN (qW (zT (qW (q8 (pv 2)) jN)) (qW (zT (qW (q8 (pv 2)) (qW (q8 (pv 3)) (qW (q8 qG) jN)))) (qW (zT (qW (q8 (pv 3)) (qW (q8 (pv 2)) jN))) jN))))))
   (qss_one (qs_ret (qe_ix zF (q8 (pv 9)) (qe_ix zF (xN (qW (q8 qG) (qW (q8 qG) (qW (q8 qG) (qW (q8 qG) (qW (q8 qG) (qW (q8 qG) (qW (q8 qG) (qW (q8 qG) (qW (q8 qG) (qW (q8 qG) (qW (q8 qG) (qW (q8 qG) (qW (q8 qG) (qW (q8 qG) (qW (q8 qG) (qW (q8 qG) jN))))))))))))))))) (q8 (qL c__law_draw hr (qA (pv 0) (qA qG qD)))) (fun _ _=>rfl)) (fun _ _=>rfl)))))))))))))),?_⟩
  rw [show L2.start ["_law_pot_here", "_law_told", "_law_row", "_law_prices", "_law_at", "_law_place", "_law_heap", "_law_odd", "_law_rows", "_law_some_here"] [.ref p,.ref o] = [some (.ref p),some (.ref o),none,none,none,none,none,none,none,none] from rfl]
  (push_cast only [ho])
  (simp only [qK])
  (push_cast only [])
  refine ⟨_,qX hr',p,q',_,rfl,pt,by omega,by rw [Aa];omega,fun at_ H1 a0 a1 pt1 bt1=>?_⟩
  have nr:=pt.net hr'
  have np:=pt.net hp
  have y1:=bt1.y
  have r1:=y1 _ _ nr.1 nr.2 hr'
  have pa1:=y1 _ _ np.1 np.2 hp
  refine ⟨_,qX pa1,p,q',_,rfl,pt1,by rw [Aa];omega,by rw [Aa];omega,fun pl_ H2 b0 b1 pt2 bt2=>?_⟩
  have y2:=y1.trans bt2.y
  have r2:=bt2.y _ _ nr.1 nr.2 r1
  have pa2:=bt2.y _ _ np.1 np.2 pa1
  rw [Aa] at a1 b1
  obtain ⟨at',rfl⟩:=AL a0
  obtain ⟨pl',rfl⟩:=AL b0
  have al:at' ≤ rs.length:=by omega
  have pl5:pl' < ps.length:=by omega
  (simp only [qK])
  (push_cast only [])
  refine ⟨p,q',40,rfl,pt2,by decide,by decide,fun h0 H3 c0 c1 pt3 bt3=>?_⟩
  refine ⟨h0,rfl,?_⟩
  have y3:=y2.trans bt3.y
  have r3:=bt3.y _ _ nr.1 nr.2 r2
  have pa3:=bt3.y _ _ np.1 np.2 pa2
  (simp only [qK])
  (push_cast only [])
  refine ⟨by decide,fun t1 H4 n4 s4 e4=>⟨by decide,fun l1 H5 n5 s5 e5=>⟨p,q',6,rfl,(pt3.same s4).same s5,by decide,by decide,fun d H6 d0 d1 pt6 bt6=>?_⟩⟩⟩
  have nl1:=(pt3.same s4).ne n5
  have el6:=bt6.y _ _ nl1.1.symm nl1.2.symm e5
  have nt1:=((pt3.same s4).same s5).net (s5 _ _ e4)
  have et6:=bt6.y _ _ nt1.1 nt1.2 (s5 _ _ e4)
  have y6:SameY p q' H H6:=(y3.trans (jR (s4.trans s5))).trans bt6.y
  have r6:=y6 _ _ nr.1 nr.2 hr'
  have pa6:=y6 _ _ np.1 np.2 hp
  obtain ⟨od,hod,kod⟩:∃ od,xH [V.non,V.bl true,V.str (Str.ofString "1"),V.ref t1,V.int (h0 - 2),V.int 0] d=some od∧∃ t,zM H6 od=some t:=by
   have:d=0∨d=1∨d=2∨d=3∨d=4∨d=5:=by omega
   rcases this with z | z | z | z | z | z <;> rw [z]
   ·exact ⟨_,rfl,_,rfl⟩
   ·exact ⟨_,rfl,_,rfl⟩
   ·exact ⟨_,rfl,_,rfl⟩
   ·exact ⟨_,rfl, "tuple",by simp [zM,et6]⟩
   ·exact ⟨_,rfl,_,rfl⟩
   ·exact ⟨_,rfl,_,rfl⟩
  refine ⟨_,d,rfl,kD el6,od,hod,?_⟩
  have c1:=sF (xs:=rs.map V.int) (k:=at') (by rw [Aa];exact al)
  have c2:zP (rs.map V.int) (some (at':Int)) none=(rs.map V.int).drop at':=cZ at'
  have c3:zP (rs.map V.int) (some ((at':Int) + 1)) none=(rs.map V.int).drop (at' + 1):=cZ (at' + 1)
  (simp only [qK])
  (push_cast only [r6,c1,c2,c3])
  refine fun b1 G1 t1' f1=>⟨by decide,fun b2 G2 m2 t2 f2=>⟨_,t2 _ _ f1,_,f2,?_,fun b3 G3 t3 f3=>?_⟩⟩
  ·exact Bj (qO (by rw [An,Aa,A7];omega))
  have T3:=(t1'.trans t2).trans t3
  refine ⟨_,T3 _ _ r6,fun b4 G4 t4 f4=>⟨_,t4 _ _ f3,_,f4,?_,fun b5 G5 t5 f5=>?_⟩⟩
  ·exact Bj (qO (by rw [c2,Ar,An,Bg,Aa,A7];omega))
  rw [c2] at f5
  have T5:=(T3.trans t4).trans t5
  refine ⟨_,T5 _ _ r6,fun b6 G6 t6 f6=>⟨_,t6 _ _ (T5 _ _ r6),fun b7 G7 t7 f7=>⟨_,t7 _ _ f6,_,f7,?_,fun b8 G8 t8 f8=>?_⟩⟩⟩
  ·exact Bj (qO (by rw [c1,c3,An,Bg,Aa];omega))
  rw [c1,c3] at f8
  have T8:=((T5.trans t6).trans t7).trans t8
  have r8:=T8 _ _ r6
  clear f1 f2 f3 f4 f6 f7
  refine ⟨_,r8,fun b9 G9 m9 t9 f9=>⟨_,t9 _ _ r8,fun b10 G10 t10 f10=>⟨_,t10 _ _ (t9 _ _ r8),_,f10,?_,fun b11 G11 t11 f11=>?_⟩⟩⟩
  ·have:=lV (rs.map V.int) (some (-1)) none
   rw [Aa] at this
   exact Bj (qO (by rw [Aa];omega))
  have T11:=((T8.trans t9).trans t10).trans t11
  refine ⟨_,qX (T11 _ _ r6),fun l2 G12 m12 t12 f12=>⟨by decide,fun b13 G13 m13 t13 f13=>⟨by decide,fun l3 G14 m14 t14 f14=>?_⟩⟩⟩
  have T14:=((T11.trans t12).trans t13).trans t14
  have rows1:∀ x ∈ [V.ref b5,V.ref b8,V.ref b9,V.ref b11,V.ref l2,V.ref b13],∃ o,Rs G14 x o:=by
   have u13:=t13.trans t14
   have u11:=t12.trans u13
   have u9:=(t10.trans t11).trans u11
   have u8:=t9.trans u9
   have u5:=((t6.trans t7).trans t8).trans u8
   have cl:=lV (rs.map V.int) (some (-1)) none
   rw [Aa] at cl
   intro x hx
   simp only [A3,AZ,or_false] at hx
   rcases hx with z | z | z | z | z | z <;> subst z
   ·exact ⟨_,.tup (u5 _ _ f5) (gX (T14:=T14) kod fun y hy=>by
     rcases Av.mp hy with z | z
     ·rcases Av.mp z with z | z
      ·exact .inl (Bl z)
      ·exact .inr (A4.mp z)
     ·exact .inl (BG z)) (by rw [Ar,Ar,An,Bg,Aa,A7];omega)⟩
   ·exact ⟨_,.tup (u8 _ _ f8) (gX (T14:=T14) kod fun y hy=>by
     rcases Av.mp hy with z | z
     ·exact .inl (Bl z)
     ·exact .inl (BG z)) (by rw [Ar,An,Bg,Aa];omega)⟩
   ·exact ⟨_,.tup (u9 _ _ f9) (gX (T14:=T14) kod fun y hy=>.inl (Cv.mp hy)) (by rw [B7,Aa];omega)⟩
   ·exact ⟨_,.tup (u11 _ _ f11) (gX (T14:=T14) kod fun y hy=>by
     rcases Av.mp hy with z | z
     ·exact .inl z
     ·exact .inl (eJ z)) (by rw [Ar,Aa];omega)⟩
   ·exact ⟨_,.kind (t := "list") (by simp [zM,u13 _ _ f12]) rfl⟩
   ·exact ⟨_,.tup (t14 _ _ f13) (fun y hy=>by cases hy) (by decide)⟩
  have r14:=T14 _ _ r6
  have kod14:∃ t,zM G14 od=some t:=let ⟨t,k⟩:=kod;⟨t,j0 T14 k⟩
  have pa14:=T14 _ _ pa6
  have pt14:=pt6.same T14
  have y14:=y6.trans (jR T14)
  clear f5 f8 f9 f10 f11 f12 f13
  (simp only [qK])
  (push_cast only [f14])
  have rl9:(rs.map V.int).length ≤ 900:=by rw [Aa];omega
  have al':at' ≤ (rs.map V.int).length:=by rw [Aa];exact al
  refine ⟨r,at',_,_,rfl,r14,al',rl9,fun q1 I1 u1 g1=>⟨r,at',_,_,rfl,u1 _ _ r14,al',rl9,fun q2 I2 u2 g2=>⟨by decide,fun l4 I3 m3 u3 g3=>⟨_,u3 _ _ (u2 _ _ (u1 _ _ f14)),_,g3,(by show 6 + 2 ≤ sizeLine;decide),fun l5 I4 m4 u4 g4=>?_⟩⟩⟩⟩
  have U:=((u1.trans u2).trans u3).trans u4
  have rows2:∀ x ∈ [V.ref b5,V.ref b8,V.ref b9,V.ref b11,V.ref l2,V.ref b13] ++ [V.ref q1,V.ref q2],∃ o,Rs I4 x o:=by
   intro x hx
   have sub:∀ {y:V} {od':V} {z:V},z ∈ (rs.map V.int).take at' ++ [od'] ++ (rs.map V.int).drop (at' + 1)→z ∈ rs.map V.int∨z=od':=fun {y} {od'} {z} hz=>by
    rcases Av.mp hz with w | w
    ·rcases Av.mp w with w | w
     ·exact .inl (Bl w)
     ·exact .inr (A4.mp w)
    ·exact .inl (BG w)
   have ln:∀ od':V,((rs.map V.int).take at' ++ [od'] ++ (rs.map V.int).drop (at' + 1)).length < 1000:=fun od'=>by rw [Ar,Ar,An,Bg,Aa,A7];omega
   rcases Av.mp hx with z | z
   ·obtain ⟨o,h⟩:=rows1 x z
    exact ⟨o,h.same U⟩
   ·simp only [A3,AZ,or_false] at z
    rcases z with z | z <;> subst z
    ·exact ⟨_,.tup (((u2.trans u3).trans u4) _ _ g1) (gX (T14:=U) (rs:=rs) (od:=V.int (h0 - 2)) ⟨"int",rfl⟩ fun z hz=>sub (y:=V.non) hz) (ln _)⟩
    ·exact ⟨_,.tup ((u3.trans u4) _ _ g2) (gX (T14:=U) (rs:=rs) kod14 fun z hz=>sub (y:=V.non) hz) (ln _)⟩
  have rI:=U _ _ r14
  have paI:=U _ _ pa14
  have kodI:∃ t,zM I4 od=some t:=let ⟨t,k⟩:=kod14;⟨t,j0 U k⟩
  have ptI:=pt14.same U
  have yI:=y14.trans (jR U)
  have nl5:=(((pt14.same u1).same u2).same u3).ne m4
  have rl8:([V.ref b5,V.ref b8,V.ref b9,V.ref b11,V.ref l2,V.ref b13] ++ [V.ref q1,V.ref q2]).length=8:=rfl
  clear f14 g1 g2 g3 rows1
  revert g4 rows2 rl8
  generalize [V.ref b5,V.ref b8,V.ref b9,V.ref b11,V.ref l2,V.ref b13] ++ [V.ref q1,V.ref q2] = rws at *
  intro g4 rows2 rl8
  (simp only [qK])
  (push_cast only [g4])
  refine ⟨p,q',8,rfl,ptI,by decide,by decide,fun d8 J1 w0 w1 ptJ btJ=>?_⟩
  have el5:=btJ.y _ _ nl5.1.symm nl5.2.symm g4
  obtain ⟨k8,rfl⟩:=AL w0
  obtain ⟨x2,hx2⟩:∃ x2,rws[k8]? = some x2:=⟨rws[k8]'(by omega),Ag (by omega)⟩
  obtain ⟨o2,rx2⟩:=rows2 x2 (Aq hx2)
  have rx2':=rx2.sy ptI ptJ btJ.y
  have rJ:=btJ.y _ _ nr.1 nr.2 rI
  have paJ:=btJ.y _ _ np.1 np.2 paI
  have kodJ:∃ t,zM J1 od=some t:=let ⟨t,k⟩:=kodI;⟨t,nY ptI ptJ btJ.y k⟩
  have yJ:=yI.trans btJ.y
  have pl9:(ps.map V.int).length ≤ 900:=by rw [Aa];omega
  have pl':pl' ≤ (ps.map V.int).length:=by rw [Aa];omega
  have ap:=jZ (ns:=ps) pl5
  refine ⟨_,_,rfl,kD el5,x2,zL hx2,by decide,fun c1 J2 k2 v2 h2=>⟨_,qX (v2 _ _ paJ),_,ap,_,rfl,pa,_,_,_,rfl,v2 _ _ paJ,pl',pl9,fun c2 J3 v3 h3=>⟨by decide,fun c3 J4 k4 v4 h4=>⟨by decide,fun l6 J5 k5 v5 h5=>?_⟩⟩⟩⟩
  have rsr:∀ {G:Hp},G r=some (.tup (rs.map V.int))→∃ o,Rs G (.ref r) o:=fun e=>⟨_,.ints e (by omega)⟩
  have rsp:∀ {G:Hp},G pa=some (.tup (ps.map V.int))→∃ o,Rs G (.ref pa) o:=fun e=>⟨_,.ints e (by omega)⟩
  have W5:=((v2.trans v3).trans v4).trans v5
  have some1:∀ x ∈ [V.ref c1,V.ref c3],∃ o,Pc J5 x o:=by
   intro x hx
   simp only [A3,AZ,or_false] at hx
   rcases hx with z | z <;> subst z
   ·exact pcT (((v3.trans v4).trans v5) _ _ h2) ⟨_,rx2'.same W5⟩ (rsp (W5 _ _ paJ))
   ·refine pcT (v5 _ _ h4) (rsr (W5 _ _ rJ)) ?_
    obtain ⟨o,z⟩:=tI (v2.trans v3) h3 (by omega) ⟨"int",rfl⟩
    exact ⟨o,z.same (v4.trans v5)⟩
  have rK:=W5 _ _ rJ
  have paK:=W5 _ _ paJ
  have kodK:∃ t,zM J5 od=some t:=let ⟨t,k⟩:=kodJ;⟨t,j0 W5 k⟩
  have ptK:=ptJ.same W5
  have yK:=yJ.trans (jR W5)
  clear h2 h3 h4 el5 g4
  (simp only [qK])
  have spa:=qX paK
  (push_cast only [spa,ap])
  refine ⟨pa,_,_,_,rfl,paK,pl',pl9,fun d1 K1 u1 g1=>⟨by decide,fun d2 K2 m2 u2 g2=>⟨pa,_,_,_,rfl,u2 _ _ (u1 _ _ paK),pl',pl9,fun d3 K3 u3 g3=>⟨by decide,fun d4 K4 m4 u4 g4=>⟨by decide,fun l7 K5 m5 u5 g5=>⟨_,(((u1.trans u2).trans u3).trans (u4.trans u5)) _ _ h5,_,g5,(by show 2 + 2 ≤ sizeLine;decide),fun l8 K6 m6 u6 g6=>?_⟩⟩⟩⟩⟩⟩
  have W6:=(((u1.trans u2).trans u3).trans (u4.trans u5)).trans u6
  have some2:∀ x ∈ [V.ref c1,V.ref c3] ++ [V.ref d2,V.ref d4],∃ o,Pc K6 x o:=by
   intro x hx
   rcases Av.mp hx with z | z
   ·obtain ⟨o,y⟩:=some1 x z
    exact ⟨o,y.same W6⟩
   simp only [A3,AZ,or_false] at z
   rcases z with z | z <;> subst z
   ·refine pcT ((u3.trans (u4.trans (u5.trans u6))) _ _ g2) (rsr (W6 _ _ rK)) ?_
    obtain ⟨o,z⟩:=tI u1 g1 (by omega) ⟨"int",rfl⟩
    exact ⟨o,z.same (u2.trans (u3.trans (u4.trans (u5.trans u6))))⟩
   ·refine pcT ((u5.trans u6) _ _ g4) (rsr (W6 _ _ rK)) ?_
    obtain ⟨o,z⟩:=tI ((u1.trans u2).trans u3) g3 (by omega) kodK
    exact ⟨o,z.same (u4.trans (u5.trans u6))⟩
  have rL:=W6 _ _ rK
  have paL:=W6 _ _ paK
  have ptL:=ptK.same W6
  have yL:=yK.trans (jR W6)
  have sl4:([V.ref c1,V.ref c3] ++ [V.ref d2,V.ref d4]).length=4:=rfl
  clear g1 g2 g3 g4 g5 h5 some1
  revert g6 some2 sl4
  generalize [V.ref c1,V.ref c3] ++ [V.ref d2,V.ref d4] = sm2
  intro g6 some2 sl4
  have spL:=qX paL
  (simp only [qK])
  (push_cast only [g6,paL,spL])
  refine fun e1 M1 a1 v1 h1=>⟨by decide,fun e2 M2 a2 v2 h2=>⟨_,v2 _ _ (v1 _ _ paL),fun e3 M3 v3 h3=>⟨by decide,fun e4 M4 a4 v4 h4=>⟨by decide,fun e5 M5 a5 v5 h5=>⟨_,v5 _ _ (v4 _ _ (v3 _ _ (v2 _ _ (v1 _ _ paL)))),_,h5,?_,fun e6 M6 v6 h6=>⟨by decide,fun e7 M7 a7 v7 h7=>?_⟩⟩⟩⟩⟩⟩
  ·exact Bj (qO (by rw [Aa];simp;omega))
  have X7:=((((((v1.trans v2).trans v3).trans v4).trans v5).trans v6).trans v7)
  refine ⟨_,qX (X7 _ _ paL),fun e8 M8 a8 v8 h8=>⟨by decide,fun e9 M9 a9 v9 h9=>⟨by decide,fun e10 M10 a10 v10 h10=>⟨by decide,fun l9 M11 a11 v11 h11=>⟨_,((((X7.trans v8).trans v9).trans v10).trans v11) _ _ g6,_,h11,?_,fun l10 M12 a12 v12 h12=>?_⟩⟩⟩⟩⟩
  ·rw [sl4]
   show 4 + 5 ≤ sizeLine
   decide
  have W12:=((((X7.trans v8).trans v9).trans v10).trans v11).trans v12
  have some3:∀ x ∈ sm2 ++ [V.ref e2,V.ref e4,V.ref e7,V.ref e9,V.ref e10],∃ o,Pc M12 x o:=by
   have x10:=v11.trans v12
   have x9:=v10.trans x10
   have x7:=(v8.trans v9).trans x9
   have x4:=((v5.trans v6).trans v7).trans x7
   have x2:=(v3.trans v4).trans x4
   have rr:∃ o,Rs M12 (.ref r) o:=rsr (W12 _ _ rL)
   intro x hx
   rcases Av.mp hx with z | z
   ·obtain ⟨o,y⟩:=some2 x z
    exact ⟨o,y.same W12⟩
   simp only [A3,AZ,or_false] at z
   rcases z with z | z | z | z | z <;> subst z
   ·exact pcT (x2 _ _ h2) rr ⟨_,.tup ((v2.trans x2) _ _ h1) (gX (T14:=W12) (rs:=ps) (od:=V.int 0) ⟨"int",rfl⟩ fun y hy=>.inl (Cv.mp hy)) (by rw [B7,Aa];omega)⟩
   ·have cl:=lV (ps.map V.int) (some 1) none
    rw [Aa] at cl
    exact pcT (x4 _ _ h4) rr ⟨_,.tup ((v4.trans x4) _ _ h3) (gX (T14:=W12) (rs:=ps) (od:=V.int 0) ⟨"int",rfl⟩ fun y hy=>.inl (eJ hy)) (by omega)⟩
   ·exact pcT (x7 _ _ h7) rr ⟨_,.tup ((v7.trans x7) _ _ h6) (gX (T14:=W12) (rs:=ps) (od:=V.int 0) ⟨"int",rfl⟩ fun y hy=>by
     rcases Av.mp hy with z | z
     ·exact .inl z
     ·exact .inr (A4.mp z)) (by rw [Ar,Aa];simp;omega)⟩
   ·exact pcT (x9 _ _ h9) rr ⟨_,.kind (t := "list") (by simp [zM,(v9.trans x9) _ _ h8]) rfl⟩
   ·exact ⟨_,.kind (t := "list") (by simp [zM,x10 _ _ h10]) rfl⟩
  have rM:=W12 _ _ rL
  have paM:=W12 _ _ paL
  have ptM:=ptL.same W12
  have yM:=yL.trans (jR W12)
  have sl9:(sm2 ++ [V.ref e2,V.ref e4,V.ref e7,V.ref e9,V.ref e10]).length=9:=by rw [Ar,sl4];rfl
  clear h1 h2 h3 h4 h5 h6 h7 h8 h9 h10 h11 g6 some2
  revert h12 some3 sl9
  generalize sm2 ++ [V.ref e2,V.ref e4,V.ref e7,V.ref e9,V.ref e10] = sm3
  intro h12 some3 sl9
  (simp only [qK])
  (push_cast only [h12])
  refine ⟨by decide,fun f1 N1 a1 v1 h1=>⟨by decide,fun f2 N2 a2 v2 h2=>⟨by decide,fun f3 N3 a3 v3 h3=>⟨by decide,fun l11 N4 a4 v4 h4=>⟨_,v4 _ _ (v3 _ _ (v2 _ _ (v1 _ _ h12))),_,h4,?_,fun l12 N5 a5 v5 h5=>?_⟩⟩⟩⟩⟩
  ·rw [sl9]
   show 9 + 3 ≤ sizeLine
   decide
  have Y:=(((v1.trans v2).trans v3).trans v4).trans v5
  have some4:∀ x ∈ sm3 ++ [V.ref f1,V.ref f2,V.ref f3],∃ o,Pc N5 x o:=by
   intro x hx
   rcases Av.mp hx with z | z
   ·obtain ⟨o,y⟩:=some3 x z
    exact ⟨o,y.same Y⟩
   simp only [A3,AZ,or_false] at z
   rcases z with z | z | z <;> subst z
   ·exact ⟨_,.len (((v2.trans v3).trans (v4.trans v5)) _ _ h1) (by simp)⟩
   ·exact ⟨_,.len ((v3.trans (v4.trans v5)) _ _ h2) (by simp)⟩
   ·exact pcT ((v4.trans v5) _ _ h3) (rsp (Y _ _ paM)) (rsr (Y _ _ rM))
  have ptN:=ptM.same Y
  have yN:=yM.trans (jR Y)
  have sl12:(sm3 ++ [V.ref f1,V.ref f2,V.ref f3]).length=12:=by rw [Ar,sl9];rfl
  have nl12:=((((ptM.same v1).same v2).same v3).same v4).ne a5
  clear h1 h2 h3 h4 h12 some3
  revert h5 some4 sl12
  generalize sm3 ++ [V.ref f1,V.ref f2,V.ref f3] = sm4
  intro h5 some4 sl12
  (simp only [qK])
  (push_cast only [])
  refine ⟨by decide,fun g1 O1 a6 v6 h6=>⟨p,q',16,rfl,ptN.same v6,by decide,by decide,fun d O2 z0 z1 ptO btO=>?_⟩⟩
  have ng1:=ptN.ne a6
  have eg:=btO.y _ _ ng1.1.symm ng1.2.symm h6
  have el:=btO.y _ _ nl12.1.symm nl12.2.symm (v6 _ _ h5)
  obtain ⟨kd,rfl⟩:=AL z0
  obtain ⟨i,hi,i12⟩:∃ i:Nat,xH ([0,0,0,0,0,1,2,3,4,5,6,7,8,9,10,11].map V.int) (kd:Int)=some (V.int (i:Int))∧i < 12:=by
   have key:∀ j:_root_.Fin 16,0 ≤ [(0:Int),0,0,0,0,1,2,3,4,5,6,7,8,9,10,11].getD j.val 0∧[(0:Int),0,0,0,0,1,2,3,4,5,6,7,8,9,10,11].getD j.val 0 < 12:=by decide
   have k:=key ⟨kd,by omega⟩
   have a:=jZ (ns:=[(0:Int),0,0,0,0,1,2,3,4,5,6,7,8,9,10,11]) (n:=kd) (by show kd < 16;omega)
   obtain ⟨i,ei⟩:=AL k.1
   refine ⟨i,a.trans ?_,?_⟩
   ·show some (V.int ([(0:Int),0,0,0,0,1,2,3,4,5,6,7,8,9,10,11].getD kd 0))=_
    rw [show [(0:Int),0,0,0,0,1,2,3,4,5,6,7,8,9,10,11].getD kd 0=(i:Int) from ei]
   ·have:[(0:Int),0,0,0,0,1,2,3,4,5,6,7,8,9,10,11].getD kd 0 < 12:=k.2
    rw [show [(0:Int),0,0,0,0,1,2,3,4,5,6,7,8,9,10,11].getD kd 0=(i:Int) from ei] at this
    omega
  obtain ⟨x4,hx4⟩:∃ x4,sm4[i]? = some x4:=⟨sm4[i]'(by omega),Ag (by omega)⟩
  obtain ⟨o4,px⟩:=some4 x4 (Aq hx4)
  refine ⟨_,_,rfl,kD eg,_,hi,_,_,rfl,kD el,x4,zL hx4,?_⟩
  exact q x4 o4 O2 ((px.same v6).sy (ptN.same v6) ptO btO.y) ptO ((yN.trans (jR v6)).trans btO.y)
def aA:Sp:=fun _ _ _ _=>False
theorem cal_none {x:Str}{ps:List Str}{st:Stmt}(F:Fun K x x st f fd)(hm:mg x=some (.ref f))(hb:Binds K fd ps []):Cal P w K mg base x ps 0 aA :=
 ⟨f,fd,⟨fun _ _ _ _ h=>h.elim,fun _ _ _ _ _ _ _ _ _ _ _ _ _ h=>h.elim⟩,hm,F.kp,hb⟩
def dQ:Sp:=fun vs H Q _=>∃ (x:V) (i:Int) (t:String),vs=[x,.int i]∧zM H x=some t∧Q (.bl (eqI x i)) H
theorem zW:FnScope ["_law_piece", "_law_due"] ["_law_piece", "_law_due"] (qF s__law_same):=⟨rfl,rfl,rfl,by decide +kernel,rfl,by decide +kernel,by decide +kernel⟩
theorem ok_same1 (F:Fun K "_law_same" "_law_same" s__law_same f fd) (hm:mg "_law_same" = some (.ref f)) (hb:Binds K fd ["_law_piece", "_law_due"] []) (T:Txt mg) (c__law_same:Cal P w K mg base "_law_same" ["_law_piece", "_law_due"] 0 aA):Cal P w K mg base "_law_same" ["_law_piece", "_law_due"] 1 dQ:=by
 refine q4 F hm hb zW (fun vs H Q E h=>?_) (fun cdv A outer s H vs Q E hr h=>?_)
 ·obtain ⟨_,_,_,rfl,_⟩:=h;rfl
 ·obtain ⟨x,i,t,rfl,hx,q⟩:=h
  have sc:=zW
  refine ⟨_,kC (j8 (z8 (qM dF rfl T.isinstance_ kA (qA (pv 1) (qA (jU (v:=.ty "tuple") rfl T.tuple_ kL rfl) qD)))) (kC (j8 (PW.pt (aK (cC (z8 (qM dF rfl T.isinstance_ kA (qA (pv 0) (qA (jU (v:=.ty "tuple") rfl T.tuple_ kL rfl) qD))))) (lG (q5 cF (qM len0 rfl T.len_ kX (qA (pv 0) qD)) (qM len0 rfl T.len_ kX (qA (pv 1) qD)) (qZ _))))) (qI (qU nD)) jB)
   (qI (qU (qM (all0 rfl) rfl T.all_ mF (qA (jI (N:=["_law_one", "_law_other"]) (fr:=[none,none]) rfl (lH rfl T.zip_ (qA (pv 0) (qA (pv 1) qD))) (CScope.of rfl rfl rfl) rfl (fun _ _ _=>⟨kU (n:=2) rfl (qT (qN (i:=0) (show List.Nodup (α:=Str) ["_law_one", "_law_other"] by decide +kernel) rfl (Or.inl rfl)) (qT (qN (i:=1) (show List.Nodup (α:=Str) ["_law_one", "_law_other"] by decide +kernel) rfl (Or.inl rfl)) kR)),kN,qL c__law_same hr (qA (pv 0) (qA (pv 1) qD)) (hk:=Ad _)⟩)) qD))))) jB)
   (kC (j8 (q5 cG (pv 1) zH (qZ _)) (qI (qU (jQ cG (pv 0) zH (qZ _)))) jB)
   (qI (qU (zI (qM dF rfl T.isinstance_ kA (qA (pv 0) (qA (jU (v:=.ty "int") rfl T.int_ pC rfl) qD))) (zI (tO (qM dF rfl T.isinstance_ kA (qA (pv 0) (qA (jU (v:=.ty "bool") rfl T.bool_ w4 rfl) qD)))) (gC (jQ jW (pv 0) (pv 1) (qZ _)))))))),?_⟩
  rw [show L2.start ["_law_piece", "_law_due"] [x,.int i] = [some (x),some (.int i)] from rfl]
  cases x with
  | int j =>
   (push_cast only [])
   exact q
  | bl b =>
   (push_cast only [])
   exact q
  | non =>
   (push_cast only [])
   exact q
  | str j =>
   (push_cast only [])
   exact q
  | ref a =>
   cases e:H a with
   | none=>simp [zM,e] at hx
   | some o =>
    cases o with
    | lst xs =>
     (push_cast only [e])
     exact q
    | tup xs =>
     (push_cast only [e])
     exact q
    | dK xs =>
     (push_cast only [e])
     exact q
    | _=>simp [zM,e] at hx
  | _=>cases hx
def gJ (sp:Sp):Sp:=fun vs H Q _=>∃ (x:V) (b:Addr) (ys:List V),vs=[x,.ref b]∧H b=some (.tup ys)∧((∃ t,zM H x=some t∧(t == "tuple")=false∧∀ H',Same H H'→Q (.bl false) H')∨∃ (a:Addr) (xs:List V),x = .ref a∧H a=some (.tup xs)∧((xs.length ≠ ys.length∧∀ H',Same H H'→Q (.bl false) H')∨(xs.length=ys.length∧xs.length < 1000∧∃ bs:List Bool,bs.length=xs.length∧(∀ (i:Nat) (x y:V) (b:Bool),xs[i]? = some x→ys[i]? = some y→bs[i]? = some b→∀ H',Same H H'→∀ Q':VK,(∀ H'',Same H' H''→Q' (.bl b) H'')→sp [x,y] H' Q' E0)∧∀ H',Same H H'→Q (.bl (bs.all id)) H')))
def TSI (c:Addr)(bs:List Bool)(G:Hp)(i:Nat)(σ:St)(H:Hp):Prop:=∃ v1 v2:Option V,σ=[v1,v2]∧SameX c G H∧H c=some (.lst ((bs.take i).map V.bl))
theorem rO {n:Nat}{sp:Sp}(F:Fun K "_law_same" "_law_same" s__law_same f fd) (hm:mg "_law_same" = some (.ref f)) (hb:Binds K fd ["_law_piece", "_law_due"] []) (T:Txt mg) (c__law_same:Cal P w K mg base "_law_same" ["_law_piece", "_law_due"] n sp):Cal P w K mg base "_law_same" ["_law_piece", "_law_due"] (n + 1) (gJ sp):=by
 refine q4 F hm hb zW (fun vs H Q E h=>?_) (fun cdv A outer s H vs Q E hr h=>?_)
 ·obtain ⟨_,_,_,rfl,_⟩:=h;rfl
 ·obtain ⟨x,b,ys,rfl,hb',h⟩:=h
  have sc:=zW
  refine ⟨_,kC (j8 (z8 (qM dF rfl T.isinstance_ kA (qA (pv 1) (qA (jU (v:=.ty "tuple") rfl T.tuple_ kL rfl) qD)))) (kC (j8 (PW.pt (aK (cC (z8 (qM dF rfl T.isinstance_ kA (qA (pv 0) (qA (jU (v:=.ty "tuple") rfl T.tuple_ kL rfl) qD))))) (lG (q5 cF (qM len0 rfl T.len_ kX (qA (pv 0) qD)) (qM len0 rfl T.len_ kX (qA (pv 1) qD)) (qZ _))))) (qI (qU nD)) jB)
   (qI (qU (qM (all0 rfl) rfl T.all_ mF (qA (jI (N:=["_law_one", "_law_other"]) (fr:=[none,none]) rfl (lH rfl T.zip_ (qA (pv 0) (qA (pv 1) qD))) (CScope.of rfl rfl rfl) rfl (fun _ _ _=>⟨kU (n:=2) rfl (qT (qN (i:=0) (show List.Nodup (α:=Str) ["_law_one", "_law_other"] by decide +kernel) rfl (Or.inl rfl)) (qT (qN (i:=1) (show List.Nodup (α:=Str) ["_law_one", "_law_other"] by decide +kernel) rfl (Or.inl rfl)) kR)),kN,qL c__law_same hr (qA (pv 0) (qA (pv 1) qD)) (hk:=Ad _)⟩)) qD))))) jB)
   (kC (j8 (q5 cG (pv 1) zH (qZ _)) (qI (qU (jQ cG (pv 0) zH (qZ _)))) jB)
   (qI (qU (zI (qM dF rfl T.isinstance_ kA (qA (pv 0) (qA (jU (v:=.ty "int") rfl T.int_ pC rfl) qD))) (zI (tO (qM dF rfl T.isinstance_ kA (qA (pv 0) (qA (jU (v:=.ty "bool") rfl T.bool_ w4 rfl) qD)))) (gC (jQ jW (pv 0) (pv 1) (qZ _)))))))),?_⟩
  have hsb:=qX hb'
  rw [show L2.start ["_law_piece", "_law_due"] [x,.ref b] = [some (x),some (.ref b)] from rfl]
  rcases h with ⟨t,k,z,q⟩ | ⟨a,xs,rfl,ha,h⟩
  ·(push_cast only [hb',hsb])
   refine ⟨_,k,?_⟩
   rw [Au (by rw [z];rfl)]
   exact q H (Same.refl H)
  have hsa:=qX ha
  (push_cast only [ha,hb',hsa,hsb])
  rcases h with ⟨ne,q⟩ | ⟨hl,hsm,bs,bl,each,q⟩
  ·rw [Au (by simp;omega)]
   exact q H (Same.refl H)
  rw [Ax (by simp [hl])]
  refine ⟨_,_,_,.inr ⟨rfl,ha⟩,_,.inr ⟨rfl,hb'⟩,fun c nc=>?_⟩
  have nca:a ≠ c:=qE ha nc
  have ncb:b ≠ c:=qE hb' nc
  refine uG (TSI c bs H) ⟨none,none,rfl,SameX.upd,qH⟩ (fun i σ H1 ⟨_,_,_,s,_⟩=>⟨.inr ⟨rfl,s _ _ nca ha⟩,.inr ⟨rfl,s _ _ ncb hb'⟩⟩) ?_ ?_
  ·rintro i u v t σ H1 H2 hu hv ⟨v1,v2,rfl,s1,e1⟩ nt s2 e2
   have hi:i < xs.length:=(Ae.mp hu).1
   have ec2:=s2 _ _ e1
   obtain ⟨b1,hb1⟩:∃ b1,bs[i]? = some b1:=⟨bs[i]'(by omega),Ag (by omega)⟩
   (push_cast only [e2])
   refine each i u v b1 hu hv hb1 H2 (fun b o e=>s2 _ _ (s1 _ _ (qE e nc) e)) _ fun H3 s3=>?_
   have ec3:=s3 _ _ ec2
   (push_cast only [ec3])
   refine ⟨qO (by rw [An];omega),⟨_,_,rfl,(s1.trans (s2.trans s3).x).trans SameX.upd,?_⟩⟩
   rw [qH,Az,hb1,A8]
   rfl
  ·rintro σ H1 ⟨v1,v2,rfl,s1,e1⟩
   rw [AB (by omega)] at e1
   refine ⟨_,kD e1,?_⟩
   exact q H1 (s1.same nc)
theorem nB:∀ {xs:List V} {ns:List Int},xs.length=ns.length→((xs.zip ns).map fun p=>eqI p.1 p.2).all id=gU xs ns
 | [],[],_=>rfl
 | x :: xs,n :: ns,h=>by
  rw [List.zip_cons_cons,AN,Cf,nB (by simpa using h)]
  rfl
 | [],_ :: _,h=>by cases h
 | _ :: _,[],h=>by cases h
theorem same2 {H:Hp}{Q:VK}{E:XK}{x:V}{b:Addr}{o:Option (List V)}{ns:List Int}(r:Rs H x o)(hb:H b=some (.tup (ns.map V.int)))(q:∀ H',Same H H'→Q (.bl (xD o ns)) H'):gJ dQ [x,.ref b] H Q E:=by
 refine ⟨x,b,_,rfl,hb,?_⟩
 cases r with
 | kind k z=>exact .inl ⟨_,k,z,q⟩
 | @tup a xs h k l =>
  refine .inr ⟨a,xs,rfl,h,?_⟩
  by_cases e:xs.length=ns.length
  ·refine .inr ⟨by rw [Aa];exact e,l,(xs.zip ns).map fun p=>eqI p.1 p.2,by rw [Aa,List.length_zip];omega,fun i x y b hx hy hb H' s Q' q'=>?_,fun H' s=>?_⟩
   ·rw [Af] at hy hb
    obtain ⟨n,hn,rfl⟩:=Ah.mp hy
    obtain ⟨p,hp,rfl⟩:=Ah.mp hb
    obtain ⟨p1,p2⟩:=List.getElem?_zip_eq_some.mp hp
    rw [hx] at p1
    rw [hn] at p2
    obtain ⟨t,kt⟩:=k x (Aq hx)
    refine ⟨x,n,t,rfl,j0 s kt,?_⟩
    have:=q' H' (Same.refl H')
    rw [← A9 p1,← A9 p2] at this
    exact this
   ·rw [nB e]
    exact q H' s
  ·refine .inl ⟨by rw [Aa];exact e,fun H' s=>?_⟩
   have z:xD (some xs) ns=false:=by
    cases c:xD (some xs) ns with
    | false=>rfl
    | true =>
     have:=zN.mp (show gU xs ns=true from c)
     exact absurd (by rw [this,Aa]) e
   have:=q H' s
   rw [z] at this
   exact this
theorem same3 {H:Hp}{Q:VK}{E:XK}{x:V}{b r p:Addr}{o:Option (Option (List V) × Option (List V))}{ns ms:List Int}(pc:Pc H x o)(hb:H b=some (.tup [.ref r,.ref p]))(hr:H r=some (.tup (ns.map V.int)))(hp:H p=some (.tup (ms.map V.int)))(q:∀ H',Same H H'→Q (.bl (bW o ns ms)) H'):gJ (gJ dQ) [x,.ref b] H Q E:=by
 refine ⟨x,b,_,rfl,hb,?_⟩
 cases pc with
 | kind k z=>exact .inl ⟨_,k,z,q⟩
 | @len a xs h n=>exact .inr ⟨a,xs,rfl,h,.inl ⟨n,q⟩⟩
 | @two a u v o1 o2 h r1 r2 =>
  refine .inr ⟨a,_,rfl,h,.inr ⟨rfl,by show 2 < 1000;decide,[xD o1 ns,xD o2 ms],rfl,fun i x y b hx hy hb H' s Q' q'=>?_,fun H' s=>?_⟩⟩
  ·have hi:i < 2:=(Ae.mp hx).1
   have hi2:i=0∨i=1:=by omega
   rcases hi2 with rfl | rfl
   ·cases hx
    cases hy
    cases hb
    exact same2 (r1.same s) (s _ _ hr) q'
   ·cases hx
    cases hy
    cases hb
    exact same2 (r2.same s) (s _ _ hp) q'
  ·have:[xD o1 ns,xD o2 ms].all id=bW (some (o1,o2)) ns ms:=by
    show (xD o1 ns && (xD o2 ms && true))=(xD o1 ns && xD o2 ms)
    rw [Bool.and_true]
   rw [this]
   exact q H' s
theorem tG {ss:List Int}(h5:ss.length ≤ 5)(h01:∀ x ∈ ss,x=0∨x=1):ss=S.bitsL (gY ss 1 ss.length) ss.length:=by
 refine S.getD_ext (by rw [S.bits_len]) fun i hi=>?_
 rw [S.bits_at hi,cS ss ss.length h5 i (by omega),A2 hi,BS]
 have hm:ss.getD i 0 ∈ ss:=by
  rw [Ab,Ag hi]
  exact AK hi
 rcases h01 _ hm with z | z <;> rw [z] <;> simp
theorem aN {B x:Int}{n m:Nat}(h:B * ((n:Int) + (m:Int)) ≤ 399)(s:x ≤ (n:Int) * B + (m:Int) * B):x ≤ 399:=by
 have e:B * ((n:Int) + (m:Int))=(n:Int) * B + (m:Int) * B:=by rw [Int.mul_add,Int.mul_comm B,Int.mul_comm B]
 omega
theorem lA {B:Int}:∀ (l:List Int),(∀ x ∈ l,x ≤ B)→l.sum ≤ (l.length:Int) * B
 | [],_=>by simp
 | x :: l,h=>by
  have ih:=lA l fun y hy=>h y (Ap _ hy)
  have hx:=h x Am
  rw [B3,Bf]
  push_cast
  rw [Int.add_mul,Cy]
  omega
theorem cX {ts:List (List Int)}{m F:Nat}{B top:Int}(B0:0 ≤ B)(bd:∀ ws ∈ ts,Bd m B ws)(it:S.IsTop ts m top):0 ≤ top∧top ≤ B∧kK ts (S.firstL F m top) ≤ (ts.length:Int) * B + (m:Int) * B:=by
 have pp:=AA m
 obtain ⟨⟨w0,w1,w2⟩,_⟩:=it
 have t01:=(bd w0 w1).2 (2 ^ m - 1) (by omega)
 rw [w2] at t01
 have fb:∀ x ∈ S.firstL F m top,0 ≤ x∧x ≤ B:=fun x hx=>by rcases S.first_mem hx with z | z <;> omega
 refine ⟨t01.1,t01.2,?_⟩
 unfold kK
 have h1:=lA (B:=B) (S.firstL F m top) fun x hx=>(fb x hx).2
 rw [S.first_len] at h1
 have h2:=lA (B:=B) (ts.map fun ws=>jP ws (S.firstL F m top)) fun x hx=>by
  obtain ⟨ws,hw,rfl⟩:=Al.mp hx
  obtain ⟨k,k1,k2⟩:=dC (dM ws (S.firstL F m top)) (2 ^ (S.firstL F m top).length - 1)
  have k2':jP ws (S.firstL F m top)=dM ws (S.firstL F m top) k:=k2
  rw [k2']
  unfold dM
  rw [S.first_len] at k1 ⊢
  have b1:=(bd ws hw).2 k (by omega)
  have b2:0 ≤ kY (S.firstL F m top) k m:=by
   have:∀ n,0 ≤ kY (S.firstL F m top) k n:=fun n=>by
    induction n with
    | zero=>exact AY _
    | succ n ih =>
     show 0 ≤ kY (S.firstL F m top) k n + _
     have:0 ≤ (S.firstL F m top).getD n 0:=by
      rw [Ab]
      cases e:(S.firstL F m top)[n]? with
      | none=>exact AY _
      | some x=>exact (fb x (Aq e)).1
     split <;> omega
   exact this m
  omega
 rw [Aa] at h2
 omega
def TupS (H H':Hp):Prop:=∀ a L,H a=some (.tup L)→H' a=some (.tup L)
theorem tn_ts {H H':Hp}{tw sa wa:Addr}{ts:List (Addr × List Int)}{m F:Nat}(R:S.Tn H tw sa wa ts m F)(s:TupS H H'):S.Tn H' tw sa wa ts m F:=⟨⟨s _ _ R.R.tw,s _ _ R.R.wa,R.R.few,R.R.five,fun t ht=>⟨s _ _ (R.R.row t ht).1,(R.R.row t ht).2⟩⟩,s _ _ R.sa,R.hF,R.kd,R.ne⟩
theorem ts_y {H H':Hp}{p q:Addr}(pt:Pot H p q)(s:SameY p q H H'):TupS H H':=fun a L e=>s _ _ (pt.net e).1 (pt.net e).2 e
theorem ts_l {H H':Hp}{l:Addr}{xs:List V}(e:H l=some (.lst xs))(s:SameX l H H'):TupS H H':=fun a L h=>s _ _ (fun z=>by rw [z,e] at h;cases h) h
theorem oU {H H':Hp}{l:Addr}{xs ys:List V}(e:H l=some (.lst xs))(e':H' l=some (.lst ys))(s:SameX l H H'){x:V}{t:String}(k:zM H x=some t):zM H' x=some t:=by
 cases x with
 | ref a =>
  by_cases z1:a=l
  ·subst z1
   simp only [zM,e] at k
   simp only [zM,e',k]
  cases h:H a with
  | none=>simp [zM,h] at k
  | some o=>simp only [zM,h] at k;simp only [zM,s a o z1 h];exact k
 | _=>exact k
theorem Rs.l {H H':Hp}{l:Addr}{xs ys:List V}{x:V}{o:Option (List V)}(r:Rs H x o)(e:H l=some (.lst xs))(e':H' l=some (.lst ys))(s:SameX l H H'):Rs H' x o:=by
 cases r with
 | kind k z=>exact .kind (oU e e' s k) z
 | tup h k len=>exact .tup (ts_l e s _ _ h) (fun x hx=>let ⟨t,z⟩:=k x hx;⟨t,oU e e' s z⟩) len
theorem Pc.l {H H':Hp}{l:Addr}{xs ys:List V}{x:V}{o:Option (Option (List V) × Option (List V))}(r:Pc H x o)(e:H l=some (.lst xs))(e':H' l=some (.lst ys))(s:SameX l H H'):Pc H' x o:=by
 cases r with
 | kind k z=>exact .kind (oU e e' s k) z
 | len h n=>exact .len (ts_l e s _ _ h) n
 | two h r1 r2=>exact .two (ts_l e s _ _ h) (r1.l e e' s) (r2.l e e' s)
def lC (K:PySem.W.Frag):Sp:=fun vs H Q _=>∃ (a:Addr) (ns:List Int),vs=[.ref a]∧Scr K a ns H∧ns.length ≤ 63∧∀ H',Q (.bl true) H'
def J1 (a p q tw du l sa wa r pa:Addr)(ts:List (Addr × List Int))(m F:Nat)(row ps:List Int)(k:Nat)(σ:St)(H:Hp):Prop:=∃ (v5 v6 v7:Option V) (xs:List V),σ=[some (.ref a),some (.ref p),some (.ref tw),some (.ref du),some (.ref l),v5,v6,v7]∧Pot H p q∧l ≠ p∧l ≠ q∧S.Tn H tw sa wa ts m F∧H du=some (.tup [.ref r,.ref pa])∧H r=some (.tup (row.map V.int))∧H pa=some (.tup (ps.map V.int))∧H l=some (.lst xs)∧xs.length=2 + k∧∀ x ∈ xs,∃ o,Pc H x o
def J2 (a p q tw du l:Addr)(G:Hp)(k:Nat)(σ:St)(H:Hp):Prop:=∃ v5 v6 v7:Option V,σ=[some (.ref a),some (.ref p),some (.ref tw),some (.ref du),some (.ref l),v5,v6,v7]∧Same G H
theorem sc_law:FnScope ["_law_script", "_law_pot_here", "_law_burg", "_law_due", "_law_some_here", "_law_turn", "_law_piece", "_law_found"] ["_law_script"] (qF s_law):=⟨rfl,rfl,rfl,by decide +kernel,rfl,by decide +kernel,by decide +kernel⟩
theorem ok_law (F:Fun K "law" "law" s_law f fd) (T:Txt mg) (c__law_pot:Cal P w K mg base "_law_pot" ["_law_script"] 1 (sp_pot K)) (c__law_kind_town:Cal P w K mg base "_law_kind_town" ["_law_pot_here", "_law_most"] 4 pZ) (c__law_steps:Cal P w K mg base "_law_steps" ["_law_burg", "_law_way"] 4 mU) (c__law_bent:Cal P w K mg base "_law_bent" ["_law_pot_here", "_law_told"] 3 aG) (c__law_same:Cal P w K mg base "_law_same" ["_law_piece", "_law_due"] 3 (gJ (gJ dQ))) (c_shows_rising:Cal P w K mg base "shows_rising" ["town", "thing"] 9 bL) (ck_shows_rising:CalK P w K mg base "shows_rising" ["town", "thing"] ["thing", "town"] g2r 9 bL) :
  FnOk P w K mg base CX0 10 f fd ["_law_script"] (lC K):=by
 refine F.ok sc_law (fun vs H Q E h=>?_) (fun cdv A outer s H vs Q E hr h=>?_)
 ·obtain ⟨_,_,rfl,_⟩:=h;rfl
 ·obtain ⟨a,ns0,rfl,hq,hlen,q⟩:=h
  have sc:=sc_law
  refine ⟨_,qJ (qY (i:=1) sc.nd rfl (Or.inl rfl) (qL c__law_pot hr (qA (pv 0) qD)))
   (qJ (qY (i:=2) sc.nd rfl (Or.inl rfl) (qL c__law_kind_town hr (qA (pv 1) (qA qG qD))))
   (qJ (qY (i:=3) sc.nd rfl (Or.inl rfl) (qL c__law_steps hr (qA (pv 2) (qA qG qD))))
   (qJ (qY (i:=4) sc.nd rfl (Or.inl rfl) (kZ (qA (pv 3) (qA (qL c__law_steps hr (qA (pv 2) (qA (wJ vT qG) qD))) qD))))
   (qJ (jT AD rfl (jD rfl T.range_ (qA qG qD)) (qN (i:=5) sc.nd rfl (Or.inl rfl))
    (qI (zX (jX (pv 4) (qA (qL c__law_bent hr (qA (pv 1) (qA (pv 3) qD))) qD)))))
   (qJ (jT AD rfl (yG (qV mD (pv 4) (kZ (qA (pv 3) qD)))) (qN (i:=6) sc.nd rfl (Or.inl rfl))
    (qJ (qY (i:=7) sc.nd rfl (Or.inl rfl) (qL c_shows_rising hr (qA (pv 2) (qA (pv 6) qD))))
   (qI (j8 (PW.pt (aK (cC (z8 (qM dF rfl T.isinstance_ kA (qA (pv 7) (qA (jU (v:=.ty "bool") rfl T.bool_ w4 rfl) qD))))) (lG (q5 cF (pv 7) (qL c__law_same hr (qA (pv 6) (qA (pv 3) qD))) (qZ _))))) (qI (qU nD)) jB))))
   (qI (qU (jQ is_bl (pe_calK0 ck_shows_rising hr (aL (pv 3) (aL (pv 2) pk_nil))) nD (qZ _))))))))),?_⟩
  rw [show L2.start ["_law_script", "_law_pot_here", "_law_burg", "_law_due", "_law_some_here", "_law_turn", "_law_piece", "_law_found"] [.ref a] = [some (.ref a),none,none,none,none,none,none,none] from rfl]
  (push_cast only [])
  refine ⟨a,ns0,rfl,hq,fun p q' H1 n1 n1' s1 pt1=>?_⟩
  (push_cast only [])
  (simp only [qK])
  (push_cast only [])
  refine ⟨p,q',rfl,pt1,fun t sa wt ss B ts H3 s1' s5' t1 t5 s01 tb B0 B9 pt3 et esa ewt=>?_⟩
  have hF:=lP ss 1 ss.length
  have p32:=jA s5'
  rw [tG s5' s01] at esa
  have tlen:ts ≠ []:=by rintro rfl;simp at t1
  have B1:B ≤ 399:=by
   have:=Int.mul_le_mul_of_nonneg_left (show (1:Int) ≤ (ts.length:Int) + (ss.length:Int) by omega) B0
   omega
  have bd:∀ ws ∈ ts.map (fun t=>t.2),Bd ss.length B ws:=fun ws hw=>by
   obtain ⟨t,ht,rfl⟩:=Al.mp hw
   exact (tb t ht).2.2.2
  have TN:S.Tn H3 t sa wt ts ss.length (gY ss 1 ss.length):=by
   refine ⟨⟨et,ewt,t5,s5',fun u hu=>?_⟩,esa,hF,fun ws hw=>?_,tlen⟩
   ·obtain ⟨g1,g2,g3,g4⟩:=tb u hu
    refine ⟨g1,g2,fun x hx=>?_⟩
    obtain ⟨k,hk,rfl⟩:=List.getElem_of_mem hx
    have:=g4.2 k (by omega)
    rw [Ab,Ag hk] at this
    have h2:0 ≤ u.2[k]∧u.2[k] ≤ B:=this
    omega
   ·obtain ⟨u,hu,rfl⟩:=Al.mp hw
    exact (tb u hu).2.2.1
  generalize gY ss 1 ss.length=Fh at TN hF
  have bdd:∀ top,S.IsTop (ts.map fun t=>t.2) ss.length top→0 ≤ top∧top ≤ 1000∧kK (ts.map fun t=>t.2) (S.firstL Fh ss.length top) ≤ 399:=fun top it=>by
   obtain ⟨a1,a2,a3⟩:=cX (F:=Fh) B0 bd it
   rw [Aa] at a3
   exact ⟨a1,by omega,aN B9 a3⟩
  have bdc:∀ top,S.IsTop (ts.map fun t=>t.2) ss.length top→0 ≤ top∧top ≤ 1000∧kK (ts.map fun t=>t.2) (S.firstL (S.cpl ss.length Fh) ss.length top) ≤ 399:=fun top it=>by
   obtain ⟨a1,a2,a3⟩:=cX (F:=S.cpl ss.length Fh) B0 bd it
   rw [Aa] at a3
   exact ⟨a1,by omega,aN B9 a3⟩
  have hC:=S.cpl_lt hF
  (simp only [qK])
  (push_cast only [])
  refine ⟨t,sa,wt,ts,ss.length,Fh,Fh,1,rfl,TN,.inl ⟨rfl,rfl⟩,hF,s1',TN.kd,bdd,fun top du r pa H4 it s4 e4 r4 p4=>?_⟩
  obtain ⟨rl1,rl2⟩:=wU (ts.map fun t=>t.2) Fh 399 (S.firstL Fh ss.length top)
  rw [S.first_len] at rl2
  have ni:∀ xs:List Nat,S.natI xs=(xs.map fun x:Nat=>(x:Int)).map V.int:=fun xs=>by unfold S.natI;rw [AV];rfl
  rw [ni] at r4
  have TN4:=TN.same s4
  (push_cast only [])
  (simp only [qK])
  (push_cast only [])
  refine ⟨t,sa,wt,ts,ss.length,Fh,S.cpl ss.length Fh,-1,rfl,TN4,.inr ⟨rfl,fun t ht=>S.cpl_facts s5' hF ht⟩,hC,s1',(fun ws hw=>S.ext_cpl s5' hF (TN.kd ws hw)),bdc,fun top2 du2 r2 pa2 H5 it2 s5 e5 r5 p5=>?_⟩
  obtain ⟨ql1,ql2⟩:=wU (ts.map fun t=>t.2) (S.cpl ss.length Fh) 399 (S.firstL (S.cpl ss.length Fh) ss.length top2)
  rw [S.first_len] at ql2
  rw [ni] at r5
  refine ⟨by decide,fun l H6 n6 s6 e6=>?_⟩
  have nl:=((pt3.same s4).same s5).ne n6
  have pt6:=((pt3.same s4).same s5).same s6
  have S36:=(s4.trans s5).trans s6
  have S46:=s5.trans s6
  have dl:(gN ts ss.length Fh top).length ≤ 399:=by unfold gN;rw [Aa];exact rl1
  have pl:(fA ts ss.length Fh top).length=ss.length:=rl2
  have dl2:(gN ts ss.length (S.cpl ss.length Fh) top2).length ≤ 399:=by unfold gN;rw [Aa];exact ql1
  have pl2:(fA ts ss.length (S.cpl ss.length Fh) top2).length=ss.length:=ql2
  have r4':H4 r=some (.tup ((gN ts ss.length Fh top).map V.int)):=r4
  have p4':H4 pa=some (.tup ((fA ts ss.length Fh top).map V.int)):=p4
  have r5':H5 r2=some (.tup ((gN ts ss.length (S.cpl ss.length Fh) top2).map V.int)):=r5
  have p5':H5 pa2=some (.tup ((fA ts ss.length (S.cpl ss.length Fh) top2).map V.int)):=p5
  (simp only [qK])
  (push_cast only [])
  refine ⟨by decide,by decide,z9 (J1 a p q' t du l sa wt r pa ts ss.length Fh (gN ts ss.length Fh top) (fA ts ss.length Fh top)) ⟨_,_,_,_,rfl,pt6,nl.1.symm,nl.2.symm,TN.same S36,S46 _ _ e4,S46 _ _ r4',S46 _ _ p4',e6,rfl,fun x hx=>?_⟩ ?_ ?_⟩
  ·simp only [A3,AZ,or_false] at hx
   rcases hx with z | z <;> subst z
   ·exact ⟨_,.two (S46 _ _ e4) (.ints (S46 _ _ r4') (by omega)) (.ints (S46 _ _ p4') (by omega))⟩
   ·exact ⟨_,.two (s6 _ _ e5) (.ints (s6 _ _ r5') (by omega)) (.ints (s6 _ _ p5') (by omega))⟩
  ·rintro i σ G1 hi ⟨v5,v6,v7,xs,rfl,ptG,lp,lq,TNG,eG,rG,paG,elG,xl,px⟩
   (push_cast only [])
   refine ⟨_,elG,p,q',du,r,pa,_,_,rfl,ptG,eG,rG,paG,dl,by omega,by omega,fun x o G2 pc pt2 y2=>?_⟩
   have el2:=y2 _ _ lp lq elG
   have u:SameX l G2 (upd G2 l (.lst (xs ++ [x]))):=SameX.upd
   have e3:upd G2 l (.lst (xs ++ [x])) l=some (.lst (xs ++ [x])):=qH
   have tt:=ts_l el2 u
   have ty:=ts_y ptG y2
   have i6:i < 6:=by simpa using hi
   refine ⟨_,el2,qO (by omega),_,_,_,xs ++ [x],rfl,pt2.upd lp.symm lq.symm,lp,lq,tn_ts (tn_ts TNG ty) tt,tt _ _ (ty _ _ eG),tt _ _ (ty _ _ rG),tt _ _ (ty _ _ paG),e3,by rw [Ar,xl];rfl,fun z hz=>?_⟩
   rcases Av.mp hz with y | y
   ·obtain ⟨o',h⟩:=px z y
    exact ⟨o',(h.sy ptG pt2 y2).l el2 e3 u⟩
   ·rw [A4.mp y]
    exact ⟨o,pc.l el2 e3 u⟩
  ·rintro σ G1 ⟨v5,v6,v7,xs,rfl,ptG,lp,lq,TNG,eG,rG,paG,elG,xl,px⟩
   (simp only [qK])
   (push_cast only [elG])
   refine ⟨by decide,fun c1 G2 m2 t2 f2=>⟨_,t2 _ _ elG,_,f2,?_,fun l2 G3 m3 t3 f3=>⟨_,f3,?_⟩⟩⟩
   ·rw [xl]
    exact Bj (qO (by simp))
   have T13:=t2.trans t3
   refine gF (J2 a p q' t du l G3) ⟨_,_,_,rfl,Same.refl G3⟩ (fun j σ H' _ ⟨_,_,_,_,s⟩=>s _ _ f3) ?_ ?_
   ·rintro j x σ G4 hx ⟨w5,w6,w7,rfl,s4⟩
    have T14:=T13.trans s4
    obtain ⟨o,pc⟩:∃ o,Pc G4 x o:=by
     rcases Av.mp (Aq hx) with y | y
     ·obtain ⟨o,h⟩:=px x y
      exact ⟨o,h.same T14⟩
     ·rw [A4.mp y]
      exact ⟨_,.two (T14 _ _ eG) (.ints (T14 _ _ rG) (by omega)) (.ints (T14 _ _ paG) (by omega))⟩
    (push_cast only [])
    refine ⟨t,sa,wt,ts,ss.length,Fh,x,o,rfl,TNG.same T14,bdd,pc,fun top3 G5 it3 s5=>?_⟩
    have:=it3.one it
    subst this
    (simp only [qK])
    (push_cast only [])
    refine same3 (pc.same s5) (s5 _ _ (T14 _ _ eG)) (s5 _ _ (T14 _ _ rG)) (s5 _ _ (T14 _ _ paG)) fun G6 s6'=>?_
    refine ⟨rfl,?_⟩
    rw [A2 rfl,Ax (by decide)]
    exact ⟨_,_,_,rfl,s4.trans (s5.trans s6')⟩
   ·rintro σ G4 ⟨w5,w6,w7,rfl,s4⟩
    have T14:=T13.trans s4
    (simp only [qK])
    (push_cast only [])
    refine ⟨t,sa,wt,ts,ss.length,Fh,.ref du,_,rfl,TNG.same T14,bdd,.two (T14 _ _ eG) (.ints (T14 _ _ rG) (by omega)) (.ints (T14 _ _ paG) (by omega)),fun top3 G5 it3 s5=>⟨_,rfl,?_⟩⟩
    have:=it3.one it
    subst this
    rw [show bW (some (some ((gN ts ss.length Fh top3).map V.int),some ((fA ts ss.length Fh top3).map V.int))) (gN ts ss.length Fh top3) (fA ts ss.length Fh top3)=true from Bool.and_eq_true_iff.mpr ⟨zN.mpr rfl,zN.mpr rfl⟩]
    exact q G5
end
theorem all_mk {l:PySem.W.OpenLaw}{w:World}{K:PySem.W.Frag}{h:Heap}{mg:Str→Option Value}{fa:Addr}(X:K.In h)(G:h.Ns mainGlobals mg)(hfa:mg "law" = some (.ref fa))
  {f0:Addr} {od0 an0:Option Addr} {sl0:Array (Option Value)} {oc0 kV0 dc0 pm0 cd0 ct0:Value}
  (a0:PySem.W.nsIn K mainGlobals "has" = some (some (.ref f0))) (l0:K.lookup f0=some ⟨oc0,od0,.func (PySem.W.fnOf "has" "has" (qR s_has) (qQ s_has) (qF s_has) .none kV0 dc0 pm0 an0 cd0 ct0),sl0⟩) (c0:PySem.W.codeIn K cd0 "has" = true) (k0:PySem.W.keepIn K (.ref f0)=true)
  {f1:Addr} {od1 an1:Option Addr} {sl1:Array (Option Value)} {oc1 kV1 dc1 pm1 cd1 ct1:Value}
  (a1:PySem.W.nsIn K mainGlobals "put_in" = some (some (.ref f1))) (l1:K.lookup f1=some ⟨oc1,od1,.func (PySem.W.fnOf "put_in" "put_in" (qR s_put_in) (qQ s_put_in) (qF s_put_in) .none kV1 dc1 pm1 an1 cd1 ct1),sl1⟩) (c1:PySem.W.codeIn K cd1 "put_in" = true) (k1:PySem.W.keepIn K (.ref f1)=true)
  {f2:Addr} {od2 an2:Option Addr} {sl2:Array (Option Value)} {oc2 kV2 dc2 pm2 cd2 ct2:Value}
  (a2:PySem.W.nsIn K mainGlobals "heap_of" = some (some (.ref f2))) (l2:K.lookup f2=some ⟨oc2,od2,.func (PySem.W.fnOf "heap_of" "heap_of" (qR s_heap_of) (qQ s_heap_of) (qF s_heap_of) .none kV2 dc2 pm2 an2 cd2 ct2),sl2⟩) (c2:PySem.W.codeIn K cd2 "heap_of" = true) (k2:PySem.W.keepIn K (.ref f2)=true)
  {f3:Addr} {od3 an3:Option Addr} {sl3:Array (Option Value)} {oc3 kV3 dc3 pm3 cd3 ct3:Value}
  (a3:PySem.W.nsIn K mainGlobals "heap_of_side" = some (some (.ref f3))) (l3:K.lookup f3=some ⟨oc3,od3,.func (PySem.W.fnOf "heap_of_side" "heap_of_side" (qR s_heap_of_side) (qQ s_heap_of_side) (qF s_heap_of_side) .none kV3 dc3 pm3 an3 cd3 ct3),sl3⟩) (c3:PySem.W.codeIn K cd3 "heap_of_side" = true) (k3:PySem.W.keepIn K (.ref f3)=true)
  {f4:Addr} {od4 an4:Option Addr} {sl4:Array (Option Value)} {oc4 kV4 dc4 pm4 cd4 ct4:Value}
  (a4:PySem.W.nsIn K mainGlobals "turned" = some (some (.ref f4))) (l4:K.lookup f4=some ⟨oc4,od4,.func (PySem.W.fnOf "turned" "turned" (qR s_turned) (qQ s_turned) (qF s_turned) .none kV4 dc4 pm4 an4 cd4 ct4),sl4⟩) (c4:PySem.W.codeIn K cd4 "turned" = true) (k4:PySem.W.keepIn K (.ref f4)=true)
  {f5:Addr} {od5 an5:Option Addr} {sl5:Array (Option Value)} {oc5 kV5 dc5 pm5 cd5 ct5:Value}
  (a5:PySem.W.nsIn K mainGlobals "breaking" = some (some (.ref f5))) (l5:K.lookup f5=some ⟨oc5,od5,.func (PySem.W.fnOf "breaking" "breaking" (qR s_breaking) (qQ s_breaking) (qF s_breaking) .none kV5 dc5 pm5 an5 cd5 ct5),sl5⟩) (c5:PySem.W.codeIn K cd5 "breaking" = true) (k5:PySem.W.keepIn K (.ref f5)=true)
  {f6:Addr} {od6 an6:Option Addr} {sl6:Array (Option Value)} {oc6 kV6 dc6 pm6 cd6 ct6:Value}
  (a6:PySem.W.nsIn K mainGlobals "first_pair" = some (some (.ref f6))) (l6:K.lookup f6=some ⟨oc6,od6,.func (PySem.W.fnOf "first_pair" "first_pair" (qR s_first_pair) (qQ s_first_pair) (qF s_first_pair) .none kV6 dc6 pm6 an6 cd6 ct6),sl6⟩) (c6:PySem.W.codeIn K cd6 "first_pair" = true) (k6:PySem.W.keepIn K (.ref f6)=true)
  {f7:Addr} {od7 an7:Option Addr} {sl7:Array (Option Value)} {oc7 kV7 dc7 pm7 cd7 ct7:Value}
  (a7:PySem.W.nsIn K mainGlobals "first_three" = some (some (.ref f7))) (l7:K.lookup f7=some ⟨oc7,od7,.func (PySem.W.fnOf "first_three" "first_three" (qR s_first_three) (qQ s_first_three) (qF s_first_three) .none kV7 dc7 pm7 an7 cd7 ct7),sl7⟩) (c7:PySem.W.codeIn K cd7 "first_three" = true) (k7:PySem.W.keepIn K (.ref f7)=true)
  {f8:Addr} {od8 an8:Option Addr} {sl8:Array (Option Value)} {oc8 kV8 dc8 pm8 cd8 ct8:Value}
  (a8:PySem.W.nsIn K mainGlobals "things_beside" = some (some (.ref f8))) (l8:K.lookup f8=some ⟨oc8,od8,.func (PySem.W.fnOf "things_beside" "things_beside" (qR s_things_beside) (qQ s_things_beside) (qF s_things_beside) .none kV8 dc8 pm8 an8 cd8 ct8),sl8⟩) (c8:PySem.W.codeIn K cd8 "things_beside" = true) (k8:PySem.W.keepIn K (.ref f8)=true)
  {f9:Addr} {od9 an9:Option Addr} {sl9:Array (Option Value)} {oc9 kV9 dc9 pm9 cd9 ct9:Value}
  (a9:PySem.W.nsIn K mainGlobals "pairs_beside" = some (some (.ref f9))) (l9:K.lookup f9=some ⟨oc9,od9,.func (PySem.W.fnOf "pairs_beside" "pairs_beside" (qR s_pairs_beside) (qQ s_pairs_beside) (qF s_pairs_beside) .none kV9 dc9 pm9 an9 cd9 ct9),sl9⟩) (c9:PySem.W.codeIn K cd9 "pairs_beside" = true) (k9:PySem.W.keepIn K (.ref f9)=true)
  {f10:Addr} {od10 an10:Option Addr} {sl10:Array (Option Value)} {oc10 kV10 dc10 pm10 cd10 ct10:Value}
  (a10:PySem.W.nsIn K mainGlobals "pair_breaks" = some (some (.ref f10))) (l10:K.lookup f10=some ⟨oc10,od10,.func (PySem.W.fnOf "pair_breaks" "pair_breaks" (qR s_pair_breaks) (qQ s_pair_breaks) (qF s_pair_breaks) .none kV10 dc10 pm10 an10 cd10 ct10),sl10⟩) (c10:PySem.W.codeIn K cd10 "pair_breaks" = true) (k10:PySem.W.keepIn K (.ref f10)=true)
  {f11:Addr} {od11 an11:Option Addr} {sl11:Array (Option Value)} {oc11 kV11 dc11 pm11 cd11 ct11:Value}
  (a11:PySem.W.nsIn K mainGlobals "three_break" = some (some (.ref f11))) (l11:K.lookup f11=some ⟨oc11,od11,.func (PySem.W.fnOf "three_break" "three_break" (qR s_three_break) (qQ s_three_break) (qF s_three_break) .none kV11 dc11 pm11 an11 cd11 ct11),sl11⟩) (c11:PySem.W.codeIn K cd11 "three_break" = true) (k11:PySem.W.keepIn K (.ref f11)=true)
  {f12:Addr} {od12 an12:Option Addr} {sl12:Array (Option Value)} {oc12 kV12 dc12 pm12 cd12 ct12:Value}
  (a12:PySem.W.nsIn K mainGlobals "parted" = some (some (.ref f12))) (l12:K.lookup f12=some ⟨oc12,od12,.func (PySem.W.fnOf "parted" "parted" (qR s_parted) (qQ s_parted) (qF s_parted) .none kV12 dc12 pm12 an12 cd12 ct12),sl12⟩) (c12:PySem.W.codeIn K cd12 "parted" = true) (k12:PySem.W.keepIn K (.ref f12)=true)
  {f13:Addr} {od13 an13:Option Addr} {sl13:Array (Option Value)} {oc13 kV13 dc13 pm13 cd13 ct13:Value}
  (a13:PySem.W.nsIn K mainGlobals "first_strange" = some (some (.ref f13))) (l13:K.lookup f13=some ⟨oc13,od13,.func (PySem.W.fnOf "first_strange" "first_strange" (qR s_first_strange) (qQ s_first_strange) (qF s_first_strange) .none kV13 dc13 pm13 an13 cd13 ct13),sl13⟩) (c13:PySem.W.codeIn K cd13 "first_strange" = true) (k13:PySem.W.keepIn K (.ref f13)=true)
  {f14:Addr} {od14 an14:Option Addr} {sl14:Array (Option Value)} {oc14 kV14 dc14 pm14 cd14 ct14:Value}
  (a14:PySem.W.nsIn K mainGlobals "stepped" = some (some (.ref f14))) (l14:K.lookup f14=some ⟨oc14,od14,.func (PySem.W.fnOf "stepped" "stepped" (qR s_stepped) (qQ s_stepped) (qF s_stepped) .none kV14 dc14 pm14 an14 cd14 ct14),sl14⟩) (c14:PySem.W.codeIn K cd14 "stepped" = true) (k14:PySem.W.keepIn K (.ref f14)=true)
  {f15:Addr} {od15 an15:Option Addr} {sl15:Array (Option Value)} {oc15 kV15 dc15 pm15 cd15 ct15:Value}
  (a15:PySem.W.nsIn K mainGlobals "step_of" = some (some (.ref f15))) (l15:K.lookup f15=some ⟨oc15,od15,.func (PySem.W.fnOf "step_of" "step_of" (qR s_step_of) (qQ s_step_of) (qF s_step_of) .none kV15 dc15 pm15 an15 cd15 ct15),sl15⟩) (c15:PySem.W.codeIn K cd15 "step_of" = true) (k15:PySem.W.keepIn K (.ref f15)=true)
  {f16:Addr} {od16 an16:Option Addr} {sl16:Array (Option Value)} {oc16 kV16 dc16 pm16 cd16 ct16:Value}
  (a16:PySem.W.nsIn K mainGlobals "heaps_that_may" = some (some (.ref f16))) (l16:K.lookup f16=some ⟨oc16,od16,.func (PySem.W.fnOf "heaps_that_may" "heaps_that_may" (qR s_heaps_that_may) (qQ s_heaps_that_may) (qF s_heaps_that_may) .none kV16 dc16 pm16 an16 cd16 ct16),sl16⟩) (c16:PySem.W.codeIn K cd16 "heaps_that_may" = true) (k16:PySem.W.keepIn K (.ref f16)=true)
  {f17:Addr} {od17 an17:Option Addr} {sl17:Array (Option Value)} {oc17 kV17 dc17 pm17 cd17 ct17:Value}
  (a17:PySem.W.nsIn K mainGlobals "is_whole" = some (some (.ref f17))) (l17:K.lookup f17=some ⟨oc17,od17,.func (PySem.W.fnOf "is_whole" "is_whole" (qR s_is_whole) (qQ s_is_whole) (qF s_is_whole) .none kV17 dc17 pm17 an17 cd17 ct17),sl17⟩) (c17:PySem.W.codeIn K cd17 "is_whole" = true) (k17:PySem.W.keepIn K (.ref f17)=true)
  {f18:Addr} {od18 an18:Option Addr} {sl18:Array (Option Value)} {oc18 kV18 dc18 pm18 cd18 ct18:Value}
  (a18:PySem.W.nsIn K mainGlobals "are_wholes" = some (some (.ref f18))) (l18:K.lookup f18=some ⟨oc18,od18,.func (PySem.W.fnOf "are_wholes" "are_wholes" (qR s_are_wholes) (qQ s_are_wholes) (qF s_are_wholes) .none kV18 dc18 pm18 an18 cd18 ct18),sl18⟩) (c18:PySem.W.codeIn K cd18 "are_wholes" = true) (k18:PySem.W.keepIn K (.ref f18)=true)
  {f19:Addr} {od19 an19:Option Addr} {sl19:Array (Option Value)} {oc19 kV19 dc19 pm19 cd19 ct19:Value}
  (a19:PySem.W.nsIn K mainGlobals "costs" = some (some (.ref f19))) (l19:K.lookup f19=some ⟨oc19,od19,.func (PySem.W.fnOf "costs" "costs" (qR s_costs) (qQ s_costs) (qF s_costs) .none kV19 dc19 pm19 an19 cd19 ct19),sl19⟩) (c19:PySem.W.codeIn K cd19 "costs" = true) (k19:PySem.W.keepIn K (.ref f19)=true)
  {f20:Addr} {od20 an20:Option Addr} {sl20:Array (Option Value)} {oc20 kV20 dc20 pm20 cd20 ct20:Value}
  (a20:PySem.W.nsIn K mainGlobals "gains" = some (some (.ref f20))) (l20:K.lookup f20=some ⟨oc20,od20,.func (PySem.W.fnOf "gains" "gains" (qR s_gains) (qQ s_gains) (qF s_gains) .none kV20 dc20 pm20 an20 cd20 ct20),sl20⟩) (c20:PySem.W.codeIn K cd20 "gains" = true) (k20:PySem.W.keepIn K (.ref f20)=true)
  {f21:Addr} {od21 an21:Option Addr} {sl21:Array (Option Value)} {oc21 kV21 dc21 pm21 cd21 ct21:Value}
  (a21:PySem.W.nsIn K mainGlobals "greatest_gain" = some (some (.ref f21))) (l21:K.lookup f21=some ⟨oc21,od21,.func (PySem.W.fnOf "greatest_gain" "greatest_gain" (qR s_greatest_gain) (qQ s_greatest_gain) (qF s_greatest_gain) .none kV21 dc21 pm21 an21 cd21 ct21),sl21⟩) (c21:PySem.W.codeIn K cd21 "greatest_gain" = true) (k21:PySem.W.keepIn K (.ref f21)=true)
  {f22:Addr} {od22 an22:Option Addr} {sl22:Array (Option Value)} {oc22 kV22 dc22 pm22 cd22 ct22:Value}
  (a22:PySem.W.nsIn K mainGlobals "best_heaps" = some (some (.ref f22))) (l22:K.lookup f22=some ⟨oc22,od22,.func (PySem.W.fnOf "best_heaps" "best_heaps" (qR s_best_heaps) (qQ s_best_heaps) (qF s_best_heaps) .none kV22 dc22 pm22 an22 cd22 ct22),sl22⟩) (c22:PySem.W.codeIn K cd22 "best_heaps" = true) (k22:PySem.W.keepIn K (.ref f22)=true)
  {f23:Addr} {od23 an23:Option Addr} {sl23:Array (Option Value)} {oc23 kV23 dc23 pm23 cd23 ct23:Value}
  (a23:PySem.W.nsIn K mainGlobals "in_parts" = some (some (.ref f23))) (l23:K.lookup f23=some ⟨oc23,od23,.func (PySem.W.fnOf "in_parts" "in_parts" (qR s_in_parts) (qQ s_in_parts) (qF s_in_parts) .none kV23 dc23 pm23 an23 cd23 ct23),sl23⟩) (c23:PySem.W.codeIn K cd23 "in_parts" = true) (k23:PySem.W.keepIn K (.ref f23)=true)
  {f24:Addr} {od24 an24:Option Addr} {sl24:Array (Option Value)} {oc24 kV24 dc24 pm24 cd24 ct24:Value}
  (a24:PySem.W.nsIn K mainGlobals "surplus" = some (some (.ref f24))) (l24:K.lookup f24=some ⟨oc24,od24,.func (PySem.W.fnOf "surplus" "surplus" (qR s_surplus) (qQ s_surplus) (qF s_surplus) .none kV24 dc24 pm24 an24 cd24 ct24),sl24⟩) (c24:PySem.W.codeIn K cd24 "surplus" = true) (k24:PySem.W.keepIn K (.ref f24)=true)
  {f25:Addr} {od25 an25:Option Addr} {sl25:Array (Option Value)} {oc25 kV25 dc25 pm25 cd25 ct25:Value}
  (a25:PySem.W.nsIn K mainGlobals "steps_of" = some (some (.ref f25))) (l25:K.lookup f25=some ⟨oc25,od25,.func (PySem.W.fnOf "steps_of" "steps_of" (qR s_steps_of) (qQ s_steps_of) (qF s_steps_of) .none kV25 dc25 pm25 an25 cd25 ct25),sl25⟩) (c25:PySem.W.codeIn K cd25 "steps_of" = true) (k25:PySem.W.keepIn K (.ref f25)=true)
  {f26:Addr} {od26 an26:Option Addr} {sl26:Array (Option Value)} {oc26 kV26 dc26 pm26 cd26 ct26:Value}
  (a26:PySem.W.nsIn K mainGlobals "first_prices" = some (some (.ref f26))) (l26:K.lookup f26=some ⟨oc26,od26,.func (PySem.W.fnOf "first_prices" "first_prices" (qR s_first_prices) (qQ s_first_prices) (qF s_first_prices) .none kV26 dc26 pm26 an26 cd26 ct26),sl26⟩) (c26:PySem.W.codeIn K cd26 "first_prices" = true) (k26:PySem.W.keepIn K (.ref f26)=true)
  {f27:Addr} {od27 an27:Option Addr} {sl27:Array (Option Value)} {oc27 kV27 dc27 pm27 cd27 ct27:Value}
  (a27:PySem.W.nsIn K mainGlobals "steps_on" = some (some (.ref f27))) (l27:K.lookup f27=some ⟨oc27,od27,.func (PySem.W.fnOf "steps_on" "steps_on" (qR s_steps_on) (qQ s_steps_on) (qF s_steps_on) .none kV27 dc27 pm27 an27 cd27 ct27),sl27⟩) (c27:PySem.W.codeIn K cd27 "steps_on" = true) (k27:PySem.W.keepIn K (.ref f27)=true)
  {f28:Addr} {od28 an28:Option Addr} {sl28:Array (Option Value)} {oc28 kV28 dc28 pm28 cd28 ct28:Value}
  (a28:PySem.W.nsIn K mainGlobals "ground_of" = some (some (.ref f28))) (l28:K.lookup f28=some ⟨oc28,od28,.func (PySem.W.fnOf "ground_of" "ground_of" (qR s_ground_of) (qQ s_ground_of) (qF s_ground_of) .none kV28 dc28 pm28 an28 cd28 ct28),sl28⟩) (c28:PySem.W.codeIn K cd28 "ground_of" = true) (k28:PySem.W.keepIn K (.ref f28)=true)
  {f29:Addr} {od29 an29:Option Addr} {sl29:Array (Option Value)} {oc29 kV29 dc29 pm29 cd29 ct29:Value}
  (a29:PySem.W.nsIn K mainGlobals "next_step" = some (some (.ref f29))) (l29:K.lookup f29=some ⟨oc29,od29,.func (PySem.W.fnOf "next_step" "next_step" (qR s_next_step) (qQ s_next_step) (qF s_next_step) .none kV29 dc29 pm29 an29 cd29 ct29),sl29⟩) (c29:PySem.W.codeIn K cd29 "next_step" = true) (k29:PySem.W.keepIn K (.ref f29)=true)
  {f30:Addr} {od30 an30:Option Addr} {sl30:Array (Option Value)} {oc30 kV30 dc30 pm30 cd30 ct30:Value}
  (a30:PySem.W.nsIn K mainGlobals "shows_rising" = some (some (.ref f30))) (l30:K.lookup f30=some ⟨oc30,od30,.func (PySem.W.fnOf "shows_rising" "shows_rising" (qR s_shows_rising) (qQ s_shows_rising) (qF s_shows_rising) .none kV30 dc30 pm30 an30 cd30 ct30),sl30⟩) (c30:PySem.W.codeIn K cd30 "shows_rising" = true) (k30:PySem.W.keepIn K (.ref f30)=true)
  {f31:Addr} {od31 an31:Option Addr} {sl31:Array (Option Value)} {oc31 kV31 dc31 pm31 cd31 ct31:Value}
  (a31:PySem.W.nsIn K mainGlobals "is_way" = some (some (.ref f31))) (l31:K.lookup f31=some ⟨oc31,od31,.func (PySem.W.fnOf "is_way" "is_way" (qR s_is_way) (qQ s_is_way) (qF s_is_way) .none kV31 dc31 pm31 an31 cd31 ct31),sl31⟩) (c31:PySem.W.codeIn K cd31 "is_way" = true) (k31:PySem.W.keepIn K (.ref f31)=true)
  {f32:Addr} {od32 an32:Option Addr} {sl32:Array (Option Value)} {oc32 kV32 dc32 pm32 cd32 ct32:Value}
  (a32:PySem.W.nsIn K mainGlobals "is_way_below" = some (some (.ref f32))) (l32:K.lookup f32=some ⟨oc32,od32,.func (PySem.W.fnOf "is_way_below" "is_way_below" (qR s_is_way_below) (qQ s_is_way_below) (qF s_is_way_below) .none kV32 dc32 pm32 an32 cd32 ct32),sl32⟩) (c32:PySem.W.codeIn K cd32 "is_way_below" = true) (k32:PySem.W.keepIn K (.ref f32)=true)
  {f33:Addr} {od33 an33:Option Addr} {sl33:Array (Option Value)} {oc33 kV33 dc33 pm33 cd33 ct33:Value}
  (a33:PySem.W.nsIn K mainGlobals "led_by" = some (some (.ref f33))) (l33:K.lookup f33=some ⟨oc33,od33,.func (PySem.W.fnOf "led_by" "led_by" (qR s_led_by) (qQ s_led_by) (qF s_led_by) .none kV33 dc33 pm33 an33 cd33 ct33),sl33⟩) (c33:PySem.W.codeIn K cd33 "led_by" = true) (k33:PySem.W.keepIn K (.ref f33)=true)
  {f34:Addr} {od34 an34:Option Addr} {sl34:Array (Option Value)} {oc34 kV34 dc34 pm34 cd34 ct34:Value}
  (a34:PySem.W.nsIn K mainGlobals "_law_stirred" = some (some (.ref f34))) (l34:K.lookup f34=some ⟨oc34,od34,.func (PySem.W.fnOf "_law_stirred" "_law_stirred" (qR s__law_stirred) (qQ s__law_stirred) (qF s__law_stirred) .none kV34 dc34 pm34 an34 cd34 ct34),sl34⟩) (c34:PySem.W.codeIn K cd34 "_law_stirred" = true) (k34:PySem.W.keepIn K (.ref f34)=true)
  {f35:Addr} {od35 an35:Option Addr} {sl35:Array (Option Value)} {oc35 kV35 dc35 pm35 cd35 ct35:Value}
  (a35:PySem.W.nsIn K mainGlobals "_law_pot" = some (some (.ref f35))) (l35:K.lookup f35=some ⟨oc35,od35,.func (PySem.W.fnOf "_law_pot" "_law_pot" (qR s__law_pot) (qQ s__law_pot) (qF s__law_pot) .none kV35 dc35 pm35 an35 cd35 ct35),sl35⟩) (c35:PySem.W.codeIn K cd35 "_law_pot" = true) (k35:PySem.W.keepIn K (.ref f35)=true)
  {f36:Addr} {od36 an36:Option Addr} {sl36:Array (Option Value)} {oc36 kV36 dc36 pm36 cd36 ct36:Value}
  (a36:PySem.W.nsIn K mainGlobals "_law_draw" = some (some (.ref f36))) (l36:K.lookup f36=some ⟨oc36,od36,.func (PySem.W.fnOf "_law_draw" "_law_draw" (qR s__law_draw) (qQ s__law_draw) (qF s__law_draw) .none kV36 dc36 pm36 an36 cd36 ct36),sl36⟩) (c36:PySem.W.codeIn K cd36 "_law_draw" = true) (k36:PySem.W.keepIn K (.ref f36)=true)
  {f37:Addr} {od37 an37:Option Addr} {sl37:Array (Option Value)} {oc37 kV37 dc37 pm37 cd37 ct37:Value}
  (a37:PySem.W.nsIn K mainGlobals "_law_costs" = some (some (.ref f37))) (l37:K.lookup f37=some ⟨oc37,od37,.func (PySem.W.fnOf "_law_costs" "_law_costs" (qR s__law_costs) (qQ s__law_costs) (qF s__law_costs) .none kV37 dc37 pm37 an37 cd37 ct37),sl37⟩) (c37:PySem.W.codeIn K cd37 "_law_costs" = true) (k37:PySem.W.keepIn K (.ref f37)=true)
  {f38:Addr} {od38 an38:Option Addr} {sl38:Array (Option Value)} {oc38 kV38 dc38 pm38 cd38 ct38:Value}
  (a38:PySem.W.nsIn K mainGlobals "_law_bits" = some (some (.ref f38))) (l38:K.lookup f38=some ⟨oc38,od38,.func (PySem.W.fnOf "_law_bits" "_law_bits" (qR s__law_bits) (qQ s__law_bits) (qF s__law_bits) .none kV38 dc38 pm38 an38 cd38 ct38),sl38⟩) (c38:PySem.W.codeIn K cd38 "_law_bits" = true) (k38:PySem.W.keepIn K (.ref f38)=true)
  {f39:Addr} {od39 an39:Option Addr} {sl39:Array (Option Value)} {oc39 kV39 dc39 pm39 cd39 ct39:Value}
  (a39:PySem.W.nsIn K mainGlobals "_law_sides" = some (some (.ref f39))) (l39:K.lookup f39=some ⟨oc39,od39,.func (PySem.W.fnOf "_law_sides" "_law_sides" (qR s__law_sides) (qQ s__law_sides) (qF s__law_sides) .none kV39 dc39 pm39 an39 cd39 ct39),sl39⟩) (c39:PySem.W.codeIn K cd39 "_law_sides" = true) (k39:PySem.W.keepIn K (.ref f39)=true)
  {f40:Addr} {od40 an40:Option Addr} {sl40:Array (Option Value)} {oc40 kV40 dc40 pm40 cd40 ct40:Value}
  (a40:PySem.W.nsIn K mainGlobals "_law_some" = some (some (.ref f40))) (l40:K.lookup f40=some ⟨oc40,od40,.func (PySem.W.fnOf "_law_some" "_law_some" (qR s__law_some) (qQ s__law_some) (qF s__law_some) .none kV40 dc40 pm40 an40 cd40 ct40),sl40⟩) (c40:PySem.W.codeIn K cd40 "_law_some" = true) (k40:PySem.W.keepIn K (.ref f40)=true)
  {f41:Addr} {od41 an41:Option Addr} {sl41:Array (Option Value)} {oc41 kV41 dc41 pm41 cd41 ct41:Value}
  (a41:PySem.W.nsIn K mainGlobals "_law_paired" = some (some (.ref f41))) (l41:K.lookup f41=some ⟨oc41,od41,.func (PySem.W.fnOf "_law_paired" "_law_paired" (qR s__law_paired) (qQ s__law_paired) (qF s__law_paired) .none kV41 dc41 pm41 an41 cd41 ct41),sl41⟩) (c41:PySem.W.codeIn K cd41 "_law_paired" = true) (k41:PySem.W.keepIn K (.ref f41)=true)
  {f42:Addr} {od42 an42:Option Addr} {sl42:Array (Option Value)} {oc42 kV42 dc42 pm42 cd42 ct42:Value}
  (a42:PySem.W.nsIn K mainGlobals "_law_joined" = some (some (.ref f42))) (l42:K.lookup f42=some ⟨oc42,od42,.func (PySem.W.fnOf "_law_joined" "_law_joined" (qR s__law_joined) (qQ s__law_joined) (qF s__law_joined) .none kV42 dc42 pm42 an42 cd42 ct42),sl42⟩) (c42:PySem.W.codeIn K cd42 "_law_joined" = true) (k42:PySem.W.keepIn K (.ref f42)=true)
  {f43:Addr} {od43 an43:Option Addr} {sl43:Array (Option Value)} {oc43 kV43 dc43 pm43 cd43 ct43:Value}
  (a43:PySem.W.nsIn K mainGlobals "_law_kind_want" = some (some (.ref f43))) (l43:K.lookup f43=some ⟨oc43,od43,.func (PySem.W.fnOf "_law_kind_want" "_law_kind_want" (qR s__law_kind_want) (qQ s__law_kind_want) (qF s__law_kind_want) .none kV43 dc43 pm43 an43 cd43 ct43),sl43⟩) (c43:PySem.W.codeIn K cd43 "_law_kind_want" = true) (k43:PySem.W.keepIn K (.ref f43)=true)
  {f44:Addr} {od44 an44:Option Addr} {sl44:Array (Option Value)} {oc44 kV44 dc44 pm44 cd44 ct44:Value}
  (a44:PySem.W.nsIn K mainGlobals "_law_kind_town" = some (some (.ref f44))) (l44:K.lookup f44=some ⟨oc44,od44,.func (PySem.W.fnOf "_law_kind_town" "_law_kind_town" (qR s__law_kind_town) (qQ s__law_kind_town) (qF s__law_kind_town) .none kV44 dc44 pm44 an44 cd44 ct44),sl44⟩) (c44:PySem.W.codeIn K cd44 "_law_kind_town" = true) (k44:PySem.W.keepIn K (.ref f44)=true)
  {f45:Addr} {od45 an45:Option Addr} {sl45:Array (Option Value)} {oc45 kV45 dc45 pm45 cd45 ct45:Value}
  (a45:PySem.W.nsIn K mainGlobals "_law_surplus" = some (some (.ref f45))) (l45:K.lookup f45=some ⟨oc45,od45,.func (PySem.W.fnOf "_law_surplus" "_law_surplus" (qR s__law_surplus) (qQ s__law_surplus) (qF s__law_surplus) .none kV45 dc45 pm45 an45 cd45 ct45),sl45⟩) (c45:PySem.W.codeIn K cd45 "_law_surplus" = true) (k45:PySem.W.keepIn K (.ref f45)=true)
  {f46:Addr} {od46 an46:Option Addr} {sl46:Array (Option Value)} {oc46 kV46 dc46 pm46 cd46 ct46:Value}
  (a46:PySem.W.nsIn K mainGlobals "_law_behind" = some (some (.ref f46))) (l46:K.lookup f46=some ⟨oc46,od46,.func (PySem.W.fnOf "_law_behind" "_law_behind" (qR s__law_behind) (qQ s__law_behind) (qF s__law_behind) .none kV46 dc46 pm46 an46 cd46 ct46),sl46⟩) (c46:PySem.W.codeIn K cd46 "_law_behind" = true) (k46:PySem.W.keepIn K (.ref f46)=true)
  {f47:Addr} {od47 an47:Option Addr} {sl47:Array (Option Value)} {oc47 kV47 dc47 pm47 cd47 ct47:Value}
  (a47:PySem.W.nsIn K mainGlobals "_law_least_step" = some (some (.ref f47))) (l47:K.lookup f47=some ⟨oc47,od47,.func (PySem.W.fnOf "_law_least_step" "_law_least_step" (qR s__law_least_step) (qQ s__law_least_step) (qF s__law_least_step) .none kV47 dc47 pm47 an47 cd47 ct47),sl47⟩) (c47:PySem.W.codeIn K cd47 "_law_least_step" = true) (k47:PySem.W.keepIn K (.ref f47)=true)
  {f48:Addr} {od48 an48:Option Addr} {sl48:Array (Option Value)} {oc48 kV48 dc48 pm48 cd48 ct48:Value}
  (a48:PySem.W.nsIn K mainGlobals "_law_first" = some (some (.ref f48))) (l48:K.lookup f48=some ⟨oc48,od48,.func (PySem.W.fnOf "_law_first" "_law_first" (qR s__law_first) (qQ s__law_first) (qF s__law_first) .none kV48 dc48 pm48 an48 cd48 ct48),sl48⟩) (c48:PySem.W.codeIn K cd48 "_law_first" = true) (k48:PySem.W.keepIn K (.ref f48)=true)
  {f49:Addr} {od49 an49:Option Addr} {sl49:Array (Option Value)} {oc49 kV49 dc49 pm49 cd49 ct49:Value}
  (a49:PySem.W.nsIn K mainGlobals "_law_steps" = some (some (.ref f49))) (l49:K.lookup f49=some ⟨oc49,od49,.func (PySem.W.fnOf "_law_steps" "_law_steps" (qR s__law_steps) (qQ s__law_steps) (qF s__law_steps) .none kV49 dc49 pm49 an49 cd49 ct49),sl49⟩) (c49:PySem.W.codeIn K cd49 "_law_steps" = true) (k49:PySem.W.keepIn K (.ref f49)=true)
  {f50:Addr} {od50 an50:Option Addr} {sl50:Array (Option Value)} {oc50 kV50 dc50 pm50 cd50 ct50:Value}
  (a50:PySem.W.nsIn K mainGlobals "_law_same" = some (some (.ref f50))) (l50:K.lookup f50=some ⟨oc50,od50,.func (PySem.W.fnOf "_law_same" "_law_same" (qR s__law_same) (qQ s__law_same) (qF s__law_same) .none kV50 dc50 pm50 an50 cd50 ct50),sl50⟩) (c50:PySem.W.codeIn K cd50 "_law_same" = true) (k50:PySem.W.keepIn K (.ref f50)=true)
  {f51:Addr} {od51 an51:Option Addr} {sl51:Array (Option Value)} {oc51 kV51 dc51 pm51 cd51 ct51:Value}
  (a51:PySem.W.nsIn K mainGlobals "_law_put" = some (some (.ref f51))) (l51:K.lookup f51=some ⟨oc51,od51,.func (PySem.W.fnOf "_law_put" "_law_put" (qR s__law_put) (qQ s__law_put) (qF s__law_put) .none kV51 dc51 pm51 an51 cd51 ct51),sl51⟩) (c51:PySem.W.codeIn K cd51 "_law_put" = true) (k51:PySem.W.keepIn K (.ref f51)=true)
  {f52:Addr} {od52 an52:Option Addr} {sl52:Array (Option Value)} {oc52 kV52 dc52 pm52 cd52 ct52:Value}
  (a52:PySem.W.nsIn K mainGlobals "_law_bent" = some (some (.ref f52))) (l52:K.lookup f52=some ⟨oc52,od52,.func (PySem.W.fnOf "_law_bent" "_law_bent" (qR s__law_bent) (qQ s__law_bent) (qF s__law_bent) .none kV52 dc52 pm52 an52 cd52 ct52),sl52⟩) (c52:PySem.W.codeIn K cd52 "_law_bent" = true) (k52:PySem.W.keepIn K (.ref f52)=true)
  {f53:Addr} {od53 an53:Option Addr} {sl53:Array (Option Value)} {oc53 kV53 dc53 pm53 cd53 ct53:Value}
  (a53:PySem.W.nsIn K mainGlobals "law" = some (some (.ref f53))) (l53:K.lookup f53=some ⟨oc53,od53,.func (PySem.W.fnOf "law" "law" (qR s_law) (qQ s_law) (qF s_law) .none kV53 dc53 pm53 an53 cd53 ct53),sl53⟩) (c53:PySem.W.codeIn K cd53 "law" = true) (k53:PySem.W.keepIn K (.ref f53)=true)
  (z_len:PySem.W.nsIn K mainGlobals "len" = some none)
  (z_sum:PySem.W.nsIn K mainGlobals "sum" = some none)
  (z_isinstance:PySem.W.nsIn K mainGlobals "isinstance" = some none)
  (z_abs:PySem.W.nsIn K mainGlobals "abs" = some none)
  (z_max:PySem.W.nsIn K mainGlobals "max" = some none)
  (z_range:PySem.W.nsIn K mainGlobals "range" = some none)
  (z_tuple:PySem.W.nsIn K mainGlobals "tuple" = some none)
  (z_list:PySem.W.nsIn K mainGlobals "list" = some none)
  (z_sorted:PySem.W.nsIn K mainGlobals "sorted" = some none)
  (z_int:PySem.W.nsIn K mainGlobals "int" = some none)
  (z_bool:PySem.W.nsIn K mainGlobals "bool" = some none)
  (z_zip:PySem.W.nsIn K mainGlobals "zip" = some none)
  (z_min:PySem.W.nsIn K mainGlobals "min" = some none)
  (z_all:PySem.W.nsIn K mainGlobals "all" = some none)
  (z_enumerate:PySem.W.nsIn K mainGlobals "enumerate" = some none)
  : ∃ fd:FuncData,(∀ (s:Shared) (v:Value),BindsTo s fd ⟨[v],[]⟩ [("_law_script",v)])∧∀ base:Heap,K.In base→base.Ns mainGlobals mg→FnOk l.prog w K mg base CX0 10 fa fd ["_law_script"] (lC K):=by
 have e:=hfa.symm.trans (Aj X G a53)
 cases e
 have T:Txt mg:=⟨AJ X G z_len,AJ X G z_sum,AJ X G z_isinstance,AJ X G z_abs,AJ X G z_max,AJ X G z_range,AJ X G z_tuple,AJ X G z_list,AJ X G z_sorted,AJ X G z_int,AJ X G z_bool,AJ X G z_zip,AJ X G z_min,AJ X G z_all,AJ X G z_enumerate⟩
 have F_has:=q0 (st:=s_has) l0 c0 k0
 have m_has:=Aj X G a0
 have b_has:=F_has.binds (ps:=["heap", "thing"]) fun _ _ _ _ _ _=>L2.us2 (fun _ _=>rfl)
 have F_put_in:=q0 (st:=s_put_in) l1 c1 k1
 have m_put_in:=Aj X G a1
 have b_put_in:=F_put_in.binds (ps:=["heap", "thing"]) fun _ _ _ _ _ _=>L2.us2 (fun _ _=>rfl)
 have F_heap_of:=q0 (st:=s_heap_of) l2 c2 k2
 have m_heap_of:=Aj X G a2
 have b_heap_of:=F_heap_of.binds (ps:=["things"]) fun _ _ _ _ _ _=>L2.us1 (fun _=>rfl)
 have F_heap_of_side:=q0 (st:=s_heap_of_side) l3 c3 k3
 have m_heap_of_side:=Aj X G a3
 have b_heap_of_side:=F_heap_of_side.binds (ps:=["sides", "side"]) fun _ _ _ _ _ _=>L2.us2 (fun _ _=>rfl)
 have F_turned:=q0 (st:=s_turned) l4 c4 k4
 have m_turned:=Aj X G a4
 have b_turned:=F_turned.binds (ps:=["want", "sides"]) fun _ _ _ _ _ _=>L2.us2 (fun _ _=>rfl)
 have F_breaking:=q0 (st:=s_breaking) l5 c5 k5
 have m_breaking:=Aj X G a5
 have b_breaking:=F_breaking.binds (ps:=["want", "sides"]) fun _ _ _ _ _ _=>L2.us2 (fun _ _=>rfl)
 have F_first_pair:=q0 (st:=s_first_pair) l6 c6 k6
 have m_first_pair:=Aj X G a6
 have b_first_pair:=F_first_pair.binds (ps:=["worths", "many"]) fun _ _ _ _ _ _=>L2.us2 (fun _ _=>rfl)
 have F_first_three:=q0 (st:=s_first_three) l7 c7 k7
 have m_first_three:=Aj X G a7
 have b_first_three:=F_first_three.binds (ps:=["worths", "many"]) fun _ _ _ _ _ _=>L2.us2 (fun _ _=>rfl)
 have F_things_beside:=q0 (st:=s_things_beside) l8 c8 k8
 have m_things_beside:=Aj X G a8
 have b_things_beside:=F_things_beside.binds (ps:=["heap", "many"]) fun _ _ _ _ _ _=>L2.us2 (fun _ _=>rfl)
 have F_pairs_beside:=q0 (st:=s_pairs_beside) l9 c9 k9
 have m_pairs_beside:=Aj X G a9
 have b_pairs_beside:=F_pairs_beside.binds (ps:=["heap", "many"]) fun _ _ _ _ _ _=>L2.us2 (fun _ _=>rfl)
 have F_pair_breaks:=q0 (st:=s_pair_breaks) l10 c10 k10
 have m_pair_breaks:=Aj X G a10
 have b_pair_breaks:=F_pair_breaks.binds (ps:=["worths", "heap", "i", "j"]) fun _ _ _ _ _ _=>L2.us4 (fun _ _ _ _=>rfl)
 have F_three_break:=q0 (st:=s_three_break) l11 c11 k11
 have m_three_break:=Aj X G a11
 have b_three_break:=F_three_break.binds (ps:=["worths", "heap", "i", "j", "k"]) fun _ _ _ _ _ _=>L2.us5 (fun _ _ _ _ _=>rfl)
 have F_parted:=q0 (st:=s_parted) l12 c12 k12
 have m_parted:=Aj X G a12
 have b_parted:=F_parted.binds (ps:=["worths", "heap", "one", "other", "third"]) fun _ _ _ _ _ _=>L2.us5 (fun _ _ _ _ _=>rfl)
 have F_first_strange:=q0 (st:=s_first_strange) l13 c13 k13
 have m_first_strange:=Aj X G a13
 have b_first_strange:=F_first_strange.binds (ps:=["town"]) fun _ _ _ _ _ _=>L2.us1 (fun _=>rfl)
 have F_stepped:=q0 (st:=s_stepped) l14 c14 k14
 have m_stepped:=Aj X G a14
 have b_stepped:=F_stepped.binds (ps:=["sides", "prices", "heap"]) fun _ _ _ _ _ _=>L2.us3 (fun _ _ _=>rfl)
 have F_step_of:=q0 (st:=s_step_of) l15 c15 k15
 have m_step_of:=Aj X G a15
 have b_step_of:=F_step_of.binds (ps:=["side"]) fun _ _ _ _ _ _=>L2.us1 (fun _=>rfl)
 have F_heaps_that_may:=q0 (st:=s_heaps_that_may) l16 c16 k16
 have m_heaps_that_may:=Aj X G a16
 have b_heaps_that_may:=F_heaps_that_may.binds (ps:=["sides", "prices"]) fun _ _ _ _ _ _=>L2.us2 (fun _ _=>rfl)
 have F_is_whole:=q0 (st:=s_is_whole) l17 c17 k17
 have m_is_whole:=Aj X G a17
 have b_is_whole:=F_is_whole.binds (ps:=["thing"]) fun _ _ _ _ _ _=>L2.us1 (fun _=>rfl)
 have F_are_wholes:=q0 (st:=s_are_wholes) l18 c18 k18
 have m_are_wholes:=Aj X G a18
 have b_are_wholes:=F_are_wholes.binds (ps:=["thing", "many"]) fun _ _ _ _ _ _=>L2.us2 (fun _ _=>rfl)
 have F_costs:=q0 (st:=s_costs) l19 c19 k19
 have m_costs:=Aj X G a19
 have b_costs:=F_costs.binds (ps:=["prices"]) fun _ _ _ _ _ _=>L2.us1 (fun _=>rfl)
 have F_gains:=q0 (st:=s_gains) l20 c20 k20
 have m_gains:=Aj X G a20
 have b_gains:=F_gains.binds (ps:=["want", "prices"]) fun _ _ _ _ _ _=>L2.us2 (fun _ _=>rfl)
 have F_greatest_gain:=q0 (st:=s_greatest_gain) l21 c21 k21
 have m_greatest_gain:=Aj X G a21
 have b_greatest_gain:=F_greatest_gain.binds (ps:=["want", "prices"]) fun _ _ _ _ _ _=>L2.us2 (fun _ _=>rfl)
 have F_best_heaps:=q0 (st:=s_best_heaps) l22 c22 k22
 have m_best_heaps:=Aj X G a22
 have b_best_heaps:=F_best_heaps.binds (ps:=["want", "prices"]) fun _ _ _ _ _ _=>L2.us2 (fun _ _=>rfl)
 have F_in_parts:=q0 (st:=s_in_parts) l23 c23 k23
 have m_in_parts:=Aj X G a23
 have b_in_parts:=F_in_parts.binds (ps:=["want", "by"]) fun _ _ _ _ _ _=>L2.us2 (fun _ _=>rfl)
 have F_surplus:=q0 (st:=s_surplus) l24 c24 k24
 have m_surplus:=Aj X G a24
 have b_surplus:=F_surplus.binds (ps:=["town", "by", "numbers"]) fun _ _ _ _ _ _=>L2.us3 (fun _ _ _=>rfl)
 have F_steps_of:=q0 (st:=s_steps_of) l25 c25 k25
 have m_steps_of:=Aj X G a25
 have b_steps_of:=F_steps_of.binds (ps:=["town"]) fun _ _ _ _ _ _=>L2.us1 (fun _=>rfl)
 have F_first_prices:=q0 (st:=s_first_prices) l26 c26 k26
 have m_first_prices:=Aj X G a26
 have b_first_prices:=F_first_prices.binds (ps:=["town"]) fun _ _ _ _ _ _=>L2.us1 (fun _=>rfl)
 have F_steps_on:=q0 (st:=s_steps_on) l27 c27 k27
 have m_steps_on:=Aj X G a27
 have b_steps_on:=F_steps_on.binds (ps:=["town", "prices"]) fun _ _ _ _ _ _=>L2.us2 (fun _ _=>rfl)
 have F_ground_of:=q0 (st:=s_ground_of) l28 c28 k28
 have m_ground_of:=Aj X G a28
 have b_ground_of:=F_ground_of.binds (ps:=["town", "prices"]) fun _ _ _ _ _ _=>L2.us2 (fun _ _=>rfl)
 have F_next_step:=q0 (st:=s_next_step) l29 c29 k29
 have m_next_step:=Aj X G a29
 have b_next_step:=F_next_step.binds (ps:=["town", "prices"]) fun _ _ _ _ _ _=>L2.us2 (fun _ _=>rfl)
 have F_shows_rising:=q0 (st:=s_shows_rising) l30 c30 k30
 have m_shows_rising:=Aj X G a30
 have b_shows_rising:=F_shows_rising.binds (ps:=["town", "thing"]) fun _ _ _ _ _ _=>L2.us2 (fun _ _=>rfl)
 have F_is_way:=q0 (st:=s_is_way) l31 c31 k31
 have m_is_way:=Aj X G a31
 have b_is_way:=F_is_way.binds (ps:=["town", "thing"]) fun _ _ _ _ _ _=>L2.us2 (fun _ _=>rfl)
 have F_is_way_below:=q0 (st:=s_is_way_below) l32 c32 k32
 have m_is_way_below:=Aj X G a32
 have b_is_way_below:=F_is_way_below.binds (ps:=["town", "thing"]) fun _ _ _ _ _ _=>L2.us2 (fun _ _=>rfl)
 have F_led_by:=q0 (st:=s_led_by) l33 c33 k33
 have m_led_by:=Aj X G a33
 have b_led_by:=F_led_by.binds (ps:=["town", "row"]) fun _ _ _ _ _ _=>L2.us2 (fun _ _=>rfl)
 have F__law_stirred:=q0 (st:=s__law_stirred) l34 c34 k34
 have m__law_stirred:=Aj X G a34
 have b__law_stirred:=F__law_stirred.binds (ps:=["_law_number", "_law_turn"]) fun _ _ _ _ _ _=>L2.us2 (fun _ _=>rfl)
 have F__law_pot:=q0 (st:=s__law_pot) l35 c35 k35
 have m__law_pot:=Aj X G a35
 have b__law_pot:=F__law_pot.binds (ps:=["_law_script"]) fun _ _ _ _ _ _=>L2.us1 (fun _=>rfl)
 have F__law_draw:=q0 (st:=s__law_draw) l36 c36 k36
 have m__law_draw:=Aj X G a36
 have b__law_draw:=F__law_draw.binds (ps:=["_law_pot_here", "_law_many"]) fun _ _ _ _ _ _=>L2.us2 (fun _ _=>rfl)
 have F__law_costs:=q0 (st:=s__law_costs) l37 c37 k37
 have m__law_costs:=Aj X G a37
 have b__law_costs:=F__law_costs.binds (ps:=["_law_prices"]) fun _ _ _ _ _ _=>L2.us1 (fun _=>rfl)
 have F__law_bits:=q0 (st:=s__law_bits) l38 c38 k38
 have m__law_bits:=Aj X G a38
 have b__law_bits:=F__law_bits.binds (ps:=["_law_many"]) fun _ _ _ _ _ _=>L2.us1 (fun _=>rfl)
 have F__law_sides:=q0 (st:=s__law_sides) l39 c39 k39
 have m__law_sides:=Aj X G a39
 have b__law_sides:=F__law_sides.binds (ps:=["_law_pot_here", "_law_many"]) fun _ _ _ _ _ _=>L2.us2 (fun _ _=>rfl)
 have F__law_some:=q0 (st:=s__law_some) l40 c40 k40
 have m__law_some:=Aj X G a40
 have b__law_some:=F__law_some.binds (ps:=["_law_worths", "_law_many"]) fun _ _ _ _ _ _=>L2.us2 (fun _ _=>rfl)
 have F__law_paired:=q0 (st:=s__law_paired) l41 c41 k41
 have m__law_paired:=Aj X G a41
 have b__law_paired:=F__law_paired.binds (ps:=["_law_many", "_law_rows"]) fun _ _ _ _ _ _=>L2.us2 (fun _ _=>rfl)
 have F__law_joined:=q0 (st:=s__law_joined) l42 c42 k42
 have m__law_joined:=Aj X G a42
 have b__law_joined:=F__law_joined.binds (ps:=["_law_one", "_law_other"]) fun _ _ _ _ _ _=>L2.us2 (fun _ _=>rfl)
 have F__law_kind_want:=q0 (st:=s__law_kind_want) l43 c43 k43
 have m__law_kind_want:=Aj X G a43
 have b__law_kind_want:=F__law_kind_want.binds (ps:=["_law_pot_here", "_law_sides_here", "_law_most"]) fun _ _ _ _ _ _=>L2.us3 (fun _ _ _=>rfl)
 have F__law_kind_town:=q0 (st:=s__law_kind_town) l44 c44 k44
 have m__law_kind_town:=Aj X G a44
 have b__law_kind_town:=F__law_kind_town.binds (ps:=["_law_pot_here", "_law_most"]) fun _ _ _ _ _ _=>L2.us2 (fun _ _=>rfl)
 have F__law_surplus:=q0 (st:=s__law_surplus) l45 c45 k45
 have m__law_surplus:=Aj X G a45
 have b__law_surplus:=F__law_surplus.binds (ps:=["_law_wants", "_law_prices"]) fun _ _ _ _ _ _=>L2.us2 (fun _ _=>rfl)
 have F__law_behind:=q0 (st:=s__law_behind) l46 c46 k46
 have m__law_behind:=Aj X G a46
 have b__law_behind:=F__law_behind.binds (ps:=["_law_sides_here", "_law_prices", "_law_heap", "_law_way"]) fun _ _ _ _ _ _=>L2.us4 (fun _ _ _ _=>rfl)
 have F__law_least_step:=q0 (st:=s__law_least_step) l47 c47 k47
 have m__law_least_step:=Aj X G a47
 have b__law_least_step:=F__law_least_step.binds (ps:=["_law_burg", "_law_prices", "_law_way"]) fun _ _ _ _ _ _=>L2.us3 (fun _ _ _=>rfl)
 have F__law_first:=q0 (st:=s__law_first) l48 c48 k48
 have m__law_first:=Aj X G a48
 have b__law_first:=F__law_first.binds (ps:=["_law_burg", "_law_way"]) fun _ _ _ _ _ _=>L2.us2 (fun _ _=>rfl)
 have F__law_steps:=q0 (st:=s__law_steps) l49 c49 k49
 have m__law_steps:=Aj X G a49
 have b__law_steps:=F__law_steps.binds (ps:=["_law_burg", "_law_way"]) fun _ _ _ _ _ _=>L2.us2 (fun _ _=>rfl)
 have F__law_same:=q0 (st:=s__law_same) l50 c50 k50
 have m__law_same:=Aj X G a50
 have b__law_same:=F__law_same.binds (ps:=["_law_piece", "_law_due"]) fun _ _ _ _ _ _=>L2.us2 (fun _ _=>rfl)
 have F__law_put:=q0 (st:=s__law_put) l51 c51 k51
 have m__law_put:=Aj X G a51
 have b__law_put:=F__law_put.binds (ps:=["_law_row", "_law_at", "_law_piece"]) fun _ _ _ _ _ _=>L2.us3 (fun _ _ _=>rfl)
 have F__law_bent:=q0 (st:=s__law_bent) l52 c52 k52
 have m__law_bent:=Aj X G a52
 have b__law_bent:=F__law_bent.binds (ps:=["_law_pot_here", "_law_told"]) fun _ _ _ _ _ _=>L2.us2 (fun _ _=>rfl)
 have F_law:=q0 (st:=s_law) l53 c53 k53
 have m_law:=Aj X G a53
 have b_law:=F_law.binds (ps:=["_law_script"]) fun _ _ _ _ _ _=>L2.us1 (fun _=>rfl)
 refine ⟨PySem.W.fnOf "law" "law" (qR s_law) (qQ s_law) (qF s_law) .none kV53 dc53 pm53 an53 cd53 ct53,fun s v=>.of_eq rfl,fun base _ _=>?_⟩
 have c_stir:=ok_stir (P:=l.prog) (w:=w) (base:=base) F__law_stirred m__law_stirred b__law_stirred T
 have c_pot:=ok_pot (P:=l.prog) (w:=w) (base:=base) F__law_pot m__law_pot b__law_pot T
 have c_draw:=ok_draw (P:=l.prog) (w:=w) (base:=base) F__law_draw m__law_draw b__law_draw T c_stir
 have c_lcosts:=mI (P:=l.prog) (w:=w) (base:=base) F__law_costs m__law_costs b__law_costs T
 have c_costs:=ok_costs (P:=l.prog) (w:=w) (base:=base) F_costs m_costs b_costs T
 have c_bits:=ok_bits (P:=l.prog) (w:=w) (base:=base) F__law_bits m__law_bits b__law_bits T
 have c_gains:=ok_gains (P:=l.prog) (w:=w) (base:=base) F_gains m_gains b_gains T c_costs
 have fn_best:=ok_best (P:=l.prog) (w:=w) (base:=base) F_best_heaps T c_gains
 have c_best:=lZ (P:=l.prog) (w:=w) (base:=base) F_best_heaps fn_best m_best_heaps b_best_heaps
 have fn_great:=ok_great (P:=l.prog) (w:=w) (base:=base) F_greatest_gain T c_gains
 have c_great:=lZ (P:=l.prog) (w:=w) (base:=base) F_greatest_gain fn_great m_greatest_gain b_greatest_gain
 have c_together:=rN (P:=l.prog) (w:=w) (base:=base) F__law_joined m__law_joined b__law_joined T
 have c_some:=ok_some (P:=l.prog) (w:=w) (base:=base) F__law_some m__law_some b__law_some T c_lcosts c_bits
 have c_paired:=iI (P:=l.prog) (w:=w) (base:=base) F__law_paired m__law_paired b__law_paired T c_lcosts c_bits
 have c_lsides:=ok_sides (P:=l.prog) (w:=w) (base:=base) F__law_sides m__law_sides b__law_sides T c_draw
 have c_kwant:=ok_kwant (P:=l.prog) (w:=w) (base:=base) F__law_kind_want m__law_kind_want b__law_kind_want T c_draw c_lcosts c_paired c_some c_together
 have c_ktown:=ok_ktown (P:=l.prog) (w:=w) (base:=base) F__law_kind_town m__law_kind_town b__law_kind_town T c_draw c_lsides c_kwant
 have c_put:=S.ok_put (P:=l.prog) (w:=w) (base:=base) F_put_in m_put_in b_put_in T
 have c_has:=S.ok_has (P:=l.prog) (w:=w) (base:=base) F_has m_has b_has T
 have c_hasM:=S.ok_hasM (P:=l.prog) (w:=w) (base:=base) F_has m_has b_has T
 have c_tb:=S.ok_tb (P:=l.prog) (w:=w) (base:=base) F_things_beside m_things_beside b_things_beside T c_has
 have c_pb:=S.ok_pb (P:=l.prog) (w:=w) (base:=base) F_pairs_beside m_pairs_beside b_pairs_beside T c_tb
 have c_pbr:=S.ok_pbr (P:=l.prog) (w:=w) (base:=base) F_pair_breaks m_pair_breaks b_pair_breaks T c_put
 have c_heap:=S.ok_heap (P:=l.prog) (w:=w) (base:=base) F_heap_of m_heap_of b_heap_of T
 have c_side:=S.ok_side (P:=l.prog) (w:=w) (base:=base) F_heap_of_side m_heap_of_side b_heap_of_side T c_heap
 have c_turned:=S.ok_turned (P:=l.prog) (w:=w) (base:=base) F_turned m_turned b_turned T c_side
 have c_parted:=S.ok_parted3 (P:=l.prog) (w:=w) (base:=base) F_parted m_parted b_parted T c_put
 have c_tbr:=S.ok_tbr (P:=l.prog) (w:=w) (base:=base) F_three_break m_three_break b_three_break T c_parted
 have c_fp:=S.ok_fp (P:=l.prog) (w:=w) (base:=base) F_first_pair m_first_pair b_first_pair T c_pb c_pbr
 have c_ft:=S.ok_ft (P:=l.prog) (w:=w) (base:=base) F_first_three m_first_three b_first_three T c_pb c_tb c_tbr
 have c_breaking:=S.ok_breaking (P:=l.prog) (w:=w) (base:=base) F_breaking m_breaking b_breaking T c_turned c_fp c_ft
 have c_fs:=S.ok_fs (P:=l.prog) (w:=w) (base:=base) F_first_strange m_first_strange b_first_strange T c_breaking
 have c_parts:=S.ok_parts (P:=l.prog) (w:=w) (base:=base) F_in_parts m_in_parts b_in_parts T
 have fn_surplus:=S.ok_surplus (P:=l.prog) (w:=w) (base:=base) F_surplus T c_parts c_great
 have c_surplus:=lZ (P:=l.prog) (w:=w) (base:=base) F_surplus fn_surplus m_surplus b_surplus
 have c_stepof:=S.ok_stepof (P:=l.prog) (w:=w) (base:=base) F_step_of m_step_of b_step_of T
 have c_step:=S.ok_step (P:=l.prog) (w:=w) (base:=base) F_stepped m_stepped b_stepped T c_hasM c_stepof
 have c_may:=S.ok_may (P:=l.prog) (w:=w) (base:=base) F_heaps_that_may m_heaps_that_may b_heaps_that_may T c_heap
 have c_next:=S.ok_next (P:=l.prog) (w:=w) (base:=base) F_next_step m_next_step b_next_step T c_surplus c_step c_may
 have c_ground:=S.ok_ground (P:=l.prog) (w:=w) (base:=base) F_ground_of m_ground_of b_ground_of T c_may c_best
 have c_first:=S.ok_first (P:=l.prog) (w:=w) (base:=base) F_first_prices m_first_prices b_first_prices T
 have c_on:=S.ok_on (P:=l.prog) (w:=w) (base:=base) F_steps_on m_steps_on b_steps_on T c_ground c_next c_step
 have c_steps:=S.ok_steps (P:=l.prog) (w:=w) (base:=base) F_steps_of m_steps_of b_steps_of T c_first c_on
 have c_lsurp:=ok_lsurp (P:=l.prog) (w:=w) (base:=base) F__law_surplus m__law_surplus b__law_surplus T c_lcosts
 have c_behind:=iL (P:=l.prog) (w:=w) (base:=base) F__law_behind m__law_behind b__law_behind T c_bits
 have c_lls:=ok_lls (P:=l.prog) (w:=w) (base:=base) F__law_least_step m__law_least_step b__law_least_step T c_behind c_lsurp
 have c_lfirst:=iK (P:=l.prog) (w:=w) (base:=base) F__law_first m__law_first b__law_first T
 have c_lsteps:=iJ (P:=l.prog) (w:=w) (base:=base) F__law_steps m__law_steps b__law_steps T c_lfirst c_lls c_behind
 have c_whole:=ok_whole (P:=l.prog) (w:=w) (base:=base) F_is_whole m_is_whole b_is_whole T
 have c_wholes:=iH (P:=l.prog) (w:=w) (base:=base) F_are_wholes m_are_wholes b_are_wholes T c_whole
 have c_led:=ok_led (P:=l.prog) (w:=w) (base:=base) F_led_by m_led_by b_led_by T c_first c_step
 have c_way:=ok_way (P:=l.prog) (w:=w) (base:=base) F_is_way m_is_way b_is_way T c_wholes
 have c_below:=ok_below (P:=l.prog) (w:=w) (base:=base) F_is_way_below m_is_way_below b_is_way_below T c_led c_steps
 have fn_shows:=ok_shows (P:=l.prog) (w:=w) (base:=base) F_shows_rising T c_way c_fs c_below
 have c_shows:=lZ (P:=l.prog) (w:=w) (base:=base) F_shows_rising fn_shows m_shows_rising b_shows_rising
 have ck_shows:=calK_of (P:=l.prog) (w:=w) (base:=base) (ks:=["thing", "town"]) F_shows_rising fn_shows m_shows_rising (iV F_shows_rising g2r_rel fun _ _ _ _ _ _ ws hl=>match ws,hl with | [_,_],_=>rfl)
 have c_lput:=ok_put (P:=l.prog) (w:=w) (base:=base) F__law_put m__law_put b__law_put T
 have c_bent:=ok_bent (P:=l.prog) (w:=w) (base:=base) F__law_bent m__law_bent b__law_bent T c_draw c_lput
 have c_same0:=cal_none (P:=l.prog) (w:=w) (base:=base) F__law_same m__law_same b__law_same
 have c_same1:=ok_same1 (P:=l.prog) (w:=w) (base:=base) F__law_same m__law_same b__law_same T c_same0
 have c_same2:=rO (P:=l.prog) (w:=w) (base:=base) F__law_same m__law_same b__law_same T c_same1
 have c_same3:=rO (P:=l.prog) (w:=w) (base:=base) F__law_same m__law_same b__law_same T c_same2
 exact ok_law (P:=l.prog) (w:=w) (base:=base) F_law T c_pot c_ktown c_lsteps c_bent c_same3 c_shows ck_shows
theorem walk {l:PySem.W.OpenLaw}{q:Program}{loose:List Str}{XP:(Str→Option Value)→Heap→Prop}{YP:World→Heap→Prop}{d:DefRec}{K:Params→PySem.W.Frag}(hn:l.most=some 63)(hdf:d.params.defaults=[])
  (hY:∀ (w:World) (h:Heap),YP w h→(K w.params).In h)
  (F:∀ (w:World) (mg:Str→Option Value) (fa:Addr) (h:Heap),(K w.params).In h→h.Ns mainGlobals mg→mg d.name=some (.ref fa) →
   ∃ fd:FuncData,(∀ (s:Shared) (u:Value),BindsTo s fd ⟨[u],[]⟩ [("_law_script",u)])∧∀ base:Heap,(K w.params).In base→base.Ns mainGlobals mg→FnOk l.prog w (K w.params) mg base CX0 10 fa fd ["_law_script"] (lC (K w.params))) :
  PySem.W.WalkO q loose XP YP l.row.toRowW d [] (fun f vs=>PySem.call f vs) :=
 L2.walk_of (n:=63) (k:=10) (x := "_law_script") (CX:=fun _=>CX0) (sp:=fun w=>lC (K w.params)) hn (by decide) hdf ⟨rfl,by decide,by decide,rfl⟩ hY F (fun w H a ns hl hO hS=>⟨a,ns,rfl,hS,hl,fun _=>rfl⟩) fun _ _ _ _ _ z=>z
theorem toX {q:Program}{loose:List Str}{XP:(Str→Option Value)→Heap→Prop}{r:PySem.W.RowW}{d:DefRec}{kwd:List (Str × PySem.Expr)}{run:Value→List Value→Sem Value}{K:Params→PySem.W.Frag}{as:List Addr}{n t:Nat}(e:∀ P,as=(K P).map (·.1))(h:PySem.W.WalkO q loose XP (fun w h=>(K w.params).In h) r d kwd run):PySem.W.WalkX q loose XP (PySem.W.X.obsZ as) (PySem.W.X.valZ K n t) r d kwd run :=
 fun w s₀ s₁ mg mb G y a o pm cd doc dV kV ho hd hcd hD hmg hg args vals as2 L hpre hl hrd hwl hlo=>h w s₀ s₁ mg mb G (PySem.W.InK.keeps w _ _ (PySem.W.X.z_facts e y).2.1 L.keeps) a o pm cd doc dV kV ho hd hcd hD hmg hg args vals as2 hpre hl hrd hwl hlo
end K60
end
end
end
section
namespace PySem.W.Tw
def st (i:Nat):PySem.Stmt:=PySem.Challenge.pw_wantprices_k60_steps_from_below_judged.main.body.getD i (.Pass ⟨0,0,0,0⟩)
def view:PySem.Program:={ PySem.Challenge.pw_wantprices_k60_steps_from_below_judged with main:={ PySem.Challenge.pw_wantprices_k60_steps_from_below_judged.main with body:=[st 1,st 2,st 3,st 4,st 6,st 7,st 8,st 9,st 10,st 11,st 12,st 13,st 14,st 15,st 17,st 18,st 19,st 21,st 22,st 24,st 25,st 26,st 27,st 29,st 30,st 32,st 33,st 34,st 35,st 36,st 38,st 39,st 40,st 41,st 43,st 44,st 45,st 46,st 47,st 48,st 49,st 50,st 51,st 52,st 53,st 54,st 55,st 56,st 57,st 58,st 59,st 60,st 61,st 62] } }
def sts0:List PySem.Stmt:=[st 0,st 1,st 2,st 3,st 4,st 5,st 6,st 7,st 8,st 9,st 10,st 11,st 12,st 13]
def sts1:List PySem.Stmt:=[st 14,st 15,st 16,st 17,st 18,st 19,st 20,st 21,st 22,st 23,st 24,st 25,st 26,st 27,st 28,st 29,st 30]
def sts2:List PySem.Stmt:=[st 31,st 32,st 33,st 34,st 35,st 36,st 37,st 38,st 39,st 40,st 41,st 42,st 43,st 44,st 45]
def sts3:List PySem.Stmt:=[st 46,st 47,st 48,st 49,st 50,st 51,st 52,st 53,st 54,st 55,st 56,st 57,st 58,st 59]
def sts4:List PySem.Stmt:=[st 60,st 61,st 62]
end PySem.W.Tw
def PySem.W.Fast.tw18283291663084972950:PySem.Program:=PySem.Challenge.pw_wantprices_k60_steps_from_below_judged
theorem PySem.W.Fast.te18283291663084972950:PySem.Challenge.pw_wantprices_k60_steps_from_below_judged=PySem.W.Fast.tw18283291663084972950:=rfl
def PySem.W.Fast.tw18244006720637892612:PySem.Program:=PySem.W.Tw.view
theorem PySem.W.Fast.te18244006720637892612:PySem.W.Tw.view=PySem.W.Fast.tw18244006720637892612:=rfl
def PySem.W.Fast.tw14595338384440285926:List PySem.Stmt:=PySem.W.Tw.sts0
theorem PySem.W.Fast.te14595338384440285926:PySem.W.Tw.sts0=PySem.W.Fast.tw14595338384440285926:=rfl
def PySem.W.Fast.tw4264042726886168112:List PySem.Stmt:=PySem.W.Tw.sts1
theorem PySem.W.Fast.te4264042726886168112:PySem.W.Tw.sts1=PySem.W.Fast.tw4264042726886168112:=rfl
def PySem.W.Fast.tw18099390284771391275:List PySem.Stmt:=PySem.W.Tw.sts2
theorem PySem.W.Fast.te18099390284771391275:PySem.W.Tw.sts2=PySem.W.Fast.tw18099390284771391275:=rfl
def PySem.W.Fast.tw10652475694567238221:List PySem.Stmt:=PySem.W.Tw.sts3
theorem PySem.W.Fast.te10652475694567238221:PySem.W.Tw.sts3=PySem.W.Fast.tw10652475694567238221:=rfl
def PySem.W.Fast.tw4206821200164734650:List PySem.Stmt:=PySem.W.Tw.sts4
theorem PySem.W.Fast.te4206821200164734650:PySem.W.Tw.sts4=PySem.W.Fast.tw4206821200164734650:=rfl
def PySem.W.Fast.tw1933878368123893566:Nat:=0
def PySem.W.Fast.tw18126881302557833883:Nat:=0
def PySem.W.Fast.tw15069733751403919155:Nat:=0
def PySem.W.Fast.tw15670722885640981636:Nat:=0
def PySem.W.Fast.tw11834954114314935251:Nat:=0
def PySem.W.Fast.tw11527937828556865495:Nat:=0
def PySem.W.Fast.tw14857606509660292852:Nat:=0
def PySem.W.Fast.tw12414269137753874362:Nat:=0
end
end
section
set_option Elab.async false
set_option linter.all false
open PySem PySem.W PyProof.Rows
set_option maxRecDepth 100000 in
set_option maxHeartbeats 0 in
theorem PySem.Challenge.cw_wantprices_k60_steps_from_below_judged_holds : PySem.Challenge.rw_wantprices_k60_steps_from_below_judged.Holds := by
 w_on;o_law;z_head;(case hw=>w_witness2)
 k_fill
 refine K60.toX (fun _=>by kernel_rfl) ?_
 refine K60.walk (l:=PySem.Challenge.rw_wantprices_k60_steps_from_below_judged) rfl rfl (fun w h Y=>Y) ?F
 case F =>
  intro w mg fa h KX G hmg
  refine' K60.all_mk KX G hmg ?a0 ?l0 ?c0 ?k0 ?a1 ?l1 ?c1 ?k1 ?a2 ?l2 ?c2 ?k2 ?a3 ?l3 ?c3 ?k3 ?a4 ?l4 ?c4 ?k4 ?a5 ?l5 ?c5 ?k5 ?a6 ?l6 ?c6 ?k6 ?a7 ?l7 ?c7 ?k7 ?a8 ?l8 ?c8 ?k8 ?a9 ?l9 ?c9 ?k9 ?a10 ?l10 ?c10 ?k10 ?a11 ?l11 ?c11 ?k11 ?a12 ?l12 ?c12 ?k12 ?a13 ?l13 ?c13 ?k13 ?a14 ?l14 ?c14 ?k14 ?a15 ?l15 ?c15 ?k15 ?a16 ?l16 ?c16 ?k16 ?a17 ?l17 ?c17 ?k17 ?a18 ?l18 ?c18 ?k18 ?a19 ?l19 ?c19 ?k19 ?a20 ?l20 ?c20 ?k20 ?a21 ?l21 ?c21 ?k21 ?a22 ?l22 ?c22 ?k22 ?a23 ?l23 ?c23 ?k23 ?a24 ?l24 ?c24 ?k24 ?a25 ?l25 ?c25 ?k25 ?a26 ?l26 ?c26 ?k26 ?a27 ?l27 ?c27 ?k27 ?a28 ?l28 ?c28 ?k28 ?a29 ?l29 ?c29 ?k29 ?a30 ?l30 ?c30 ?k30 ?a31 ?l31 ?c31 ?k31 ?a32 ?l32 ?c32 ?k32 ?a33 ?l33 ?c33 ?k33 ?a34 ?l34 ?c34 ?k34 ?a35 ?l35 ?c35 ?k35 ?a36 ?l36 ?c36 ?k36 ?a37 ?l37 ?c37 ?k37 ?a38 ?l38 ?c38 ?k38 ?a39 ?l39 ?c39 ?k39 ?a40 ?l40 ?c40 ?k40 ?a41 ?l41 ?c41 ?k41 ?a42 ?l42 ?c42 ?k42 ?a43 ?l43 ?c43 ?k43 ?a44 ?l44 ?c44 ?k44 ?a45 ?l45 ?c45 ?k45 ?a46 ?l46 ?c46 ?k46 ?a47 ?l47 ?c47 ?k47 ?a48 ?l48 ?c48 ?k48 ?a49 ?l49 ?c49 ?k49 ?a50 ?l50 ?c50 ?k50 ?a51 ?l51 ?c51 ?k51 ?a52 ?l52 ?c52 ?k52 ?a53 ?l53 ?c53 ?k53 ?z_len ?z_sum ?z_isinstance ?z_abs ?z_max ?z_range ?z_tuple ?z_list ?z_sorted ?z_int ?z_bool ?z_zip ?z_min ?z_all ?z_enumerate
  (case a0=>k_is)
  (case l0=>k_is)
  (case c0=>k_is)
  (case k0=>k_is)
  (case a1=>k_is)
  (case l1=>k_is)
  (case c1=>k_is)
  (case k1=>k_is)
  (case a2=>k_is)
  (case l2=>k_is)
  (case c2=>k_is)
  (case k2=>k_is)
  (case a3=>k_is)
  (case l3=>k_is)
  (case c3=>k_is)
  (case k3=>k_is)
  (case a4=>k_is)
  (case l4=>k_is)
  (case c4=>k_is)
  (case k4=>k_is)
  (case a5=>k_is)
  (case l5=>k_is)
  (case c5=>k_is)
  (case k5=>k_is)
  (case a6=>k_is)
  (case l6=>k_is)
  (case c6=>k_is)
  (case k6=>k_is)
  (case a7=>k_is)
  (case l7=>k_is)
  (case c7=>k_is)
  (case k7=>k_is)
  (case a8=>k_is)
  (case l8=>k_is)
  (case c8=>k_is)
  (case k8=>k_is)
  (case a9=>k_is)
  (case l9=>k_is)
  (case c9=>k_is)
  (case k9=>k_is)
  (case a10=>k_is)
  (case l10=>k_is)
  (case c10=>k_is)
  (case k10=>k_is)
  (case a11=>k_is)
  (case l11=>k_is)
  (case c11=>k_is)
  (case k11=>k_is)
  (case a12=>k_is)
  (case l12=>k_is)
  (case c12=>k_is)
  (case k12=>k_is)
  (case a13=>k_is)
  (case l13=>k_is)
  (case c13=>k_is)
  (case k13=>k_is)
  (case a14=>k_is)
  (case l14=>k_is)
  (case c14=>k_is)
  (case k14=>k_is)
  (case a15=>k_is)
  (case l15=>k_is)
  (case c15=>k_is)
  (case k15=>k_is)
  (case a16=>k_is)
  (case l16=>k_is)
  (case c16=>k_is)
  (case k16=>k_is)
  (case a17=>k_is)
  (case l17=>k_is)
  (case c17=>k_is)
  (case k17=>k_is)
  (case a18=>k_is)
  (case l18=>k_is)
  (case c18=>k_is)
  (case k18=>k_is)
  (case a19=>k_is)
  (case l19=>k_is)
  (case c19=>k_is)
  (case k19=>k_is)
  (case a20=>k_is)
  (case l20=>k_is)
  (case c20=>k_is)
  (case k20=>k_is)
  (case a21=>k_is)
  (case l21=>k_is)
  (case c21=>k_is)
  (case k21=>k_is)
  (case a22=>k_is)
  (case l22=>k_is)
  (case c22=>k_is)
  (case k22=>k_is)
  (case a23=>k_is)
  (case l23=>k_is)
  (case c23=>k_is)
  (case k23=>k_is)
  (case a24=>k_is)
  (case l24=>k_is)
  (case c24=>k_is)
  (case k24=>k_is)
  (case a25=>k_is)
  (case l25=>k_is)
  (case c25=>k_is)
  (case k25=>k_is)
  (case a26=>k_is)
  (case l26=>k_is)
  (case c26=>k_is)
  (case k26=>k_is)
  (case a27=>k_is)
  (case l27=>k_is)
  (case c27=>k_is)
  (case k27=>k_is)
  (case a28=>k_is)
  (case l28=>k_is)
  (case c28=>k_is)
  (case k28=>k_is)
  (case a29=>k_is)
  (case l29=>k_is)
  (case c29=>k_is)
  (case k29=>k_is)
  (case a30=>k_is)
  (case l30=>k_is)
  (case c30=>k_is)
  (case k30=>k_is)
  (case a31=>k_is)
  (case l31=>k_is)
  (case c31=>k_is)
  (case k31=>k_is)
  (case a32=>k_is)
  (case l32=>k_is)
  (case c32=>k_is)
  (case k32=>k_is)
  (case a33=>k_is)
  (case l33=>k_is)
  (case c33=>k_is)
  (case k33=>k_is)
  (case a34=>k_is)
  (case l34=>k_is)
  (case c34=>k_is)
  (case k34=>k_is)
  (case a35=>k_is)
  (case l35=>k_is)
  (case c35=>k_is)
  (case k35=>k_is)
  (case a36=>k_is)
  (case l36=>k_is)
  (case c36=>k_is)
  (case k36=>k_is)
  (case a37=>k_is)
  (case l37=>k_is)
  (case c37=>k_is)
  (case k37=>k_is)
  (case a38=>k_is)
  (case l38=>k_is)
  (case c38=>k_is)
  (case k38=>k_is)
  (case a39=>k_is)
  (case l39=>k_is)
  (case c39=>k_is)
  (case k39=>k_is)
  (case a40=>k_is)
  (case l40=>k_is)
  (case c40=>k_is)
  (case k40=>k_is)
  (case a41=>k_is)
  (case l41=>k_is)
  (case c41=>k_is)
  (case k41=>k_is)
  (case a42=>k_is)
  (case l42=>k_is)
  (case c42=>k_is)
  (case k42=>k_is)
  (case a43=>k_is)
  (case l43=>k_is)
  (case c43=>k_is)
  (case k43=>k_is)
  (case a44=>k_is)
  (case l44=>k_is)
  (case c44=>k_is)
  (case k44=>k_is)
  (case a45=>k_is)
  (case l45=>k_is)
  (case c45=>k_is)
  (case k45=>k_is)
  (case a46=>k_is)
  (case l46=>k_is)
  (case c46=>k_is)
  (case k46=>k_is)
  (case a47=>k_is)
  (case l47=>k_is)
  (case c47=>k_is)
  (case k47=>k_is)
  (case a48=>k_is)
  (case l48=>k_is)
  (case c48=>k_is)
  (case k48=>k_is)
  (case a49=>k_is)
  (case l49=>k_is)
  (case c49=>k_is)
  (case k49=>k_is)
  (case a50=>k_is)
  (case l50=>k_is)
  (case c50=>k_is)
  (case k50=>k_is)
  (case a51=>k_is)
  (case l51=>k_is)
  (case c51=>k_is)
  (case k51=>k_is)
  (case a52=>k_is)
  (case l52=>k_is)
  (case c52=>k_is)
  (case k52=>k_is)
  (case a53=>k_is)
  (case l53=>k_is)
  (case c53=>k_is)
  (case k53=>k_is)
  (case z_len=>k_is)
  (case z_sum=>k_is)
  (case z_isinstance=>k_is)
  (case z_abs=>k_is)
  (case z_max=>k_is)
  (case z_range=>k_is)
  (case z_tuple=>k_is)
  (case z_list=>k_is)
  (case z_sorted=>k_is)
  (case z_int=>k_is)
  (case z_bool=>k_is)
  (case z_zip=>k_is)
  (case z_min=>k_is)
  (case z_all=>k_is)
  (case z_enumerate=>k_is)
end
