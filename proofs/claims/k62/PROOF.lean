import PyProof.Rows.All
import Wide.All
import OpenK.AllK
import Wide.FinOn
import Lean
import PyProof.EqAt
import PyProof.EqKinds
import PyProof.TupleCall
import PyProof.MinMaxWalk
import PySem.Challenge.RW_wantprices_k62_steps_of_any_kind
set_option linter.all false
set_option Elab.async false
set_option maxRecDepth 100000
noncomputable section
set_option compiler.extract_closed false
set_option genSizeOfSpec false
abbrev Aa:=@List.length_map
abbrev Ab:=@List.getD_eq_getElem?_getD
abbrev Ac:=@PySem.Heap.get?_push_of_some
abbrev Ad:=@Nat.le_refl
abbrev Ae:=@List.getElem?_eq_getElem
abbrev Af:=@List.getElem?_eq_some_iff
abbrev Ag:=@List.getElem?_map
abbrev Ah:=@List.size_toArray
abbrev Ai:=@PySem.W.mg_of
abbrev Aj:=@Option.map_eq_some_iff
abbrev Ak:=@PySem.Heap.get?_push_size
abbrev Al:=@decide_eq_false
abbrev Am:=@List.mem_map
abbrev An:=@PySem.Heap.lt_size
abbrev Ao:=@Bool.false_ne_true
abbrev Ap:=@List.mem_of_getElem?
abbrev Aq:=@List.mem_cons_self
abbrev Ar:=@Int.toNat_natCast
abbrev As:=@if_pos
abbrev Au:=@if_neg
abbrev Av:=@List.length_take
abbrev Aw:=@List.mem_cons_of_mem
abbrev Ax:=@List.length_append
abbrev Ay:=@Nat.pow_le_pow_right
abbrev Az:=@Nat.lt_of_lt_of_le
abbrev A0:=@decide_eq_true
abbrev A2:=@List.mem_cons
abbrev A3:=@Nat.ne_of_lt
abbrev A4:=@List.mem_append
abbrev A5:=@List.mem_singleton
abbrev A6:=@List.take_add_one
abbrev A7:=@List.map_append
abbrev A8:=@Option.some.inj
abbrev A9:=@List.mem_append_right
abbrev AA:=@PySem.PassesOwn.never
abbrev AB:=@Nat.le_trans
abbrev AD:=@PySem.W.mg_none_of
abbrev AE:=@Nat.two_pow_pos
abbrev AF:=@Bool.and_eq_true
abbrev AG:=@List.take_of_length_le
abbrev AH:=@List.getElem_mem
abbrev AI:=@List.forall_mem_cons
abbrev AJ:=@Nat.lt_irrefl
abbrev AK:=@List.map_cons
abbrev AL:=@List.take_length
abbrev AM:=@PySem.Heap.get?_update_other
abbrev AN:=@PySem.Heap.size_push
abbrev AO:=@List.map_map
abbrev AQ:=@Bool.false_eq_true
abbrev AR:=@Int.eq_ofNat_of_zero_le
abbrev AS:=@Nat.lt_succ_self
abbrev AU:=@decide_eq_true_eq
abbrev AV:=@Int.le_refl
abbrev AW:=@congrArg
abbrev AX:=@List.drop_eq_getElem_cons
abbrev AY:=@Nat.lt_or_ge
abbrev AZ:=@List.mem_range
abbrev Ba:=@List.length_cons
abbrev Bb:=@Nat.zero_le
abbrev Bc:=@List.length_singleton
abbrev Be:=@PyProof.Rows.callWith_type1
abbrev Bf:=@PySem.W.kia_one
abbrev Bg:=@List.lookup_cons
abbrev Bh:=@List.not_mem_nil
abbrev Bi:=@List.mem_map_of_mem
abbrev Bj:=@of_decide_eq_true
abbrev Bk:=@PySem.AutoSeq1.wpAny_loadPart'
abbrev Bl:=@Bool.eq_iff_iff
abbrev Bm:=@List.range_succ
abbrev Bn:=@List.mem_append_left
abbrev Bo:=@List.drop_of_length_le
abbrev Bp:=@Nat.le_of_lt
abbrev Bq:=@List.replicate_succ
abbrev Br:=@PySem.mem_of_lookup
abbrev Bs:=@List.nodup_cons
abbrev Bt:=@List.length_filter_le
abbrev Bu:=@PySem.Around.in1_units
abbrev Bv:=@List.flatten_cons
abbrev Bw:=@PySem.F.slot_zip_next
abbrev Bx:=@List.append_nil
abbrev By:=@List.mem_filter
abbrev Bz:=@List.sum_cons
abbrev B2:=@PySem.F.plain_min_loop
abbrev B3:=@List.all_eq_true
abbrev B4:=@PySem.F.slot_tuple_iterator_next
abbrev B5:=@List.filter_append
abbrev B6:=@List.getElem?_append_right
abbrev B7:=@List.getElem?_append_left
abbrev B8:=@PyProof.Rows.slot_tuple_getitem
abbrev BA:=@Bool.false_and
abbrev BB:=@List.length_drop
abbrev BC:=@Nat.le_add_right
abbrev BD:=@Option.getD_some
abbrev BE:=@List.eq_nil_of_length_eq_zero
abbrev BF:=@List.map_inj_right
abbrev BG:=@Nat.xor_lt_two_pow
abbrev BH:=@List.dropLast_concat_getLast
abbrev BJ:=@Option.map_some
abbrev BK:=@if_false
abbrev BL:=@Bool.true_and
abbrev BM:=@PySem.F.slot_enumerate_next
abbrev BN:=@PySem.Heap.get?_update_self
abbrev BO:=@if_true
abbrev BP:=@List.drop_zero
abbrev BQ:=@List.mem_of_mem_take
abbrev BR:=@PySem.F.slot_tuple_mul
abbrev BS:=@List.ext_getElem
abbrev BU:=@PySem.AutoSeq1.sub_tuple_tuple
abbrev BV:=@Int.max_assoc
abbrev BW:=@List.forIn_cons
abbrev BX:=@List.sum_append
abbrev BY:=@Nat.not_lt_zero
abbrev BZ:=@Ne.symm
abbrev Ca:=@PySem.SeqAt.EqAt.same
abbrev Cb:=@PySem.SeqAt.EqAt.of_refs
abbrev Cc:=@PySem.F.args_zip_next_1
abbrev Cd:=@Int.mul_nonneg
abbrev Ce:=@Nat.lt_succ_of_lt
abbrev Cf:=@List.length_replicate
abbrev Cg:=@PySem.F.entry_zip_next
abbrev Ci:=@PySem.F.sub_tuple_dict
abbrev Cj:=@List.getElem_map
abbrev Ck:=@beq_self_eq_true
abbrev Cm:=@List.all_cons
abbrev Cn:=@PySem.Around.under_plainId
abbrev Co:=@Int.one_mul
abbrev Cp:=@List.mem_iff_getElem
abbrev Cq:=@Nat.le_succ
abbrev Cr:=@Bool.or_eq_true
abbrev Cs:=@List.map_const'
abbrev Ct:=@List.of_mem_zip
abbrev Cu:=@Array.length_toList
abbrev Cv:=@List.filterMap_cons
abbrev Cw:=@List.map_congr_left
abbrev Cy:=@Nat.succ.inj
abbrev Cz:=@Nat.xor_zero
abbrev C0:=@PyProof.Rows.IsTup.new
abbrev C2:=@PySem.F.slot_dict_eq
abbrev C3:=@List.forIn_nil
abbrev C4:=@Nat.lt_of_le_of_lt
abbrev C6:=@List.nodup_append
abbrev C7:=@Nat.xor_assoc
abbrev C8:=@List.map_nil
abbrev C9:=@Nat.mul_comm
abbrev CA:=@Nat.ne_of_gt
abbrev CB:=@Nat.pow_succ
section
namespace L2
open PySem PySem.Spec PyProof.Rows
abbrev Key:=Sum Int Str
def keyIs:Key→Value→Bool
 | .inl k,v=>Value.isInt k v
 | .inr x,v=>Value.isStrOf x v
def keyH (w:World):Key→Int
 | .inl k=>hashInt k
 | .inr x=>hashStr w x
theorem jD:∀ {k:Key} {v:Value},keyIs k v=true→(∃ i t,k=Sum.inl i∧v=Value.int i t)∨(∃ x t,k=Sum.inr x∧v=Value.str x t)
 | .inl i,v,h=>by
  obtain ⟨t,e⟩:=Value.isInt_shape (k:=i) (v:=v) h
  exact .inl ⟨i,t,rfl,e⟩
 | .inr x,v,h=>by
  obtain ⟨t,e⟩:=Value.isStrOf_shape (x:=x) (v:=v) h
  exact .inr ⟨x,t,rfl,e⟩
theorem key_ll (a b:Int):decide ((Sum.inl a:Key)=Sum.inl b)=(a == b):=by
 by_cases e:a=b
 ·subst e;simp
 ·have h:¬ (Sum.inl a:Key)=Sum.inl b:=fun q=>e (Sum.inl.inj q)
  rw [Al h]
  exact (beq_eq_false_iff_ne.mpr e).symm
theorem key_rr (a b:Str):decide ((Sum.inr a:Key)=Sum.inr b)=decide (a=b):=by
 by_cases e:a=b
 ·subst e;simp
 ·have h:¬ (Sum.inr a:Key)=Sum.inr b:=fun q=>e (Sum.inr.inj q)
  rw [Al h,Al e]
theorem key_lr (a:Int)(b:Str):decide ((Sum.inl a:Key)=Sum.inr b)=false:=Al (fun q=>nomatch q)
theorem key_rl (a:Str)(b:Int):decide ((Sum.inr a:Key)=Sum.inl b)=false:=Al (fun q=>nomatch q)
def tO (prog:Program)(w:World):PySem.KeyKind prog w Key where
 is:=keyIs
 hash:=keyH w
 inj:=fun v a b ha hb=>by
  rcases jD ha with ⟨i,t,rfl,rfl⟩ | ⟨x,t,rfl,rfl⟩
  ·rcases jD hb with ⟨j,u,rfl,e⟩ | ⟨y,u,rfl,e⟩
   ·injection e with e1 _;rw [e1]
   ·exact nomatch e
  ·rcases jD hb with ⟨j,u,rfl,e⟩ | ⟨y,u,rfl,e⟩
   ·exact nomatch e
   ·injection e with e1 _;rw [e1]
 byValue:=fun k v h=>by
  rcases jD h with ⟨i,t,rfl,rfl⟩ | ⟨x,t,rfl,rfl⟩ <;> rfl
 pyHash:=fun hv h=>by
  rcases jD hv with ⟨i,t,rfl,rfl⟩ | ⟨x,t,rfl,rfl⟩
  ·exact wpAny_pyHash_int h
  ·exact wpAny_pyHash_str h
 eqBool:=fun hu hv h=>by
  rcases jD hu with ⟨i,t,rfl,rfl⟩ | ⟨x,t,rfl,rfl⟩
  ·rcases jD hv with ⟨j,u,rfl,rfl⟩ | ⟨y,u,rfl,rfl⟩
   ·rw [key_ll] at h;exact wpAny_eqBool_int h
   ·rw [key_lr] at h;exact SeqAt.EqAt.int_str i t y u _ _ _ _ h
  ·rcases jD hv with ⟨j,u,rfl,rfl⟩ | ⟨y,u,rfl,rfl⟩
   ·rw [key_rl] at h;exact SeqAt.EqAt.str_int x t j u _ _ _ _ h
   ·rw [key_rr] at h;exact wpAny_eqBool_str h
 «strs» := fun k x t v h=>by
  rcases jD h with ⟨i,u,rfl,e⟩ | ⟨y,u,rfl,e⟩
  ·exact nomatch e
  ·injection e with e1 _
   subst e1
   cases v <;> rfl
end L2
namespace L2
open PySem PySem.Spec PyProof.Rows
inductive V where
 | non | bl (b:Bool) | int (i:Int) | str (x:Str) | byt (b:Array UInt8) | flt (b:UInt64) | ref (a:Addr) | ty (n:String)
 deriving DecidableEq
def RelV:V→Value→Prop
 | .non,u=>u=Value.none
 | .bl b,u=>u=Value.bool b
 | .int i,u=>∃ t,u=Value.int i t
 | .str x,u=>∃ t,u=Value.str x t
 | .byt b,u=>∃ t,u=Value.bytes b t
 | .flt b,u=>∃ t,u=Value.float b t
 | .ref a,u=>u=Value.ref a
 | .ty n,u=>u=Value.type n
abbrev Vals:List V→List Value→Prop:=Paired RelV
theorem Vals.length {xs:List V}{us:List Value}(r:Vals xs us):xs.length=us.length:=Paired.length r
theorem Vals.get:∀ {xs:List V} {us:List Value} {i:Nat} {x:V},Vals xs us→xs[i]? = some x→∃ u,us[i]? = some u∧RelV x u
 | _,_,_,_,.nil,e=>by simp at e
 | _,_,0,_,.cons r _,e=>by simp at e;subst e;exact ⟨_,rfl,r⟩
 | _,_,i + 1,x,.cons _ t,e=>by
  obtain ⟨u,h1,h2⟩:=Vals.get (i:=i) (x:=x) t (by simpa using e)
  exact ⟨u,by simpa using h1,h2⟩
theorem Vals.set {x:V}{u:Value}(r:RelV x u):∀ {xs:List V} {us:List Value} (i:Nat),Vals xs us→Vals (xs.set i x) (us.set i u)
 | _,_,_,.nil=>.nil
 | _,_,0,.cons _ t=>.cons r t
 | _,_,i + 1,.cons q t=>.cons q (Vals.set r i t)
theorem Vals.append:∀ {xs ys:List V} {us ws:List Value},Vals xs us→Vals ys ws→Vals (xs ++ ys) (us ++ ws)
 | _,_,_,_,.nil,s=>s
 | _,_,_,_,.cons r t,s=>.cons r (Vals.append t s)
theorem Vals.take:∀ {xs:List V} {us:List Value} (n:Nat),Vals xs us→Vals (xs.take n) (us.take n)
 | _,_,0,_=>.nil
 | _,_,_ + 1,.nil=>.nil
 | _,_,n + 1,.cons r t=>.cons r (Vals.take n t)
theorem Vals.drop:∀ {xs:List V} {us:List Value} (n:Nat),Vals xs us→Vals (xs.drop n) (us.drop n)
 | _,_,0,r=>r
 | _,_,_ + 1,.nil=>.nil
 | _,_,n + 1,.cons _ t=>Vals.drop n t
def RelO:Option V→Option Value→Prop
 | some v,some u=>RelV v u
 | none,none=>True
 | _,_=>False
def KV {κ:Type}:List (κ × V)→List (κ × Value)→Prop:=Paired fun (p:κ × V) (q:κ × Value)=>p.1=q.1∧RelV p.2 q.2
def kV:Key→V
 | .inl i=>.int i
 | .inr x=>.str x
inductive HO where
 | lst (xs:List V)
 | tup (xs:List V)
 | dK (kvs:List (Key × V)) | dT (kvs:List (List Key × V))
 | set (S:Int→Bool) (n:Nat)
 | ins (C dx:Addr) (fs:List (Str × V))
 | own (x:Addr)
 | xd (fs:List (Str × V))
 | met (f x:Addr)
 | rng (lo hi:Int)
 | frz (o:Obj) (u:HO)
 | tbl (ps:Array Value)
 | ext (φ:Heap→Prop)
abbrev Hp:=Addr→Option HO
def upd (H:Hp)(a:Addr)(o:HO):Hp:=fun b=>if b=a then some o else H b
theorem qG {H:Hp}{a:Addr}{o:HO}:upd H a o a=some o:=by unfold upd;rw [As rfl]
theorem qQ {H:Hp}{a b:Addr}{o:HO}(h:b ≠ a):upd H a o b=H b:=by unfold upd;rw [Au h]
theorem upd_upd {H:Hp}{a:Addr}{o u:HO}:upd (upd H a o) a u=upd H a u:=by
 funext b;unfold upd;split <;> rfl
theorem qF {H:Hp}{a b:Addr}{o:HO}(h:H a=some o)(h':H b=none):a ≠ b:=by
 intro e;subst e;rw [h] at h';cases h'
section
variable (P:Program)(w:World)
def ObjOk (H:Hp)(h:Heap)(a:Addr):HO→Prop
 | .lst xs=>xs.length ≤ sizeLine∧∃ (its:List Value) (n:Nat),Vals xs its∧h.get? a=some { cls:=.type "list",data:=.seq its.toArray n }
 | .tup xs=>xs.length ≤ sizeLine∧∃ its:List Value,Vals xs its∧IsTup h a its.toArray
 | .dK kvs=>kvs.length ≤ sizeLine∧(a == sysModules)=false∧∃ vs,KV kvs vs∧h.DictOf (tO P w) a vs
 | .dT kvs=>kvs.length ≤ sizeLine∧(a == sysModules)=false∧∃ xs:List (List Key × Addr × Value),
   Paired (fun (p:List Key × V) (q:List Key × Addr × Value)=>p.1=q.1∧H q.2.1=some (.tup (p.1.map kV))∧RelV p.2 q.2.2) kvs xs ∧
   ∃ o es ep,h.get? a=some o∧o.ExactDict∧o.data = .dict es ep∧es.toList=xs.map (entryOfKey (tupleKind (tO P w)))∧(xs.map (·.1)).Nodup
 | .set S n=>h.SetOf (intKind P w) a S n
 | .ins C dx fs=>H dx=some (.own a)∧fs.length ≤ 1000∧dx ≠ a∧h.get? a=some (PySem.W.instObj C dx) ∧
   ∃ mA,h.Ns1 dx mA∧(∀ f,RelO (fs.lookup f) (mA f))∧PySem.Within mA (fs.map (·.1))
 | .own _=>∃ o,h.get? a=some o
 | .xd fs=>∃ mA,h.Ns1 a mA∧∀ f,RelO (fs.lookup f) (mA f)
 | .rng lo hi=>∃ t u v,h.get? a=some { cls:=.type "range",data:=.fields #[.int lo t,.int hi u,.int 1 v] }
 | .frz o u=>h.get? a=some o∧ObjOk H h a u
 | .tbl ps=>h.get? a=some { cls:=.none,data:=.fields ps }
 | .met f x=>h.get? a=some (PySem.W.methodObj (.ref f) (.ref x))
 | .ext φ=>φ h∧(∃ o,h.get? a=some o)∧∀ h1 h2:Heap,φ h1→(∀ o,h1.get? a=some o→h2.get? a=some o)→φ h2
def HOk (H:Hp)(h:Heap):Prop:=∀ a o,H a=some o→ObjOk P w H h a o
end
section
variable {P:Program}{w:World}{H H':Hp}{h h':Heap}{a:Addr}{o:HO}
theorem ObjOk.lt (x:ObjOk P w H h a o):a < h.objs.size:=by
 cases o with
 | lst xs=>obtain ⟨_,_,_,_,e⟩:=x;exact An e
 | tup xs=>obtain ⟨_,_,_,p⟩:=x;exact p.lt
 | dK kvs=>obtain ⟨_,_,_,_,o,_,_,e,_⟩:=x;exact An e
 | dT kvs=>obtain ⟨_,_,_,_,o,_,_,e,_⟩:=x;exact An e
 | set S n=>obtain ⟨o,_,_,_,e,_⟩:=x;exact An e
 | ins C dx fs=>obtain ⟨_,_,_,e,_⟩:=x;exact An e
 | own y=>obtain ⟨_,e⟩:=x;exact An e
 | xd fs=>obtain ⟨_,⟨_,_,_,e,_⟩,_⟩:=x;exact An e
 | rng lo hi=>obtain ⟨_,_,_,e⟩:=x;exact An e
 | frz ob u=>obtain ⟨e,_⟩:=x;exact An e
 | tbl ps=>exact An (show h.get? a=some _ from x)
 | met f y=>exact An (show h.get? a=some _ from x)
 | ext φ=>obtain ⟨_,⟨_,e⟩,_⟩:=x;exact An e
theorem Paired.mapP {α β:Type}{F G:α→β→Prop}:∀ {l₁:List α} {l₂:List β},Paired F l₁ l₂→(∀ a b,F a b→G a b)→Paired G l₁ l₂
 | _,_,.nil,_=>.nil
 | _,_,.cons r t,f=>.cons (f _ _ r) (Paired.mapP t f)
theorem ObjOk.stay (x:ObjOk P w H h a o)(k:∀ b u,(b=a∨H b=some (.own a))→h.get? b=some u→h'.get? b=some u)
  (ho:∀ b,H b=some (.own a)→H' b=some (.own a)) (ht:∀ b xs,H b=some (.tup xs)→H' b=some (.tup xs)):ObjOk P w H' h' a o:=by
 induction o with
 | lst xs=>obtain ⟨z,its,n,r,e⟩:=x;exact ⟨z,its,n,r,k _ _ (.inl rfl) e⟩
 | tup xs=>obtain ⟨z,its,r,ob,e,c⟩:=x;exact ⟨z,its,r,ob,k _ _ (.inl rfl) e,c⟩
 | dK kvs=>obtain ⟨z,y,vs,r,ob,es,ep,e,c⟩:=x;exact ⟨z,y,vs,r,ob,es,ep,k _ _ (.inl rfl) e,c⟩
 | dT kvs =>
  obtain ⟨z,y,xs,r,ob,es,ep,e,c⟩:=x
  exact ⟨z,y,xs,Paired.mapP r fun p q z=>⟨z.1,ht _ _ z.2.1,z.2.2⟩,ob,es,ep,k _ _ (.inl rfl) e,c⟩
 | set S n=>obtain ⟨ob,es,ep,t,e,c⟩:=x;exact ⟨ob,es,ep,t,k _ _ (.inl rfl) e,c⟩
 | ins C dx fs =>
  obtain ⟨d,z,ne,e,mA,⟨od,es,ep,e2,c⟩,r⟩:=x
  exact ⟨ho _ d,z,ne,k _ _ (.inl rfl) e,mA,⟨od,es,ep,k _ _ (.inr d) e2,c⟩,r⟩
 | own y=>obtain ⟨ob,e⟩:=x;exact ⟨ob,k _ _ (.inl rfl) e⟩
 | xd fs=>obtain ⟨mA,⟨od,es,ep,e,c⟩,r⟩:=x;exact ⟨mA,⟨od,es,ep,k _ _ (.inl rfl) e,c⟩,r⟩
 | rng lo hi=>obtain ⟨t,u,v,e⟩:=x;exact ⟨t,u,v,k _ _ (.inl rfl) e⟩
 | frz ob u ih=>obtain ⟨e,q⟩:=x;exact ⟨k _ _ (.inl rfl) e,ih q⟩
 | tbl ps =>
  have e:h.get? a=some { cls:=.none,data:=.fields ps }:=x
  show h'.get? a=some { cls:=.none,data:=.fields ps }
  exact k a _ (.inl rfl) e
 | met f y =>
  have e:h.get? a=some (PySem.W.methodObj (.ref f) (.ref y)):=x
  show h'.get? a=some (PySem.W.methodObj (.ref f) (.ref y))
  exact k a _ (.inl rfl) e
 | ext φ=>obtain ⟨p,⟨o,e⟩,st⟩:=x;exact ⟨st _ _ p fun o q=>k _ _ (.inl rfl) q,⟨o,k _ _ (.inl rfl) e⟩,st⟩
theorem HOk.lt (x:HOk P w H h)(e:H a=some o):a < h.objs.size:=(x a o e).lt
theorem HOk.fresh (x:HOk P w H h)(e:h.objs.size ≤ a):H a=none:=by
 cases q:H a with
 | none=>rfl
 | some u=>exact absurd (Az (x.lt q) e) (AJ _)
theorem HOk.kept (x:HOk P w H h)(k:∀ b u,h.get? b=some u→h'.get? b=some u):HOk P w H h':=fun a o e =>
 (x a o e).stay (fun b u _ q=>k b u q) (fun _ q=>q) fun _ _ q=>q
theorem HOk.laid (x:HOk P w H h)(k:∀ b u,h.get? b=some u→h'.get? b=some u)(hp:h.objs.size ≤ a)(new:ObjOk P w (upd H a o) h' a o):HOk P w (upd H a o) h':=fun b u e=>by
 have hn:=x.fresh hp
 by_cases hb:b=a
 ·subst hb;rw [qG] at e;cases e;exact new
 ·rw [qQ hb] at e
  exact (x b u e).stay (fun c v _ q=>k c v q) (fun c q=>by rw [qQ (qF q hn)];exact q) fun c xs q=>by rw [qQ (qF q hn)];exact q
end
def Rd (H:Hp)(a:Addr)(u:HO):Prop:=H a=some u∨∃ o,H a=some (.frz o u)
theorem Rd.of {H:Hp}{a:Addr}{u:HO}(h:H a=some u):Rd H a u:=.inl h
theorem Rd.ok {P:Program}{w:World}{H:Hp}{h:Heap}{a:Addr}{u:HO}(r:Rd H a u)(x:HOk P w H h):ObjOk P w H h a u:=by
 rcases r with r | ⟨o,r⟩
 ·exact x a u r
 ·obtain ⟨_,q⟩:=x a _ r
  exact q
def Mut:Option HO→Prop
 | some (.lst _)=>True
 | some (.dK _)=>True
 | some (.dT _)=>True
 | some (.set _ _)=>True
 | some (.ins _ _ _)=>True
 | some (.ext _)=>True
 | _=>False
section
variable {P:Program}{w:World}{H:Hp}{h h':Heap}{x e:Addr}{o':HO}
theorem HOk.write (ok:HOk P w H h)(mu:Mut (H x))(he:e=x∨H e=some (.own x))(k:∀ b u,b ≠ e→h.get? b=some u→h'.get? b=some u)(heo:∃ u,h'.get? e=some u)
  (new:ObjOk P w (upd H x o') h' x o'):HOk P w (upd H x o') h':=fun b u q=>by
 have nown:∀ c y,H c=some (.own y)→c ≠ x:=fun c y r z=>by subst z;rw [r] at mu;exact mu
 have ntup:∀ c xs,H c=some (.tup xs)→c ≠ x:=fun c xs r z=>by subst z;rw [r] at mu;exact mu
 by_cases hb:b=x
 ·subst hb;rw [qG] at q;cases q;exact new
 ·rw [qQ hb] at q
  by_cases hbe:b=e
  ·have q':H b=some (.own x):=by
    rcases he with z | z
    ·exact absurd (hbe.trans z) hb
    ·rw [hbe];exact z
   rw [q] at q';cases q'
   obtain ⟨v,hv⟩:=heo
   exact ⟨v,by rw [hbe];exact hv⟩
  ·refine (ok b u q).stay (fun c v hc r=>k c v ?_ r) (fun c r=>by rw [qQ (nown c b r)];exact r) fun c xs r=>by rw [qQ (ntup c xs r)];exact r
   rcases hc with rfl | hc
   ·exact hbe
   ·rintro rfl
    rcases he with z | z
    ·exact nown c b hc z
    ·rw [hc] at z;cases z;exact hb rfl
end
structure Un (fs ex:List Addr)(H H':Hp)(h h':Heap):Prop where
 keep:∀ b o,h.get? b=some o→H b=none→b ∉ fs→b ∉ ex→h'.get? b=some o
 slot:∀ b o,h.get? b=some o→H b=none→b ∈ fs→b ∉ ex→∃ sl,h'.get? b=some { o with slots:=sl }
 free:∀ b o,h.get? b=some o→H b=none→b ∉ ex→H' b=none
 there:∀ b o,h.get? b=some o→b ∉ ex→∃ o',h'.get? b=some o'
 tups:∀ b xs,H b=some (.tup xs)→H' b=some (.tup xs)
 frzs:∀ b o u,H b=some (.frz o u)→H' b=some (.frz o u)
 tbls:∀ b ps,H b=some (.tbl ps)→∃ more,H' b=some (.tbl (ps ++ more))
section
variable {fs fs' ex ex':List Addr}{H H1 H2:Hp}{h h1 h2 h':Heap}{a x e:Addr}{o:HO}
theorem Un.any (u:Un fs ex H H1 h h1){b:Addr}{ob:Obj}(q:h.get? b=some ob)(n:H b=none)(hx:b ∉ ex):∃ sl,h1.get? b=some { ob with slots:=sl }:=by
 by_cases hb:b ∈ fs
 ·exact u.slot b ob q n hb hx
 ·exact ⟨ob.slots,u.keep b ob q n hb hx⟩
theorem Un.trans (a:Un fs ex H H1 h h1)(b:Un fs ex H1 H2 h1 h2):Un fs ex H H2 h h2 where
 keep:=fun c ob q n hc hx=>b.keep c ob (a.keep c ob q n hc hx) (a.free c ob q n hx) hc hx
 slot:=fun c ob q n hc hx=>by
  obtain ⟨sl,e1⟩:=a.slot c ob q n hc hx
  obtain ⟨sl',e2⟩:=b.slot c _ e1 (a.free c ob q n hx) hc hx
  exact ⟨sl',e2⟩
 free:=fun c ob q n hx=>by
  obtain ⟨o',e1⟩:=a.there c ob q hx
  exact b.free c o' e1 (a.free c ob q n hx) hx
 there:=fun c ob q hx=>by
  obtain ⟨o',e1⟩:=a.there c ob q hx
  exact b.there c o' e1 hx
 tups:=fun c xs q=>b.tups c xs (a.tups c xs q)
 frzs:=fun c ob xs q=>b.frzs c ob xs (a.frzs c ob xs q)
 tbls:=fun c ps q=>by
  obtain ⟨m1,e1⟩:=a.tbls c ps q
  obtain ⟨m2,e2⟩:=b.tbls c _ e1
  exact ⟨m1 ++ m2,by rw [e2,Array.append_assoc]⟩
theorem Un.kept (k:∀ b u,h.get? b=some u→h'.get? b=some u):Un fs ex H H h h' :=
 ⟨fun b ob q _ _ _=>k b ob q,fun b ob q _ _ _=>⟨ob.slots,k b ob q⟩,fun _ _ _ n _=>n,fun b ob q _=>⟨ob,k b ob q⟩,fun _ _ q=>q,fun _ _ _ q=>q,fun _ ps q=>⟨#[],by rw [q];simp⟩⟩
theorem Un.refl:Un fs ex H H h h:=Un.kept fun _ _ q=>q
theorem Un.laid (k:∀ b u,h.get? b=some u→h'.get? b=some u)(hp:h.objs.size ≤ a)(hn:H a=none):Un fs ex H (upd H a o) h h' where
 keep:=fun b u q _ _ _=>k b u q
 slot:=fun b u q _ _ _=>⟨u.slots,k b u q⟩
 free:=fun b u q n _=>by rw [qQ (A3 (Az (An q) hp))];exact n
 there:=fun b u q _=>⟨u,k b u q⟩
 tups:=fun b xs q=>by rw [qQ (qF q hn)];exact q
 frzs:=fun b u xs q=>by rw [qQ (qF q hn)];exact q
 tbls:=fun b ps q=>⟨#[],by rw [qQ (qF q hn),q];simp⟩
theorem Un.write (mu:Mut (H x))(he:e=x∨H e=some (.own x))(k:∀ b u,b ≠ e→h.get? b=some u→h'.get? b=some u)(heo:∃ u,h'.get? e=some u):Un fs ex H (upd H x o) h h':=by
 have hx:∀ b,H b=none→b ≠ x:=fun b n z=>by subst z;rw [n] at mu;exact mu
 have hb:∀ b,H b=none→b ≠ e:=fun b n z=>by
  subst z
  rcases he with r | r
  ·exact hx b n r
  ·rw [n] at r;cases r
 have hm:∀ b u,H b=some u→¬ Mut (some u)→b ≠ x:=fun b u q nm z=>by subst z;rw [q] at mu;exact nm mu
 refine ⟨fun b u q n _ _=>k b u (hb b n) q,fun b u q n _ _=>⟨u.slots,k b u (hb b n) q⟩,fun b u q n _=>by rw [qQ (hx b n)];exact n,fun b u q _=>?_,
  fun b xs q=>by rw [qQ (hm b _ q fun z=>z)];exact q,fun b u xs q=>by rw [qQ (hm b _ q fun z=>z)];exact q,fun b ps q=>⟨#[],by rw [qQ (hm b _ q fun z=>z),q];simp⟩⟩
 by_cases hbe:b=e
 ·subst hbe;exact heo
 ·exact ⟨u,k b u hbe q⟩
theorem Un.mono (u:Un fs ex H H1 h h1)(hs:∀ b ∈ fs,b ∈ fs')(hx:∀ b ∈ ex,b ∈ ex'):Un fs' ex' H H1 h h1 :=
 ⟨fun b ob q n hb he=>u.keep b ob q n (fun z=>hb (hs b z)) fun z=>he (hx b z),fun _ _ q n _ he=>u.any q n fun z=>he (hx _ z),fun b ob q n he=>u.free b ob q n fun z=>he (hx b z),fun b ob q he=>u.there b ob q fun z=>he (hx b z),u.tups,u.frzs,u.tbls⟩
end
def trk (h:Heap)(H:Hp):List Addr:=(List.range h.objs.size).filter fun a=>(H a).isSome
def nI (h:Heap)(H:Hp):Heap:=PySem.W.hideAll h (trk h H)
theorem aS (h:Heap)(H:Hp):(nI h H).objs.size=h.objs.size:=PySem.W.hideAll_size _ _
theorem o6 {h:Heap}{H:Hp}{b:Addr}{o:Obj}(e:h.get? b=some o)(n:H b=none):(nI h H).get? b=some o :=
 PySem.W.hideAll_get _ e fun hm=>by
  have q:(H b).isSome=true:=(By.mp hm).2
  rw [n] at q;simp at q
theorem of_hidT {h:Heap}{H:Hp}{b:Addr}{o:Obj}(e:(nI h H).get? b=some o):h.get? b=some o∧H b=none:=by
 have e':h.get? b=some o:=PySem.W.of_hideAll (trk h H) e
 refine ⟨e',?_⟩
 cases q:H b with
 | none=>rfl
 | some x =>
  have hm:b ∈ trk h H:=By.mpr ⟨AZ.mpr (An e'),by simp [q]⟩
  have z:(nI h H).get? b=none:=PySem.W.hideAll_none (trk h H) hm
  rw [z] at e;cases e
def allNews (g h:Heap)(L:Addr):List (Addr × Obj):=(List.range h.objs.size).filterMap fun a=>if a=L∨(g.get? a).isSome=true then none else (h.get? a).map fun o=>(a,o)
def rest (g h:Heap)(L d:Addr):List (Addr × Obj):=(allNews g h L).filter fun p=>decide (p.1 ≠ d)
end L2
namespace L2
open PySem PySem.Spec PyProof.Rows
structure Mod (K:PySem.W.Frag)(mg:Str→Option Value)(base:Heap):Prop where
 kin:K.In base
 glob:base.Ns mainGlobals mg
 blt:∃ mb,base.Ns builtinsNs mb∧∀ x:Str,x ≠ "__name__" → mb x=bootBuiltins x
 nolimit:base.NoLimit
structure Cx where
 prog:Program
 w:World
 K:PySem.W.Frag
 mg:Str→Option Value
 base:Heap
 A:Around
 N:List Str
 s₀:Shared
 H₀:Hp
 env:Env
 outer:List Env
 stack:List Env
 ex:List Addr
 fn:Str→Bool
 calm:Bool
 pn:List (Addr × Obj)
 xe:Value→Shared→Prop
def eH (l:List Env):List Addr:=l.filterMap (·.frame)
abbrev Cx.fs (X:Cx):List Addr:=eH X.outer
def Vis (sc:Scope)(x:Str):Prop:=sc.names.lookup x=some .local∨sc.names.lookup x=some .cell∨sc.names.lookup x=some .free
def Loc (sc:Scope)(x:Str):Prop:=sc.names.lookup x=some .local∨sc.names.lookup x=some .cell
def Look (env:Env)(h:Heap)(m:Str→Option Value)(x:Str)(u:Value):Prop :=
 (env.kindOf x=some .local∧m x=some u)∨((env.kindOf x=some .cell∨env.kindOf x=some .free)∧∃ c,env.cells.lookup x=some c∧h.IsCell c (some u))
structure Cx.Ok (X:Cx):Prop where
 mod:Mod X.K X.mg X.base
 kind:X.env.scope.kind = .function
 glob:X.env.globals=mainGlobals
 blt:X.env.builtins=builtinsNs
 above:X.s₀.heap.objs.size ≤ X.env.locals
 inj:∀ x y c,X.env.cells.lookup x=some c→X.env.cells.lookup y=some c→x=y
 has:∀ x,(X.env.kindOf x=some .cell∨X.env.kindOf x=some .free)→∃ c,X.env.cells.lookup x=some c
 cab:∀ x c,X.fn x=true→X.env.cells.lookup x=some c→X.s₀.heap.objs.size ≤ c
 hd:X.calm=true→X.A.handled=none
 frames:X.A.frames=some X.stack
 stk:X.stack=X.outer∨(X.stack=X.env :: X.outer∧X.env.frame=some X.env.locals)
 exf:∀ b ∈ X.ex,b ≠ X.env.locals∧∀ x c,X.env.cells.lookup x=some c→c ≠ b
 bs:∀ b o,X.base.get? b=some o→X.s₀.heap.get? b=some o∧X.H₀ b=none
 bsz:X.base.objs.size ≤ X.s₀.heap.objs.size
 noex:∀ b o,X.base.get? b=some o→b ∉ X.ex
 exfs:∀ b ∈ X.ex,b ∉ X.fs
 funs:X.s₀.heap.FunFrames X.base X.outer
 frf:∀ b ∈ X.fs,X.H₀ b=none
structure Inv (X:Cx)(pins:List (Addr × Obj))(σ:List (Option V))(H:Hp)(s:Shared):Prop where
 ok:X.Ok
 os:s.os=X.s₀.os
 bare:AllBare s.gens
 base:Un X.fs X.ex X.H₀ H X.s₀.heap s.heap
 loc:∃ m,s.heap.Ns X.env.locals m∧∀ (i:Nat) (x:Str) (v:V),X.N[i]? = some x→σ[i]? = some (some v)→Vis X.env.scope x→∃ u,RelV v u∧Look X.env s.heap m x u
 cell:∀ x c,X.env.cells.lookup x=some c→∃ v,s.heap.IsCell c v
 free:H X.env.locals=none
 freeC:∀ x c,X.env.cells.lookup x=some c→H c=none
 pin:∀ p ∈ X.pn ++ pins,s.heap.get? p.1=some p.2∧H p.1=none∧p.1 ≠ X.env.locals∧p.1 ∉ X.fs∧∀ v,p.2.data ≠ .cell v
 hok:HOk X.prog X.w H s.heap
 len:σ.length=X.N.length
section
variable {X:Cx}{pins:List (Addr × Obj)}{σ:List (Option V)}{H H':Hp}{s:Shared}{h':Heap}
theorem Cx.Ok.nofr (ok:X.Ok){b:Addr}{o:Obj}(e:X.base.get? b=some o):b ∉ X.fs:=fun hb=>by
 have:=(ok.funs.mem hb).1
 rw [e] at this;cases this
theorem Inv.bs (I:Inv X pins σ H s):∀ b o,X.base.get? b=some o→s.heap.get? b=some o∧H b=none:=fun b o e =>
 ⟨I.base.keep b o (I.ok.bs b o e).1 (I.ok.bs b o e).2 (I.ok.nofr e) (I.ok.noex b o e),I.base.free b o (I.ok.bs b o e).1 (I.ok.bs b o e).2 (I.ok.noex b o e)⟩
theorem Inv.bk (I:Inv X pins σ H s):∀ b o,X.base.get? b=some o→s.heap.get? b=some o:=fun b o e=>(I.bs b o e).1
theorem Inv.mod (I:Inv X pins σ H s):Mod X.K X.mg X.base:=I.ok.mod
theorem Inv.kIn (I:Inv X pins σ H s):X.K.In s.heap:=I.ok.mod.kin.keeps I.bk
theorem Inv.nolimit (I:Inv X pins σ H s):s.heap.NoLimit:=I.ok.mod.nolimit.keeps I.bk
theorem Inv.fr (I:Inv X pins σ H s):∃ m,Fr X.base X.env.locals s.heap m :=
 let ⟨m,hn,_⟩:=I.loc
 ⟨m,hn,I.bk,AB I.ok.bsz I.ok.above⟩
theorem Inv.lt (I:Inv X pins σ H s):X.env.locals < s.heap.objs.size:=let ⟨_,hn,_⟩:=I.loc;hn.lt
theorem Inv.sz (I:Inv X pins σ H s):X.s₀.heap.objs.size ≤ s.heap.objs.size:=AB I.ok.above (Bp I.lt)
theorem Inv.nofs (I:Inv X pins σ H s){a:Addr}(h:s.heap.objs.size ≤ a):a ∉ X.fs:=fun hb=>by
 obtain ⟨_,o,ho,_⟩:=I.ok.funs.mem hb
 exact absurd (Az (An ho) (AB I.sz h)) (AJ _)
theorem Inv.cne (I:Inv X pins σ H s):∀ x c,X.env.cells.lookup x=some c→c ≠ X.env.locals:=fun x c e z=>by
 obtain ⟨v,o,ho,hd⟩:=I.cell x c e
 obtain ⟨m,⟨o',es,ep,ho',hd',_⟩,_⟩:=I.loc
 rw [z,ho'] at ho;cases ho;rw [hd'] at hd;cases hd
theorem Inv.funs (I:Inv X pins σ H s):s.heap.FunFrames X.base X.outer:=by
 have all:∀ (l:List Env),(∀ b ∈ eH l,b ∈ X.fs)→X.s₀.heap.FunFrames X.base l→s.heap.FunFrames X.base l:=by
  intro l
  induction l with
  | nil=>intro _ _;trivial
  | cons env r ih =>
   intro hs hl
   obtain ⟨hk,⟨L,o,hf,hn,ho,hd⟩,hr⟩:=hl
   have hL:L ∈ X.fs:=hs L (by unfold eH;rw [Cv,hf];exact Aq)
   obtain ⟨sl,e⟩:=I.base.slot L o ho (I.ok.frf L hL) hL fun z=>I.ok.exfs L z hL
   exact ⟨hk,⟨L,_,hf,hn,e,hd⟩,ih (fun b hb=>hs b (by unfold eH;rw [Cv,hf];exact Aw _ hb)) hr⟩
 exact all X.outer (fun _ hb=>hb) I.ok.funs
theorem Inv.stack (I:Inv X pins σ H s):s.heap.FunFrames X.base X.stack:=by
 rcases I.ok.stk with e | ⟨e,hf⟩
 ·rw [e];exact I.funs
 ·rw [e]
  obtain ⟨m,hn,_⟩:=I.loc
  refine .cons (by rw [I.ok.kind];decide) hf hn ?_ I.funs
  exact Heap.get?_none_of_le (AB I.ok.bsz I.ok.above)
theorem Inv.stkSub (I:Inv X pins σ H s):∀ b ∈ eH X.stack,b ∈ X.env.locals :: X.fs:=fun b hb=>by
 rcases I.ok.stk with e | ⟨e,hf⟩
 ·rw [e] at hb;exact Aw _ hb
 ·rw [e] at hb
  unfold eH at hb
  rw [Cv,hf] at hb
  exact hb
theorem Inv.stkFree (I:Inv X pins σ H s):∀ b ∈ eH X.stack,H b=none:=fun b hb=>by
 rcases A2.mp (I.stkSub b hb) with e | hb
 ·rw [e];exact I.free
 ·obtain ⟨_,o,ho,_⟩:=I.ok.funs.mem hb
  exact I.base.free b o ho (I.ok.frf b hb) fun z=>I.ok.exfs b z hb
theorem Inv.step {g':Array GenState}{t':Nat}{d':Drawn}{ch:List Addr}(I:Inv X pins σ H s)
  (hch:∀ b ∈ ch,(b ∈ X.ex∨X.s₀.heap.objs.size ≤ b)∧b ≠ X.env.locals∧(∀ x c,X.env.cells.lookup x=some c→c ≠ b)∧∀ p ∈ X.pn ++ pins,p.1 ≠ b)
  (keep:∀ b o,b ≠ X.env.locals→b ∉ X.fs→b ∉ ch→s.heap.get? b=some o→H b=none→h'.get? b=some o)
  (slot:∀ b o,b ≠ X.env.locals→b ∈ X.fs→b ∉ ch→s.heap.get? b=some o→H b=none→∃ sl,h'.get? b=some { o with slots:=sl }) (free:∀ b o,b ∉ ch→s.heap.get? b=some o→H b=none→H' b=none)
  (there:∀ b o,b ∉ ch→s.heap.get? b=some o→∃ o',h'.get? b=some o')
  (tups:∀ b xs,H b=some (.tup xs)→H' b=some (.tup xs)) (frzs:∀ b o u,H b=some (.frz o u)→H' b=some (.frz o u)) (tbls:∀ b ps,H b=some (.tbl ps)→∃ more,H' b=some (.tbl (ps ++ more)))
  (ns:∀ m,s.heap.Ns X.env.locals m→h'.Ns X.env.locals m) (hok:HOk X.prog X.w H' h') (hg:AllBare g') :
  Inv X pins σ H' { s with heap:=h',gens:=g',drawn:=d',toks:=t' }:=by
 have neL:∀ b o,X.s₀.heap.get? b=some o→b ≠ X.env.locals:=fun b o e=>A3 (Az (An e) I.ok.above)
 have neC:∀ b o,X.s₀.heap.get? b=some o→b ∉ X.ex→b ∉ ch:=fun b o e hx hb=>by
  rcases (hch b hb).1 with z | z
  ·exact hx z
  ·exact absurd (Az (An e) z) (AJ _)
 have cellK:∀ x c,X.env.cells.lookup x=some c→∀ v,s.heap.IsCell c v→h'.IsCell c v:=fun x c e v ⟨o,ho,hd⟩=>by
  have nch:c ∉ ch:=fun z=>(hch c z).2.2.1 x c e rfl
  by_cases hc:c ∈ X.fs
  ·obtain ⟨sl,q⟩:=slot c o (I.cne x c e) hc nch ho (I.freeC x c e)
   exact ⟨_,q,hd⟩
  ·exact ⟨o,keep c o (I.cne x c e) hc nch ho (I.freeC x c e),hd⟩
 refine ⟨I.ok,I.os,hg,⟨fun b o e n hb hx=>?_,fun b o e n hb hx=>?_,fun b o e n hx=>?_,fun b o e hx=>?_,fun b xs e=>tups b xs (I.base.tups b xs e),fun b o xs e=>frzs b o xs (I.base.frzs b o xs e),fun b ps e=>?_⟩,?_,fun x c e=>?_,?_,fun x c e=>?_,fun p hp=>?_,hok,I.len⟩
 ·exact keep b o (neL b o e) hb (neC b o e hx) (I.base.keep b o e n hb hx) (I.base.free b o e n hx)
 ·obtain ⟨sl,e1⟩:=I.base.slot b o e n hb hx
  obtain ⟨sl',e2⟩:=slot b _ (neL b o e) hb (neC b o e hx) e1 (I.base.free b o e n hx)
  exact ⟨sl',e2⟩
 ·obtain ⟨o',e1⟩:=I.base.there b o e hx
  exact free b o' (neC b o e hx) e1 (I.base.free b o e n hx)
 ·obtain ⟨o',e1⟩:=I.base.there b o e hx
  exact there b o' (neC b o e hx) e1
 ·obtain ⟨m1,e1⟩:=I.base.tbls b ps e
  obtain ⟨m2,e2⟩:=tbls b _ e1
  exact ⟨m1 ++ m2,by rw [e2,Array.append_assoc]⟩
 ·obtain ⟨m,hn,hl⟩:=I.loc
  refine ⟨m,ns m hn,fun i x v e1 e2 e3=>?_⟩
  obtain ⟨u,r,l⟩:=hl i x v e1 e2 e3
  refine ⟨u,r,?_⟩
  rcases l with l | ⟨k,c,e,z⟩
  ·exact .inl l
  ·exact .inr ⟨k,c,e,cellK x c e _ z⟩
 ·obtain ⟨v,z⟩:=I.cell x c e
  exact ⟨v,cellK x c e v z⟩
 ·obtain ⟨m,⟨o,_,_,ho,_⟩,_⟩:=I.loc
  exact free _ o (fun z=>(hch _ z).2.1 rfl) ho I.free
 ·obtain ⟨v,o,ho,hd⟩:=I.cell x c e
  exact free c o (fun z=>(hch c z).2.2.1 x c e rfl) ho (I.freeC x c e)
 ·obtain ⟨e,n,ne,nf,d⟩:=I.pin p hp
  have nch:p.1 ∉ ch:=fun z=>(hch p.1 z).2.2.2 p hp rfl
  exact ⟨keep p.1 p.2 ne nf nch e n,free p.1 p.2 nch e n,ne,nf,d⟩
theorem Inv.un {t':Nat}(I:Inv X pins σ H s)(u:Un X.fs [] H H' s.heap h')(hok:HOk X.prog X.w H' h'):Inv X pins σ H' { s with heap:=h',toks:=t' }:=by
 obtain ⟨m,⟨o,es,ep,ho,r⟩,_⟩:=id I.loc
 obtain ⟨sl,hL⟩:=u.any ho I.free (by simp)
 exact I.step (g':=s.gens) (d':=s.drawn) (ch:=[]) (fun _ z=>nomatch z) (fun b o _ hb _ e n=>u.keep b o e n hb (by simp)) (fun b o _ hb _ e n=>u.slot b o e n hb (by simp)) (fun b o _ e n=>u.free b o e n (by simp)) (fun b o _ e=>u.there b o e (by simp)) u.tups u.frzs u.tbls (fun m' hm=>by
  obtain ⟨o',es',ep',ho',r'⟩:=hm
  rw [ho] at ho';cases ho'
  exact ⟨_,es',ep',hL,r'⟩) hok I.bare
theorem Inv.call {g':Array GenState}{t':Nat}{d':Drawn}{ch:List Addr}(I:Inv X pins σ H s)(u:Un (eH X.stack) ch H H' s.heap h')(hok:HOk X.prog X.w H' h')(hg:AllBare g')
  (hch:∀ b ∈ ch,(b ∈ X.ex∨X.s₀.heap.objs.size ≤ b)∧b ≠ X.env.locals∧(∀ x c,X.env.cells.lookup x=some c→c ≠ b)∧∀ p ∈ X.pn ++ pins,p.1 ≠ b) :
  Inv X pins σ H' { s with heap:=h',gens:=g',drawn:=d',toks:=t' }:=by
 obtain ⟨m,⟨o,es,ep,ho,r⟩,_⟩:=id I.loc
 obtain ⟨sl,hL⟩:=u.any ho I.free fun z=>(hch _ z).2.1 rfl
 exact I.step (ch:=ch) hch (fun b o hL hb hc e n=>u.keep b o e n (fun z=>(A2.mp (I.stkSub b z)).elim hL hb) hc) (fun b o _ _ hc e n=>u.any e n hc) (fun b o hc e n=>u.free b o e n hc) (fun b o hc e=>u.there b o e hc) u.tups u.frzs u.tbls (fun m' hm=>by
  obtain ⟨o',es',ep',ho',r'⟩:=hm
  rw [ho] at ho';cases ho'
  exact ⟨_,es',ep',hL,r'⟩) hok hg
theorem Inv.turned {t':Nat}{it:Addr}(I:Inv X pins σ H s)(k:∀ b o,b ≠ it→s.heap.get? b=some o→h'.get? b=some o)(hn:H it=none)(hL:it ≠ X.env.locals)
  (h1:it ∈ X.ex∨X.s₀.heap.objs.size ≤ it) (h2:∀ x c,X.env.cells.lookup x=some c→c ≠ it) (h3:∀ p ∈ X.pn ++ pins,p.1 ≠ it):Inv X pins σ H { s with heap:=h',toks:=t' }:=by
 have nit:∀ b u,H b=some u→b ≠ it:=fun b u e z=>by rw [z,hn] at e;cases e
 refine I.step (g':=s.gens) (d':=s.drawn) (ch:=[it]) (fun b hb=>?_) (fun b o _ _ hc e _=>k b o (fun z=>hc (by simp [z])) e) (fun b o _ _ hc e _=>⟨o.slots,k b o (fun z=>hc (by simp [z])) e⟩) (fun _ _ _ _ n=>n)
  (fun b o hc e=>⟨o,k b o (fun z=>hc (by simp [z])) e⟩) (fun _ _ e=>e) (fun _ _ _ e=>e) (fun b ps e=>⟨#[],by rw [e];simp⟩) (fun m hm=>?_) (fun b u e=>?_) I.bare
 ·have e:b=it:=by simpa using hb
  subst e
  exact ⟨h1,hL,h2,h3⟩
 ·obtain ⟨o,es,ep,ho,r⟩:=hm
  exact ⟨o,es,ep,k _ o (BZ hL) ho,r⟩
 ·refine (I.hok b u e).stay (fun c v hc q=>k c v ?_ q) (fun _ q=>q) fun _ _ q=>q
  rcases hc with z | z
  ·rw [z];exact nit b u e
  ·exact nit c _ z
theorem Inv.tok (I:Inv X pins σ H s)(t:Nat):Inv X pins σ H { s with toks:=t }:=I.un (h':=s.heap) (t':=t) Un.refl I.hok
theorem Inv.kept {t':Nat}(I:Inv X pins σ H s)(k:∀ b u,s.heap.get? b=some u→h'.get? b=some u):Inv X pins σ H { s with heap:=h',toks:=t' }:=I.un (Un.kept k) (I.hok.kept k)
theorem Inv.laid {a:Addr}{o:HO}{t':Nat}(I:Inv X pins σ H s)(k:∀ b u,s.heap.get? b=some u→h'.get? b=some u)(hp:s.heap.objs.size ≤ a)(new:ObjOk X.prog X.w (upd H a o) h' a o) :
  Inv X pins σ (upd H a o) { s with heap:=h',toks:=t' }:=I.un (Un.laid k hp (I.hok.fresh hp)) (I.hok.laid k hp new)
theorem Inv.write {x e:Addr}{o:HO}{t':Nat}(I:Inv X pins σ H s)(mu:Mut (H x))(he:e=x∨H e=some (.own x))(k:∀ b u,b ≠ e→s.heap.get? b=some u→h'.get? b=some u)(heo:∃ u,h'.get? e=some u)
  (new:ObjOk X.prog X.w (upd H x o) h' x o):Inv X pins σ (upd H x o) { s with heap:=h',toks:=t' }:=I.un (Un.write mu he k heo) (I.hok.write mu he k heo new)
theorem Inv.weak {σ':List (Option V)}(I:Inv X pins σ H s)(hl:σ'.length=σ.length)(w:∀ (i:Nat) v,σ'[i]? = some (some v)→σ[i]? = some (some v)):Inv X pins σ' H s :=
 ⟨I.ok,I.os,I.bare,I.base,let ⟨m,hn,hl'⟩:=I.loc;⟨m,hn,fun i x v e1 e2 e3=>hl' i x v e1 (w i v e2) e3⟩,I.cell,I.free,I.freeC,I.pin,I.hok,hl.trans I.len⟩
theorem Inv.pins_of {pins':List (Addr × Obj)}(I:Inv X pins σ H s)(h:∀ p ∈ pins',s.heap.get? p.1=some p.2∧H p.1=none∧p.1 ≠ X.env.locals∧p.1 ∉ X.fs∧∀ v,p.2.data ≠ .cell v):Inv X pins' σ H s :=
 ⟨I.ok,I.os,I.bare,I.base,I.loc,I.cell,I.free,I.freeC,fun p hp=>(A4.mp hp).elim (fun z=>I.pin p (Bn _ z)) (h p),I.hok,I.len⟩
theorem lV {N:List Str}(hN:N.Nodup){i j:Nat}{x:Str}(a:N[i]? = some x)(b:N[j]? = some x):i=j:=by
 obtain ⟨h1,e1⟩:=Af.mp a
 obtain ⟨h2,e2⟩:=Af.mp b
 exact (List.getElem_inj hN).mp (e1.trans e2.symm)
theorem cA {M:Model}{A:Around}{E:Value→Shared→Prop}{i:Nat}{x:Str}{v:V}{u:Value}{Q:Unit→Shared→Prop}(I:Inv X pins σ H s)(hN:X.N.Nodup)(hi:X.N[i]? = some x)(hx:Loc X.env.scope x)(r:RelV v u)
  (h:∀ s',Inv X pins (σ.set i (some v)) H s'→(∃ a,Heap.SameBut a s.heap s'.heap∧(a=X.env.locals∨X.env.cells.lookup x=some a))→Q () s') (hf:X.fn x=true∨X.env.scope.names.lookup x=some .local:=by first | exact .inl rfl | exact .inr rfl | assumption):wpAny M A (storeName X.env x u) Q E s:=by
 obtain ⟨m,hn,hl⟩:=id I.loc
 have hcls:(X.env.scope.kind == .class || (X.env.scope.kind == .module && X.env.locals != X.env.globals))=false:=by rw [I.ok.kind];rfl
 have hiσ:i < σ.length:=by rw [I.len];exact (Af.mp hi).1
 have cne:=I.cne
 have tracked:∀ {a:Addr} {h':Heap},(∃ o,s.heap.get? a=some o∧H a=none)→Heap.SameBut a s.heap h'→HOk X.prog X.w H h':=fun {a h'} ha hs b ob e=>by
  obtain ⟨_,_,hfree⟩:=ha
  refine (I.hok b ob e).stay (fun c w' hc q=>(hs.2 c ?_).trans q) (fun _ q=>q) fun _ _ q=>q
  rintro rfl
  rcases hc with rfl | hc
  ·rw [hfree] at e;cases e
  ·rw [hfree] at hc;cases hc
 rcases hx with hk | hk
 ·refine wpAny_storeName_local hk hn (fun h' hn' hs=>?_) hcls
  obtain ⟨oL,_,_,hoL,_⟩:=id hn
  refine h _ ⟨I.ok,I.os,I.bare,⟨fun b o e n hb hx=>?_,fun b o e n hb hx=>?_,I.base.free,fun b o e hx=>?_,I.base.tups,I.base.frzs,I.base.tbls⟩,⟨_,hn',fun j y v' e1 e2 e3=>?_⟩,fun y c e=>?_,I.free,I.freeC,fun p hp=>?_,tracked ⟨oL,hoL,I.free⟩ hs,by simpa using I.len⟩ ⟨_,hs,.inl rfl⟩
  ·exact (hs.2 b (A3 (Az (An e) I.ok.above))).trans (I.base.keep b o e n hb hx)
  ·obtain ⟨sl,e1⟩:=I.base.slot b o e n hb hx
   exact ⟨sl,(hs.2 b (A3 (Az (An e) I.ok.above))).trans e1⟩
  ·obtain ⟨o',e1⟩:=I.base.there b o e hx
   exact ⟨o',(hs.2 b (A3 (Az (An e) I.ok.above))).trans e1⟩
  ·by_cases hj:j=i
   ·subst hj
    rw [hi] at e1;cases e1
    rw [List.getElem?_set_self hiσ] at e2
    cases e2
    exact ⟨u,r,.inl ⟨hk,by simp⟩⟩
   ·rw [List.getElem?_set_ne (BZ hj)] at e2
    obtain ⟨u',r',q⟩:=hl j y v' e1 e2 e3
    refine ⟨u',r',?_⟩
    rcases q with ⟨k,e⟩ | ⟨k,c,e,z⟩
    ·refine .inl ⟨k,?_⟩
     have:y ≠ x:=fun e=>hj (lV hN e1 (e ▸ hi))
     simp [this,e]
    ·exact .inr ⟨k,c,e,z.sameBut hs (cne y c e)⟩
  ·obtain ⟨w',z⟩:=I.cell y c e
   exact ⟨w',z.sameBut hs (cne y c e)⟩
  ·obtain ⟨e,n,ne,nf,d⟩:=I.pin p hp
   exact ⟨(hs.2 p.1 ne).trans e,n,ne,nf,d⟩
 ·have hfn:X.fn x=true:=by
   rcases hf with z | z
   ·exact z
   ·rw [z] at hk;cases hk
  obtain ⟨c,hc⟩:=I.ok.has x (.inl hk)
  obtain ⟨w',z⟩:=I.cell x c hc
  refine wpAny_storeName_cell I.ok.kind hk hc z (fun h' hc' hs=>?_)
  obtain ⟨oc,hoc,hocd⟩:=id z
  refine h { s with heap:=h' } ⟨I.ok,I.os,I.bare,⟨fun b o e n hb hx=>?_,fun b o e n hb hx=>?_,I.base.free,fun b o e hx=>?_,I.base.tups,I.base.frzs,I.base.tbls⟩,⟨m,hn.sameBut hs (BZ (cne x c hc)),fun j y v' e1 e2 e3=>?_⟩,fun y c' e=>?_,I.free,I.freeC,fun p hp=>?_,tracked ⟨oc,hoc,I.freeC x c hc⟩ hs,by simpa using I.len⟩ ⟨c,hs,.inr hc⟩
  ·exact (hs.2 b (A3 (Az (An e) (I.ok.cab x c hfn hc)))).trans (I.base.keep b o e n hb hx)
  ·obtain ⟨sl,e1⟩:=I.base.slot b o e n hb hx
   exact ⟨sl,(hs.2 b (A3 (Az (An e) (I.ok.cab x c hfn hc)))).trans e1⟩
  ·obtain ⟨o',e1⟩:=I.base.there b o e hx
   exact ⟨o',(hs.2 b (A3 (Az (An e) (I.ok.cab x c hfn hc)))).trans e1⟩
  ·by_cases hj:j=i
   ·subst hj
    rw [hi] at e1;cases e1
    rw [List.getElem?_set_self hiσ] at e2
    cases e2
    exact ⟨u,r,.inr ⟨.inl hk,c,hc,hc'⟩⟩
   ·rw [List.getElem?_set_ne (BZ hj)] at e2
    obtain ⟨u',r',q⟩:=hl j y v' e1 e2 e3
    refine ⟨u',r',?_⟩
    rcases q with q | ⟨k,c',e,z'⟩
    ·exact .inl q
    ·refine .inr ⟨k,c',e,z'.sameBut hs ?_⟩
     rintro rfl
     exact hj (lV hN e1 (I.ok.inj _ _ _ e hc ▸ hi))
  ·by_cases hcc:c'=c
   ·subst hcc;exact ⟨_,hc'⟩
   ·obtain ⟨w2,z2⟩:=I.cell y c' e
    exact ⟨w2,z2.sameBut hs hcc⟩
  ·obtain ⟨e,n,ne,nf,d⟩:=I.pin p hp
   refine ⟨(hs.2 p.1 ?_).trans e,n,ne,nf,d⟩
   intro q
   rw [q,hoc] at e
   have q':oc=p.2:=A8 e
   exact d w' (by rw [← q'];exact hocd)
theorem gP {M:Model}{A:Around}{E:Value→Shared→Prop}{i:Nat}{x:Str}{v:V}{u:Value}{Q:Unit→Shared→Prop}(I:Inv X pins σ H s)(hN:X.N.Nodup)(hi:X.N[i]? = some x)(hx:Loc X.env.scope x)(r:RelV v u)
  (h:∀ s',Inv X pins (σ.set i (some v)) H s'→Q () s') (hf:X.fn x=true∨X.env.scope.names.lookup x=some .local:=by first | exact .inl rfl | exact .inr rfl | assumption):wpAny M A (storeName X.env x u) Q E s :=
 cA I hN hi hx r (fun s' I' _=>h s' I') hf
theorem Inv.call' {s':Shared}{ch:List Addr}(I:Inv X pins σ H s)(ho:s'.os=s.os)(u:Un (eH X.stack) ch H H' s.heap s'.heap)(hok:HOk X.prog X.w H' s'.heap)(hg:AllBare s'.gens)
  (hch:∀ b ∈ ch,(b ∈ X.ex∨X.s₀.heap.objs.size ≤ b)∧b ≠ X.env.locals∧(∀ x c,X.env.cells.lookup x=some c→c ≠ b)∧∀ p ∈ X.pn ++ pins,p.1 ≠ b):Inv X pins σ H' s':=by
 obtain ⟨h',g',d',t',o'⟩:=s'
 have e:o'=s.os:=ho
 subst e
 exact I.call (g':=g') (t':=t') (d':=d') u hok hg hch
end
abbrev XK:=Value→Option Addr→Hp→Prop
abbrev St:=List (Option V)
abbrev VK:=V→Hp→Prop
abbrev TE:=St→Hp→VK→Prop
abbrev TT:=St→Hp→(Bool→Hp→Prop)→Prop
abbrev TA:=St→Hp→(List V→Hp→Prop)→Prop
structure Ends where
 nx:St→Hp→Prop
 rt:VK
 bk:St→Hp→Prop:=fun _ _=>False
 ct:St→Hp→Prop:=fun _ _=>False
abbrev TS:=Ends→St→Hp→Prop
def EP (X:Cx)(pins:List (Addr × Obj))(σ:St)(Q:VK)(u:Value)(s':Shared):Prop:=∃ v H',Inv X pins σ H' s'∧RelV v u∧Q v H'
def TP (X:Cx)(pins:List (Addr × Obj))(σ:St)(Q:Bool→Hp→Prop)(b:Bool)(s':Shared):Prop:=∃ H',Inv X pins σ H' s'∧Q b H'
def AP (X:Cx)(pins:List (Addr × Obj))(σ:St)(Q:List V→Hp→Prop)(us:List Value)(s':Shared):Prop:=∃ vs H',Inv X pins σ H' s'∧Vals vs us∧Q vs H'
def SP (X:Cx)(pins:List (Addr × Obj))(D:Ends)(f:Flow)(s':Shared):Prop :=
 match f with
 | .next=>∃ σ' H',Inv X pins σ' H' s'∧D.nx σ' H'
 | .brk=>∃ σ' H',Inv X pins σ' H' s'∧D.bk σ' H'
 | .cont=>∃ σ' H',Inv X pins σ' H' s'∧D.ct σ' H'
 | .ret u=>∃ v σ' H',Inv X pins σ' H' s'∧RelV v u∧D.rt v H'
def PE (X:Cx)(e:Expr)(t:TE):Prop :=
 ∀ (pins:List (Addr × Obj)) (s:Shared) (σ:St) (H:Hp) (Q:VK),Inv X pins σ H s→t σ H Q→wpAny (model X.prog X.w) X.A (eval e X.env) (EP X pins σ Q) X.xe s
def PT (X:Cx)(e:Expr)(t:TT):Prop :=
 ∀ (pins:List (Addr × Obj)) (s:Shared) (σ:St) (H:Hp) (Q:Bool→Hp→Prop),Inv X pins σ H s→t σ H Q→wpAny (model X.prog X.w) X.A (isTrue e X.env (eval e X.env)) (TP X pins σ Q) X.xe s
def PW (X:Cx)(e:Expr)(t:TT):Prop :=
 ∀ (whole:Sem Value) (pins:List (Addr × Obj)) (s:Shared) (σ:St) (H:Hp) (Q:Bool→Hp→Prop),Inv X pins σ H s→t σ H Q→wpAny (model X.prog X.w) X.A (isTrue e X.env whole) (TP X pins σ Q) X.xe s
theorem PW.pt {X:Cx}{e:Expr}{t:TT}(h:PW X e t):PT X e t:=h _
def PA (X:Cx)(es:List Expr)(t:TA):Prop :=
 ∀ (pos:Pos) (pins:List (Addr × Obj)) (s:Shared) (σ:St) (H:Hp) (Q:List V→Hp→Prop),Inv X pins σ H s→t σ H Q→wpAny (model X.prog X.w) X.A (spliced (backTo pos (starEach es X.env))) (AP X pins σ Q) X.xe s
def PS (X:Cx)(st:Stmt)(t:TS):Prop :=
 ∀ (pins:List (Addr × Obj)) (s:Shared) (σ:St) (H:Hp) (D:Ends),Inv X pins σ H s→t D σ H→wpAny (model X.prog X.w) X.A (exec st X.env) (SP X pins D) X.xe s
def PSs (X:Cx)(st:List Stmt)(t:TS):Prop :=
 ∀ (pins:List (Addr × Obj)) (s:Shared) (σ:St) (H:Hp) (D:Ends),Inv X pins σ H s→t D σ H→wpAny (model X.prog X.w) X.A (execs st X.env) (SP X pins D) X.xe s
theorem jJ {α:Type}{t:Sem α}{Q Q':α→Shared→Prop}{M:Model}{A:Around}{E:Value→Shared→Prop}{s:Shared}(h:wpAny M A t Q E s)(hQ:∀ a s,Q a s→Q' a s):wpAny M A t Q' E s:=wpAny_mono h hQ fun _ _ x=>x
end L2
namespace L2
open PySem PySem.Spec PyProof.Rows
section
variable {X:Cx}
theorem bin {a b:Expr}{ta tb:TE}(ha:PE X a ta)(hb:PE X b tb){pins:List (Addr × Obj)}{s:Shared}{σ:St}{H:Hp}{R:V→V→Hp→Prop}(I:Inv X pins σ H s)(h:ta σ H fun x H1=>tb σ H1 fun y H2=>R x y H2)
  {α:Type} {Q:α→Shared→Prop} {f:Value→Value→Sem α}
  (hf:∀ v u s2 x y H2,Inv X pins σ H2 s2→RelV x v→RelV y u→R x y H2→wpAny (model X.prog X.w) X.A (f v u) Q X.xe s2) :
  wpAny (model X.prog X.w) X.A (eval a X.env) (fun v s₁=>wpAny (model X.prog X.w) X.A (eval b X.env) (fun u s₂=>wpAny (model X.prog X.w) X.A (f v u) Q X.xe s₂) X.xe s₁) X.xe s:=by
 refine jJ (ha pins s σ H _ I h) fun v s1 ⟨x,H1,I1,r1,q1⟩=>?_
 refine jJ (hb pins s1 σ H1 _ I1 q1) fun u s2 ⟨y,H2,I2,r2,q2⟩=>?_
 exact hf v u s2 x y H2 I2 r1 r2 q2
def gC (i:Nat):TE:=fun σ H Q=>∃ v,σ[i]? = some (some v)∧Q v H
def tC (v:V):TE:=fun _ H Q=>Q v H
theorem pe_var {i:Nat}{x:Str}{pos:Pos}(hN:X.N[i]? = some x)(hv:Vis X.env.scope x)(hd:(x == ("__debug__" : Str))=false:=by decide) (hcd:(x == ("__classdict__" : Str))=false:=by decide):PE X (.Name x pos) (gC i):=by
 intro pins s σ H Q I h
 obtain ⟨v,e,h⟩:=h
 obtain ⟨m,hn,hl⟩:=I.loc
 obtain ⟨u,r,l⟩:=hl i x v hN e hv
 have fin:EP X pins σ Q u s:=⟨v,H,I,r,h⟩
 rcases l with ⟨hk,hm⟩ | ⟨hk,c,hc,hcell⟩
 ·exact wpAny_Name (wpAny_loadName_local I.ok.kind hk hn hm fin) hd
 ·rcases hk with hk | hk
  ·exact wpAny_Name (wpAny_loadName_cell I.ok.kind hk hc hcell fin) hd
  ·exact wpAny_Name (wpAny_loadName_free I.ok.kind hk hc hcell fin hcd) hd
theorem qH {i j pos}:PE X (.Constant (.int i) j pos) (tC (.int i)):=fun _ _ _ H _ I h=>wpAny_Constant_int ⟨.int i,H,I.tok _,⟨_,rfl⟩,h⟩
theorem yF {b j pos}:PE X (.Constant (.bool b) j pos) (tC (.bl b)):=fun _ _ _ H _ I h=>Constant_bool ⟨.bl b,H,I,rfl,h⟩
theorem jX {j pos}:PE X (.Constant .none j pos) (tC .non):=fun _ _ _ H _ I h=>Constant_none ⟨.non,H,I,rfl,h⟩
theorem gF {x j pos}:PE X (.Constant (.str x) j pos) (tC (.str x)):=fun _ _ _ H _ I h=>Calls.Constant_str ⟨.str x,H,I.tok _,⟨_,rfl⟩,h⟩
def Gl (X:Cx)(x:Str):Prop:=X.env.kindOf x=some .globalImplicit
theorem ld_glob {E:Value→Shared→Prop}{pins:List (Addr × Obj)}{s:Shared}{σ:St}{H:Hp}{x:Str}{u:Value}{pos:Pos}{Q:Value→Shared→Prop}(I:Inv X pins σ H s)(hg:Gl X x)(hm:X.mg x=some u)(h:Q u s)
  (hd:(x == ("__debug__" : Str))=false:=by decide):wpAny (model X.prog X.w) X.A (eval (.Name x pos) X.env) Q E s :=
 Calls.Name_function_global I.ok.kind hg (Calls.loadGlobal_global (by rw [I.ok.glob];exact I.mod.glob.keeps I.bk) hm h) hd
theorem vH {E:Value→Shared→Prop}{pins:List (Addr × Obj)}{s:Shared}{σ:St}{H:Hp}{x:Str}{u:Value}{pos:Pos}{Q:Value→Shared→Prop}(I:Inv X pins σ H s)(hg:Gl X x)(hm:X.mg x=none)(hv:bootBuiltins x=some u)(h:Q u s)
  (hn:x ≠ "__name__" := by decide) (hd:(x == ("__debug__" : Str))=false:=by decide):wpAny (model X.prog X.w) X.A (eval (.Name x pos) X.env) Q E s:=by
 obtain ⟨mb,h1,h2⟩:=I.mod.blt
 exact Calls.Name_function_global I.ok.kind hg (Calls.loadGlobal_builtin (by rw [I.ok.glob];exact I.mod.glob.keeps I.bk) hm (by rw [I.ok.blt];exact h1.keeps I.bk) ((h2 x hn).trans hv) h) hd
theorem vO {x:Str}{v:V}{u:Value}{pos:Pos}(hg:Gl X x)(hm:X.mg x=none)(hv:bootBuiltins x=some u)(r:RelV v u)(hn:x ≠ "__name__" := by decide) (hd:(x == ("__debug__" : Str))=false:=by decide):PE X (.Name x pos) (tC v) :=
 fun _ _ _ H _ I h=>vH I hg hm hv ⟨v,H,I,r,h⟩ hn hd
def t2I (ta tb:TE)(k:Int→Int→Hp→Prop):St→Hp→Prop:=fun σ H=>ta σ H fun x H1=>tb σ H1 fun y H2=>∃ i j,x = .int i∧y = .int j∧k i j H2
variable {a b:Expr}{ta tb:TE}{pos:Pos}
def PC (X:Cx)(op:CmpOp)(a b:Expr)(t:TE):Prop :=
 ∀ (pins:List (Addr × Obj)) (s:Shared) (σ:St) (H:Hp) (Q:VK),Inv X pins σ H s→t σ H Q →
  wpAny (model X.prog X.w) X.A (eval a X.env) (fun v s₁=>wpAny (model X.prog X.w) X.A (eval b X.env) (fun u s₂=>wpAny (model X.prog X.w) X.A (compareOp op v u) (EP X pins σ Q) X.xe s₂) X.xe s₁) X.xe s
def tCmp (p:Int→Int→Bool)(ta tb:TE):TE:=fun σ H Q=>t2I ta tb (fun i j H2=>Q (.bl (p i j)) H2) σ H
abbrev tLe:TE→TE→TE:=tCmp fun i j=>decide (i ≤ j)
theorem pc_int {op:CmpOp}{p:Int→Int→Bool}(ha:PE X a ta)(hb:PE X b tb)
  (rule:∀ (i j:Int) (t u:Tok) (Q:Value→Shared→Prop) (s:Shared),Q (.bool (p i j)) s→wpAny (model X.prog X.w) X.A (compareOp op (.int i t) (.int j u)) Q X.xe s):PC X op a b (tCmp p ta tb):=by
 intro pins s σ H Q I h
 refine bin ha hb I h fun v u s2 x y H2 I2 rx ry q=>?_
 obtain ⟨i,j,rfl,rfl,q⟩:=q
 obtain ⟨t,rfl⟩:=rx
 obtain ⟨t',rfl⟩:=ry
 exact rule i j t t' _ s2 ⟨.bl _,H2,I2,rfl,q⟩
theorem pc_le (ha:PE X a ta)(hb:PE X b tb):PC X .LtE a b (tLe ta tb):=pc_int ha hb fun _ _ _ _ _ _ h=>le_int h
def tB (t:TE):TT:=fun σ H Q=>t σ H fun x H1=>∃ c,x = .bl c∧Q c H1
theorem wO {e:Expr}{t:TE}(h:PE X e t)(he:∀ whole,isTrue e X.env whole=(do let v ← whole;standAt e.pos;holding [v] (truthy v)):=by intro _;rfl):PT X e (tB t):=by
 intro pins s σ H Q I hw
 refine isTrue_plain (jJ (h pins s σ H _ I hw) fun v s1 ⟨x,H1,I1,r1,q1⟩=>?_) (he _)
 obtain ⟨d,rfl,q⟩:=q1
 cases r1
 exact wpAny_truthy_bool ⟨H1,I1,q⟩
variable {tA tB':TT}{rest:List Expr}
def tAnd (t u:TT):TT:=fun σ H Q=>t σ H fun c H1=>if c=true then u σ H1 Q else Q false H1
def tOr (t u:TT):TT:=fun σ H Q=>t σ H fun c H1=>if c=true then Q true H1 else u σ H1 Q
def tNot (t:TT):TT:=fun σ H Q=>t σ H fun c H1=>Q (!c) H1
theorem zQ (ha:PT X a tA):PW X (.BoolOp .And [a] pos) tA:=by
 intro wh pins s σ H Q I h
 refine isTrue_and (jJ (ha pins s σ H Q I h) fun c s1 e=>?_)
 cases c with
 | true=>exact isTrue_and_nil e
 | false=>exact e
theorem iV (ha:PT X a tA):PW X (.BoolOp .Or [a] pos) tA:=by
 intro wh pins s σ H Q I h
 refine isTrue_or (jJ (ha pins s σ H Q I h) fun c s1 e=>?_)
 cases c with
 | false=>exact isTrue_or_nil e
 | true=>exact e
theorem zX (ha:PT X a tA)(hb:PW X (.BoolOp .And (b :: rest) pos) tB'):PW X (.BoolOp .And (a :: b :: rest) pos) (tAnd tA tB'):=by
 intro wh pins s σ H Q I h
 refine isTrue_and (jJ (ha pins s σ H _ I h) fun c s1 ⟨H1,I1,q1⟩=>?_)
 cases c with
 | true=>exact hb wh pins s1 σ H1 Q I1 q1
 | false=>exact ⟨H1,I1,q1⟩
theorem pw_or (ha:PT X a tA)(hb:PW X (.BoolOp .Or (b :: rest) pos) tB'):PW X (.BoolOp .Or (a :: b :: rest) pos) (tOr tA tB'):=by
 intro wh pins s σ H Q I h
 refine isTrue_or (jJ (ha pins s σ H _ I h) fun c s1 ⟨H1,I1,q1⟩=>?_)
 cases c with
 | true=>exact ⟨H1,I1,q1⟩
 | false=>exact hb wh pins s1 σ H1 Q I1 q1
theorem iX (ha:PT X a tA):PT X (.UnaryOp .Not a pos) (tNot tA):=by
 intro pins s σ H Q I h
 exact isTrue_not (ha pins s σ H (fun c H1=>Q (!c) H1) I h)
def tAndV (ta tb:TE):TE:=fun σ H Q=>ta σ H fun x H1=>∃ c,x = .bl c∧if c=true then tb σ H1 Q else Q (.bl false) H1
def tOrV (ta tb:TE):TE:=fun σ H Q=>ta σ H fun x H1=>∃ c,x = .bl c∧if c=true then Q (.bl true) H1 else tb σ H1 Q
def tNotV (ta:TE):TE:=fun σ H Q=>ta σ H fun x H1=>∃ c,x = .bl c∧Q (.bl (!c)) H1
theorem vG {op}{t:TE}(h:PE X a t):PE X (.BoolOp op [a] pos) t:=fun pins s σ H Q I hw=>BoolOp_one (h pins s σ H Q I hw)
theorem zC (ha:PE X a ta)(hb:PE X (.BoolOp .And (b :: rest) pos) tb):PE X (.BoolOp .And (a :: b :: rest) pos) (tAndV ta tb):=by
 intro pins s σ H Q I h
 refine BoolOp_and (jJ (ha pins s σ H _ I h) fun v s1 ⟨x,H1,I1,r1,q1⟩=>?_)
 obtain ⟨c,rfl,q1⟩:=q1
 cases r1
 refine wpAny_truthy_bool ?_
 cases c with
 | true=>exact hb pins s1 σ H1 Q I1 q1
 | false=>exact ⟨.bl false,H1,I1,rfl,q1⟩
theorem pe_not (ha:PE X a ta):PE X (.UnaryOp .Not a pos) (tNotV ta):=by
 intro pins s σ H Q I h
 refine UnaryOp_ (jJ (ha pins s σ H _ I h) fun v s1 ⟨x,H1,I1,r1,q1⟩=>?_)
 obtain ⟨c,rfl,q1⟩:=q1
 cases r1
 exact not_of (wpAny_truthy_bool ⟨.bl (!c),H1,I1,rfl,q1⟩)
def tIf (t:TT)(ta tb:TE):TE:=fun σ H Q=>t σ H fun c H1=>if c=true then ta σ H1 Q else tb σ H1 Q
theorem wR {c:Expr}(hc:PT X c tA)(ha:PE X a ta)(hb:PE X b tb):PE X (.IfExp c a b pos) (tIf tA ta tb):=by
 intro pins s σ H Q I h
 refine wpAny_IfExp (jJ (hc pins s σ H _ I h) fun d s1 ⟨H1,I1,q1⟩=>?_)
 cases d with
 | true=>exact ha pins s1 σ H1 Q I1 q1
 | false=>exact hb pins s1 σ H1 Q I1 q1
end
end L2
namespace L2
open PySem PySem.Spec PyProof.Rows
def SqL (K:PySem.W.Frag)(H:Hp)(a:Addr)(xs:List V):Prop :=
 Rd H a (.lst xs) ∨
  ∃ (o:Obj) (its:Array Value) (n:Nat),K.lookup a=some o∧o.cls = .type "list" ∧ o.dict=none∧o.data = .seq its n∧its.size ≤ sizeLine∧Vals xs its.toList
def SqT (K:PySem.W.Frag)(H:Hp)(a:Addr)(xs:List V):Prop :=
 Rd H a (.tup xs) ∨
  ∃ (o:Obj) (its:Array Value) (n:Nat),K.lookup a=some o∧o.cls = .type "tuple" ∧ o.data = .seq its n∧its.size ≤ sizeLine∧Vals xs its.toList
def absV:Value→Option V
 | .none=>some .non
 | .bool b=>some (.bl b)
 | .int i _=>some (.int i)
 | .str x _=>some (.str x)
 | .bytes b _=>some (.byt b)
 | .float b _=>some (.flt b)
 | .ref a=>some (.ref a)
 | .type n=>some (.ty n)
 | _=>none
theorem RelV.abs {x:V}{u:Value}(r:RelV x u):absV u=some x:=by
 cases x with
 | non=>cases r;rfl
 | bl _=>cases r;rfl
 | int _=>obtain ⟨t,rfl⟩:=r;rfl
 | str _=>obtain ⟨t,rfl⟩:=r;rfl
 | byt _=>obtain ⟨t,rfl⟩:=r;rfl
 | flt _=>obtain ⟨t,rfl⟩:=r;rfl
 | ref _=>cases r;rfl
 | ty _=>cases r;rfl
theorem RelV.inj {x y:V}{u:Value}(r:RelV x u)(q:RelV y u):x=y:=A8 (r.abs.symm.trans q.abs)
theorem Vals.inj:∀ {xs ys:List V} {us:List Value},Vals xs us→Vals ys us→xs=ys
 | _,_,_,.nil,.nil=>rfl
 | _,_,_,.cons r t,.cons r' t'=>by rw [r.inj r',Vals.inj t t']
section
variable {X:Cx}{pins:List (Addr × Obj)}{σ:St}{H:Hp}{s:Shared}{a:Addr}{xs ys:List V}
theorem SqL.of {K:PySem.W.Frag}(h:H a=some (.lst xs)):SqL K H a xs:=.inl (.inl h)
theorem SqT.of {K:PySem.W.Frag}(h:H a=some (.tup xs)):SqT K H a xs:=.inl (.inl h)
theorem Inv.list (I:Inv X pins σ H s)(h:SqL X.K H a xs):∃ its:List Value,Vals xs its∧PlainL s.heap a its.toArray∧xs.length ≤ sizeLine:=by
 rcases h with h | ⟨o,its,n,hk,hc,hd,hs,hz,r⟩
 ·obtain ⟨z,its,n,r,e⟩:=h.ok I.hok
  exact ⟨its,r,⟨_,n,e,rfl,rfl,rfl⟩,z⟩
 ·refine ⟨its.toList,r,⟨o,n,I.kIn a o hk,hc,hd,by simpa using hs⟩,?_⟩
  have e:=r.length
  simp only [Cu] at e
  omega
theorem Inv.tuple (I:Inv X pins σ H s)(h:SqT X.K H a xs):∃ its:List Value,Vals xs its∧IsTup s.heap a its.toArray∧xs.length ≤ sizeLine:=by
 rcases h with h | ⟨o,its,n,hk,hc,hs,hz,r⟩
 ·obtain ⟨z,its,r,p⟩:=h.ok I.hok
  exact ⟨its,r,p,z⟩
 ·refine ⟨its.toList,r,⟨o,I.kIn a o hk,hc,n,by simpa using hs⟩,?_⟩
  have e:=r.length
  simp only [Cu] at e
  omega
theorem Inv.list_inj (I:Inv X pins σ H s)(h:SqL X.K H a xs)(h':SqL X.K H a ys):xs=ys:=by
 obtain ⟨its,r,⟨o,n,e,_,_,d⟩,_⟩:=I.list h
 obtain ⟨its',r',⟨o',n',e',_,_,d'⟩,_⟩:=I.list h'
 rw [e] at e';cases e'
 rw [d] at d'
 injection d' with d1 _
 have:its=its':=by simpa using AW Array.toList d1
 subst this
 exact r.inj r'
theorem Inv.tuple_inj (I:Inv X pins σ H s)(h:SqT X.K H a xs)(h':SqT X.K H a ys):xs=ys:=by
 obtain ⟨its,r,⟨o,e,_,n,d⟩,_⟩:=I.tuple h
 obtain ⟨its',r',⟨o',e',_,n',d'⟩,_⟩:=I.tuple h'
 rw [e] at e';cases e'
 rw [d] at d'
 injection d' with d1 _
 have:its=its':=by simpa using AW Array.toList d1
 subst this
 exact r.inj r'
end
abbrev Cx.wish (X:Cx)(E:Value→Shared→Prop):Cx:={ X with xe:=E }
abbrev Cx.nox (X:Cx):Cx:=X.wish fun _ _=>False
theorem Cx.Ok.wish {X:Cx}(ok:X.Ok)(E:Value→Shared→Prop):(X.wish E).Ok :=
 ⟨ok.mod,ok.kind,ok.glob,ok.blt,ok.above,ok.inj,ok.has,ok.cab,ok.hd,ok.frames,ok.stk,ok.exf,ok.bs,ok.bsz,ok.noex,ok.exfs,ok.funs,ok.frf⟩
theorem Cx.Ok.unwish {X:Cx}{E:Value→Shared→Prop}(ok:(X.wish E).Ok):X.Ok :=
 ⟨ok.mod,ok.kind,ok.glob,ok.blt,ok.above,ok.inj,ok.has,ok.cab,ok.hd,ok.frames,ok.stk,ok.exf,ok.bs,ok.bsz,ok.noex,ok.exfs,ok.funs,ok.frf⟩
section
variable {X:Cx}{pins:List (Addr × Obj)}{σ:St}{H:Hp}{s:Shared}{E:Value→Shared→Prop}
theorem Inv.wish (I:Inv X pins σ H s)(E:Value→Shared→Prop):Inv (X.wish E) pins σ H s:=⟨I.ok.wish E,I.os,I.bare,I.base,I.loc,I.cell,I.free,I.freeC,I.pin,I.hok,I.len⟩
theorem Inv.unwish (I:Inv (X.wish E) pins σ H s):Inv X pins σ H s:=⟨I.ok.unwish,I.os,I.bare,I.base,I.loc,I.cell,I.free,I.freeC,I.pin,I.hok,I.len⟩
theorem SP.unwish {D:Ends}{f:Flow}{s':Shared}(h:SP (X.wish E) pins D f s'):SP X pins D f s':=by
 cases f with
 | next=>obtain ⟨σ',H',I,q⟩:=h;exact ⟨σ',H',I.unwish,q⟩
 | brk=>obtain ⟨σ',H',I,q⟩:=h;exact ⟨σ',H',I.unwish,q⟩
 | cont=>obtain ⟨σ',H',I,q⟩:=h;exact ⟨σ',H',I.unwish,q⟩
 | ret u=>obtain ⟨v,σ',H',I,r,q⟩:=h;exact ⟨v,σ',H',I.unwish,r,q⟩
theorem PE.nox {e:Expr}{t:TE}(h:PE X.nox e t):PE X e t:=fun pins s σ H Q I hw =>
 wpAny_mono (h pins s σ H Q (I.wish _) hw) (fun _ _ ⟨v,H',I',r,q⟩=>⟨v,H',I'.unwish,r,q⟩) fun _ _ z=>False.elim z
theorem PT.nox {e:Expr}{t:TT}(h:PT X.nox e t):PT X e t:=fun pins s σ H Q I hw =>
 wpAny_mono (h pins s σ H Q (I.wish _) hw) (fun _ _ ⟨H',I',q⟩=>⟨H',I'.unwish,q⟩) fun _ _ z=>False.elim z
theorem PSs.nox {st:List Stmt}{t:TS}(h:PSs X.nox st t):PSs X st t:=fun pins s σ H D I hw =>
 wpAny_mono (h pins s σ H D (I.wish _) hw) (fun _ _ q=>q.unwish) fun _ _ z=>False.elim z
end
section
variable {X:Cx}{st:Stmt}{rest:List Stmt}{t u:TS}{e:Expr}{te:TE}{pos:Pos}
def tNext:TS:=fun D σ H=>D.nx σ H
def tSeq (t u:TS):TS:=fun D σ H=>t { D with nx:=u D } σ H
theorem jB:PSs X [] tNext:=fun _ _ σ H _ I h=>wpAny_execs_nil ⟨σ,H,I,h⟩
theorem kE (h1:PS X st t)(h2:PSs X rest u):PSs X (st :: rest) (tSeq t u):=by
 intro pins s σ H D I h
 refine wpAny_execs_cons (jJ (h1 pins s σ H { D with nx:=u D } I h) fun f s1 q=>?_)
 cases f with
 | next =>
  obtain ⟨σ',H',I',q⟩:=q
  exact h2 pins s1 σ' H' D I' q
 | ret v=>exact q
 | brk=>exact q
 | cont=>exact q
theorem qI (h1:PS X st t):PSs X [st] t:=by
 intro pins s σ H D I h
 refine wpAny_execs_cons (jJ (h1 pins s σ H D I h) fun f s1 q=>?_)
 cases f with
 | next=>exact wpAny_execs_nil q
 | ret v=>exact q
 | brk=>exact q
 | cont=>exact q
theorem Inv.quiet {pins:List (Addr × Obj)}{σ:St}{H:Hp}{s:Shared}(I:Inv X pins σ H s):interactive X.env=false:=by simp [interactive,I.ok.kind]
def tDrop (te:TE):TS:=fun D σ H=>te σ H fun _ H1=>D.nx σ H1
theorem zH (he:PE X e te)(hs:swapsWith e none pos.line X.env=pure false:=by rfl):PS X (.Expr e pos) (tDrop te):=by
 intro pins s σ H D I h
 exact wpAny_Expr_any (jJ (he pins s σ H _ I h) fun v s1 ⟨x,H1,I1,r1,q1⟩=>⟨σ,H1,I1,q1⟩) I.quiet hs
def tRet (te:TE):TS:=fun D σ H=>te σ H D.rt
theorem qS (he:PE X e te):PS X (.Return (some e) pos) (tRet te):=by
 intro pins s σ H D I h
 exact wpAny_Return_some (jJ (he pins s σ H _ I h) fun v s1 ⟨x,H1,I1,r1,q1⟩=>⟨x,σ,H1,I1,r1,q1⟩)
def tRetN:TS:=fun D _ H=>D.rt .non H
def tIfS (c:TT)(t u:TS):TS:=fun D σ H=>c σ H fun b H1=>if b=true then t D σ H1 else u D σ H1
theorem zD {c:Expr}{a b:List Stmt}{tc:TT}(hc:PT X c tc)(ha:PSs X a t)(hb:PSs X b u):PS X (.If c a b pos) (tIfS tc t u):=by
 intro pins s σ H D I h
 refine wpAny_If (jJ (hc pins s σ H _ I h) fun d s1 ⟨H1,I1,q1⟩=>?_)
 cases d with
 | true=>exact ha pins s1 σ H1 D I1 q1
 | false=>exact hb pins s1 σ H1 D I1 q1
def iA:TS:=fun _ _ _=>False
theorem iZ:PS X st iA:=fun _ _ _ _ _ _ h=>h.elim
end
abbrev TG:=V→St→Hp→(St→Hp→Prop)→Prop
abbrev TGs:=List V→St→Hp→(St→Hp→Prop)→Prop
def PG (X:Cx)(target:Expr)(t:TG):Prop :=
 ∀ (pins:List (Addr × Obj)) (s:Shared) (σ:St) (H:Hp) (v:V) (u:Value) (Q:St→Hp→Prop),Inv X pins σ H s→RelV v u→t v σ H Q →
  wpAny (model X.prog X.w) X.A (assign target X.env u) (fun _ s'=>∃ σ' H',Inv X pins σ' H' s'∧Q σ' H') X.xe s
def PGs (X:Cx)(ts:List Expr)(t:TGs):Prop :=
 ∀ (pins:List (Addr × Obj)) (s:Shared) (σ:St) (H:Hp) (vs:List V) (us:List Value) (Q:St→Hp→Prop),Inv X pins σ H s→Vals vs us→t vs σ H Q →
  wpAny (model X.prog X.w) X.A (assignInOrder ((assignEach ts X.env).map (·.2)) us) (fun _ s'=>∃ σ' H',Inv X pins σ' H' s'∧Q σ' H') X.xe s
abbrev TSet:=V→V→V→Hp→(Hp→Prop)→Prop
def PSet (X:Cx)(t:TSet):Prop :=
 ∀ (pins:List (Addr × Obj)) (s:Shared) (σ:St) (H:Hp) (o i v:V) (ov iv u:Value) (Q:Hp→Prop),Inv X pins σ H s→RelV o ov→RelV i iv→RelV v u→t o i v H Q →
  wpAny (model X.prog X.w) X.A (setItem ov iv u) (fun _ s'=>∃ H',Inv X pins σ H' s'∧Q H') X.xe s
section
variable {X:Cx}{pos:Pos}
def j8 (i:Nat):TG:=fun v σ H Q=>Q (σ.set i (some v)) H
theorem qM {i:Nat}{x:Str}(hN:X.N.Nodup)(hi:X.N[i]? = some x)(hx:Loc X.env.scope x)(hf:X.fn x=true∨X.env.scope.names.lookup x=some .local:=by first | exact .inl rfl | exact .inr rfl | assumption):PG X (.Name x pos) (j8 i):=by
 intro pins s σ H v u Q I r h
 exact wpAny_assign_Name (gP I hN hi hx r (fun s' I'=>⟨_,H,I',h⟩) hf)
def gNil:TGs:=fun vs σ H Q=>vs=[]∧Q σ H
def gCons (t:TG)(u:TGs):TGs:=fun vs σ H Q=>∃ v r,vs=v :: r∧t v σ H fun σ' H'=>u r σ' H' Q
theorem kT:PGs X [] gNil:=by
 intro pins s σ H vs us Q I r h
 obtain ⟨e,h⟩:=h
 subst e
 cases r
 exact assignInOrder_nil ⟨σ,H,I,h⟩
theorem qU {e:Expr}{es:List Expr}{t:TG}{u:TGs}(h1:PG X e t)(h2:PGs X es u)
  (hs:(assignEach (e :: es) X.env).map (·.2)=assign e X.env :: (assignEach es X.env).map (·.2):=by rfl):PGs X (e :: es) (gCons t u):=by
 intro pins s σ H vs us Q I r h
 obtain ⟨v,vr,e1,h⟩:=h
 subst e1
 cases r with
 | cons r rr =>
  rw [hs]
  refine assignInOrder_cons (jJ (h1 pins s σ H _ _ _ I r h) fun _ s1 ⟨σ1,H1,I1,q1⟩=>?_)
  exact h2 pins s1 σ1 H1 _ _ Q I1 rr q1
def gTup (K:PySem.W.Frag)(n:Nat)(t:TGs):TG:=fun v σ H Q=>∃ a xs,v = .ref a∧SqT K H a xs∧xs.length=n∧t xs σ H Q
theorem pg_tup {es:List Expr}{k:Nat}{t:TGs}{n:Nat}(hc:X.calm=true)(h:PGs X es t)
  (hn:(assignEach es X.env).length=n:=by rfl) (hst:(assignEach es X.env).findIdx? (·.1)=none:=by rfl):PG X (.Tuple es k pos) (gTup X.K n t):=by
 intro pins s σ H v u Q I r hw
 obtain ⟨a,xs,e1,hq,hl,hw⟩:=hw
 subst e1
 cases r
 obtain ⟨its,rv,ht,hz⟩:=I.tuple hq
 refine assign_Tuple_tuple (I.ok.hd hc) ht (by simp [hn,← hl,rv.length]) hst fun h' hx=>?_
 have I1:Inv X pins σ H { s with heap:=h' }:=I.kept (t':=s.toks) fun b o e=>hx b o (A3 (An e)) e
 exact h pins _ σ H xs _ Q I1 (by simpa using rv) hw
def gSub (to ti:TE)(t:TSet):TG:=fun v σ H Q=>to σ H fun o H1=>ti σ H1 fun i H2=>t o i v H2 fun H3=>Q σ H3
theorem mX {o i:Expr}{to ti:TE}{t:TSet}(ho:PE X o to)(hi:PE X i ti)(hs:PSet X t)
  (ha:∀ v,assign (.Subscript o i pos) X.env v=(do
   let ov ← holding [v] (eval o X.env)
   let iv ← holding [v,ov] (eval i X.env)
   standAt pos
   holding [v,ov,iv] (setItem ov iv v)
   release [v,ov,iv] []):=by intro _;rfl):PG X (.Subscript o i pos) (gSub to ti t):=by
 intro pins s σ H v u Q I r h
 rw [ha]
 refine wpAny_bind (wpAny_holding (jJ (ho pins s σ H _ I h) fun ov s1 ⟨x,H1,I1,r1,q1⟩=>?_))
 refine wpAny_bind (wpAny_holding (jJ (hi pins s1 σ H1 _ I1 q1) fun iv s2 ⟨y,H2,I2,r2,q2⟩=>?_))
 refine wpAny_bind (wpAny_standAt (wpAny_bind (wpAny_holding (jJ (hs pins s2 σ H2 x y v ov iv u _ I2 r1 r2 r q2) fun _ s3 ⟨H3,I3,q3⟩=>?_))))
 exact wpAny_release ⟨σ,H3,I3,q3⟩
def iC (te:TE)(g:TG):TS:=fun D σ H=>te σ H fun x H1=>g x σ H1 D.nx
theorem zY {tg e:Expr}{te:TE}{g:TG}(he:PE X e te)(hg:PG X tg g)(hs:swapsWithSole [tg] e pos.line X.env=pure false:=by rfl)(hw:swappedStores [tg] e X.env=pure none:=by rfl)
  (h1:(assignEach [tg] X.env).map (·.2)=[assign tg X.env]:=by rfl):PS X (.Assign [tg] e pos) (iC te g):=by
 intro pins s σ H D I h
 refine wpAny_Assign_stores (jJ (he pins s σ H _ I h) fun v s1 ⟨x,H1,I1,r1,q1⟩=>?_) hs hw
 rw [h1]
 exact jJ (hg pins s1 σ H1 x v _ I1 r1 q1) fun _ s2 q=>q
theorem qY {i:Nat}{x:Str}{e:Expr}{te:TE}{pos':Pos}(hN:X.N.Nodup)(hi:X.N[i]? = some x)(hx:Loc X.env.scope x)(he:PE X e te)(hs:swapsWith e (some (.Name x pos')) pos.line X.env=pure false:=by rfl)(hf:X.fn x=true∨X.env.scope.names.lookup x=some .local:=by first | exact .inl rfl | exact .inr rfl | assumption) :
  PS X (.Assign [.Name x pos'] e pos) (iC te (j8 i)):=by
 intro pins s σ H D I h
 refine wpAny_Assign_Name (jJ (he pins s σ H _ I h) fun v s1 ⟨y,H1,I1,r1,q1⟩=>?_) hs
 exact gP I1 hN hi hx r1 (fun s2 I2=>⟨_,H1,I2,q1⟩) hf
def tPar (i j:Nat)(ta:TA):TS:=fun D σ H=>ta σ H fun vs H1=>∃ v w,vs=[v,w]∧D.nx ((σ.set i (some v)).set j (some w)) H1
theorem rL {i j:Nat}{x y:Str}{a b:Expr}{ta:TA}{px py pt:Pos}{kt k2 pt2}(hc:X.calm=true)(hN:X.N.Nodup)(hi:X.N[i]? = some x)(hj:X.N[j]? = some y)(hij:i ≠ j)
  (hx:X.env.scope.names.lookup x=some .local) (hy:X.env.scope.names.lookup y=some .local) (ha:PA X [a,b] ta)
  (hw:swappedStores [.Tuple [.Name x px,.Name y py] kt pt] (.Tuple [a,b] k2 pt2) X.env=pure (some [x,y]))
  (hs:swapsWithSole [.Tuple [.Name x px,.Name y py] kt pt] (.Tuple [a,b] k2 pt2) pos.line X.env=pure false:=by rfl) :
  PS X (.Assign [.Tuple [.Name x px,.Name y py] kt pt] (.Tuple [a,b] k2 pt2) pos) (tPar i j ta):=by
 intro pins s σ H D I h
 rw [exec_Assign_arm]
 refine wpAny_bind (wpAny_standAt ?_)
 rw [hs]
 refine wpAny_bind (wpAny_pure ?_)
 rw [Au (by decide)]
 refine wpAny_bind (Tuple_ (jJ (ha _ pins s σ H _ I h) fun us s1 ⟨vs,H1,I1,r1,q1⟩=>?_))
 obtain ⟨v,w,e1,q1⟩:=q1
 subst e1
 obtain ⟨u1,u2,rfl,rv,rw'⟩:∃ u1 u2,us=[u1,u2]∧RelV v u1∧RelV w u2:=by
  cases r1 with
  | cons p q =>
   cases q with
   | cons p' q' =>
    cases q'
    exact ⟨_,_,rfl,p,p'⟩
 refine wpAny_newObj_type ?_ (by show 2 ≤ sizeLine;decide)
 have I2:Inv X pins σ H1 { s1 with heap:=s1.heap.push { cls:=.type "tuple",data:=.seq [u1,u2].toArray } }:=I1.kept (t':=s1.toks) fun b o e=>Ac _ e
 rw [hw]
 refine wpAny_bind (wpAny_pure ?_)
 show wpAny (model X.prog X.w) X.A (do rule "assign.swapped-stores";let items ← unpackItems (.ref s1.heap.objs.size) 2 none;assignInOrder [fun v=>bindName X.env y v,fun v=>bindName X.env x v] items.reverse;pure Flow.next) _ _ _
 refine wpAny_bind (wpAny_rule (wpAny_bind (unpackItems_tuple (items := #[u1,u2]) (I.ok.hd hc) (C0 s1.heap _) fun h' hx'=>?_)))
 have I3:=I2.kept (h':=h') (t':=s1.toks) fun b o e=>hx' b o (A3 (An e)) e
 show wpAny _ _ (assignInOrder [fun v=>bindName X.env y v,fun v=>bindName X.env x v] [u2,u1] >>= fun _=>pure Flow.next) _ _ _
 refine wpAny_bind (assignInOrder_cons (wpAny_bindName (gP I3 hN hj (.inl hy) rw' (fun s2 I4=>?_) (.inr hy))))
 refine assignInOrder_cons (wpAny_bindName (gP I4 hN hi (.inl hx) rv (fun s3 I5=>assignInOrder_nil (wpAny_pure ?_)) (.inr hx)))
 rw [List.set_comm _ _ (BZ hij)] at I5
 exact ⟨_,H1,I5,q1⟩
end
section
variable {X:Cx}{pos:Pos}
def tWhile (c:TT)(tb:TS):TS:=fun D σ H=>∃ W:Nat→St→Hp→Prop,(∃ m,W m σ H)∧∀ m σ H,W m σ H →
 c σ H fun b H1=>if b=true then ∃ N:St→Hp→Prop,(∀ σ' H',N σ' H'→∃ m',m' < m∧W m' σ' H')∧tb { D with nx:=N,ct:=N,bk:=D.nx } σ H1 else D.nx σ H1
theorem iY {c:Expr}{body:List Stmt}{tc:TT}{tb:TS}(hp:PassesOwn (model X.prog X.w) X.A X.env X.xe)(hc:PT X c tc)(hb:PSs X body tb):PS X (.While c body [] pos) (tWhile tc tb):=by
 intro pins s σ H D I h
 obtain ⟨W,⟨m0,w0⟩,turn⟩:=h
 refine wpAny_While (codeAny_whileLoop (fun n s'=>∃ σ' H',Inv X pins σ' H' s'∧W n σ' H') ?_ m0 ⟨σ,H,I,w0⟩)
 rintro n s1 ⟨σ1,H1,I1,w1⟩
 refine wpAny_passesOwn hp (jJ (hc pins s1 σ1 H1 _ I1 (turn n σ1 H1 w1)) fun b s2 ⟨H2,I2,q2⟩=>?_)
 cases b with
 | true =>
  obtain ⟨N,hN,q2⟩:=q2
  rw [As rfl]
  refine wpAny_passesOwn hp (jJ (hb pins s2 σ1 H2 _ I2 q2) fun f s3 q3=>?_)
  cases f with
  | next =>
   obtain ⟨σ3,H3,I3,n3⟩:=q3
   obtain ⟨m',hm,w3⟩:=hN σ3 H3 n3
   exact ⟨m',hm,σ3,H3,I3,w3⟩
  | cont =>
   obtain ⟨σ3,H3,I3,n3⟩:=q3
   obtain ⟨m',hm,w3⟩:=hN σ3 H3 n3
   exact ⟨m',hm,σ3,H3,I3,w3⟩
  | brk=>exact q3
  | ret v=>exact q3
 | false =>
  rw [Au Ao]
  exact wpAny_execs_nil ⟨σ1,H2,I2,q2⟩
end
structure It where
 go:Nat→Hp→Prop
 yld:Nat→Hp→V→Hp→Prop
 stop:Nat→Hp→Prop
def xY (X:Cx)(pins:List (Addr × Obj))(H:Hp)(b:Addr):Prop :=
 H b=none∧b ≠ X.env.locals∧b ∉ X.fs∧(b ∈ X.ex∨X.s₀.heap.objs.size ≤ b)∧(∀ x c,X.env.cells.lookup x=some c→c ≠ b)∧∀ p ∈ X.pn ++ pins,p.1 ≠ b
theorem Inv.fpOk {X:Cx}{pins:List (Addr × Obj)}{σ:St}{H H':Hp}{s:Shared}{b:Addr}(I:Inv X pins σ H s)(hb:s.heap.objs.size ≤ b)(hn:H' b=none):xY X pins H' b:=by
 refine ⟨hn,CA (Az I.lt hb),I.nofs hb,.inr (AB I.sz hb),fun x c e z=>?_,fun p hp z=>?_⟩
 ·obtain ⟨v,q⟩:=I.cell x c e
  exact absurd (Az q.lt (by rw [z];exact hb)) (AJ _)
 ·exact absurd (Az (An (I.pin p hp).1) (by rw [z];exact hb)) (AJ _)
structure Turn (P:Program)(w:World)(K:PySem.W.Frag)(tg:Expr)(J:It)(fp:List Addr)(it:Addr)(tn:Nat→Heap→Prop):Prop where
 mem:it ∈ fp
 obj:∀ i h,tn i h→∀ b ∈ fp,∃ o,h.get? b=some o∧∀ v,o.data ≠ .cell v
 keep:∀ i h h',tn i h→(∀ b ∈ fp,∀ o,h.get? b=some o→h'.get? b=some o)→tn i h'
 item:∀ (X:Cx),X.prog=P→X.w=w→X.K=K→X.calm=true→∀ (i:Nat) (pins:List (Addr × Obj)) (s:Shared) (σ:St) (H:Hp) (E:Value→Shared→Prop),Inv X pins σ H s→(∀ b ∈ fp,xY X pins H b)→tn i s.heap→J.go i H →
  wpAny (model P w) X.A (pyNext (.ref it)) (fun r s1=>∃ u,r=some u ∧
   wpAny (model P w) X.A (letOwnedTupleGo tg (.ref it) u) (fun _ s2=>∃ x H',Inv X pins σ H' s2∧RelV x u∧J.yld i H x H'∧tn (i + 1) s2.heap∧∀ b ∈ fp,H' b=none) E s1) E s
 done:∀ (X:Cx),X.prog=P→X.w=w→X.K=K→X.calm=true→∀ (i:Nat) (pins:List (Addr × Obj)) (s:Shared) (σ:St) (H:Hp) (E:Value→Shared→Prop),Inv X pins σ H s→(∀ b ∈ fp,xY X pins H b)→tn i s.heap→J.stop i H →
  wpAny (model P w) X.A (pyNext (.ref it)) (fun r s1=>r=none∧Inv X pins σ H s1) E s
 self:∀ (A:Around) (i:Nat) (s:Shared) (Q:Value→Shared→Prop) (E:Value→Shared→Prop),tn i s.heap→Q (.ref it) s→wpAny (model P w) A (pyIter (.ref it)) Q E s
abbrev TI:=St→Hp→(It→Hp→Prop)→Prop
def PIE (X:Cx)(pins:List (Addr × Obj))(σ:St)(tg:Expr)(R:It→Hp→Prop)(itv:Value)(s2:Shared):Prop :=
 ∃ (it:Addr) (fp:List Addr) (tn:Nat→Heap→Prop) (J:It) (H':Hp),itv = .ref it∧Inv X pins σ H' s2∧Turn X.prog X.w X.K tg J fp it tn∧tn 0 s2.heap∧(∀ b ∈ fp,xY X pins H' b)∧R J H'
def PI (X:Cx)(tg iter:Expr)(wi:TI):Prop :=
 ∀ (pins:List (Addr × Obj)) (s:Shared) (σ:St) (H:Hp) (R:It→Hp→Prop),Inv X pins σ H s→wi σ H R →
  wpAny (model X.prog X.w) X.A (eval iter X.env) (fun v s1=>wpAny (model X.prog X.w) X.A (pyIter v) (PIE X pins σ tg R) X.xe s1) X.xe s
theorem o8 {M : Model}{A : Around}{E : Value → Shared → Prop}{s : Shared}{tg : Expr}{it : Addr}{u : Value}{o : Obj}{n : String}{vs : Array Value}{Q : Unit → Shared → Prop}(ho : s.heap.get? it = some o)(hc : o.cls = .type n)(hd : o.data = .fields vs)
    (hn : ["enumerate", "zip", "dict_itemiterator", "dict_reverseitemiterator", "odict_iterator", "itertools.zip_longest", "itertools.pairwise"].contains n = false) (hQ : Q () s) : wpAny M A (letOwnedTupleGo tg (.ref it) u) Q E s := by
  unfold letOwnedTupleGo
  cases tg <;> first
    | exact wpAny_pure hQ
    | (cases u <;> first
        | exact wpAny_pure hQ
        | (refine wpAny_bind (wpAny_load ho ?_)
           rw [hc, hd]
           show wpAny M A (if (["enumerate", "zip", "dict_itemiterator", "dict_reverseitemiterator", "odict_iterator", "itertools.zip_longest", "itertools.pairwise"].contains n && vs[0]? == some (rawInt _)) = true then _ else _) Q E s
           rw [Au (by intro h; rw [hn, BA] at h; cases h)]
           exact wpAny_pure hQ))
def Itl (K:PySem.W.Frag)(a:Addr):It :=
 ⟨fun i H=>∃ xs x,SqL K H a xs∧xs[i]? = some x,fun i H x H'=>H'=H∧∀ xs,SqL K H a xs→xs[i]? = some x,fun i H=>∃ xs,SqL K H a xs∧xs.length ≤ i⟩
def Itt (K:PySem.W.Frag)(a:Addr):It :=
 ⟨fun i H=>∃ xs x,SqT K H a xs∧xs[i]? = some x,fun i H x H'=>H'=H∧∀ xs,SqT K H a xs→xs[i]? = some x,fun i H=>∃ xs,SqT K H a xs∧xs.length ≤ i⟩
def Itr (lo:Int)(n:Nat):It:=⟨fun i _=>i < n,fun i H x H'=>H'=H∧x = .int (lo + i),fun i _=>n ≤ i⟩
theorem bV {P:Program}{w:World}{K:PySem.W.Frag}{tg:Expr}(a it:Addr):Turn P w K tg (Itl K a) [it] it (fun i h=>h.IsListIter it a i) where
 mem:=by simp
 obj:=fun i h st b hb=>by
  have e:b=it:=by simpa using hb
  subst e
  obtain ⟨o,e,c,d⟩:=st
  exact ⟨o,e,fun v z=>by rw [d] at z;cases z⟩
 keep:=fun i h h' st k=>st.at fun o e=>k it (by simp) o e
 item:=by
  intro X hP hw hK hc i pins s σ H E I hf st hg
  subst hP hw hK
  obtain ⟨xs,x,hq,hx⟩:=hg
  obtain ⟨its,rv,p,hz⟩:=I.list hq
  obtain ⟨u,hu,ru⟩:=rv.get hx
  obtain ⟨f0,f1,f2,f3,f4,f5⟩:=hf it (by simp)
  refine wpAny_pyNext_list_item st p.isList (x:=u) (by simpa using hu) fun h' st' sb=>?_
  have I1:Inv X pins σ H { s with heap:=h' }:=I.turned (t':=s.toks) (fun b o hb e=>(sb.2 b hb).trans e) f0 f1 f3 f4 f5
  obtain ⟨o,e,c,d⟩:=id st'
  exact ⟨u,rfl,o8 (s:={ s with heap:=h' }) e c d (by decide) ⟨x,H,I1,ru,⟨rfl,fun ys hy=>by rw [I.list_inj hy hq];exact hx⟩,st',fun b hb=>(hf b hb).1⟩⟩
 done:=by
  intro X hP hw hK hc i pins s σ H E I hf st hg
  subst hP hw hK
  obtain ⟨xs,hq,hx⟩:=hg
  obtain ⟨its,rv,p,hz⟩:=I.list hq
  obtain ⟨f0,f1,f2,f3,f4,f5⟩:=hf it (by simp)
  have hl:=rv.length
  exact wpAny_pyNext_list_end (I.ok.hd hc) st p.isList (by simp;omega) fun h' eb=>⟨rfl,I.turned (t':=s.toks) (fun b o hb e=>eb b o hb e) f0 f1 f3 f4 f5⟩
 self:=fun _ _ _ _ _ st h=>wpAny_pyIter_listiter st h
theorem fW {P:Program}{w:World}{K:PySem.W.Frag}{tg:Expr}(a it:Addr):Turn P w K tg (Itt K a) [it] it (fun i h=>h.IsTupleIter it a i) where
 mem:=by simp
 obj:=fun i h st b hb=>by
  have e:b=it:=by simpa using hb
  subst e
  obtain ⟨o,e,c,d⟩:=st
  exact ⟨o,e,fun v z=>by rw [d] at z;cases z⟩
 keep:=fun i h h' st k=>st.at fun o e=>k it (by simp) o e
 item:=by
  intro X hP hw hK hc i pins s σ H E I hf st hg
  subst hP hw hK
  obtain ⟨xs,x,hq,hx⟩:=hg
  obtain ⟨its,rv,p,hz⟩:=I.tuple hq
  obtain ⟨u,hu,ru⟩:=rv.get hx
  obtain ⟨f0,f1,f2,f3,f4,f5⟩:=hf it (by simp)
  refine wpAny_pyNext_tuple_item st (show s.heap.IsTuple a its.toArray from p) (x:=u) (by simpa using hu) fun h' st' sb=>?_
  have I1:Inv X pins σ H { s with heap:=h' }:=I.turned (t':=s.toks) (fun b o hb e=>(sb.2 b hb).trans e) f0 f1 f3 f4 f5
  obtain ⟨o,e,c,d⟩:=id st'
  exact ⟨u,rfl,o8 (s:={ s with heap:=h' }) e c d (by decide) ⟨x,H,I1,ru,⟨rfl,fun ys hy=>by rw [I.tuple_inj hy hq];exact hx⟩,st',fun b hb=>(hf b hb).1⟩⟩
 done:=by
  intro X hP hw hK hc i pins s σ H E I hf st hg
  subst hP hw hK
  obtain ⟨xs,hq,hx⟩:=hg
  obtain ⟨its,rv,p,hz⟩:=I.tuple hq
  obtain ⟨f0,f1,f2,f3,f4,f5⟩:=hf it (by simp)
  have hl:=rv.length
  exact wpAny_pyNext_tuple_end (I.ok.hd hc) st (show s.heap.IsTuple a its.toArray from p) (by simp;omega) fun h' eb=>⟨rfl,I.turned (t':=s.toks) (fun b o hb e=>eb b o hb e) f0 f1 f3 f4 f5⟩
 self:=fun _ _ _ _ _ st h=>wpAny_pyIter_tupleiter st h
theorem p0 {P:Program}{w:World}{K:PySem.W.Frag}{tg:Expr}(it:Addr)(lo:Int)(n:Nat):Turn P w K tg (Itr lo n) [it] it (fun i h=>IsRangeIter h it (lo + (i:Nat) * 1) ((n:Int) - (i:Nat)) 1) where
 mem:=by simp
 obj:=fun i h st b hb=>by
  have e:b=it:=by simpa using hb
  subst e
  exact ⟨_,st,fun v z=>by
   have z':Data.fields _=Data.cell v:=z
   cases z'⟩
 keep:=fun i h h' st k=>k it (by simp) _ st
 item:=by
  intro X hP hw hK hc i pins s σ H E I hf st hg
  subst hP hw hK
  obtain ⟨f0,f1,f2,f3,f4,f5⟩:=hf it (by simp)
  have W:=Walks.range (prog:=X.prog) (w:=X.w) (I.ok.hd hc) it lo 1 n
  refine W.item i s _ _ hg st fun v h' tk hv st' kk=>?_
  obtain ⟨t,rfl⟩:=hv
  have I1:Inv X pins σ H { s with heap:=h',toks:=tk }:=I.turned (fun b o hb e=>kk b o (by simpa using hb) e) f0 f1 f3 f4 f5
  refine ⟨_,rfl,o8 (s:={ s with heap:=h',toks:=tk }) (n := "range_iterator") st' rfl rfl (by decide) ⟨.int (lo + i),H,I1,⟨t,?_⟩,⟨rfl,rfl⟩,st',fun b hb=>(hf b hb).1⟩⟩
  rw [Int.mul_one]
 done:=by
  intro X hP hw hK hc i pins s σ H E I hf st hg
  subst hP hw hK
  obtain ⟨f0,f1,f2,f3,f4,f5⟩:=hf it (by simp)
  exact wpAny_pyNext_range_end (I.ok.hd hc) st (by have:n ≤ i:=hg;omega) fun h' eb=>⟨rfl,I.turned (t':=s.toks) (fun b o hb e=>eb b o hb e) f0 f1 f3 f4 f5⟩
 self:=fun _ _ _ _ _ st h=>wpAny_pyIter_rangeiter st h
end L2
namespace L2
open PySem PySem.Spec PyProof.Rows
section
variable {X:Cx}{tg:Expr}
theorem iR {pins:List (Addr × Obj)}{σ:St}{H:Hp}{s:Shared}{R:It→Hp→Prop}{E:Value→Shared→Prop}{lo hi:Int}{t u v:Tok}{tk:Nat}(I:Inv X pins σ H s)(h1 : -(2 ^ 62) ≤ lo)(h2:lo < 2 ^ 62)(h3 : -(2 ^ 62) ≤ hi)(h4:hi < 2 ^ 62)
  (q:R (Itr lo (hi - lo).toNat) H):wpAny (model X.prog X.w) X.A (pyIter (.ref s.heap.objs.size)) (PIE X pins σ tg R) E { s with heap:=s.heap.push { cls:=.type "range",data:=.fields #[.int lo t,.int hi u,.int 1 v] },toks:=tk }:=by
 refine wpAny_pyIter_range (IsRange.new ..) (small_one h1 h2 h3 h4) ?_
 have I1:Inv X pins σ H { s with heap:=s.heap.push { cls:=.type "range",data:=.fields #[.int lo t,.int hi u,.int 1 v] },toks:=tk }:=I.kept fun b o e=>Ac _ e
 refine ⟨(s.heap.push { cls:=.type "range",data:=.fields #[.int lo t,.int hi u,.int 1 v] }).objs.size,[(s.heap.push { cls:=.type "range",data:=.fields #[.int lo t,.int hi u,.int 1 v] }).objs.size],_,_,H,rfl,
  I1.kept (t':=tk) fun b o e=>Ac _ e,p0 _ lo (hi - lo).toNat,?_,fun b hb=>?_,q⟩
 ·have e1:lo + ((0:Nat):Int) * 1=lo:=by simp
  have e2:(((hi - lo).toNat:Nat):Int) - ((0:Nat):Int)=Builtin.Range.rangeSize lo hi 1:=by rw [rangeSize_one];split <;> omega
  show IsRangeIter _ _ (lo + ((0:Nat):Int) * 1) ((((hi - lo).toNat:Nat):Int) - ((0:Nat):Int)) 1
  rw [e1,e2]
  exact Ak _ rfl
 ·have e:b=(s.heap.push { cls:=.type "range",data:=.fields #[.int lo t,.int hi u,.int 1 v] }).objs.size:=by simpa using hb
  subst e
  exact I1.fpOk (Ad _) (I1.hok.fresh (Ad _))
def iRng1 (ta:TA):TI:=fun σ H R=>ta σ H fun vs H1=>∃ j:Int,vs=[.int j]∧-(2 ^ 62) ≤ j∧j < 2 ^ 62∧R (Itr 0 j.toNat) H1
def iRng2 (ta:TA):TI:=fun σ H R=>ta σ H fun vs H1=>∃ i j:Int,vs=[.int i,.int j]∧(-(2 ^ 62) ≤ i∧i < 2 ^ 62∧-(2 ^ 62) ≤ j∧j < 2 ^ 62)∧R (Itr i (j - i).toNat) H1
theorem kX {a:Expr}{ta:TA}{p pos:Pos}(hg:Gl X "range") (hm:X.mg "range" = none) (ha:PA X [a] ta) (hs:starEach [a] X.env=[(false,eval a X.env)]:=by rfl):PI X tg (.Call (.Name "range" p) [a] [] pos) (iRng1 ta):=by
 intro pins s σ H R I h
 refine Call_ (vH I hg hm boot_range (Be (jJ (ha pos pins s σ H _ I h) fun us s1 ⟨vs,H1,I1,r1,q1⟩=>?_) hs rfl))
 obtain ⟨j,e,q1,q2,q⟩:=q1
 subst e
 cases r1 with
 | cons r rr =>
  cases rr
  obtain ⟨t,rfl⟩:=r
  exact call_range_1 (iR I1 (by omega) (by omega) q1 q2 (by simpa using q))
def tFor (wi:TI)(g:TG)(tb:TS):TS:=fun D σ H=>wi σ H fun J H1=>∃ W:Nat→Nat→St→Hp→Prop,(∃ m,W 0 m σ H1)∧∀ i m σ H,W i m σ H →
 (J.stop i H∧D.nx σ H)∨(J.go i H∧∃ N:St→Hp→Prop,(∀ σ' H',N σ' H'→∃ m',m' < m∧W (i + 1) m' σ' H')∧∀ x H',J.yld i H x H'→g x σ H' fun σ2 H2=>tb { D with nx:=N,ct:=N,bk:=D.nx } σ2 H2)
def wQ (fp:List Addr)(h:Heap):List (Addr × Obj):=fp.filterMap fun b=>(h.get? b).map fun o=>(b,o)
theorem yR {fp:List Addr}{h:Heap}{b:Addr}{o:Obj}(hb:b ∈ fp)(e:h.get? b=some o):(b,o) ∈ wQ fp h:=List.mem_filterMap.mpr ⟨b,hb,by rw [e];rfl⟩
theorem aF {fp:List Addr}{h:Heap}{p:Addr × Obj}(hp:p ∈ wQ fp h):p.1 ∈ fp∧h.get? p.1=some p.2:=by
 obtain ⟨b,hb,e⟩:=List.mem_filterMap.mp hp
 cases q:h.get? b with
 | none=>rw [q] at e;cases e
 | some o =>
  rw [q] at e
  have e':(b,o)=p:=A8 e
  subst e'
  exact ⟨hb,q⟩
theorem Inv.pinned {pins:List (Addr × Obj)}{σ:St}{H:Hp}{s:Shared}{fp:List Addr}(I:Inv X pins σ H s)(hf:∀ b ∈ fp,xY X pins H b)(ho:∀ b ∈ fp,∃ o,s.heap.get? b=some o∧∀ v,o.data ≠ .cell v):Inv X (pins ++ wQ fp s.heap) σ H s :=
 I.pins_of fun p hp=>(A4.mp hp).elim (fun z=>I.pin p (A9 _ z)) fun z=>by
  obtain ⟨hb,e⟩:=aF z
  obtain ⟨f0,f1,f2,_⟩:=hf p.1 hb
  obtain ⟨o,e',d⟩:=ho p.1 hb
  rw [e] at e';cases e'
  exact ⟨e,f0,f1,f2,d⟩
theorem Inv.unpinned {pins pl:List (Addr × Obj)}{σ:St}{H:Hp}{s:Shared}(I:Inv X (pins ++ pl) σ H s):Inv X pins σ H s:=I.pins_of fun p hp=>I.pin p (A9 _ (Bn _ hp))
theorem jO {iter:Expr}{body:List Stmt}{wi:TI}{g:TG}{tb:TS}{pos:Pos}(hp:PassesOwn (model X.prog X.w) X.A X.env X.xe)(hc:X.calm=true)(hi:PI X tg iter wi)(hg:PG X tg g)(hb:PSs X body tb)
  (hs:∀ x,foldedSetIterable iter X.env x=pure x:=by intro _;rfl):PS X (.For tg iter body [] pos) (tFor wi g tb):=by
 intro pins s σ H D I h
 refine wpAny_For (jJ (hi pins s σ H _ I h) fun v s1 h1=>jJ h1 fun itv s2 h2=>?_) hs
 obtain ⟨it,fp,tn,J,H2,e,I2,T,st2,f2,W,⟨m0,w0⟩,turn⟩:=h2
 subst e
 have stat:∀ {H':Hp},(∀ b ∈ fp,H' b=none)→∀ b ∈ fp,xY X pins H' b:=fun hn b hb=>⟨hn b hb,(f2 b hb).2⟩
 refine codeAny_forLoop_any (fun n s'=>∃ i σ' H',Inv X pins σ' H' s'∧tn i s'.heap∧(∀ b ∈ fp,H' b=none)∧W i n σ' H') ?_ m0 ⟨0,σ,H2,I2,st2,fun b hb=>(f2 b hb).1,w0⟩
 rintro n s3 ⟨i,σ3,H3,I3,st3,fr3,w3⟩
 rcases turn i n σ3 H3 w3 with ⟨stop,qn⟩ | ⟨go,N,hN,step⟩
 ·refine wpAny_passesOwn hp (jJ (T.done X rfl rfl rfl hc i pins s3 σ3 H3 X.xe I3 (stat fr3) st3 stop) fun r s4 ⟨hr,I4⟩=>?_)
  subst hr
  exact wpAny_execs_nil ⟨σ3,H3,I4,qn⟩
 ·refine wpAny_passesOwn hp (jJ (T.item X rfl rfl rfl hc i pins s3 σ3 H3 X.xe I3 (stat fr3) st3 go) fun r s4 ⟨u,hr,h4⟩=>?_)
  subst hr
  refine wpAny_passesOwn hp (jJ h4 fun _ s5 ⟨x,H5,I5,r5,y5,st5,fr5⟩=>?_)
  have I5':=I5.pinned (stat fr5) (T.obj _ _ st5)
  refine wpAny_passesOwn hp (jJ (hg _ s5 σ3 H5 x u _ I5' r5 (step x H5 y5)) fun _ s6 ⟨σ6,H6,I6,q6⟩=>?_)
  refine wpAny_passesOwn hp (jJ (hb _ s6 σ6 H6 _ I6 q6) fun f s7 q7=>?_)
  have again:∀ {σ7:St} {H7:Hp},Inv X (pins ++ wQ fp s5.heap) σ7 H7 s7→N σ7 H7→∃ m,m < n∧∃ i σ' H',Inv X pins σ' H' s7∧tn i s7.heap∧(∀ b ∈ fp,H' b=none)∧W i m σ' H':=fun {σ7 H7} I7 n7=>by
   obtain ⟨m',hm,w7⟩:=hN σ7 H7 n7
   refine ⟨m',hm,i + 1,σ7,H7,I7.unpinned,T.keep _ _ _ st5 fun b hb o e=>(I7.pin (b,o) (A9 _ (A9 _ (yR hb e)))).1,fun b hb=>?_,w7⟩
   obtain ⟨o,e,d⟩:=T.obj _ _ st5 b hb
   exact (I7.pin (b,o) (A9 _ (A9 _ (yR hb e)))).2.1
  cases f with
  | next=>obtain ⟨σ7,H7,I7,n7⟩:=q7;exact again I7 n7
  | cont=>obtain ⟨σ7,H7,I7,n7⟩:=q7;exact again I7 n7
  | brk=>obtain ⟨σ7,H7,I7,q7⟩:=q7;exact ⟨σ7,H7,I7.unpinned,q7⟩
  | ret v=>obtain ⟨x7,σ7,H7,I7,r7,q7⟩:=q7;exact ⟨x7,σ7,H7,I7.unpinned,r7,q7⟩
end
theorem aV {lo:Int}{n:Nat}{g:TG}{tb:TS}{D:Ends}{σ:St}{H:Hp}(Pv:Nat→St→Hp→Prop)(h0:Pv 0 σ H)
  (hs:∀ i σ H,i < n→Pv i σ H→g (.int (lo + i)) σ H fun σ2 H2=>tb { D with nx:=Pv (i + 1),ct:=Pv (i + 1),bk:=D.nx } σ2 H2) (hd:∀ σ H,Pv n σ H→D.nx σ H) :
  ∃ W:Nat→Nat→St→Hp→Prop,(∃ m,W 0 m σ H)∧∀ i m σ H,W i m σ H →
   ((Itr lo n).stop i H∧D.nx σ H)∨((Itr lo n).go i H∧∃ N:St→Hp→Prop,(∀ σ' H',N σ' H'→∃ m',m' < m∧W (i + 1) m' σ' H')∧∀ x H',(Itr lo n).yld i H x H'→g x σ H' fun σ2 H2=>tb { D with nx:=N,ct:=N,bk:=D.nx } σ2 H2):=by
 refine ⟨fun i m σ H=>m=n - i∧i ≤ n∧Pv i σ H,⟨n,by simp,Bb _,h0⟩,?_⟩
 rintro i m σ H ⟨rfl,hi,p⟩
 by_cases hlt:i < n
 ·refine .inr ⟨hlt,Pv (i + 1),fun σ' H' p'=>⟨n - (i + 1),by omega,rfl,hlt,p'⟩,fun x H' y=>?_⟩
  obtain ⟨e,y⟩:=y
  subst e y
  exact hs i σ _ hlt p
 ·have e:i=n:=by omega
  subst e
  exact .inl ⟨Ad _,hd σ H p⟩
end L2
namespace L2
open PySem PySem.Spec PyProof.Rows
abbrev R2:=V→V→Hp→VK→Prop
def xD (X:Cx)(f:Value→Value→Sem Value)(r:R2):Prop :=
 ∀ (pins:List (Addr × Obj)) (s:Shared) (σ:St) (H:Hp) (x y:V) (v u:Value) (Q:VK),Inv X pins σ H s→RelV x v→RelV y u→r x y H Q →
  wpAny (model X.prog X.w) X.A (f v u) (EP X pins σ Q) X.xe s
def UnR (X:Cx)(f:Value→Sem Value)(r:V→Hp→VK→Prop):Prop :=
 ∀ (pins:List (Addr × Obj)) (s:Shared) (σ:St) (H:Hp) (x:V) (v:Value) (Q:VK),Inv X pins σ H s→RelV x v→r x H Q →
  wpAny (model X.prog X.w) X.A (f v) (EP X pins σ Q) X.xe s
def j7 (X:Cx)(f:Value)(r:List V→Hp→VK→Prop):Prop :=
 ∀ (pins:List (Addr × Obj)) (s:Shared) (σ:St) (H:Hp) (xs:List V) (us:List Value) (Q:VK),Inv X pins σ H s→Vals xs us→r xs H Q →
  wpAny (model X.prog X.w) X.A (call f us) (EP X pins σ Q) X.xe s
def tOp (r:R2)(ta tb:TE):TE:=fun σ H Q=>ta σ H fun x H1=>tb σ H1 fun y H2=>r x y H2 Q
def tUn (r:V→Hp→VK→Prop)(ta:TE):TE:=fun σ H Q=>ta σ H fun x H1=>r x H1 Q
def rI (C:Int→Int→Prop)(g:Int→Int→V):R2:=fun x y H Q=>∃ i j,x = .int i∧y = .int j∧C i j∧Q (g i j) H
def eF (g:Int→Int→V):R2:=fun x y H Q=>∃ i j,x = .int i∧y = .int j∧Q (g i j) H
def rU (g:Int→V):V→Hp→VK→Prop:=fun x H Q=>∃ i,x = .int i∧Q (g i) H
section
variable {X:Cx}{a b c:Expr}{ta tb tc:TE}{pos:Pos}
theorem binT (ha:PE X a ta)(hb:PE X b tb){pins:List (Addr × Obj)}{s:Shared}{σ:St}{H:Hp}{R:V→V→Hp→Prop}(I:Inv X pins σ H s)
  (h:ta σ H fun x H1=>tb σ H1 fun y H2=>R x y H2) {Q:Value→Shared→Prop} {f:Value→Value→Sem Value}
  (hf:∀ v u s2 x y H2,Inv X pins σ H2 s2→RelV x v→RelV y u→R x y H2→wpAny (model X.prog X.w) X.A (f v u) Q X.xe s2) :
  wpAny (model X.prog X.w) X.A (eval a X.env) (fun v s₁=>wpAny (model X.prog X.w) X.A (eval b X.env) (fun u s₂=>wpAny (model X.prog X.w) X.A (f v u) Q X.xe s₂) X.xe s₁) X.xe s:=by
 refine jJ (ha pins s σ H _ I h) fun v s1 ⟨x,H1,I1,r1,q1⟩=>?_
 refine jJ (hb pins s1 σ H1 _ I1 q1) fun u s2 ⟨y,H2,I2,r2,q2⟩=>?_
 exact hf v u s2 x y H2 I2 r1 r2 q2
theorem qV {op:Operator}{r:R2}(ho:xD X (binaryOp op) r)(ha:PE X a ta)(hb:PE X b tb):PE X (.BinOp a op b pos) (tOp r ta tb):=by
 intro pins s σ H Q I h
 exact wpAny_BinOp (binT ha hb I h fun v u s2 x y H2 I2 rx ry q=>ho pins s2 σ H2 x y v u Q I2 rx ry q)
theorem tJ {op:UnaryOp}{r:V→Hp→VK→Prop}(ho:UnR X (unaryOp op) r)(ha:PE X a ta):PE X (.UnaryOp op a pos) (tUn r ta):=by
 intro pins s σ H Q I h
 exact UnaryOp_ (jJ (ha pins s σ H _ I h) fun v s1 ⟨x,H1,I1,r1,q1⟩=>ho pins s1 σ H1 x v Q I1 r1 q1)
theorem opI {f:Value→Value→Sem Value}{C:Int→Int→Prop}{g:Int→Int→Int}
  (rule:∀ (i j:Int) (t u:Tok) (s:Shared) (Q:Value→Shared→Prop) (E:Value→Shared→Prop),C i j→Q (.int (g i j) s.toks) { s with toks:=s.toks + 1 }→wpAny (model X.prog X.w) X.A (f (.int i t) (.int j u)) Q E s) :
  xD X f (rI C fun i j=>.int (g i j)):=by
 intro pins s σ H x y v u Q I rx ry h
 obtain ⟨i,j,rfl,rfl,hc,q⟩:=h
 obtain ⟨t,rfl⟩:=rx
 obtain ⟨t',rfl⟩:=ry
 exact rule i j t t' s _ _ hc ⟨.int (g i j),H,I.tok _,⟨_,rfl⟩,q⟩
theorem oB {f:Value→Value→Sem Value}{g:Int→Int→Int}
  (rule:∀ (i j:Int) (t u:Tok) (s:Shared) (Q:Value→Shared→Prop) (E:Value→Shared→Prop),Q (.int (g i j) s.toks) { s with toks:=s.toks + 1 }→wpAny (model X.prog X.w) X.A (f (.int i t) (.int j u)) Q E s) :
  xD X f (eF fun i j=>.int (g i j)):=by
 intro pins s σ H x y v u Q I rx ry h
 obtain ⟨i,j,rfl,rfl,q⟩:=h
 obtain ⟨t,rfl⟩:=rx
 obtain ⟨t',rfl⟩:=ry
 exact rule i j t t' s _ _ ⟨.int (g i j),H,I.tok _,⟨_,rfl⟩,q⟩
theorem opB0 {f:Value→Value→Sem Value}{g:Int→Int→Bool}
  (rule:∀ (i j:Int) (t u:Tok) (s:Shared) (Q:Value→Shared→Prop) (E:Value→Shared→Prop),Q (.bool (g i j)) s→wpAny (model X.prog X.w) X.A (f (.int i t) (.int j u)) Q E s) :
  xD X f (eF fun i j=>.bl (g i j)):=by
 intro pins s σ H x y v u Q I rx ry h
 obtain ⟨i,j,rfl,rfl,q⟩:=h
 obtain ⟨t,rfl⟩:=rx
 obtain ⟨t',rfl⟩:=ry
 exact rule i j t t' s _ _ ⟨.bl (g i j),H,I,rfl,q⟩
def CDiv (i j:Int):Prop:=0 < j∧j < 1073741824
def CPow (i j:Int):Prop:=0 ≤ j∧j ≤ 1000000∧i.natAbs < 2 ^ 64
def CMul (i j:Int):Prop:=(-(2 ^ 64) < i∧i < 2 ^ 64)∨(-(2 ^ 64) < j∧j < 2 ^ 64)
theorem CMul.ok {i j:Int}(h:CMul i j):IntMulOk i j:=by
 rcases h with ⟨h1,h2⟩ | ⟨h1,h2⟩
 ·exact .of_left (intBits_le_64 h1 h2)
 ·exact .of_right (intBits_le_64 h1 h2)
theorem pZ (k:Nat):(0:Int) ≤ 2 ^ k:=by
 rw [two_pow_cast]
 exact Int.natCast_nonneg _
theorem kR:xD X (binaryOp .Add) (eF fun i j=>.int (i + j)):=oB fun _ _ _ _ _ _ _ q=>add_int q
theorem dY:xD X (binaryOp .Sub) (eF fun i j=>.int (i - j)):=oB fun _ _ _ _ _ _ _ q=>sub_int q
theorem gG:xD X (binaryOp .Mult) (rI CMul fun i j=>.int (i * j)):=opI fun _ _ _ _ _ _ _ hc q=>mul_int q hc.ok
theorem vP:xD X (binaryOp .FloorDiv) (rI CDiv fun i j=>.int (i / j)):=opI fun i j _ _ _ _ _ hc q=>by
 have h1:(0:Int) < j:=hc.1
 have h2:j < 1073741824:=hc.2
 exact floordiv_int (by omega) (by rw [Int.fdiv_eq_ediv_of_nonneg i (by omega)];exact q) (.inl (PyProof.noPylong_small (by omega)))
theorem yO:xD X (binaryOp .Mod) (rI (fun _ j=>0 < j) fun i j=>.int (i % j)):=opI fun i j _ _ _ _ _ hc q=>by
 have h1:(0:Int) < j:=hc
 exact mod_int' (by omega) (by rw [Int.fmod_eq_emod_of_nonneg i (by omega)];exact q)
theorem mZ:xD X (binaryOp .Pow) (rI CPow fun i j=>.int (i ^ j.toNat)):=opI fun _ _ _ _ _ _ _ hc q=>pow_int_small hc.1 hc.2.1 hc.2.2 q
theorem rP:xD X (binaryOp .LShift) (rI CPow fun i j=>.int (i * 2 ^ j.toNat)):=opI fun _ _ _ _ _ _ _ hc q=>lshift_int_small hc.1 hc.2.1 hc.2.2 q
theorem i9:xD X (binaryOp .RShift) (rI (fun _ j=>0 ≤ j) fun i j=>.int (i / 2 ^ j.toNat)):=opI fun i j _ _ _ _ _ hc q =>
 rshift_int hc (by rw [Int.fdiv_eq_ediv_of_nonneg i (pZ _)];exact q)
theorem nB:xD X (binaryOp .BitAnd) (eF fun i j=>.int (Builtin.bitAnd i j)):=oB fun _ _ _ _ _ _ _ q=>and_int q
theorem op_or:xD X (binaryOp .BitOr) (eF fun i j=>.int (Builtin.bitOr i j)):=oB fun _ _ _ _ _ _ _ q=>or_int q
theorem op_xor:xD X (binaryOp .BitXor) (eF fun i j=>.int (Builtin.bitXor i j)):=oB fun _ _ _ _ _ _ _ q=>xor_int q
theorem unI {f:Value→Sem Value}{g:Int→Int}
  (rule:∀ (i:Int) (t:Tok) (s:Shared) (Q:Value→Shared→Prop) (E:Value→Shared→Prop),Q (.int (g i) s.toks) { s with toks:=s.toks + 1 }→wpAny (model X.prog X.w) X.A (f (.int i t)) Q E s) :
  UnR X f (rU fun i=>.int (g i)):=by
 intro pins s σ H x v Q I rx h
 obtain ⟨i,rfl,q⟩:=h
 obtain ⟨t,rfl⟩:=rx
 exact rule i t s _ _ ⟨.int (g i),H,I.tok _,⟨_,rfl⟩,q⟩
theorem mL:UnR X (unaryOp .USub) (rU fun i=>.int (-i)):=unI fun _ _ _ _ _ q=>neg_int q
end
def z9:V→V→Bool
 | .non,.non=>true | .non,.int _=>true | .int _,.non=>true | .non,.bl _=>true | .bl _,.non=>true | .non,.str _=>true | .str _,.non=>true
 | .int _,.int _=>true | .bl _,.bl _=>true | .str _,.str _=>true | .byt _,.byt _=>true
 | .int _,.str _=>true | .str _,.int _=>true | .bl _,.str _=>true | .str _,.bl _=>true
 | _,_=>false
def rEq:R2:=fun x y H Q=>z9 x y=true∧Q (.bl (decide (x=y))) H
def rNe:R2:=fun x y H Q=>z9 x y=true∧Q (.bl (!decide (x=y))) H
theorem uC {i j:Int}:decide (V.int i=V.int j)=(i == j):=by
 rw [Bl]
 simp
theorem dec_bl {i j:Bool}:decide (V.bl i=V.bl j)=(i == j):=by
 rw [Bl]
 simp
theorem uB {i j:Str}:decide (V.str i=V.str j)=(i == j):=by
 rw [Bl]
 simp
theorem uD {i j:Array UInt8}:decide (V.byt i=V.byt j)=(i.toList == j.toList):=by
 rw [Bl]
 cases i
 cases j
 simp
section
variable {X:Cx}{a b c:Expr}{ta tb tc:TE}{pos:Pos}
theorem kF {pins:List (Addr × Obj)}{σ:St}{H:Hp}{s:Shared}{Q:VK}{k k':Bool}(I:Inv X pins σ H s)(q:Q (.bl k) H)(e:k=k'):EP X pins σ Q (.bool k') s:=by
 subst e
 exact ⟨.bl k,H,I,rfl,q⟩
theorem j0:xD X (compareOp .Eq) rEq:=by
 intro pins s σ H x y v u Q I rx ry h
 obtain ⟨hs,q⟩:=h
 cases x with
 | non =>
  cases rx
  cases y with
  | non=>cases ry;exact PySem.EqNone.eq_none_none (kF I q (by simp))
  | bl j=>cases ry;exact PySem.EqNone.eq_none_bool (kF I q (by simp))
  | int j=>obtain ⟨t',rfl⟩:=ry;exact PySem.EqNone.eq_none_int (kF I q (by simp))
  | str j=>obtain ⟨t',rfl⟩:=ry;exact PySem.EqNone.eq_none_str (kF I q (by simp))
  | _=>exact absurd (show false=true from hs) Ao
 | bl i =>
  cases rx
  cases y with
  | non=>cases ry;exact PySem.EqNone.eq_bool_none (kF I q (by simp))
  | bl j=>cases ry;exact eq_bool (kF I q dec_bl)
  | str j=>obtain ⟨t',rfl⟩:=ry;exact PySem.EqMixed.eq_bool_str (kF I q (by simp))
  | _=>exact absurd (show false=true from hs) Ao
 | int i =>
  obtain ⟨t,rfl⟩:=rx
  cases y with
  | non=>cases ry;exact PySem.EqNone.eq_int_none (kF I q (by simp))
  | int j=>obtain ⟨t',rfl⟩:=ry;exact eq_int (kF I q uC)
  | str j=>obtain ⟨t',rfl⟩:=ry;exact PySem.EqMixed.eq_int_str (kF I q (by simp))
  | _=>exact absurd (show false=true from hs) Ao
 | str i =>
  obtain ⟨t,rfl⟩:=rx
  cases y with
  | non=>cases ry;exact PySem.EqNone.eq_str_none (kF I q (by simp))
  | bl j=>cases ry;exact PySem.EqMixed.eq_str_bool (kF I q (by simp))
  | int j=>obtain ⟨t',rfl⟩:=ry;exact PySem.EqMixed.eq_str_int (kF I q (by simp))
  | str j=>obtain ⟨t',rfl⟩:=ry;exact eq_str (kF I q uB)
  | _=>exact absurd (show false=true from hs) Ao
 | byt i =>
  obtain ⟨t,rfl⟩:=rx
  cases y with
  | byt j=>obtain ⟨t',rfl⟩:=ry;exact PySem.W.eq_bytes (kF I q uD)
  | _=>exact absurd (show false=true from hs) Ao
 | _=>cases y <;> exact absurd (show false=true from hs) Ao
theorem tM:xD X (compareOp .NotEq) rNe:=by
 intro pins s σ H x y v u Q I rx ry h
 obtain ⟨hs,q⟩:=h
 cases x with
 | non =>
  cases rx
  cases y with
  | non=>cases ry;exact PySem.EqNone.ne_none_none (kF I q (by simp))
  | bl j=>cases ry;exact PySem.EqNone.ne_none_bool (kF I q (by simp))
  | int j=>obtain ⟨t',rfl⟩:=ry;exact PySem.EqNone.ne_none_int (kF I q (by simp))
  | str j=>obtain ⟨t',rfl⟩:=ry;exact PySem.EqNone.ne_none_str (kF I q (by simp))
  | _=>exact absurd (show false=true from hs) Ao
 | bl i =>
  cases rx
  cases y with
  | non=>cases ry;exact PySem.EqNone.ne_bool_none (kF I q (by simp))
  | bl j=>cases ry;exact ne_bool (kF I q (AW not dec_bl))
  | str j=>obtain ⟨t',rfl⟩:=ry;exact PySem.EqMixed.ne_bool_str (kF I q (by simp))
  | _=>exact absurd (show false=true from hs) Ao
 | int i =>
  obtain ⟨t,rfl⟩:=rx
  cases y with
  | non=>cases ry;exact PySem.EqNone.ne_int_none (kF I q (by simp))
  | int j=>obtain ⟨t',rfl⟩:=ry;exact ne_int (kF I q (AW not uC))
  | str j=>obtain ⟨t',rfl⟩:=ry;exact PySem.EqMixed.ne_int_str (kF I q (by simp))
  | _=>exact absurd (show false=true from hs) Ao
 | str i =>
  obtain ⟨t,rfl⟩:=rx
  cases y with
  | non=>cases ry;exact PySem.EqNone.ne_str_none (kF I q (by simp))
  | bl j=>cases ry;exact PySem.EqMixed.ne_str_bool (kF I q (by simp))
  | int j=>obtain ⟨t',rfl⟩:=ry;exact PySem.EqMixed.ne_str_int (kF I q (by simp))
  | str j=>obtain ⟨t',rfl⟩:=ry;exact ne_str (kF I q (AW not uB))
  | _=>exact absurd (show false=true from hs) Ao
 | byt i =>
  obtain ⟨t,rfl⟩:=rx
  cases y with
  | byt j=>obtain ⟨t',rfl⟩:=ry;exact PySem.W.ne_bytes (kF I q (AW not uD))
  | _=>exact absurd (show false=true from hs) Ao
 | _=>cases y <;> exact absurd (show false=true from hs) Ao
theorem op_lt:xD X (compareOp .Lt) (eF fun i j=>.bl (decide (i < j))):=opB0 fun _ _ _ _ _ _ _ q=>lt_int q
theorem lO:xD X (compareOp .Gt) (eF fun i j=>.bl (decide (j < i))):=opB0 fun _ _ _ _ _ _ _ q=>gt_int q
theorem op_ge:xD X (compareOp .GtE) (eF fun i j=>.bl (decide (j ≤ i))):=opB0 fun _ _ _ _ _ _ _ q=>ge_int q
theorem oA:xD X (compareOp .Is) (fun x y H Q=>y = .non∧Q (.bl (decide (x = .non))) H):=by
 intro pins s σ H x y v u Q I rx ry h
 obtain ⟨rfl,q⟩:=h
 cases ry
 refine is_none_gen (kF I q ?_)
 cases x <;> first
  | (cases rx;rfl)
  | (obtain ⟨t,rfl⟩:=rx;rfl)
theorem nA:xD X (compareOp .IsNot) (fun x y H Q=>y = .non∧Q (.bl (!decide (x = .non))) H):=by
 intro pins s σ H x y v u Q I rx ry h
 obtain ⟨rfl,q⟩:=h
 cases ry
 refine isnot_none_gen (kF I q ?_)
 cases x <;> first
  | (cases rx;rfl)
  | (obtain ⟨t,rfl⟩:=rx;rfl)
theorem qZ (b:Expr){op:CmpOp}(h:op ≠ .In:=by decide)(h2:op ≠ .NotIn:=by decide):behindInMarks op b=false:=by
 have e1:(op == CmpOp.In)=false:=by cases op <;> first | rfl | exact absurd rfl h
 have e2:(op == CmpOp.NotIn)=false:=by cases op <;> first | rfl | exact absurd rfl h2
 cases b <;> simp [behindInMarks,e1,e2]
theorem jU {op:CmpOp}{r:R2}(ho:xD X (compareOp op) r)(ha:PE X a ta)(hb:PE X b tb)(hm:behindInMarks op b=false):PE X (.Compare a [op] [b] pos) (tOp r ta tb):=by
 intro pins s σ H Q I h
 exact wpAny_Compare1 (binT ha hb I h fun v u s2 x y H2 I2 rx ry q=>ho pins s2 σ H2 x y v u Q I2 rx ry q) hm
def tTest (t:TE):TT:=fun σ H Q=>t σ H fun x H'=>∃ k,x = .bl k∧Q k H'
theorem q5 {op:CmpOp}{r:R2}(ho:xD X (compareOp op) r)(ha:PE X a ta)(hb:PE X b tb)(hm:behindInMarks op b=false):PT X (.Compare a [op] [b] pos) (tTest (tOp r ta tb)):=by
 intro pins s σ H Q I h
 refine wpAny_isTrue_Compare1 (jJ (ha pins s σ H _ I h) fun v s1 ⟨x,H1,I1,r1,q1⟩=>jJ (hb pins s1 σ H1 _ I1 q1) fun u s2 ⟨y,H2,I2,r2,q2⟩ =>
  jJ (ho pins s2 σ H2 x y v u _ I2 r1 r2 q2) fun c s3 ⟨z,H3,I3,r3,k,e,q3⟩=>?_) hm
 subst e
 cases r3
 exact wpAny_truthy_bool ⟨H3,I3,q3⟩
def tChain (r r':R2)(ta tb tc:TE):TE:=fun σ H Q=>ta σ H fun x H1=>tb σ H1 fun y H2=>r x y H2 fun z H3=>∃ k,z = .bl k ∧
 (if k=true then tc σ H3 fun w' H4=>r' y w' H4 Q else Q (.bl false) H3)
theorem nC:(sizeLine:Nat) < 2 ^ 63:=by rw [sizeLine_eq];decide
theorem vals1 {x:V}{us:List Value}(r:Vals [x] us):∃ u,us=[u]∧RelV x u:=by
 cases r with
 | cons r1 r2=>cases r2;exact ⟨_,rfl,r1⟩
theorem vals2 {x y:V}{us:List Value}(r:Vals [x,y] us):∃ u w',us=[u,w']∧RelV x u∧RelV y w':=by
 cases r with
 | cons r1 r2 =>
  cases r2 with
  | cons r3 r4=>cases r4;exact ⟨_,_,rfl,r1,r3⟩
theorem pT:j7 X (.builtin "abs") (fun xs H Q=>∃ i,xs=[.int i]∧Q (.int (if i < 0 then -i else i)) H):=by
 intro pins s σ H xs us Q I r h
 obtain ⟨i,rfl,q⟩:=h
 obtain ⟨u,rfl,t,rfl⟩:=vals1 r
 exact call_abs_int fun u tk=>⟨.int (if i < 0 then -i else i),H,I.tok _,⟨_,rfl⟩,q⟩
theorem mC (hc:X.calm=true):j7 X (.builtin "max") (fun xs H Q=>∃ i j,xs=[.int i,.int j]∧Q (.int (if j > i then j else i)) H):=by
 intro pins s σ H xs us Q I r h
 obtain ⟨i,j,rfl,q⟩:=h
 obtain ⟨u,w',rfl,⟨t,rfl⟩,⟨t',rfl⟩⟩:=vals2 r
 refine max_two_ints (I.ok.hd hc) fun h' tk k=>⟨_,H,I.kept k,?_,q⟩
 by_cases hj:j > i
 ·rw [As hj,As hj];exact ⟨_,rfl⟩
 ·rw [Au hj,Au hj];exact ⟨_,rfl⟩
end
end L2
namespace L2
open PySem PySem.Spec PyProof.Rows
structure ObjM (h:Heap)(x dx C:Addr)(mA:Str→Option Value):Prop where
 obj:h.get? x=some (PySem.W.instObj C dx)
 ns:h.Ns1 dx mA
 ne:dx ≠ x
theorem aK {h:Heap}{dx:Addr}{mA:Str→Option Value}(n:h.Ns1 dx mA):∃ od,h.get? dx=some od∧∀ name,PySem.W.lookIn name od=some (mA name):=by
 obtain ⟨o,es,ep,ho,hd,hk,_,hm⟩:=n
 refine ⟨o,ho,fun name=>?_⟩
 have e:=hm name
 unfold nsFind findBy at e
 rw [← Array.find?_toList] at e
 unfold PySem.W.lookIn
 rw [hd]
 dsimp only
 split
 ·rename_i y q
  rw [q] at e
  exact AW some e
 ·rename_i q
  rw [q] at e
  have a:es.toList.any (·.refKey)=false:=by
   rw [List.any_eq_false]
   intro y hy
   obtain ⟨z,t,hkey⟩:=hk y (Array.mem_toList_iff.mp hy)
   simp [DictEntry.refKey,hkey]
  have a':¬ es.toList.any (·.refKey)=true:=by rw [a];exact Ao
  rw [Au a']
  exact AW some e
theorem ObjM.look {h:Heap}{x dx C:Addr}{mA:Str→Option Value}(I:ObjM h x dx C mA):∃ od,PySem.W.InstAt h x (PySem.W.instObj C dx) C (some od)∧∀ name,PySem.W.lookIn name od=some (mA name) :=
 let ⟨od,ho,hl⟩:=aK I.ns
 ⟨od,⟨I.obj,rfl,rfl,ho⟩,hl⟩
section
variable {prog:Program}{w:World}{A:Around}{E:Value→Shared→Prop}{s:Shared}{K:PySem.W.Frag}{x dx C f:Addr}{mA:Str→Option Value}{name:Str}{v:Value}
end
section
variable {P:Program}{w:World}{H H':Hp}{h h':Heap}{a C dx:Addr}{fs fs':List (Str × V)}
theorem ins_get (hok:HOk P w H h)(e:H a=some (.ins C dx fs)):∃ mA,ObjM h a dx C mA∧(∀ f,RelO (fs.lookup f) (mA f))∧PySem.Within mA (fs.map (·.1))∧fs.length ≤ 1000∧H dx=some (.own a):=by
 obtain ⟨d,z,ne,ob,mA,n,r,q⟩:=(show ObjOk P w H h a (.ins C dx fs) from hok a _ e)
 exact ⟨mA,⟨ob,n,ne⟩,r,q,z,d⟩
end
structure Cls (K:PySem.W.Frag)(C:Addr):Prop where
 pg:PySem.W.plainGet K C Str.empty=true
 hd:PySem.W.hasDictIn K C=true
 po:PySem.W.plainOver K C=true
 sa:PySem.W.findIn K (.ref C) "__setattr__" = some (some (.builtin "object.__setattr__"))
theorem Cls.get {K:PySem.W.Frag}{C:Addr}(c:Cls K C)(f:Str):PySem.W.plainGet K C f=true:=c.pg
structure Con (K:PySem.W.Frag)(C:Addr)(f:Str)(v:V)(u:Value):Prop where
 at_:PySem.W.findIn K (.ref C) f=some (some u)
 rel:RelV v u
 get:PySem.W.specialIn K u "__get__" = some none
 cp:PySem.W.copiedNames.contains f=false
structure Meth (K:PySem.W.Frag)(C:Addr)(m:Str)(f:Addr):Prop where
 at_:PySem.W.findIn K (.ref C) m=some (some (.ref f))
 fn:PySem.W.isFn K (.ref f)=true
 kp:PySem.W.keepIn K (.ref f)=true
section
variable {X:Cx}{pins:List (Addr × Obj)}{σ:St}{H:Hp}{s:Shared}{a C dx:Addr}{fs:List (Str × V)}{f:Str}{v:V}{A:Around}{E:Value→Shared→Prop}
theorem Inv.made (I:Inv X pins σ H s):Inv X pins σ (upd (upd H s.heap.objs.size (.own (s.heap.objs.size + 1))) (s.heap.objs.size + 1) (.ins C s.heap.objs.size []))
  { s with heap:=(s.heap.push PySem.W.emptyDict).push (PySem.W.instObj C s.heap.objs.size) }:=by
 have e1:(s.heap.push PySem.W.emptyDict).get? s.heap.objs.size=some PySem.W.emptyDict:=Ak s.heap rfl
 have e2:((s.heap.push PySem.W.emptyDict).push (PySem.W.instObj C s.heap.objs.size)).get? (s.heap.objs.size + 1)=some (PySem.W.instObj C s.heap.objs.size):=by
  have:=Ak (s.heap.push PySem.W.emptyDict) (o:=PySem.W.instObj C s.heap.objs.size) rfl
  rwa [AN] at this
 have e3:(s.heap.push PySem.W.emptyDict).Ns s.heap.objs.size (fun _=>none):=⟨PySem.W.emptyDict,#[],_,e1,rfl,(fun e he=>absurd he (by simp)),fun _=>rfl⟩
 have I1:=I.laid (a:=s.heap.objs.size) (o:=.own (s.heap.objs.size + 1)) (h':=s.heap.push PySem.W.emptyDict) (t':=s.toks) (fun b u q=>Ac _ q) (Ad _) ⟨_,e1⟩
 refine I1.laid (a:=s.heap.objs.size + 1) (o:=.ins C s.heap.objs.size []) (t':=s.toks) (fun b u q=>Ac _ q) (Nat.le_of_eq (AN _ _)) ?_
 have ne:s.heap.objs.size ≠ s.heap.objs.size + 1:=A3 (AS _)
 refine ⟨by rw [qQ ne,qG],Bb _,ne,e2,fun _=>none,(Heap.Ns1.of_empty e3).at fun o q=>Ac _ q,fun _=>True.intro,fun y hy=>absurd rfl hy⟩
end
section
variable {X:Cx}{o e value:Expr}{f:Str}{pos pos' tpos:Pos}{ta tv:TE}
end
section
variable {X:Cx}{pins:List (Addr × Obj)}{σ:St}{H:Hp}{s:Shared}{A:Around}{E:Value→Shared→Prop}{Q:Value→Shared→Prop}{c:Value}{b:Bool}
inductive TyOf (K:PySem.W.Frag)(H:Hp):V→Value→Prop where
 | non:TyOf K H .non (.type "NoneType")
 | bl (x:Bool):TyOf K H (.bl x) (.type "bool")
 | int (i:Int):TyOf K H (.int i) (.type "int")
 | str (x:Str):TyOf K H (.str x) (.type "str")
 | flt (x:UInt64):TyOf K H (.flt x) (.type "float")
 | lst {a:Addr} {xs:List V} (e:H a=some (.lst xs)):TyOf K H (.ref a) (.type "list")
 | frz {a:Addr} {o:Obj} {xs:List V} (e:H a=some (.frz o (.lst xs))):TyOf K H (.ref a) (.type "list")
 | tup {a:Addr} {xs:List V} (e:H a=some (.tup xs)):TyOf K H (.ref a) (.type "tuple")
 | dK {a:Addr} {kvs:List (Key × V)} (e:H a=some (.dK kvs)):TyOf K H (.ref a) (.type "dict")
 | dT {a:Addr} {kvs:List (List Key × V)} (e:H a=some (.dT kvs)):TyOf K H (.ref a) (.type "dict")
 | ins {a C dx:Addr} {fs:List (Str × V)} (e:H a=some (.ins C dx fs)) (cl:Cls K C) (ha:PySem.W.findIn K (.ref C) "__class__" = some (some (.builtin "object.__class__")))
   (hn:PySem.W.specialIn K (.builtin "object.__class__") "__get__" = some (some (.builtin "getset_descriptor.__get__"))) (htk:PySem.W.takesIn K (.builtin "object.__class__")=some true)
   (hm:PySem.W.mroIn K C (.type "object")=some true):TyOf K H (.ref a) (.ref C)
theorem aO {x:V}{u t:Value}(I:Inv X pins σ H s)(rx:RelV x u)(ty:TyOf X.K H x t)(e:PySem.W.kitOne X.K t c=some b)(h:∀ tk,Q (.bool b) { s with toks:=tk }) :
  wpAny (model X.prog X.w) A (call (.builtin "isinstance") [u,c]) Q E s:=by
 cases ty with
 | non=>cases (show u=Value.none from rx);exact Bf PySem.W.kitx_none I.kIn True.intro e (fun z=>nomatch z) h
 | bl y=>cases (show u=Value.bool y from rx);exact Bf PySem.W.kitx_bool I.kIn True.intro e (fun z=>nomatch z) h
 | int i=>obtain ⟨t,q⟩:=(show ∃ t,u=Value.int i t from rx);cases q;exact Bf PySem.W.kitx_int I.kIn True.intro e (fun z=>nomatch z) h
 | str y=>obtain ⟨t,q⟩:=(show ∃ t,u=Value.str y t from rx);cases q;exact Bf PySem.W.kitx_str I.kIn True.intro e (fun z=>nomatch z) h
 | flt y=>obtain ⟨t,q⟩:=(show ∃ t,u=Value.float y t from rx);cases q;exact Bf PySem.W.kitx_float I.kIn True.intro e (fun z=>nomatch z) h
 | @lst a xs ea =>
  cases (show u=Value.ref a from rx)
  obtain ⟨_,_,n,_,h1⟩:=(show ObjOk X.prog X.w H s.heap a (.lst xs) from I.hok a _ ea)
  exact Bf PySem.W.kitx_list I.kIn ⟨_,h1,rfl⟩ e (fun z=>nomatch z) h
 | @frz a ob xs ea =>
  cases (show u=Value.ref a from rx)
  obtain ⟨_,_,_,n,_,h1⟩:=(show ObjOk X.prog X.w H s.heap a (.frz ob (.lst xs)) from I.hok a _ ea)
  exact Bf PySem.W.kitx_list I.kIn ⟨_,h1,rfl⟩ e (fun z=>nomatch z) h
 | @tup a xs ea =>
  cases (show u=Value.ref a from rx)
  obtain ⟨_,_,_,p⟩:=(show ObjOk X.prog X.w H s.heap a (.tup xs) from I.hok a _ ea)
  obtain ⟨o,h1,h2,_⟩:=p
  exact Bf PySem.W.kitx_tuple I.kIn ⟨o,h1,h2⟩ e (fun z=>nomatch z) h
 | @dK a kvs ea =>
  cases (show u=Value.ref a from rx)
  obtain ⟨_,_,vs,_,p⟩:=(show ObjOk X.prog X.w H s.heap a (.dK kvs) from I.hok a _ ea)
  obtain ⟨o,es,ep,h1,h2,_⟩:=p
  exact Bf PySem.W.kitx_dict I.kIn ⟨o,h1,h2.1⟩ e (fun z=>nomatch z) h
 | @dT a kvs ea =>
  cases (show u=Value.ref a from rx)
  obtain ⟨_,_,xs,_,o,es,ep,h1,h2,_⟩:=(show ObjOk X.prog X.w H s.heap a (.dT kvs) from I.hok a _ ea)
  exact Bf PySem.W.kitx_dict I.kIn ⟨o,h1,h2.1⟩ e (fun z=>nomatch z) h
 | @ins a C dx fs ea cl ha hn htk hm =>
  cases (show u=Value.ref a from rx)
  obtain ⟨mA,O,_⟩:=ins_get I.hok ea
  obtain ⟨od,J,_⟩:=O.look
  exact Bf (PySem.W.kitx_own (cl.get _) cl.hd ha hn htk hm) I.kIn J e (fun z=>nomatch z) h
end
end L2
namespace L2
open PySem PySem.Spec PyProof.Rows
structure Room (k:Nat)(A:Around):Prop where
 hd:A.handled=none
 dp:A.depth + 3 * k + 5 < recursionLimit
 un:A.units + 16 * k + 200 < cLine
 gd:A.guards=some []
theorem Room.mono {j k:Nat}{A:Around}(r:Room k A)(h:j ≤ k):Room j A:=⟨r.hd,by have:=r.dp;omega,by have:=r.un;omega,by first | exact r.gd | (simp [Around.under,Code.guards,Code.isGuard,guardIds];exact r.gd)⟩
theorem Room.deeper {k:Nat}{A:Around}(r:Room (k + 1) A)(env:Env):Room k (A.deeper env) :=
 ⟨r.hd,by have:=r.dp;show A.depth + 1 + 3 * k + 5 < _;omega,by have:=r.un;show A.units + 3 + 16 * k + 200 < _;omega,by first | exact r.gd | (simp [Around.under,Code.guards,Code.isGuard,guardIds];exact r.gd)⟩
theorem Room.in1 {k:Nat}{A:Around}(r:Room (k + 1) A):Room k A.in1 :=
 ⟨r.hd,by have:=r.dp;show A.depth + 3 * k + 5 < _;omega,by have:=r.un;show A.units + 1 + 16 * k + 200 < _;omega,by first | exact r.gd | (simp [Around.under,Code.guards,Code.isGuard,guardIds];exact r.gd)⟩
theorem Room.depth {k:Nat}{A:Around}(r:Room k A):A.depth < recursionLimit:=by have:=r.dp;omega
theorem Room.units {k:Nat}{A:Around}(r:Room k A):A.units + 64 < cLine:=by have:=r.un;omega
theorem Room.units0 {k:Nat}{A:Around}(r:Room k A):A.units < cLine:=by have:=r.un;omega
def tNil:TA:=fun _ H Q=>Q [] H
def sV (ta:TE)(tr:TA):TA:=fun σ H Q=>ta σ H fun x H1=>tr σ H1 fun xs H2=>Q (x :: xs) H2
section
variable {X:Cx}{e:Expr}{es:List Expr}{te:TE}{t:TA}{pos:Pos}
theorem qD:PA X [] tNil:=fun _ _ _ _ H Q I h=>Calls.spliced_nil ⟨[],H,I,.nil,h⟩
theorem tL (ha:PE X e te)(hr:PA X es t)(hs:starEach (e :: es) X.env=(false,eval e X.env) :: starEach es X.env:=by rfl):PA X (e :: es) (sV te t):=by
 intro pos pins s σ H Q I h
 rw [hs]
 show wpAny _ _ (spliced ((false,eval e X.env) :: backTo pos (starEach es X.env))) _ _ s
 refine Calls.spliced_cons (jJ (ha pins s σ H _ I h) fun u s1 ⟨x,H1,I1,r1,q1⟩=>?_)
 exact jJ (hr pos pins s1 σ H1 _ I1 q1) fun us s2 ⟨xs,H2,I2,r2,q2⟩=>⟨x :: xs,H2,I2,.cons r1 r2,q2⟩
def tLst (t:TA):TE:=fun σ H Q=>t σ H fun xs H1=>xs.length ≤ sizeLine∧∀ p,H1 p=none→Q (.ref p) (upd H1 p (.lst xs))
theorem pe_lst (h:PA X es t):PE X (.List es pos) (tLst t):=by
 intro pins s σ H Q I hq
 refine wpAny_List_spliced (jJ (h pos pins s σ H _ I hq) fun us s1 ⟨xs,H1,I1,r,z,q⟩=>⟨by rw [← r.length];exact z,?_⟩)
 have hf:H1 s1.heap.objs.size=none:=I1.hok.fresh (Ad _)
 refine ⟨.ref s1.heap.objs.size,upd H1 s1.heap.objs.size (.lst xs),I1.laid (t':=s1.toks) (fun b u e=>Ac _ e) (Ad _) ?_,rfl,q _ hf⟩
 exact ⟨z,us,0,r,Ak _ rfl⟩
end
abbrev Sp:=List V→Hp→VK→XK→Prop
abbrev CXT:=List Env→Hp→Shared→XK→Value→Shared→Prop
structure Env0 (P:Program)(w:World)(K:PySem.W.Frag)(mg:Str→Option Value)(base:Heap)(A:Around)(outer:List Env)(s:Shared)(H:Hp):Prop where
 frames:A.frames=some outer
 mod:Mod K mg base
 bs:∀ b o,base.get? b=some o→s.heap.get? b=some o∧H b=none
 bsz:base.objs.size ≤ s.heap.objs.size
 funs:s.heap.FunFrames base outer
 frf:∀ b ∈ eH outer,H b=none
 hok:HOk P w H s.heap
 bare:AllBare s.gens
def CE (outer:List Env)(P:Program)(w:World)(H:Hp)(s:Shared)(Q:VK)(u:Value)(s':Shared):Prop :=
 ∃ v H',s'.os=s.os∧AllBare s'.gens∧Un (eH outer) [] H H' s.heap s'.heap∧HOk P w H' s'.heap∧RelV v u∧Q v H'
def CR (CX:CXT)(outer:List Env)(P:Program)(w:World)(H:Hp)(s:Shared)(Q:VK)(E:XK)(r:Result)(s':Shared):Prop :=
 match r with
 | .ok (.ret u)=>CE outer P w H s Q u s'
 | .ok _=>False
 | .error e=>CX outer H s E e s'
structure FnOk (P:Program)(w:World)(K:PySem.W.Frag)(mg:Str→Option Value)(base:Heap)(CX:CXT)(k:Nat)(f:Addr)(fd:FuncData)(ps:List Str)(sp:Sp):Prop where
 len:∀ vs H Q E,sp vs H Q E→vs.length=ps.length
 run:∀ (A:Around) (outer:List Env) (s:Shared) (H:Hp) (args:Args) (us:List Value) (vs:List V) (Q:VK) (E:XK),Room k A→Env0 P w K mg base A outer s H→BindsTo s fd args (ps.zip us)→Vals vs us→sp vs H Q E →
  codeAny (model P w) A (.call (.ref f) args) (CR CX outer P w H s Q E) s
theorem FnOk.mono {P:Program}{w:World}{K:PySem.W.Frag}{mg:Str→Option Value}{base:Heap}{CX:CXT}{j k:Nat}{f:Addr}{fd:FuncData}{ps:List Str}{sp:Sp}(F:FnOk P w K mg base CX j f fd ps sp)(h:j ≤ k) :
  FnOk P w K mg base CX k f fd ps sp:=⟨F.len,fun A outer s H args us vs Q E hr=>F.run A outer s H args us vs Q E (hr.mono h)⟩
theorem FnOk.imp {P:Program}{w:World}{K:PySem.W.Frag}{mg:Str→Option Value}{base:Heap}{CX:CXT}{k:Nat}{f:Addr}{fd:FuncData}{ps:List Str}{sp sp':Sp}(F:FnOk P w K mg base CX k f fd ps sp)
  (h:∀ vs H Q E,sp' vs H Q E→sp vs H Q E):FnOk P w K mg base CX k f fd ps sp' :=
 ⟨fun vs H Q E q=>F.len vs H Q E (h _ _ _ _ q),fun A outer s H args us vs Q E hr he hb hv hs=>F.run A outer s H args us vs Q E hr he hb hv (h _ _ _ _ hs)⟩
theorem Env0.in1 {P:Program}{w:World}{K:PySem.W.Frag}{mg:Str→Option Value}{base:Heap}{A:Around}{outer:List Env}{s:Shared}{H:Hp}(e:Env0 P w K mg base A outer s H) :
  Env0 P w K mg base A.in1 outer s H:=⟨e.frames,e.mod,e.bs,e.bsz,e.funs,e.frf,e.hok,e.bare⟩
section
variable {X:Cx}{pins:List (Addr × Obj)}{σ:St}{H:Hp}{s s':Shared}
theorem Inv.env0 (I:Inv X pins σ H s):Env0 X.prog X.w X.K X.mg X.base X.A X.stack s H :=
 ⟨I.ok.frames,I.ok.mod,I.bs,AB I.ok.bsz I.sz,I.stack,I.stkFree,I.hok,I.bare⟩
theorem Inv.after {Q:VK}{u:Value}(I:Inv X pins σ H s)(h:CE X.stack X.prog X.w H s Q u s'):EP X pins σ Q u s':=by
 obtain ⟨v,H',os,bare,un,hok,r,q⟩:=h
 obtain ⟨hh,g,d,t,os'⟩:=s'
 obtain rfl:os'=s.os:=os
 exact ⟨v,H',I.call (h':=hh) (g':=g) (d':=d) (t':=t) (ch:=[]) un hok bare (fun b z=>absurd z (by simp)),r,q⟩
end
def tCall (sp:Sp)(dvs:List V)(E:XK)(t:TA):TE:=fun σ H Q=>t σ H fun vs H1=>sp (vs ++ dvs) H1 Q E
def Binds (K:PySem.W.Frag)(fd:FuncData)(ps:List Str)(ds:List Value):Prop :=
 ∀ (s:Shared) (us:List Value),K.In s.heap→(us ++ ds).length=ps.length→BindsTo s fd ⟨us,[]⟩ (ps.zip (us ++ ds))
theorem Binds.all {K:PySem.W.Frag}{fd:FuncData}{ps:List Str}(h:∀ us:List Value,us.length=ps.length→bindArgs fd ⟨us,[]⟩=pure (ps.zip us)):Binds K fd ps []:=fun s us _ hl=>by
 rw [Bx] at hl ⊢
 exact .of_eq (h us hl)
def sI (CX:CXT)(X:Cx)(E:XK):Prop:=∀ (pins:List (Addr × Obj)) (σ:St) (H:Hp) (s:Shared) (e:Value) (s':Shared),Inv X pins σ H s→CX X.stack H s E e s'→X.xe e s'
section
variable {X:Cx}{CX:CXT}{k:Nat}{f C:Addr}{fd:FuncData}{ps:List Str}{sp:Sp}{dvs:List V}{ds:List Value}{E:XK}{x m:Str}{p pos apos:Pos}{e o:Expr}{es:List Expr}{ta:TE}{t:TA}
theorem run_fn {pins:List (Addr × Obj)}{σ:St}{H:Hp}{s:Shared}{Q:VK}{us:List Value}{vs:List V}(F:FnOk X.prog X.w X.K X.mg X.base CX k f fd ps sp)(hr:Room k X.A)(hb:Binds X.K fd ps ds)(hd:Vals dvs ds)(hx:sI CX X E)
  (I:Inv X pins σ H s) (r:Vals vs us) (h:sp (vs ++ dvs) H Q E):wpAny (model X.prog X.w) X.A (call (.ref f) us) (EP X pins σ Q) X.xe s:=by
 have r2:Vals (vs ++ dvs) (us ++ ds):=r.append hd
 have hl:(us ++ ds).length=ps.length:=by rw [← r2.length];exact F.len _ _ _ _ h
 refine wpAny_call (codeAny_mono (F.run X.A X.stack s H ⟨us,[]⟩ (us ++ ds) (vs ++ dvs) Q E hr I.env0 (hb s us I.kIn hl) r2 h) fun r s' hq=>?_)
 cases r with
 | error e=>exact hx pins σ H s e s' I hq
 | ok fl =>
  cases fl with
  | ret u=>exact I.after hq
  | next=>exact False.elim hq
  | brk=>exact False.elim hq
  | cont=>exact False.elim hq
theorem pe_call (F:FnOk X.prog X.w X.K X.mg X.base CX k f fd ps sp)(hr:Room k X.A)(hg:Gl X x)(hm:X.mg x=some (.ref f))(hk:PySem.W.keepIn X.K (.ref f)=true)(hb:Binds X.K fd ps ds)(hd:Vals dvs ds)(hx:sI CX X E)
  (ha:PA X (e :: es) t) (hdb:(x == ("__debug__" : Str))=false:=by decide) (he:starEach (e :: es) X.env=(false,eval e X.env) :: starEach es X.env:=by rfl) (hpl:(backTo pos (starEach es X.env)).any (·.1)=false:=by rfl) :
  PE X (.Call (.Name x p) (e :: es) [] pos) (tCall sp dvs E t):=by
 intro pins s σ H Q I h
 refine wpAny_Call_Name_kw (ld_glob I hg hm ?_ hdb)
 refine PySem.W.callWith_K (h₀:=X.base) I.ok.mod.kin hk (jJ (ha pos pins s σ H _ I h) fun us s1 ⟨vs,H1,I1,r,q⟩=>⟨I1.kIn,?_⟩) he hpl
 exact run_fn F hr hb hd hx I1 r q
structure Mk (K:PySem.W.Frag)(C f:Addr):Prop where
 makes:PySem.W.makesIn K C=true
 init:PySem.W.findIn K (.ref C) "__init__" = some (some (.ref f))
 fn:PySem.W.isFn K (.ref f)=true
 kp:PySem.W.keepIn K (.ref C)=true
end
section
variable {X:Cx}{CX:CXT}{k:Nat}{f C:Addr}{fd:FuncData}{ps ks:List Str}{sp:Sp}{E:XK}{x m:Str}{p pos apos kpos:Pos}{e o:Expr}{es:List Expr}{kws:List Keyword}{te ta:TE}{t tk:TA}{nm:Option Str}
structure KBinds (K:PySem.W.Frag)(fd:FuncData)(ps ks:List Str)(g:List Value→List Value→List Value)(gV:List V→List V→List V):Prop where
 to:∀ (s:Shared) (us ws:List Value),K.In s.heap→(g us ws).length=ps.length→BindsTo s fd ⟨us,ks.zip ws⟩ (ps.zip (g us ws))
 rel:∀ {vs:List V} {us:List Value} {zs:List V} {ws:List Value},Vals vs us→Vals zs ws→Vals (gV vs zs) (g us ws)
variable {g:List Value→List Value→List Value}{gV:List V→List V→List V}
end
structure FnScope (N P:List Str)(sc:Scope):Prop where
 kind:sc.kind = .function
 co:sc.isCoroutine=false
 gen:sc.isGenerator=false
 nd:N.Nodup
 pre:N.take P.length=P
 par:∀ x ∈ P,sc.names.lookup x=some .local∨sc.names.lookup x=some .cell
 nofree:∀ y ∈ sc.names,y.2 ≠ .free
theorem mE {kindOf:Str→Option NameKind}{x:Str}:∀ {binds:List (Str × Value)} {m:Str→Option Value},(∀ v,(x,v) ∉ binds)→bindL kindOf binds m x=m x
 | [],_,_=>rfl
 | (n,v) :: r,m,h=>by
  unfold bindL
  rw [mE fun w hw=>h w (Aw _ hw)]
  split
  ·have:x ≠ n:=by rintro rfl;exact h v Aq
   simp [this]
  ·rfl
theorem mG {kindOf:Str→Option NameKind}{x:Str}:∀ {binds:List (Str × Value)} {m:Str→Option Value},(∀ v,(x,v) ∉ binds)→bindC kindOf binds m x=m x
 | [],_,_=>rfl
 | (n,v) :: r,m,h=>by
  unfold bindC
  rw [mG fun w hw=>h w (Aw _ hw)]
  split
  ·rfl
  ·have:x ≠ n:=by rintro rfl;exact h v Aq
   simp [this]
theorem mF {kindOf:Str→Option NameKind}{x:Str}{v:Value}:∀ {P:List Str} {vs:List Value} {i:Nat} {m:Str→Option Value},P.Nodup→P[i]? = some x→vs[i]? = some v→kindOf x=some .local →
  bindL kindOf (P.zip vs) m x=some v
 | [],_,_,_,_,h,_,_=>by simp at h
 | _ :: _,[],_,_,_,_,h,_=>by simp at h
 | p :: P,w :: vs,0,m,nd,h1,h2,hk=>by
  simp at h1 h2;subst h1;subst h2
  show bindL kindOf ((p,w) :: P.zip vs) m p=_
  unfold bindL
  rw [mE fun v hv=>(Bs.mp nd).1 (Ct hv).1,As hk]
  simp
 | p :: P,w :: vs,i + 1,m,nd,h1,h2,hk=>by
  show bindL kindOf ((p,w) :: P.zip vs) m x=_
  unfold bindL
  exact mF (i:=i) (Bs.mp nd).2 (by simpa using h1) (by simpa using h2) hk
theorem mH {kindOf:Str→Option NameKind}{x:Str}{v:Value}:∀ {P:List Str} {vs:List Value} {i:Nat} {m:Str→Option Value},P.Nodup→P[i]? = some x→vs[i]? = some v→kindOf x ≠ some .local →
  bindC kindOf (P.zip vs) m x=some v
 | [],_,_,_,_,h,_,_=>by simp at h
 | _ :: _,[],_,_,_,_,h,_=>by simp at h
 | p :: P,w :: vs,0,m,nd,h1,h2,hk=>by
  simp at h1 h2;subst h1;subst h2
  show bindC kindOf ((p,w) :: P.zip vs) m p=_
  unfold bindC
  rw [mG fun v hv=>(Bs.mp nd).1 (Ct hv).1,Au hk]
  simp
 | p :: P,w :: vs,i + 1,m,nd,h1,h2,hk=>by
  show bindC kindOf ((p,w) :: P.zip vs) m x=_
  unfold bindC
  exact mH (i:=i) (Bs.mp nd).2 (by simpa using h1) (by simpa using h2) hk
def start (N:List Str)(vs:List V):St:=vs.map some ++ List.replicate (N.length - vs.length) none
def sD (CX:CXT)(P:Program)(w:World)(K:PySem.W.Frag)(mg:Str→Option Value)(base:Heap)(N:List Str)(qual:Str)(scope:Scope)(f:Addr)(cd:Value)(A:Around)(outer:List Env)(s:Shared)(H:Hp)(E:XK):Cx where
 prog:=P
 w:=w
 K:=K
 mg:=mg
 base:=base
 A:=A.deeper (envOfC qual scope s.heap.objs.size f cd)
 N:=N
 s₀:=s
 H₀:=H
 env:=envOfC qual scope s.heap.objs.size f cd
 outer:=outer
 stack:=envOfC qual scope s.heap.objs.size f cd :: outer
 ex:=[]
 calm:=true
 fn:=fun _=>true
 pn:=[]
 xe:=fun e s'=>wpAny (model P w) (A.deeper (envOfC qual scope s.heap.objs.size f cd)) (leaving (envOfC qual scope s.heap.objs.size f cd) e) (fun _ s''=>CX outer H s E e s'') (fun e' s''=>CX outer H s E e' s'') s'
theorem pP {sc:Scope}{n:Nat}{x:Str}(h:sc.names.lookup x=some .cell):∃ c,(cellsFrom n sc.names []).lookup x=some c:=by
 have q:=PySem.W.cellsFrom_some sc.names n [] (.inl h)
 exact Option.isSome_iff_exists.mp q
theorem aQ {CX:CXT}{P:Program}{w:World}{K:PySem.W.Frag}{mg:Str→Option Value}{base:Heap}{N ps:List Str}{qual:Str}{scope:Scope}{f:Addr}{cd:Value}{A:Around}{outer:List Env}{s s1:Shared}{H:Hp}{E:XK}{us:List Value}{vs:List V}
  (S:FnScope N ps scope) (hd:A.handled=none) (e0:Env0 P w K mg base A outer s H) (hl:vs.length=ps.length) (r:Vals vs us)
  (x:InCallC s s.heap.objs.size (bindL (envOfC qual scope s.heap.objs.size f cd).kindOf (ps.zip us) fun _=>none) (cellsFrom (s.heap.objs.size + 1) scope.names []) (bindC (envOfC qual scope s.heap.objs.size f cd).kindOf (ps.zip us) fun _=>none) s1) :
  Inv (sD CX P w K mg base N qual scope f cd A outer s H E) [] (start N vs) H s1:=by
 have hpl:ps.length ≤ N.length:=by have:=AW List.length S.pre;rw [Av] at this;omega
 obtain ⟨h1,tk,rfl,hk⟩:=x.done
 have noA:∀ b:Addr,b ∉ (sD CX P w K mg base N qual scope f cd A outer s H E).ex:=fun b z=>absurd (show b ∈ ([] : List Addr) from z) (by simp)
 refine ⟨⟨e0.mod,S.kind,rfl,rfl,Ad _,fun y z c h1 h2=>?_,fun y hy=>?_,fun y c _ h=>?_,fun _=>hd,Around.frames_deeper e0.frames,.inr ⟨rfl,rfl⟩,fun b z=>absurd z (noA b),e0.bs,e0.bsz,fun b _ _=>noA b,fun b z=>absurd z (noA b),e0.funs,e0.frf⟩,
  rfl,e0.bare,Un.kept hk,⟨_,x.toInCall.ns,fun i y v h1 h2 h3=>?_⟩,fun y c h=>⟨_,x.cell y c h⟩,e0.hok.fresh (Ad _),fun y c h=>?_,fun p hp=>absurd (show p ∈ ([] : List (Addr × Obj)) from hp) (by simp),e0.hok.kept hk,?_⟩
 ·exact name_of_addr x.apart (Br h1) (Br h2)
 ·have hy:scope.names.lookup y=some .cell∨scope.names.lookup y=some .free:=hy
  rcases hy with hy | hy
  ·exact pP hy
  ·exact absurd rfl (S.nofree _ (Br hy))
 ·exact Bp (x.above y c (Br h))
 ·have hi:i < vs.length:=by
   unfold start at h2
   by_cases hi:i < vs.length
   ·exact hi
   ·rw [B6 (by simpa using hi)] at h2
    rw [List.getElem?_replicate] at h2
    split at h2 <;> cases h2
  have ha:vs[i]? = some v:=by
   unfold start at h2
   rw [B7 (by simpa using hi),Ag] at h2
   cases e:vs[i]? with
   | none=>rw [e] at h2;cases h2
   | some a=>rw [e] at h2;cases h2;rfl
  obtain ⟨u,hu,rv⟩:=r.get ha
  have hp:ps[i]? = some y:=by
   rw [← S.pre,List.getElem?_take_of_lt (by omega)];exact h1
  have ndP:ps.Nodup:=by rw [← S.pre];exact S.nd.sublist (List.take_sublist _ _)
  refine ⟨u,rv,?_⟩
  rcases S.par y (Ap hp) with k | k
  ·exact .inl ⟨k,mF ndP hp hu k⟩
  ·obtain ⟨c,e⟩:=pP (n:=s.heap.objs.size + 1) k
   refine .inr ⟨.inl k,c,e,?_⟩
   have q:=x.cell y c e
   rw [mH ndP hp hu (by show scope.names.lookup y ≠ _;rw [k];decide)] at q
   exact q
 ·exact e0.hok.fresh (Bp (x.above y c (Br h)))
 ·unfold start
  show _=N.length
  rw [Ax,Aa,Cf]
  omega
theorem fn_of {CX:CXT}{P:Program}{w:World}{K:PySem.W.Frag}{mg:Str→Option Value}{base:Heap}{k:Nat}{f:Addr}{name qual:Str}{params:Arguments}{body:List Stmt}{scope:Scope}{dV kV doc pm cdv ct oc:Value}{an od:Option Addr}
  {osl:Array (Option Value)} {N ps:List Str} {sp:Sp} (lk:K.lookup f=some ⟨oc,od,.func (PySem.W.fnOf name qual params body scope dV kV doc pm an cdv ct),osl⟩) (hcd:PySem.W.codeIn K cdv qual=true) (S:FnScope N ps scope)
  (len:∀ vs H Q E,sp vs H Q E→vs.length=ps.length)
  (hbody:∀ (A:Around) (outer:List Env) (s:Shared) (H:Hp) (vs:List V) (Q:VK) (E:XK),Room k (A.deeper (envOfC qual scope s.heap.objs.size f cdv))→sp vs H Q E →
   ∃ t,PSs (sD CX P w K mg base N qual scope f cdv A outer s H E) body t∧t { nx:=fun _ H'=>Q .non H',rt:=Q } (start N vs) H) :
  FnOk P w K mg base CX (k + 1) f (PySem.W.fnOf name qual params body scope dV kV doc pm an cdv ct) ps sp:=by
 refine ⟨len,fun A outer s H args us vs Q E hr e0 hb r hsp=>?_⟩
 have hl:=len _ _ _ _ hsp
 have KX:K.In s.heap:=e0.mod.kin.keeps fun b o e=>(e0.bs b o e).1
 have lim:s.heap.NoLimit:=e0.mod.nolimit.keeps fun b o e=>(e0.bs b o e).1
 have hkind:∀ y ∈ ps.zip us,scope.names.lookup y.1=some .local∨(scope.names.lookup y.1=some .cell∧((cellsFrom (s.heap.objs.size + 1) scope.names []).lookup y.1).isSome=true):=fun ⟨n,v⟩ hy=>by
  rcases S.par n (Ct hy).1 with q | q
  ·exact .inl q
  ·exact .inr ⟨q,PySem.W.cellsFrom_some _ _ _ (.inl q)⟩
 refine codeAny_call_function hr.depth (KX _ _ lk) rfl S.co S.gen rfl (PySem.W.codeRec_of KX hcd) (hb _ _ _ _ ?_)
 refine wpAny_newFunctionEnv_cells S.kind hkind fun env he s1 x=>?_
 subst he
 refine ⟨lim.keeps x.toInCall.keep,codeAny_func ?_⟩
 obtain ⟨t,ht,hq⟩:=hbody A outer s H vs Q E (hr.deeper _) hsp
 have I:Inv (sD CX P w K mg base N qual scope f cdv A outer s H E) [] (start N vs) H s1:=aQ S hr.hd e0 hl r x
 refine wpAny_mono (ht [] s1 (start N vs) H _ I hq) (fun fl s' hs=>?_) fun e s' hs=>hs
 have fin:∀ {σ':St} {H':Hp} {v:V} {u:Value},Inv (sD CX P w K mg base N qual scope f cdv A outer s H E) [] σ' H' s'→RelV v u→Q v H'→CE outer P w H s Q u s' :=
  fun {σ' H' v u} J rv q=>⟨v,H',J.os,J.bare,J.base,J.hok,rv,q⟩
 cases fl with
 | ret u =>
  obtain ⟨v,σ',H',J,rv,q⟩:=hs
  exact fin J rv q
 | next =>
  obtain ⟨σ',H',J,q⟩:=hs
  exact fin (v:=V.non) (u:=Value.none) J rfl q
 | brk =>
  obtain ⟨_,_,_,q⟩:=hs
  exact False.elim q
 | cont =>
  obtain ⟨_,_,_,q⟩:=hs
  exact False.elim q
end L2
namespace L2
open PySem PySem.Spec PyProof.Rows
section
variable {X:Cx}{x:Str}{p pos:Pos}{e:Expr}{es:List Expr}{t:TA}{id T:String}{r:List V→Hp→VK→Prop}
def tCB (r:List V→Hp→VK→Prop)(t:TA):TE:=fun σ H Q=>t σ H fun vs H1=>r vs H1 Q
theorem qR (hc:j7 X (.builtin id) r)(hg:Gl X x)(hm:X.mg x=none)(hv:bootBuiltins x=some (.builtin id))(ha:PA X (e :: es) t)(hn:x ≠ "__name__" := by decide) (hdb:(x == ("__debug__" : Str))=false:=by decide)
  (he:starEach (e :: es) X.env=(false,eval e X.env) :: starEach es X.env:=by rfl) (hpl:(backTo pos (starEach es X.env)).any (·.1)=false:=by rfl):PE X (.Call (.Name x p) (e :: es) [] pos) (tCB r t):=by
 intro pins s σ H Q I h
 refine wpAny_Call_Name_kw (vH I hg hm hv ?_ hn hdb)
 exact PyProof.Rows.callWith_builtin1 (jJ (ha pos pins s σ H _ I h) fun us s1 ⟨vs,H1,I1,r1,q1⟩=>hc pins s1 σ H1 vs us Q I1 r1 q1) he hpl
theorem kM (hc:j7 X (.type T) r)(hg:Gl X x)(hm:X.mg x=none)(hv:bootBuiltins x=some (.type T))(ha:PA X (e :: es) t)(hn:x ≠ "__name__" := by decide) (hdb:(x == ("__debug__" : Str))=false:=by decide)
  (he:starEach (e :: es) X.env=(false,eval e X.env) :: starEach es X.env:=by rfl) (hpl:(backTo pos (starEach es X.env)).any (·.1)=false:=by rfl):PE X (.Call (.Name x p) (e :: es) [] pos) (tCB r t):=by
 intro pins s σ H Q I h
 refine wpAny_Call_Name_kw (vH I hg hm hv ?_ hn hdb)
 exact Be (jJ (ha pos pins s σ H _ I h) fun us s1 ⟨vs,H1,I1,r1,q1⟩=>hc pins s1 σ H1 vs us Q I1 r1 q1) he hpl
end
end L2
namespace HT
open PySem PyProof.Rows
def lexLt:List Int→List Int→Bool
 | [],[]=>false
 | [],_ :: _=>true
 | _ :: _,[]=>false
 | x :: xs,y :: ys=>if x=y then lexLt xs ys else decide (x < y)
theorem lexLt_cons (x y:Int)(xs ys:List Int):lexLt (x :: xs) (y :: ys)=if x=y then lexLt xs ys else decide (x < y):=rfl
theorem lexLt_nil_nil:lexLt [] [] = false:=rfl
section
open PySem.SeqAt
open PySem.AutoSeq1 (wpAny_loadPart')
open PySem.MeetsSeq PySem.MeetsSeq2 PySem.MeetsSeq3
end
section
variable {prog:Program}{w:World}{A:Around}{E:Value→Shared→Prop}{s:Shared}
theorem cat_tup {t b:Addr}{vs ws:List Value}{Q:Value→Shared→Prop}(ht:IsTup s.heap t vs.toArray)(hb:IsTup s.heap b ws.toArray)(hv:vs ≠ [])
  (h1:ws=[]→Q (.ref t) s) (h2:ws ≠ []→Q (.ref s.heap.objs.size) { s with heap:=s.heap.push { cls:=.type "tuple",data:=.seq (vs ++ ws).toArray } })
  (hsz:vs.length + ws.length ≤ sizeLine):wpAny (model prog w) A (binaryOp .Add (.ref t) (.ref b)) Q E s:=by
 obtain ⟨⟨cls,dd,data,sl⟩,ho,hc,n,hd⟩:=id ht
 obtain ⟨⟨cls2,dd2,data2,sl2⟩,ho2,hc2,n2,hd2⟩:=id hb
 simp only at hc hd hc2 hd2
 subst hc hd hc2 hd2
 have e:vs.toArray ++ ws.toArray=(vs ++ ws).toArray:=by simp
 by_cases hw:ws=[]
 ·exact concat_meets ⟨_,ho,rfl⟩ ⟨_,ho2,rfl⟩ noFill_tuple_add seq_tuple_add PySem.F.slot_tuple_add PySem.F.entry_tuple_add (PySem.F.args_tuple_add_2 _ _)
   (tuple_addW1 t b vs.toArray ws.toArray n n2 dd dd2 sl sl2 (by simpa using hv) (by simp [hw])) ⟨ho,ho2,h1 hw⟩
 ·refine concat_meets ⟨_,ho,rfl⟩ ⟨_,ho2,rfl⟩ noFill_tuple_add seq_tuple_add PySem.F.slot_tuple_add PySem.F.entry_tuple_add (PySem.F.args_tuple_add_2 _ _)
   (tuple_addW2 t b vs.toArray ws.toArray n n2 dd dd2 sl sl2 (by simpa using hv) (by simpa using hw) (by rw [Ah,Ah];exact hsz)) ⟨ho,ho2,?_⟩
  rw [e]
  exact h2 hw
def sIx (n d:Nat):Option Int→Nat
 | none=>d
 | some v=>if v < 0 then (v + (n:Int)).toNat else min v.toNat n
theorem sIx_none (n d:Nat):sIx n d none=d:=rfl
theorem sIx_nat (n d k:Nat):sIx n d (some (k:Int))=min k n:=by
 show (if (k:Int) < 0 then ((k:Int) + (n:Int)).toNat else min (k:Int).toNat n)=min k n
 rw [Au (by omega),Ar]
theorem sIx_le (n d:Nat)(hd:d ≤ n)(o:Option Int):sIx n d o ≤ n:=by
 cases o with
 | none=>exact hd
 | some v =>
  show (if v < 0 then (v + (n:Int)).toNat else min v.toNat n) ≤ n
  by_cases hv:v < 0
  ·rw [As hv];omega
  ·rw [Au hv];exact Nat.min_le_right _ _
theorem uE (v:Int)(n d:Nat):(if v < 0 then max (v + (n:Int)) 0 else min v (n:Int))=((sIx n d (some v):Nat):Int):=by
 show (if v < 0 then max (v + (n:Int)) 0 else min v (n:Int))=(((if v < 0 then (v + (n:Int)).toNat else min v.toNat n):Nat):Int)
 by_cases hv:v < 0
 ·simp only [As hv];omega
 ·simp only [Au hv];omega
theorem sH (lo hi:Option Int)(n:Nat):Builtin.Slice.sliceAdjust lo hi 1 (n:Int)=(((sIx n 0 lo:Nat):Int),((sIx n n hi:Nat):Int)):=by
 have h1:¬ ((1:Int) < 0):=by omega
 unfold Builtin.Slice.sliceAdjust
 simp only [h1,BK]
 refine Prod.ext ?_ ?_
 ·cases lo with
  | none=>rfl
  | some v=>exact uE v n 0
 ·cases hi with
  | none=>rfl
  | some v=>exact uE v n n
theorem rN (i j:Nat):Builtin.Slice.slicePlaces (i:Int) (j:Int) 1=j - i:=by
 unfold Builtin.Slice.slicePlaces
 have h1:(1:Int) > 0:=by omega
 simp only [h1,BO,Int.ediv_one]
 split <;> omega
theorem wD {v:Value}{o:Option Int}{Q:Option Int→Shared→Prop}(p:IsPart v o)(h:Q o s):wpAny (model prog w) A (Builtin.Slice.slicePartIndex v) Q E s:=by
 cases p with
 | none=>exact slicePart_none h
 | int i t=>exact slicePart_int h
theorem sliceApplied_gen {sl:Addr}{vl vu:Value}{lo hi:Option Int}{n:Nat}{Q:Int × Int × Nat→Shared→Prop}(hs:s.heap.IsSliceOf sl vl vu .none)(pl:IsPart vl lo)(pu:IsPart vu hi)
  (h:Q (((sIx n 0 lo:Nat):Int),1,sIx n n hi - sIx n 0 lo) s):wpAny (model prog w) A (Builtin.Slice.sliceApplied (.ref sl) (pure (n:Int))) Q E s:=by
 obtain ⟨os,d6,hcs,hds⟩:=id hs
 unfold Builtin.Slice.sliceApplied Builtin.Slice.sliceFields
 refine wpAny_bind (wpAny_bind (wpAny_field d6 hds (x:=vl) rfl (wpAny_bind (wpAny_field d6 hds (x:=vu) rfl (wpAny_bind (wpAny_field d6 hds (x:=.none) rfl (wpAny_pure ?_)))))))
 refine wpAny_bind (slicePart_none ?_)
 show wpAny _ _ (if ((1:Int) == 0)=true then _ else _) _ _ s
 rw [Au (by decide)]
 refine wpAny_bind (wD pl (wpAny_bind (wD pu (wpAny_bind (wpAny_pure ?_)))))
 show wpAny _ _ (match Builtin.Slice.sliceAdjust lo hi 1 (n:Int) with | (lo,hi)=>pure (lo,(1:Int),Builtin.Slice.slicePlaces lo hi 1)) _ _ s
 rw [sH lo hi n]
 show wpAny _ _ (pure (((sIx n 0 lo:Nat):Int),(1:Int),Builtin.Slice.slicePlaces ((sIx n 0 lo:Nat):Int) ((sIx n n hi:Nat):Int) 1)) _ _ s
 rw [rN]
 exact wpAny_pure h
theorem i4 (xs:Array Value)(i k:Nat):((List.range k).filterMap fun (m:Nat)=>xs[((i:Int) + (m:Int) * 1).toNat]?).toArray=((xs.toList.drop i).take k).toArray:=by
 have e:(fun (m:Nat)=>xs[((i:Int) + (m:Int) * 1).toNat]?)=fun m=>xs[i + m]? := by
  funext m
  have:((i:Int) + (m:Int) * 1).toNat=i + m:=by omega
  rw [this]
 rw [e]
 have:=pick_run xs i k
 rw [List.filterMap_map] at this
 have e2:((fun x=>xs[x]?) ∘ fun x=>i + x)=fun m=>xs[i + m]? := rfl
 rw [e2] at this
 rw [this]
theorem getItem_tuple_cut {t sl:Addr}{items:Array Value}{vl vu:Value}{lo hi:Option Int}{Q:Value→Shared→Prop}(ht:IsTup s.heap t items)(hs:s.heap.IsSliceOf sl vl vu .none)(pl:IsPart vl lo)(pu:IsPart vu hi)
  (hw:¬ (sIx items.size 0 lo=0∧sIx items.size items.size hi=items.size))
  (h:Q (.ref s.heap.objs.size) { s with heap:=s.heap.push { cls:=.type "tuple",data:=.seq ((items.toList.drop (sIx items.size 0 lo)).take (sIx items.size items.size hi - sIx items.size 0 lo)).toArray } })
  (hsz:items.size ≤ sizeLine):wpAny (model prog w) A (getItem (.ref t) (.ref sl)) Q E s:=by
 have htake:sizeOk (.seq ((items.toList.drop (sIx items.size 0 lo)).take (sIx items.size items.size hi - sIx items.size 0 lo)).toArray):=by
  show ((items.toList.drop (sIx items.size 0 lo)).take (sIx items.size items.size hi - sIx items.size 0 lo)).toArray.size ≤ sizeLine
  rw [Ah,Av,BB,Cu]
  omega
 have hj:sIx items.size items.size hi ≤ items.size:=sIx_le _ _ (Ad _) hi
 obtain ⟨os,d6,hcs,hds⟩:=id hs
 have hTs:s.TypeIs (.ref sl) "slice" := ⟨os,d6,hcs⟩
 unfold getItem
 try with_reducible refine wpAny_holding ?_
 first | refine wpAny_bind (wpAny_pure ?_) | skip
 refine wpAny_bind (wpAny_sequenceKey ht.typeIs (by decide) ?_)
 refine wpAny_bind (wpAny_callSpecial?_slot (name:=Str.ofString "__getitem__") ht.typeIs B8
  (wpAny_call_entry B8 ht.typeIs entry_tuple_getitem ?_ (args_tuple_getitem _ _)))
 show wpAny _ _ (Builtin.Tuple.tupleItemsOf (.ref t) >>= _) _ _ s
 refine wpAny_bind (tupleItemsOf_ ht ?_)
 refine wpAny_bind (wpAny_typeOf hTs ?_)
 rw [As (by decide)]
 refine wpAny_bind (sliceApplied_gen hs pl pu ?_)
 have hno:¬ ((((sIx items.size 0 lo:Nat):Int) == 0 && (1:Int) == 1 && (sIx items.size items.size hi - sIx items.size 0 lo) == items.size)=true):=by
  intro q
  rw [AF,AF] at q
  have q1:((sIx items.size 0 lo:Nat):Int)=0:=eq_of_beq q.1.1
  have q2:sIx items.size items.size hi - sIx items.size 0 lo=items.size:=eq_of_beq q.2
  exact hw ⟨by omega,by omega⟩
 show wpAny _ _ (if (((sIx items.size 0 lo:Nat):Int) == 0 && (1:Int) == 1 && (sIx items.size items.size hi - sIx items.size 0 lo) == items.size)=true then _ else _) _ _ s
 rw [Au hno,i4]
 first
  | exact wpAny_bind (m:=Builtin.Tuple.tupleExact _) (wpAny_newObj_type (wpAny_pure ⟨_,rfl,wpAny_pure h⟩) htake)
  | exact wpAny_bind (m:=Builtin.Tuple.tupleExact _) (wpAny_newObj_type (wpAny_bind (wpAny_pure (wpAny_pure ⟨_,rfl,wpAny_pure h⟩))) htake)
  | exact wpAny_bind (wpAny_bind (m:=Builtin.Tuple.tupleExact _) (wpAny_newObj_type (wpAny_pure (wpAny_pure ⟨_,rfl,wpAny_pure h⟩)) htake))
  | exact wpAny_bind (wpAny_bind (m:=Builtin.Tuple.tupleExact _) (wpAny_newObj_type (wpAny_pure ⟨_,rfl,wpAny_pure h⟩) htake))
end
end HT
namespace L2
open PySem PySem.Spec PyProof.Rows
abbrev TO:=St→Hp→(Option Int→Hp→Prop)→Prop
def PO (X:Cx)(e:Option Expr)(t:TO):Prop :=
 ∀ (pins:List (Addr × Obj)) (s:Shared) (σ:St) (H:Hp) (Q:Option Int→Hp→Prop),Inv X pins σ H s→t σ H Q →
  wpAny (model X.prog X.w) X.A (evalPart e X.env) (fun u s'=>∃ o H',Inv X pins σ H' s'∧IsPart u o∧Q o H') X.xe s
def sU:TO:=fun _ H Q=>Q none H
def tPart (t:TE):TO:=fun σ H Q=>t σ H fun x H1=>∃ i,x = .int i∧Q (some i) H1
theorem intsAre_of {ns:List Int}:∀ {us:List Value},Vals (ns.map V.int) us→IntsAre us ns:=by
 induction ns with
 | nil=>intro us r;rw [C8] at r;cases r;exact .nil
 | cons n ns ih =>
  intro us r
  rw [AK] at r
  cases r with
  | cons r1 r2 =>
   obtain ⟨t,e⟩:=r1
   subst e
   exact .cons n t (ih r2)
section
variable {X:Cx}{e:Expr}{te:TE}{lo hi:Option Expr}{tl th:TO}{pos p2:Pos}
theorem vN:PO X none sU:=by
 intro pins s σ H Q I h
 rw [evalPart_none]
 exact wpAny_pure ⟨none,H,I,.none,h⟩
theorem vM (h:PE X e te):PO X (some e) (tPart te):=by
 intro pins s σ H Q I hw
 rw [evalPart_some]
 refine jJ (h pins s σ H _ I hw) fun u s1 ⟨x,H1,I1,r1,q1⟩=>?_
 obtain ⟨i,rfl,q⟩:=q1
 obtain ⟨t,rfl⟩:=r1
 exact ⟨some i,H1,I1,.int i t,q⟩
def SlR (X:Cx)(r:V→Option Int→Option Int→Hp→VK→Prop):Prop :=
 ∀ (pins:List (Addr × Obj)) (s:Shared) (σ:St) (H:Hp) (x:V) (v vl vu:Value) (lo hi:Option Int) (sl:Addr) (Q:VK),Inv X pins σ H s→RelV x v→s.heap.IsSliceOf sl vl vu .none→IsPart vl lo→IsPart vu hi→r x lo hi H Q →
  ∃ T id,typeLookup (.type T) "__getitem__" = pure (some (.builtin id))∧s.TypeIs v T∧wpAny (model X.prog X.w) X.A (getItem v (.ref sl)) (EP X pins σ Q) X.xe s
def tSl (r:V→Option Int→Option Int→Hp→VK→Prop)(te:TE)(tl th:TO):TE:=fun σ H Q=>te σ H fun x H1=>tl σ H1 fun l H2=>th σ H2 fun u H3=>r x l u H3 Q
theorem yE {r:V→Option Int→Option Int→Hp→VK→Prop}(hr:SlR X r)(he:PE X e te)(hl:PO X lo tl)(hu:PO X hi th):PE X (.Subscript e (.Slice lo hi none p2) pos) (tSl r te tl th):=by
 intro pins s σ H Q I h
 refine Subscript_ (jJ (he pins s σ H _ I h) fun v s1 ⟨x,H1,I1,r1,q1⟩=>?_)
 refine wpAny_Slice (jJ (hl pins s1 σ H1 _ I1 q1) fun vl s2 ⟨l,H2,I2,pl,q2⟩=>jJ (hu pins s2 σ H2 _ I2 q2) fun vu s3 ⟨u,H3,I3,pu,q3⟩=>?_)
 rw [evalPart_none]
 refine wpAny_pure ?_
 have I4:Inv X pins σ H3 { s3 with heap:=s3.heap.push { cls:=.type "slice",data:=.fields #[vl,vu,.none] } }:=I3.kept (t':=s3.toks) fun b ob q=>Ac _ q
 obtain ⟨T,id,hT,ht,hg⟩:=hr pins { s3 with heap:=s3.heap.push { cls:=.type "slice",data:=.fields #[vl,vu,.none] } } σ H3 x v vl vu l u s3.heap.objs.size Q I4 r1 (Heap.IsSliceOf.new ..) pl pu q3
 show wpAny (model X.prog X.w) X.A (subscriptTail e (.Slice lo hi none p2) v (.ref s3.heap.objs.size)) (EP X pins σ Q) X.xe { s3 with heap:=s3.heap.push { cls:=.type "slice",data:=.fields #[vl,vu,.none] } }
 exact tail_any (ops:=[.ref s3.heap.objs.size,v]) ht hT hg (by with_unfolding_all rfl)
def zL (xs:List V)(lo hi:Option Int):List V:=(xs.drop (HT.sIx xs.length 0 lo)).take (HT.sIx xs.length xs.length hi - HT.sIx xs.length 0 lo)
theorem fN (xs:List V)(lo hi:Option Int):(zL xs lo hi).length ≤ xs.length:=by
 unfold zL
 rw [Av,BB]
 exact AB (Nat.min_le_right _ _) (Nat.sub_le _ _)
def rSlT (K:PySem.W.Frag):V→Option Int→Option Int→Hp→VK→Prop:=fun x lo hi H Q=>∃ a xs,x = .ref a∧SqT K H a xs ∧
 ¬ (HT.sIx xs.length 0 lo=0∧HT.sIx xs.length xs.length hi=xs.length)∧∀ p,H p=none→Q (.ref p) (upd H p (.tup (zL xs lo hi)))
theorem sl_tup:SlR X (rSlT X.K):=by
 intro pins s σ H x v vl vu lo hi sl Q I rx hs pl pu h
 obtain ⟨a,xs,rfl,hx,hw,q⟩:=h
 cases rx
 obtain ⟨its,r,ht,hz⟩:=I.tuple hx
 have hlen:its.toArray.size=xs.length:=by rw [Ah];exact r.length.symm
 refine ⟨"tuple",_,B8.lookup,ht.typeIs,?_⟩
 refine HT.getItem_tuple_cut ht hs pl pu (by rw [hlen];exact hw) ?_ (by rw [hlen];exact hz)
 rw [hlen]
 refine ⟨.ref s.heap.objs.size,_,I.laid (t':=s.toks) (o:=.tup (zL xs lo hi)) (fun b ob q=>Ac _ q) (Ad _) ?_,rfl,q _ (I.hok.fresh (Ad _))⟩
 exact ⟨AB (fN xs lo hi) hz,_,(r.drop (HT.sIx xs.length 0 lo)).take (HT.sIx xs.length xs.length hi - HT.sIx xs.length 0 lo),C0 _ _⟩
def rCatT (K:PySem.W.Frag):R2:=fun x y H Q=>∃ a b xs ys,x = .ref a∧y = .ref b∧SqT K H a xs∧SqT K H b ys∧xs ≠ []∧xs.length + ys.length ≤ sizeLine ∧
 (ys=[]→Q (.ref a) H)∧(ys ≠ []→∀ p,H p=none→Q (.ref p) (upd H p (.tup (xs ++ ys))))
theorem Vals.nil_iff {xs:List V}{us:List Value}(r:Vals xs us):us=[] ↔ xs=[]:=by
 cases r with
 | nil=>simp
 | cons _ _=>simp
theorem op_catT:xD X (binaryOp .Add) (rCatT X.K):=by
 intro pins s σ H x y v u Q I rx ry h
 obtain ⟨a,b,xs,ys,rfl,rfl,ha,hb,hx,hz,q1,q2⟩:=h
 cases rx
 cases ry
 obtain ⟨its,r1,p1,_⟩:=I.tuple ha
 obtain ⟨its2,r2,p2,_⟩:=I.tuple hb
 refine HT.cat_tup p1 p2 (fun z=>hx (r1.nil_iff.mp z)) (fun z=>⟨.ref a,H,I,rfl,q1 (r2.nil_iff.mp z)⟩) (fun z=>?_) (by rw [← r1.length,← r2.length];exact hz)
 refine ⟨.ref s.heap.objs.size,_,I.laid (t':=s.toks) (o:=.tup (xs ++ ys)) (fun b ob q=>Ac _ q) (Ad _) ?_,rfl,q2 (fun w=>z (r2.nil_iff.mpr w)) _ (I.hok.fresh (Ad _))⟩
 exact ⟨by rw [Ax];exact hz,_,r1.append r2,C0 _ _⟩
end
end L2
namespace L2
open PySem PySem.Spec PyProof.Rows
def pD (n:Nat)(i:Int):Option Nat:=if 0 ≤ i then (if i < n then some i.toNat else none) else if -(n:Int) ≤ i then some (i + n).toNat else none
def dM {α:Type}(xs:List α)(i:Int):Option α:=(pD xs.length i).bind fun j=>xs[j]?
theorem tV {n:Nat}{i:Int}{j:Nat}(h:pD n i=some j):seqIndex? i n=some j∧j < n∧-(n:Int) ≤ i∧i < n:=by
 unfold pD at h
 by_cases h0:0 ≤ i
 ·rw [As h0] at h
  by_cases h1:i < n
  ·rw [As h1] at h
   have e:i.toNat=j:=A8 h
   exact ⟨by rw [seqIndex_of h0 h1,e],by omega,by omega,h1⟩
  ·rw [Au h1] at h;cases h
 ·rw [Au h0] at h
  by_cases h1 : -(n:Int) ≤ i
  ·rw [As h1] at h
   have e:(i + n).toNat=j:=A8 h
   exact ⟨by rw [seqIndex_neg (by omega) h1,e],by omega,h1,by omega⟩
  ·rw [Au h1] at h;cases h
theorem uL {α:Type}{xs:List α}{i:Int}{v:α}(h:dM xs i=some v):∃ j,seqIndex? i xs.length=some j∧xs[j]? = some v∧j < xs.length∧-(xs.length:Int) ≤ i∧i < xs.length:=by
 unfold dM at h
 cases e:pD xs.length i with
 | none=>rw [e] at h;cases h
 | some j =>
  rw [e] at h
  obtain ⟨h1,h2,h3,h4⟩:=tV e
  exact ⟨j,h1,h,h2,h3,h4⟩
theorem xC {α:Type}{xs:List α}{j:Nat}{v:α}(h:xs[j]? = some v):dM xs (j:Int)=some v:=by
 have hj:j < xs.length:=(Af.mp h).1
 have e:pD xs.length (j:Int)=some j:=by
  unfold pD
  rw [As (by omega),As (by omega)];simp
 unfold dM;rw [e];exact h
theorem atI_last {α:Type}(xs:List α)(v:α):dM (xs ++ [v]) (-1)=some v:=by
 have hl:(xs ++ [v]).length=xs.length + 1:=by simp
 have e:pD (xs ++ [v]).length (-1)=some xs.length:=by
  unfold pD
  rw [hl,Au (by decide),As (by omega)]
  congr 1
  omega
 unfold dM
 rw [e]
 show (xs ++ [v])[xs.length]? = some v
 simp
def PlainIx (b:Expr):Prop:=∀ o i,subscripted b false o i=operate [o,i] (getItem o i)
def IxR (X:Cx)(r:R2):Prop :=
 ∀ (value slice:Expr) (pins:List (Addr × Obj)) (s:Shared) (σ:St) (H:Hp) (x y:V) (v u:Value) (Q:VK),Inv X pins σ H s→RelV x v→RelV y u→r x y H Q →
  subscripted slice false v u=operate [v,u] (getItem v u)→wpAny (model X.prog X.w) X.A (subscriptTail value slice v u) (EP X pins σ Q) X.xe s
section
variable {X:Cx}{a b:Expr}{ta tb:TE}{pos:Pos}
theorem kH {r:R2}(hr:IxR X r)(ha:PE X a ta)(hb:PE X b tb)(hs:PlainIx b):PE X (.Subscript a b pos) (tOp r ta tb):=by
 intro pins s σ H Q I h
 exact Subscript_ (binT ha hb I h fun v u s2 x y H2 I2 rx ry q=>hr a b pins s2 σ H2 x y v u Q I2 rx ry q (hs _ _))
def rIxL (K:PySem.W.Frag):R2:=fun x y H Q=>∃ p xs i v,x = .ref p∧y = .int i∧SqL K H p xs∧dM xs i=some v∧Q v H
def rIxT (K:PySem.W.Frag):R2:=fun x y H Q=>∃ p xs i v,x = .ref p∧y = .int i∧SqT K H p xs∧dM xs i=some v∧Q v H
theorem ix_list:IxR X (rIxL X.K):=by
 intro value slice pins s σ H x y v u Q I rx ry h hs
 obtain ⟨p,xs,i,z,rfl,rfl,hq,he,q⟩:=h
 cases rx
 obtain ⟨t,rfl⟩:=ry
 obtain ⟨its,r,pl,hz⟩:=I.list hq
 obtain ⟨j,h1,h2,h3,h4,h5⟩:=uL he
 obtain ⟨w,ew,rw'⟩:=r.get h2
 have hl:=r.length
 have hn:=nC
 have fin:EP X pins σ Q w s:=⟨z,H,I,rw',q⟩
 by_cases h0:0 ≤ i
 ·have hj:i.toNat=j:=by
   rw [seqIndex_of h0 h5] at h1
   exact A8 h1
  exact item_listR pl.isList h0 (by omega) (by rw [hj];simpa using ew) fin hs
 ·have hj:(i + (its.toArray.size:Int)).toNat=j:=by
   rw [seqIndex_neg (by omega) h4] at h1
   rw [Ah,← hl]
   exact A8 h1
  exact subscriptTail_builtinR (x:=w) pl.isList.typeIs slot_list_getitem.lookup
   (wpAny_getItem_list_neg (Q:=fun r s'=>r=w∧EP X pins σ Q r s') pl.isList (by omega) (by rw [Ah] <;> omega) (by omega) (by rw [hj];simpa using ew) ⟨rfl,fin⟩) hs
theorem ix_tup:IxR X (rIxT X.K):=by
 intro value slice pins s σ H x y v u Q I rx ry h hs
 obtain ⟨p,xs,i,z,rfl,rfl,hq,he,q⟩:=h
 cases rx
 obtain ⟨t,rfl⟩:=ry
 obtain ⟨its,r,pl,hz⟩:=I.tuple hq
 obtain ⟨j,h1,h2,h3,h4,h5⟩:=uL he
 obtain ⟨w,ew,rw'⟩:=r.get h2
 have hl:=r.length
 have hn:=nC
 have fin:EP X pins σ Q w s:=⟨z,H,I,rw',q⟩
 exact subscriptTail_builtinR (x:=w) pl.typeIs slot_tuple_getitem.lookup
  (getItem_tuple (j:=j) (Q:=fun r s'=>r=w∧EP X pins σ Q r s') pl (by omega) (by omega) (by rw [Ah,← hl];exact h1) (by simpa using ew) ⟨rfl,fin⟩) hs
theorem rY (its:List Value)(n j:Nat)(u:Value):Obj.mapSeq (·.setIfInBounds j u) { cls:=.type "list",data:=.seq its.toArray n } = { cls:=.type "list",data:=.seq (its.set j u).toArray n }:=by
 simp [Obj.mapSeq]
theorem Inv.lst {pins:List (Addr × Obj)}{σ:St}{H:Hp}{s:Shared}{p:Addr}{xs:List V}(I:Inv X pins σ H s)(h:H p=some (.lst xs)) :
  ∃ (its:List Value) (n:Nat),Vals xs its∧s.heap.get? p=some { cls:=.type "list",data:=.seq its.toArray n }∧xs.length ≤ sizeLine:=by
 obtain ⟨z,its,n,r,e⟩:=I.hok p _ h
 exact ⟨its,n,r,e,z⟩
theorem Inv.lstUpd {pins:List (Addr × Obj)}{σ:St}{H:Hp}{s:Shared}{p:Addr}{xs ys:List V}{its its':List Value}{n n':Nat}{f:Obj→Obj}(I:Inv X pins σ H s)(h:H p=some (.lst xs))
  (ho:s.heap.get? p=some { cls:=.type "list",data:=.seq its.toArray n }) (hf:f { cls:=.type "list",data:=.seq its.toArray n } = { cls:=.type "list",data:=.seq its'.toArray n' }) (r:Vals ys its') (hz:ys.length ≤ sizeLine) (t:Nat) :
  Inv X pins σ (upd H p (.lst ys)) { s with heap:=s.heap.update p f,toks:=t }:=by
 have e:(s.heap.update p f).get? p=some { cls:=.type "list",data:=.seq its'.toArray n' }:=by
  rw [BN f ho (by rw [hf] <;> rfl),hf]
 refine I.write (x:=p) (e:=p) (by rw [h];trivial) (.inl rfl) (fun b u hb q=>(AM _ _ (BZ hb)).trans q) ⟨_,e⟩ ?_
 exact ⟨hz,its',n',r,e⟩
def iS:V→V→V→Hp→(Hp→Prop)→Prop:=fun o i v H Q=>∃ p xs k j,o = .ref p∧i = .int k∧H p=some (.lst xs)∧pD xs.length k=some j∧Q (upd H p (.lst (xs.set j v)))
theorem set_list:PSet X iS:=by
 intro pins s σ H o i v ov iv u Q I ro ri rv h
 obtain ⟨p,xs,k,j,rfl,rfl,hp,hj,q⟩:=h
 cases ro
 obtain ⟨t,rfl⟩:=ri
 obtain ⟨its,n,r,ho,hz⟩:=I.lst hp
 obtain ⟨h1,h2,h3,h4⟩:=tV hj
 have hl:=r.length
 have hn:=nC
 have I':Inv X pins σ (upd H p (.lst (xs.set j v))) { s with heap:=s.heap.update p (Obj.mapSeq (·.setIfInBounds j u)) } :=
  I.lstUpd hp ho (rY its n j u) (r.set rv j) (by rw [List.length_set];exact hz) s.toks
 by_cases h0:0 ≤ k
 ·have hk:k.toNat=j:=by
   rw [seqIndex_of h0 h4] at h1
   exact A8 h1
  exact PySem.W.ki_setAt ho h0 (by omega) (by rw [Ah,← hl];exact h4) (by rw [hk];exact ⟨_,I',q⟩)
 ·have hk:(k + (its.toArray.size:Int)).toNat=j:=by
   rw [seqIndex_neg (by omega) h3] at h1
   rw [Ah,← hl]
   exact A8 h1
  exact PySem.W.ki_setBack ho (by omega) (by rw [Ah,← hl];exact h3) (by omega) (by rw [hk];exact ⟨_,I',q⟩)
theorem clip0 (i:Int)(n:Nat):max 0 (min (if i < 0 then i + (n:Int) else i) (n:Int))=(((if i < 0 then (i + (n:Int)).toNat else min i.toNat n):Nat):Int):=by
 by_cases h:i < 0
 ·rw [As h,As h,Int.min_eq_left (by omega),Int.ofNat_toNat,Int.max_comm]
 ·have z:0 ≤ i:=Int.not_lt.mp h
  obtain ⟨k,rfl⟩:=AR z
  rw [Au h,Au h,Ar];exact (Int.max_eq_right (Int.le_min.mpr ⟨z,Int.natCast_nonneg n⟩)).trans (by omega)
theorem mU (lo hi:Option Int)(n:Nat):(sliceBounds lo hi none n).1=((HT.sIx n 0 lo:Nat):Int)∧(sliceBounds lo hi none n).2.1=((HT.sIx n n hi:Nat):Int)∧(sliceBounds lo hi none n).2.2=1:=by
 exact ⟨by cases lo with | none=>simp [sliceBounds,HT.sIx] | some i=>exact clip0 i n,by cases hi with | none=>simp [sliceBounds,HT.sIx] | some i=>exact clip0 i n,rfl⟩
theorem bO (its:List Value)(lo hi:Option Int):slicePick its.toArray lo hi none=((its.drop (HT.sIx its.length 0 lo)).take (HT.sIx its.length its.length hi - HT.sIx its.length 0 lo)).toArray:=by
 obtain ⟨h1,h2,h3⟩:=mU lo hi its.toArray.size
 unfold slicePick
 rw [h1,h2,h3]
 simp only [sliceRange_one,pick_run,Ah] <;> rfl
def rSlL (K:PySem.W.Frag):V→Option Int→Option Int→Hp→VK→Prop:=fun x lo hi H Q=>∃ a xs,x = .ref a∧SqL K H a xs∧∀ p,H p=none→Q (.ref p) (upd H p (.lst (zL xs lo hi)))
theorem sl_list:SlR X (rSlL X.K):=by
 intro pins s σ H x v vl vu lo hi sl Q I rx hs pl pu h
 obtain ⟨a,xs,rfl,hx,q⟩:=h
 cases rx
 obtain ⟨its,r,ht,hz⟩:=I.list hx
 have hlen:=r.length
 refine ⟨"list",_,slot_list_getitem.lookup,ht.isList.typeIs,?_⟩
 refine wpAny_getItem_list_slice ht.isList hs pl pu .none (by simp) ?_ (by rw [Ah] <;> omega)
 rw [bO,← hlen]
 refine ⟨.ref s.heap.objs.size,_,I.laid (t':=s.toks) (o:=.lst (zL xs lo hi)) (fun b ob q=>Ac _ q) (Ad _) ?_,rfl,q _ (I.hok.fresh (Ad _))⟩
 exact ⟨AB (fN xs lo hi) hz,_,0,(r.drop (HT.sIx xs.length 0 lo)).take (HT.sIx xs.length xs.length hi - HT.sIx xs.length 0 lo),Ak _ rfl⟩
def zT:V→Bool
 | .non=>true
 | .bl _=>true
 | .int _=>true
 | .str _=>true
 | _=>false
def pI:V→V→Bool
 | .non,.non=>true
 | .bl a,.bl b=>a == b
 | .bl a,.int b=>(if a then 1 else 0) == b
 | .int a,.bl b=>a == (if b then 1 else 0)
 | .int a,.int b=>a == b
 | .str a,.str b=>a == b
 | _,_=>false
theorem gJ {A:Around}{s:Shared}{y x:V}{u v:Value}(ry:RelV y u)(rx:RelV x v)(fy:zT y=true)(fx:zT x=true):SeqAt.EqAt A s u v (pI y x):=by
 cases y with
 | non =>
  cases ry
  cases x with
  | non=>cases rx;exact Ca _
  | bl b=>cases rx;exact SeqAt.EqAt.none_bool b
  | int b=>obtain ⟨t,rfl⟩:=rx;exact SeqAt.EqAt.none_int b t
  | str b=>obtain ⟨t,rfl⟩:=rx;exact SeqAt.EqAt.none_str b t
  | _=>exact absurd (show false=true from fx) Ao
 | bl a =>
  cases ry
  cases x with
  | non=>cases rx;exact SeqAt.EqAt.bool_none a
  | bl b=>cases rx;exact SeqAt.EqAt.bool_bool a b
  | int b=>obtain ⟨t,rfl⟩:=rx;exact SeqAt.EqAt.bool_int a b t
  | str b=>obtain ⟨t,rfl⟩:=rx;exact SeqAt.EqAt.bool_str a b t
  | _=>exact absurd (show false=true from fx) Ao
 | int a =>
  obtain ⟨t',rfl⟩:=ry
  cases x with
  | non=>cases rx;exact SeqAt.EqAt.int_none a t'
  | bl b=>cases rx;exact SeqAt.EqAt.int_bool a t' b
  | int b=>obtain ⟨t,rfl⟩:=rx;exact SeqAt.EqAt.int_int a t' b t
  | str b=>obtain ⟨t,rfl⟩:=rx;exact SeqAt.EqAt.int_str a t' b t
  | _=>exact absurd (show false=true from fx) Ao
 | str a =>
  obtain ⟨t',rfl⟩:=ry
  cases x with
  | non=>cases rx;exact SeqAt.EqAt.str_none a t'
  | bl b=>cases rx;exact SeqAt.EqAt.str_bool a t' b
  | int b=>obtain ⟨t,rfl⟩:=rx;exact SeqAt.EqAt.str_int a t' b t
  | str b=>obtain ⟨t,rfl⟩:=rx;exact SeqAt.EqAt.str_str a t' b t
  | _=>exact absurd (show false=true from fx) Ao
 | _=>exact absurd (show false=true from fy) Ao
def eqU (x:V)(u:Value):Bool:=match u with
 | .none=>pI .non x
 | .bool b=>pI (.bl b) x
 | .int i _=>pI (.int i) x
 | .str z _=>pI (.str z) x
 | _=>false
theorem eqU_of {x y:V}{u:Value}(r:RelV y u)(f:zT y=true):eqU x u=pI y x:=by
 cases y with
 | non=>cases r;rfl
 | bl b=>cases r;rfl
 | int i=>obtain ⟨t,rfl⟩:=r;rfl
 | str z=>obtain ⟨t,rfl⟩:=r;rfl
 | _=>exact absurd (show false=true from f) Ao
theorem nO {x:V}:∀ {xs:List V} {us:List Value},Vals xs us→xs.all zT=true→us.any (eqU x)=xs.any fun y=>pI y x
 | _,_,.nil,_=>rfl
 | y :: xs,u :: us,.cons r t,f=>by
  rw [Cm,AF] at f
  rw [List.any_cons,List.any_cons,eqU_of r f.1,nO t f.2]
theorem bA {A:Around}{s:Shared}{x:V}{v:Value}(rx:RelV x v)(fx:zT x=true):∀ {xs:List V} {us:List Value},Vals xs us→xs.all zT=true→∀ u ∈ us,SeqAt.EqAt A s u v (eqU x u)
 | _,_,.nil,_=>fun u hu=>by cases hu
 | y :: xs,u :: us,.cons r t,f=>fun u' hu=>by
  rw [Cm,AF] at f
  rcases A2.mp hu with rfl | hu
  ·rw [eqU_of r f.1];exact gJ r rx f.1 fx
  ·exact bA rx fx t f.2 u' hu
def inV (x:V)(xs:List V):Bool:=xs.any fun y=>pI y x
def rIn (K:PySem.W.Frag)(neg:Bool):R2:=fun x y H Q=>∃ p xs,y = .ref p∧(SqL K H p xs∨SqT K H p xs)∧zT x=true∧xs.all zT=true∧Q (.bl (if neg then !inV x xs else inV x xs)) H
theorem u6:xD X (compareOp .In) (rIn X.K false):=by
 intro pins s σ H x y v u Q I rx ry h
 obtain ⟨p,xs,rfl,hq,fx,fs,q⟩:=h
 cases ry
 rcases hq with hq | hq
 ·obtain ⟨its,r,pl,hz⟩:=I.list hq
  refine SeqAt.in_listAt (eqU x) pl.isList (fun w hw=>bA rx fx r fs w (by simpa using hw)) ⟨.bl _,H,I,rfl,?_⟩
  rw [show its.toArray.any (eqU x)=its.any (eqU x) by simp,nO r fs]
  exact q
 ·obtain ⟨its,r,pl,hz⟩:=I.tuple hq
  refine SeqAt.in_tupleAt (eqU x) pl (fun w hw=>bA rx fx r fs w (by simpa using hw)) ⟨.bl _,H,I,rfl,?_⟩
  rw [show its.toArray.any (eqU x)=its.any (eqU x) by simp,nO r fs]
  exact q
theorem nM:j7 X (.builtin "len") (fun xs H Q=>∃ p ys,xs=[.ref p]∧(SqL X.K H p ys∨SqT X.K H p ys)∧Q (.int ys.length) H):=by
 intro pins s σ H xs us Q I r h
 obtain ⟨p,ys,rfl,hq,q⟩:=h
 obtain ⟨u,rfl,rx⟩:=vals1 r
 cases rx
 have hn:=nC
 rcases hq with hq | hq
 ·obtain ⟨its,r',pl,hz⟩:=I.list hq
  have hlen:=r'.length
  exact Calls.call_len_list pl.isList (by simp only [Ah] <;> omega) ⟨.int ys.length,H,I.tok _,⟨s.toks + 1,by rw [Ah,hlen]⟩,q⟩
 ·obtain ⟨its,r',pl,hz⟩:=I.tuple hq
  have hlen:=r'.length
  exact len_tuple pl (by simp only [Ah] <;> omega) ⟨.int ys.length,H,I.tok _,⟨s.toks + 1,by rw [Ah,hlen]⟩,q⟩
theorem dF:j7 X (.type "list") (fun xs H Q=>∃ p ys,xs=[.ref p]∧(SqL X.K H p ys∨SqT X.K H p ys)∧∀ l,H l=none→Q (.ref l) (upd H l (.lst ys))):=by
 intro pins s σ H xs us Q I r h
 obtain ⟨p,ys,rfl,hq,q⟩:=h
 obtain ⟨u,rfl,rx⟩:=vals1 r
 cases rx
 have fin:∀ (its:List Value),Vals ys its→ys.length ≤ sizeLine→∀ (h':Heap) (c':Nat),(∀ b o',s.heap.get? b=some o'→h'.get? b=some o') →
   h'.get? s.heap.objs.size=some { cls:=.type "list",dict:=none,data:=.seq its.toArray c',slots := #[] }→EP X pins σ Q (.ref s.heap.objs.size) { s with heap:=h' }:=fun its r' hz h' c' kp e =>
  ⟨.ref s.heap.objs.size,_,I.laid (t':=s.toks) kp (Ad _) (show ObjOk X.prog X.w _ h' _ (.lst ys) from ⟨hz,its,c',r',e⟩),rfl,q _ (I.hok.fresh (Ad _))⟩
 rcases hq with hq | hq
 ·obtain ⟨its,r',pl,hz⟩:=I.list hq
  have hlen:=r'.length
  obtain ⟨o,ho,hc,n,hd⟩:=pl.isList
  exact call_list_seq p (.inl rfl) ho hc hd (fun h' c' kp e=>fin its r' hz h' c' kp e) (by simp only [Ah] <;> omega)
 ·obtain ⟨its,r',pl,hz⟩:=I.tuple hq
  have hlen:=r'.length
  obtain ⟨o,ho,hc,n,hd⟩:=pl
  exact call_list_seq p (.inr rfl) ho hc hd (fun h' c' kp e=>fin its r' hz h' c' kp e) (by simp only [Ah] <;> omega)
theorem bQ:j7 X (.type "tuple") (fun xs H Q=>∃ p ys,xs=[.ref p]∧((SqL X.K H p ys∧∀ l,H l=none→Q (.ref l) (upd H l (.tup ys)))∨(SqT X.K H p ys∧Q (.ref p) H))):=by
 intro pins s σ H xs us Q I r h
 obtain ⟨p,ys,rfl,h⟩:=h
 obtain ⟨u,rfl,rx⟩:=vals1 r
 cases rx
 rcases h with ⟨hq,q⟩ | ⟨hq,q⟩
 ·obtain ⟨its,r',pl,hz⟩:=I.list hq
  have hlen:=r'.length
  refine call_tuple_list pl.isList (fun h' kp=>?_) (by simp only [Ah] <;> omega)
  have I1:Inv X pins σ H { s with heap:=h' }:=I.kept (t':=s.toks) kp
  have I2:Inv X pins σ (upd H h'.objs.size (.tup ys)) { s with heap:=h'.push { cls:=.type "tuple",data:=.seq its.toArray } } :=
   I1.laid (t':=s.toks) (fun b o e=>Ac _ e) (Ad _) (show ObjOk X.prog X.w _ _ _ (.tup ys) from ⟨hz,its,r',C0 _ _⟩)
  exact ⟨.ref h'.objs.size,_,I2,rfl,q _ (I1.hok.fresh (Ad _))⟩
 ·obtain ⟨its,r',pl,hz⟩:=I.tuple hq
  exact call_tuple_same pl ⟨.ref p,H,I,rfl,q⟩
def tyV (K:PySem.W.Frag)(T:String)(x:V)(H:Hp):Prop:=match x with
 | .str _=>T = "str"
 | .int _=>T = "int"
 | .ref p=>(T = "list" ∧ ∃ xs,SqL K H p xs)∨(T = "tuple" ∧ ∃ o,K.lookup p=some o∧o.cls = .type "tuple" ∧ o.dict=none) ∨
   (T = "dict" ∧ ((∃ kvs,H p=some (.dK kvs))∨∃ kvs,H p=some (.dT kvs)))∨(T = "set" ∧ ∃ S n,H p=some (.set S n))
 | _=>False
theorem eR {pins:List (Addr × Obj)}{σ:St}{H:Hp}{s:Shared}{T:String}{x:V}{v:Value}(I:Inv X pins σ H s)(r:RelV x v)(ty:tyV X.K T x H) :
  s.TypeIs v T∧∀ a,v = .ref a→∃ ob,s.heap.get? a=some ob∧ob.dict=none:=by
 cases x with
 | str z =>
  obtain ⟨t,rfl⟩:=r
  cases (show T = "str" from ty)
  exact ⟨typeIs_str s z t,fun _ e=>nomatch e⟩
 | int i =>
  obtain ⟨t,rfl⟩:=r
  cases (show T = "int" from ty)
  exact ⟨typeIs_int s i t,fun _ e=>nomatch e⟩
 | ref p =>
  cases r
  rcases ty with ⟨rfl,xs,hq⟩ | ⟨rfl,o,hk,hc,hd⟩ | ⟨rfl,hk⟩ | ⟨rfl,S,n,hk⟩
  ·obtain ⟨its,_,pl,_⟩:=I.list hq
   refine ⟨pl.isList.typeIs,fun a e=>?_⟩
   cases e
   obtain ⟨o,n,e,c,hd,_⟩:=pl
   exact ⟨o,e,hd⟩
  ·refine ⟨⟨o,I.kIn p o hk,hc⟩,fun a e=>?_⟩
   cases e
   exact ⟨o,I.kIn _ o hk,hd⟩
  ·have z:∃ o,s.heap.get? p=some o∧o.ExactDict:=by
    rcases hk with ⟨kvs,hk⟩ | ⟨kvs,hk⟩
    ·obtain ⟨_,_,_,_,o,_,_,e,ex,_⟩:=I.hok p _ hk
     exact ⟨o,e,ex⟩
    ·obtain ⟨_,_,_,_,o,_,_,e,ex,_⟩:=I.hok p _ hk
     exact ⟨o,e,ex⟩
   obtain ⟨o,e,ex⟩:=z
   refine ⟨⟨o,e,ex.1⟩,fun a e2=>?_⟩
   cases e2
   exact ⟨o,e,ex.2.1⟩
  ·obtain ⟨o,_,_,_,e,ex,_⟩:=I.hok p _ hk
   refine ⟨⟨o,e,ex.1⟩,fun a e2=>?_⟩
   cases e2
   exact ⟨o,e,ex.2.1⟩
 | _=>exact False.elim ty
variable {o e:Expr}{es:List Expr}{to:TE}{t:TA}{name:Str}{apos cpos:Pos}{T id:String}{r:V→List V→Hp→VK→Prop}
end
end L2
namespace L2
open PySem PySem.Spec PyProof.Rows
def MtM (X:Cx)(id:String)(r:V→List V→Hp→VK→Prop):Prop :=
 ∀ (pins:List (Addr × Obj)) (s:Shared) (σ:St) (H:Hp) (x:V) (xs:List V) (v:Value) (us:List Value) (Q:VK),Inv X pins σ H s→RelV x v→Vals xs us→r x xs H Q →
  wpAny (model X.prog X.w) X.A (call (.builtin id) (v :: us)) (EP X pins σ Q) X.xe s
theorem Vals.one {x:V}{us:List Value}(h:Vals [x] us):∃ u,us=[u]∧RelV x u:=by
 cases h with
 | cons r t=>cases t;exact ⟨_,rfl,r⟩
theorem Vals.two {x y:V}{us:List Value}(h:Vals [x,y] us):∃ u v,us=[u,v]∧RelV x u∧RelV y v:=by
 cases h with
 | cons r t =>
  cases t with
  | cons q z=>cases z;exact ⟨_,_,rfl,r,q⟩
theorem Vals.zero:∀ {us:List Value},Vals [] us→us=[]
 | _,.nil=>rfl
theorem Vals.dropLast {xs:List V}{us:List Value}(h:Vals xs us):Vals xs.dropLast us.dropLast:=by
 induction h with
 | nil=>exact .nil
 | cons r t ih =>
  cases t with
  | nil=>exact .nil
  | cons q t'=>exact .cons r ih
theorem Vals.eraseIdx:∀ {xs:List V} {us:List Value} (i:Nat),Vals xs us→Vals (xs.eraseIdx i) (us.eraseIdx i)
 | _,_,_,.nil=>.nil
 | _,_,0,.cons _ t=>t
 | _,_,i + 1,.cons r t=>.cons r (Vals.eraseIdx i t)
theorem Vals.reverse {xs:List V}{us:List Value}(h:Vals xs us):Vals xs.reverse us.reverse:=by
 induction h with
 | nil=>exact .nil
 | cons r t ih=>rw [List.reverse_cons,List.reverse_cons];exact Vals.append ih (.cons r .nil)
theorem Vals.rep {xs:List V}{us:List Value}(h:Vals xs us):∀ k:Nat,Vals (List.replicate k xs).flatten (List.replicate k us).flatten
 | 0=>.nil
 | k + 1=>by
  rw [Bq,Bq,Bv,Bv]
  exact Vals.append h (Vals.rep h k)
theorem cV {α:Type}:∀ (l:List α) (i:Nat),(l.eraseIdx i).length ≤ l.length
 | [],_=>Ad _
 | _ :: _,0=>Cq _
 | _ :: r,i + 1=>Nat.succ_le_succ (cV r i)
theorem foldl_rep (its:List Value):∀ (k:Nat) (acc:List Value),
  List.foldl (fun x1 x2=>x1 ++ x2) acc.toArray (List.replicate k its.toArray)=(acc ++ (List.replicate k its).flatten).toArray
 | 0,acc=>by simp
 | k + 1,acc=>by
  have e:acc.toArray ++ its.toArray=(acc ++ its).toArray:=by simp
  have e2:(acc ++ its) ++ (List.replicate k its).flatten=acc ++ (List.replicate (k + 1) its).flatten:=by
   rw [Bq,Bv,List.append_assoc]
  rw [← e2,← foldl_rep its k (acc ++ its),← e,Bq,List.foldl_cons]
section
variable {X:Cx}{pins:List (Addr × Obj)}{σ:St}{H:Hp}{s:Shared}{l b:Addr}{xs ys zs:List V}
theorem Inv.lset {its its':List Value}{n:Nat}{f:Array Value→Array Value}{t':Nat}(I:Inv X pins σ H s)(hH:H l=some (.lst xs))
  (e:s.heap.get? l=some { cls:=.type "list",data:=.seq its.toArray n }) (hf:f its.toArray=its'.toArray) (hv:Vals ys its') (hz:ys.length ≤ sizeLine) :
  Inv X pins σ (upd H l (.lst ys)) { s with heap:=s.heap.update l (Obj.mapSeq f),toks:=t' }:=by
 have q:=PySem.IsL.update e f
 rw [hf] at q
 refine I.write (x:=l) (e:=l) (by rw [hH];exact trivial) (.inl rfl) (fun b' u hb hu=>(AM s.heap (Obj.mapSeq f) (BZ hb)).trans hu) ⟨_,q⟩ ?_
 exact ⟨hz,its',_,hv,q⟩
theorem Inv.lnew {its:List Value}{t':Nat}(I:Inv X pins σ H s)(hv:Vals ys its)(hz:ys.length ≤ sizeLine) :
  Inv X pins σ (upd H s.heap.objs.size (.lst ys)) { s with heap:=s.heap.push { cls:=.type "list",data:=.seq its.toArray },toks:=t' } :=
 I.laid (fun _ _ q=>Ac _ q) (Ad _) ⟨hz,its,0,hv,Ak _ rfl⟩
theorem Inv.fresh (I:Inv X pins σ H s):H s.heap.objs.size=none:=I.hok.fresh (Ad _)
theorem Inv.lstM (I:Inv X pins σ H s)(hH:H l=some (.lst xs)):xs.length ≤ sizeLine∧∃ (its:List Value) (n:Nat),Vals xs its∧xs.length=its.length∧s.heap.get? l=some { cls:=.type "list",data:=.seq its.toArray n }:=by
 obtain ⟨z,its,n,r,e⟩:=I.hok l _ hH
 exact ⟨z,its,n,r,r.length,e⟩
end
section
variable {X:Cx}
def rAppend:V→List V→Hp→VK→Prop:=fun x vs H Q=>∃ l xs y,x = .ref l∧vs=[y]∧H l=some (.lst xs)∧xs.length < sizeLine∧Q .non (upd H l (.lst (xs ++ [y])))
theorem cT:MtM X "list.append" rAppend:=by
 intro pins s σ H x vs v us Q I rx rv h
 obtain ⟨l,xs,y,rfl,rfl,hH,hz,q⟩:=h
 cases rx
 obtain ⟨u,rfl,ru⟩:=rv.one
 obtain ⟨z,its,n,r,hl,e⟩:=I.lstM hH
 refine call_meets F.slot_list_append ⟨_,e,rfl⟩ F.entry_list_append (F.args_list_append_2 _ _) (PySem.list_append l its.toArray n u (by rw [Ah];omega)) ⟨e,?_⟩
 refine ⟨.non,_,I.lset (its':=its ++ [u]) hH e (by simp) (r.append (.cons ru .nil)) ?_,rfl,q⟩
 rw [Ax,Bc]
 omega
def rPopAt:V→List V→Hp→VK→Prop:=fun x vs H Q=>∃ l xs i k y,x = .ref l∧vs=[.int i]∧H l=some (.lst xs)∧-(2 ^ 63) ≤ i∧i < 2 ^ 63∧seqIndex? i xs.length=some k∧xs[k]? = some y∧Q y (upd H l (.lst (xs.eraseIdx k)))
theorem oU:MtM X "list.pop" rPopAt:=by
 intro pins s σ H x vs v us Q I rx rv h
 obtain ⟨l,xs,i,k,y,rfl,rfl,hH,h1,h2,hk,hy,q⟩:=h
 cases rx
 obtain ⟨u,rfl,ru⟩:=rv.one
 obtain ⟨t,rfl⟩:=ru
 obtain ⟨z,its,n,r,hl,e⟩:=I.lstM hH
 obtain ⟨w,hw,rw'⟩:=r.get hy
 refine call_meets F.slot_list_pop ⟨_,e,rfl⟩ F.entry_list_pop (F.args_list_pop_2 _ _)
  (MeetsSeq.list_pop_at l its.toArray n i t k w (fitsIndex_both h1 h2) (by rw [Ah,← hl];exact hk) (by rw [← Array.getElem?_toList];exact hw) (by rw [Ah];omega)) ⟨e,?_⟩
 refine ⟨y,_,I.lset (its':=its.eraseIdx k) hH e ?_ (r.eraseIdx k) ?_,rw',q⟩
 ·show its.toArray.eraseIdxIfInBounds k=(its.eraseIdx k).toArray
  rw [List.eraseIdxIfInBounds_toArray]
 ·have:=cV xs k
  omega
def rCat:R2:=fun x y H Q=>∃ l b xs zs,x = .ref l∧y = .ref b∧H l=some (.lst xs)∧H b=some (.lst zs)∧xs.length + zs.length ≤ sizeLine∧∀ p,H p=none→Q (.ref p) (upd H p (.lst (xs ++ zs)))
theorem op_cat:xD X (binaryOp .Add) rCat:=by
 intro pins s σ H x y v u Q I rx ry h
 obtain ⟨l,b,xs,zs,rfl,rfl,hH,hB,hz,q⟩:=h
 cases rx
 cases ry
 obtain ⟨z,its,n,r,hl,e⟩:=I.lstM hH
 obtain ⟨z2,its2,n2,r2,hl2,e2⟩:=I.lstM hB
 refine PySem.P.add_list e e2 ?_ (by rw [Ah,Ah];omega)
 have ea:its.toArray ++ its2.toArray=(its ++ its2).toArray:=by simp
 rw [ea]
 exact ⟨.ref _,_,I.lnew (t':=s.toks) (r.append r2) (by rw [Ax];omega),rfl,q _ I.fresh⟩
theorem len_rep {α:Type}(xs:List α)(k:Nat):(List.replicate k xs).flatten.length=k * xs.length:=by
 induction k with
 | zero=>simp
 | succ k ih=>rw [Bq,Bv,Ax,ih,Nat.succ_mul,Nat.add_comm]
end
section
variable {prog:Program}{w:World}{A:Around}{E:Value→Shared→Prop}{s:Shared}
end
section
variable {X:Cx}
end
end L2
namespace Att
open PySem PySem.W PySem.Calls PyProof.Rows
theorem fO {P:Params}{h:Heap}:∀ (ns:List Int) (vs:List Value),WellAll P h vs (ns.map WData.int)→IntsAre vs ns:=by
 intro ns
 induction ns with
 | nil =>
  intro vs w
  rw [C8] at w
  cases w
  exact .nil
 | cons n ns ih =>
  intro vs w
  rw [AK] at w
  cases w with
  | cons a b =>
   cases a
   exact .cons _ _ (ih _ b)
theorem uY {l:OpenLaw}{n:Nat}(hn:l.most=some n){P:Params}{h:Heap}{args:List WData}{vals:List Value}
  (hpre:l.row.toRowW.claim.pre args=true) (hwl:WellAll P h vals args) :
  ∃ a vs ns,vals=[Value.ref a]∧args=[WData.list (ns.map WData.int)]∧h.get? a=some { cls:=.type "list",data:=.seq vs.toArray }∧IntsAre vs ns∧ns.length ≤ n:=by
 have hsh:WShape.hasAll [] args [.list .int] = true:=(pre_splitW hpre).1
 have hc:l.pre.holds [] { args:=args } = true:=(pre_splitW hpre).2
 obtain ⟨d,r,rfl,h1,h2⟩:=hasAllW_cons hsh
 obtain rfl:=hasAllW_nil h2
 obtain ⟨xs,rfl,h3⟩:=hasW_list h1
 obtain ⟨ns,rfl⟩:=items_int h3
 have hlen:ns.length ≤ n:=by
  unfold OpenLaw.pre at hc
  have h4:(WTm.not (.lt (.lit (.int (n:Int))) (.len (.arg 0)))).holds [] { args:=[.list (ns.map .int)] } = true:=by
   have h4:=(holds_andW hc).1
   rw [hn] at h4
   exact h4
  have h5:=condW_of h4 (w_not (w_lt w_lit (w_len_list (w_arg rfl))))
  rw [Aa] at h5
  refine Nat.le_of_not_lt fun q=>?_
  have q':(n:Int) < ((ns.length:Nat):Int):=by omega
  first
   | (rw [A0 q'] at h5;exact absurd h5 (by decide))
   | (simp at h5;omega)
 cases hwl with
 | cons w1 w2 =>
  cases w2
  cases w1 with
  | list ho hall=>exact ⟨_,_,ns,rfl,rfl,ho,fO ns _ hall,hlen⟩
theorem uZ (l:OpenLaw)(args:List WData):l.row.toRowW.claim.post args (.bool true) args=true :=
 postW_of (r:=l.row.toRowW) (X:=(true == true))
  (show WShape.has [] (.bool true) .bool=true by first | rfl | decide | simp [WShape.has,WShape.arms,WShape.armsAll])
  (show (WTm.eq .res (.lit (.bool true))).value [] { args:=args,res:=some (.bool true),after:=args } = some (.bool (true == true)) from w_eq_bool (w_res rfl) w_lit) rfl
theorem attach_call {l:OpenLaw}{n:Nat}{q:Program}{loose:List Str}{XP:(Str→Option Value)→Heap→Prop}{YP:World→Heap→Prop}{d:DefRec}
  (hn:l.most=some n) (hdf:d.params.defaults=[])
  (call:∀ (w:World) (s₀ s₁:Shared) (mg mb:Str→Option Value) (fa:Addr) (o:Obj) (pm cd doc:Value) (a:Addr) (vs:List Value) (ns:List Int),
   Ground q loose [] XP w s₀ mg mb s₁.heap→YP w s₁.heap →
   s₁.heap.get? fa=some o→o.data = .func (docDef d.name d.params d.body d.scope pm cd doc)→s₁.heap.CodeRec cd d.name→mg d.name=some (.ref fa) →
   s₁.heap.get? a=some { cls:=.type "list",data:=.seq vs.toArray }→IntsAre vs ns→ns.length ≤ n→s₁.gens = #[] →
   codeAny (model l.prog w) callerA (.call (.ref fa) ⟨[.ref a],[]⟩) (fun r s'=>r = .ok (.ret (.bool true))∧OldK s₁.heap s'.heap∧s'.os=s₁.os∧AllBare s'.gens) s₁) :
  WalkO q loose XP YP l.row.toRowW d [] (fun f vs=>PySem.call f vs):=by
 intro w s₀ s₁ mg mb G Y fa o pm cd doc dV kV ho hd hcd hD hmg hg args vals as hpre hlay hrd hwl hlo
 obtain rfl:dV = .none:=Dflts.none hD hdf
 obtain rfl:kV = .none:=Dflts.noKw hD
 obtain ⟨a,vs,ns,rfl,rfl,hobj,hints,hlen⟩:=uY hn hpre hwl
 refine enter_call (codeAny_mono (call w s₀ s₁ mg mb fa o pm cd doc a vs ns G Y ho (fd_plain hd) hcd hmg hobj hints hlen hg) fun r s' hq=>?_)
 obtain ⟨rfl,h2,h3,h4⟩:=hq
 exact ⟨.inl ⟨.bool true,.bool true,[],rfl,fun _=>rfl,.bool true,uZ l _,fun _=>⟨List.Pairwise.nil,fun _ hm=>(nomatch hm)⟩⟩,h2,h3,h4⟩
section
variable {prog:Program}{w:World}{A:Around}{E:Value→Shared→Prop}{s:Shared}{K:Frag}
end
end Att
namespace L2
open PySem PySem.Spec PyProof.Rows
theorem dQ:∀ {vs:List Value} {ns:List Int},IntsAre vs ns→Vals (ns.map V.int) vs
 | _,_,.nil=>.nil
 | _,_,.cons n t h=>.cons ⟨t,rfl⟩ (dQ h)
def Only (H:Hp):Prop:=∀ b,H b=none∨∃ o xs,H b=some (.frz o (.lst xs))
theorem oX {P:Program}{w:World}{K:PySem.W.Frag}{mg mb:Str→Option Value}{CX:CXT}{k:Nat}{fa a:Addr}{fd:FuncData}{x:Str}{sp:Sp}{s₁:Shared}{vs:List Value}{ns:List Int}
  (KX:K.In s₁.heap) (hns:s₁.heap.Ns mainGlobals mg) (hb:s₁.heap.Ns builtinsNs mb) (hbb:∀ x:Str,x ≠ "__name__" → mb x=bootBuiltins x) (hlim:s₁.heap.NoLimit) (hg:s₁.gens = #[])
  (ha:s₁.heap.get? a=some { cls:=.type "list",data:=.seq vs.toArray }) (hi:IntsAre vs ns) (hl:ns.length ≤ sizeLine) (hr:Room k callerA)
  (F:∀ base:Heap,K.In base→base.Ns mainGlobals mg→FnOk P w K mg base CX k fa fd [x] sp) (hbind:∀ (s:Shared) (u:Value),BindsTo s fd ⟨[u],[]⟩ [(x,u)])
  (hsp:∀ H:Hp,Only H→SqL K H a (ns.map V.int)→sp [.ref a] H (fun v _=>v = .bl true) fun _ _ _=>False)
  (hCX:∀ H e s',CX [] H s₁ (fun _ _ _=>False) e s'→False) :
  codeAny (model P w) callerA (.call (.ref fa) ⟨[.ref a],[]⟩) (fun r s'=>r = .ok (.ret (.bool true))∧OldK s₁.heap s'.heap∧s'.os=s₁.os∧AllBare s'.gens) s₁:=by
 have rv:=dQ hi
 have lenV:=hi.length
 have core:∀ H:Hp,Only H→SqL K H a (ns.map V.int)→HOk P w H s₁.heap→(∀ b,H b ≠ none→b=a)→(H a ≠ none→K.lookup a=none) →
   codeAny (model P w) callerA (.call (.ref fa) ⟨[.ref a],[]⟩) (fun r s'=>r = .ok (.ret (.bool true))∧OldK s₁.heap s'.heap∧s'.os=s₁.os∧AllBare s'.gens) s₁:=by
  intro H hO hS hok hA hK
  have base_of:∀ {b:Addr} {o:Obj},s₁.heap.get? b=some o→H b=none→(nI s₁.heap H).get? b=some o:=fun e n=>o6 e n
  have noA:∀ {b:Addr} {o:Obj} {es:Array DictEntry} {ep:Nat},s₁.heap.get? b=some o→o.data = .dict es ep→H b=none:=fun {b o es ep} e d=>by
   cases q:H b with
   | none=>rfl
   | some u =>
    have e':b=a:=hA b (by rw [q];simp)
    subst e'
    rw [ha] at e;cases e
    have d':Data.seq vs.toArray _=Data.dict es ep:=d
    cases d'
  have nsK:∀ {b:Addr} {m:Str→Option Value},s₁.heap.Ns b m→(nI s₁.heap H).Ns b m:=fun {b m} ⟨o,es,ep,e,d,r⟩=>⟨o,es,ep,base_of e (noA e d),d,r⟩
  have hKb:K.In (nI s₁.heap H):=fun b o e=>base_of (KX b o e) (by
   cases q:H b with
   | none=>rfl
   | some u =>
    have e':b=a:=hA b (by rw [q];simp)
    subst e'
    rw [hK (by rw [q];simp)] at e;cases e)
  have hM:Mod K mg (nI s₁.heap H):=⟨hKb,nsK hns,⟨mb,nsK hb,hbb⟩,let ⟨mc,h1,h2⟩:=hlim;⟨mc,nsK h1,h2⟩⟩
  have e0:Env0 P w K mg (nI s₁.heap H) callerA [] s₁ H:=⟨rfl,hM,fun b o e=>of_hidT e,Nat.le_of_eq (aS _ _),trivial,fun b hb=>absurd (show b ∈ ([] : List Addr) from hb) (by simp),hok,.of_eq hg⟩
  refine codeAny_mono ((F _ hKb (nsK hns)).run callerA [] s₁ H ⟨[.ref a],[]⟩ [.ref a] [.ref a] _ _ hr e0 (hbind s₁ (.ref a)) (.cons rfl .nil) (hsp H hO hS)) fun r s' h=>?_
  cases r with
  | error e=>exact (hCX H e s' h).elim
  | ok fl =>
   cases fl with
   | next=>exact False.elim h
   | brk=>exact False.elim h
   | cont=>exact False.elim h
   | ret u =>
    obtain ⟨v,H',os,bare,un,hok',r',q⟩:=h
    have q':v = .bl true:=q
    subst q'
    obtain rfl:u=Value.bool true:=r'
    refine ⟨rfl,OldK.of_keep fun b o e=>?_,os,bare⟩
    cases q:H b with
    | none=>exact un.keep b o e q (by intro z;exact absurd (show b ∈ ([] : List Addr) from z) (by simp)) (by simp)
    | some u =>
     rcases hO b with z | ⟨ob,xs,z⟩
     ·rw [q] at z;cases z
     ·have z2:=un.frzs b ob _ z
      obtain ⟨e1,_⟩:=hok b _ z
      obtain ⟨e2,_⟩:=hok' b _ z2
      rw [e] at e1;cases e1
      exact e2
 cases hk:K.lookup a with
 | some o =>
  have e:=KX a o hk
  rw [ha] at e
  cases e
  refine core (fun _=>none) (fun _=>.inl rfl) (.inr ⟨_,vs.toArray,_,hk,rfl,rfl,rfl,by rw [Ah,lenV];exact hl,by simpa using rv⟩) (fun b u z=>by have z':(none:Option HO)=some u:=z;cases z') (fun b z=>absurd rfl z) fun z=>absurd rfl z
 | none =>
  refine core (fun b=>if b=a then some (.frz { cls:=.type "list",data:=.seq vs.toArray } (.lst (ns.map V.int))) else none) (fun b=>?_) (.inl (.inr ⟨{ cls:=.type "list",data:=.seq vs.toArray },As rfl⟩)) (fun b u z=>?_) (fun b z=>?_) fun _=>hk
  ·by_cases hb:b=a
   ·exact .inr ⟨_,_,As hb⟩
   ·exact .inl (Au hb)
  ·by_cases hb:b=a
   ·have z':=(As hb).symm.trans z
    cases z'
    subst hb
    exact ⟨ha,by rw [Aa];exact hl,vs,_,rv,ha⟩
   ·have z':=(Au hb).symm.trans z
    cases z'
  ·by_cases hb:b=a
   ·exact hb
   ·exact absurd (Au hb) z
end L2
namespace L2
open PySem PySem.Spec PyProof.Rows
theorem walk_of {l:PySem.W.OpenLaw}{n k:Nat}{q:Program}{loose:List Str}{XP:(Str→Option Value)→Heap→Prop}{YP:World→Heap→Prop}{d:DefRec}{K:Params→PySem.W.Frag}{CX:World→CXT}{sp:World→Sp}{x:Str}
  (hn:l.most=some n) (hn2:n ≤ sizeLine) (hdf:d.params.defaults=[]) (hr:Room k callerA)
  (hY:∀ (w:World) (h:Heap),YP w h→(K w.params).In h)
  (F:∀ (w:World) (mg:Str→Option Value) (fa:Addr) (h:Heap),(K w.params).In h→h.Ns mainGlobals mg→mg d.name=some (.ref fa) →
   ∃ fd:FuncData,(∀ (s:Shared) (u:Value),BindsTo s fd ⟨[u],[]⟩ [(x,u)]) ∧
    ∀ base:Heap,(K w.params).In base→base.Ns mainGlobals mg→FnOk l.prog w (K w.params) mg base (CX w) k fa fd [x] (sp w))
  (hsp:∀ (w:World) (H:Hp) (a:Addr) (ns:List Int),ns.length ≤ n→Only H→SqL (K w.params) H a (ns.map V.int)→sp w [.ref a] H (fun v _=>v = .bl true) fun _ _ _=>False)
  (hCX:∀ (w:World) (H:Hp) (s:Shared) (e:Value) (s':Shared),CX w [] H s (fun _ _ _=>False) e s'→False) :
  PySem.W.WalkO q loose XP YP l.row.toRowW d [] (fun f vs=>PySem.call f vs):=by
 refine Att.attach_call hn hdf fun w s₀ s₁ mg mb fa o pm cd doc a vs ns G Y ho hd hcd hmg hobj hints hlen hg=>?_
 have KX:=hY w _ Y
 obtain ⟨fd,hb,hF⟩:=F w mg fa _ KX G.T.g hmg
 exact oX KX G.T.g G.T.b G.T.builtins G.T.nolimit hg hobj hints (AB hlen hn2) hr hF hb (fun H hO hS=>hsp w H a ns hlen hO hS) fun H e s'=>hCX w H s₁ e s'
end L2
namespace L2
open PySem PySem.Spec PyProof.Rows
def qO (s:Stmt):Arguments:=match s with
 | .FunctionDef _ a _ _ _ _ _ _ _ _=>a
 | _=>{ posonlyargs:=[],args:=[],vararg:=none,kwonlyargs:=[],kw_defaults:=[],kwarg:=none,defaults:=[] }
def qN (s:Stmt):List Stmt:=match s with
 | .FunctionDef _ _ b _ _ _ _ _ _ _=>b
 | _=>[]
def qE (s:Stmt):Scope:=match s with
 | .FunctionDef _ _ _ _ _ _ sc _ _ _=>sc
 | _=>{ kind:=.function,names:=[],isGenerator:=false,isCoroutine:=false }
abbrev CX0:CXT:=fun _ _ _ _ _ _=>False
abbrev E0:XK:=fun _ _ _=>False
theorem pass0 {X:Cx}:sI CX0 X E0:=fun _ _ _ _ _ _ _ h=>h.elim
structure Fun (K:PySem.W.Frag)(x qual:Str)(st:Stmt)(f:Addr)(fd:FuncData):Prop where
 ex:∃ (oc:Value) (od:Option Addr) (kV doc pm:Value) (an:Option Addr) (cdv ct:Value) (osl:Array (Option Value)),
  fd=PySem.W.fnOf x qual (qO st) (qN st) (qE st) .none kV doc pm an cdv ct∧K.lookup f=some ⟨oc,od,.func fd,osl⟩∧PySem.W.codeIn K cdv qual=true
 kp:PySem.W.keepIn K (.ref f)=true
section
variable {P:Program}{w:World}{K:PySem.W.Frag}{mg:Str→Option Value}{base:Heap}
theorem Fun.ok {x qual:Str}{st:Stmt}{f:Addr}{fd:FuncData}{N ps:List Str}{k:Nat}{sp:Sp}(F:Fun K x qual st f fd)(S:FnScope N ps (qE st))(len:∀ vs H Q E,sp vs H Q E→vs.length=ps.length)
  (hbody:∀ (cdv:Value) (A:Around) (outer:List Env) (s:Shared) (H:Hp) (vs:List V) (Q:VK) (E:XK),Room k (A.deeper (envOfC qual (qE st) s.heap.objs.size f cdv))→sp vs H Q E →
   ∃ t,PSs (sD CX0 P w K mg base N qual (qE st) f cdv A outer s H E).nox (qN st) t∧t { nx:=fun _ H'=>Q .non H',rt:=Q } (start N vs) H):FnOk P w K mg base CX0 (k + 1) f fd ps sp:=by
 obtain ⟨oc,od,kV,doc,pm,an,cdv,ct,osl,rfl,lk,hcd⟩:=F.ex
 refine fn_of lk hcd S len fun A outer s H vs Q E hr hsp=>?_
 obtain ⟨t,h,q⟩:=hbody cdv A outer s H vs Q E hr hsp
 exact ⟨t,h.nox,q⟩
theorem Fun.binds {x qual:Str}{st:Stmt}{f:Addr}{fd:FuncData}{ps:List Str}(F:Fun K x qual st f fd)
  (h:∀ (kV doc pm:Value) (an:Option Addr) (cdv ct:Value) (us:List Value),us.length=ps.length→bindArgs (PySem.W.fnOf x qual (qO st) (qN st) (qE st) .none kV doc pm an cdv ct) ⟨us,[]⟩=pure (ps.zip us)):Binds K fd ps []:=by
 obtain ⟨oc,od,kV,doc,pm,an,cdv,ct,osl,rfl,lk,hcd⟩:=F.ex
 exact .all (h kV doc pm an cdv ct)
theorem qW {x qual:Str}{st:Stmt}{f:Addr}{oc:Value}{od an:Option Addr}{osl:Array (Option Value)}{kV doc pm cdv ct:Value}(l:K.lookup f=some ⟨oc,od,.func (PySem.W.fnOf x qual (qO st) (qN st) (qE st) .none kV doc pm an cdv ct),osl⟩)
  (c:PySem.W.codeIn K cdv qual=true) (k:PySem.W.keepIn K (.ref f)=true):Fun K x qual st f (PySem.W.fnOf x qual (qO st) (qN st) (qE st) .none kV doc pm an cdv ct):=⟨⟨oc,od,kV,doc,pm,an,cdv,ct,osl,rfl,l,c⟩,k⟩
end
theorem qP {n:Nat}(h:n ≤ 1000):n < sizeLine:=C4 h (by decide)
section
variable {X:Cx}
theorem pv (i:Nat){x:Str}{pos:Pos}(hN:X.N[i]? = some x:=by rfl)(hv:Vis X.env.scope x:=by first | exact Or.inl rfl | exact Or.inr (Or.inl rfl) | exact Or.inr (Or.inr rfl))(hd:(x == ("__debug__" : Str))=false:=by decide)
  (hcd:(x == ("__classdict__" : Str))=false:=by decide):PE X (.Name x pos) (gC i):=pe_var hN hv hd hcd
end
def Same (H H':Hp):Prop:=∀ b o,H b=some o→H' b=some o
theorem Same.refl (H:Hp):Same H H:=fun _ _ h=>h
theorem Same.trans {H H1 H2:Hp}(a:Same H H1)(b:Same H1 H2):Same H H2:=fun c o h=>b c o (a c o h)
theorem Same.free {H H':Hp}(e:Same H H'){l:Addr}(h:H' l=Option.none):H l=Option.none:=by
 cases q:H l with
 | none=>rfl
 | some o =>
  rw [e l o q] at h
  cases h
theorem Same.seq {K:PySem.W.Frag}{H H':Hp}{a:Addr}{xs:List V}(e:Same H H')(h:SqL K H a xs):SqL K H' a xs:=by
 rcases h with (h | ⟨o,h⟩) | h
 ·exact .inl (.inl (e _ _ h))
 ·exact .inl (.inr ⟨o,e _ _ h⟩)
 ·exact .inr h
def xW:List (Str × NameKind)→List (Str × Addr)→List (Str × Addr)→Option (List (Str × Addr))
 | [],_,acc=>some acc
 | (n,k) :: r,cs,acc=>if k == .free then (match cs.lookup n with | some c=>xW r cs ((n,c) :: acc) | none=>none) else xW r cs acc
theorem bL {env:Env}:∀ (names:List (Str × NameKind)) (acc cl:List (Str × Addr)),xW names env.cells acc=some cl →
  (forIn names acc fun (x:Str × NameKind) (cs:List (Str × Addr))=>(if (x.2 == NameKind.free)=true then (do let c ← cellOf env x.1;pure (ForInStep.yield ((x.1,c) :: cs))) else pure (ForInStep.yield cs):Sem (ForInStep (List (Str × Addr)))))=(pure cl:Sem _)
 | [],acc,cl,h=>by
  have e:acc=cl:=A8 h
  subst e;rfl
 | (n,k) :: r,acc,cl,h=>by
  unfold xW at h
  rw [BW]
  cases hk:k == NameKind.free with
  | false =>
   rw [hk] at h
   have ih:=bL (env:=env) r acc cl (by simpa using h)
   simp only [hk,AQ,BK,pure_bind]
   exact ih
  | true =>
   rw [hk] at h
   simp only [BO] at h
   cases hc:env.cells.lookup n with
   | none=>rw [hc] at h;cases h
   | some c =>
    rw [hc] at h
    have ih:=bL (env:=env) r ((n,c) :: acc) cl h
    have e:cellOf env n=pure c:=by unfold cellOf;rw [hc]
    simp only [hk,BO,e,pure_bind]
    exact ih
theorem xU {scope:Scope}{env:Env}{cl:List (Str × Addr)}(h:xW scope.names env.cells [] = some cl):closureFor scope env=pure cl:=by
 have q:=bL scope.names [] cl h
 unfold closureFor
 show (do let r ← _;pure r)=_
 refine Eq.trans ?_ (AW (fun z=>z >>= fun r=>pure r) q) |>.trans ?_
 ·rfl
 ·rfl
theorem bK {cs:List (Str × Addr)}:∀ (names:List (Str × NameKind)) (acc cl:List (Str × Addr)),xW names cs acc=some cl→(∀ n c,(n,c) ∈ acc→cs.lookup n=some c)→∀ n c,(n,c) ∈ cl→cs.lookup n=some c
 | [],acc,cl,h,ha,n,c,hm=>by
  have e:acc=cl:=A8 h
  subst e;exact ha n c hm
 | (n0,k) :: r,acc,cl,h,ha,n,c,hm=>by
  unfold xW at h
  split at h
  ·split at h
   ·rename_i c0 hc
    refine bK r _ cl h (fun n' c' h'=>?_) n c hm
    rcases A2.mp h' with e | h'
    ·cases e;exact hc
    ·exact ha n' c' h'
   ·cases h
  ·exact bK r acc cl h ha n c hm
theorem d7 {cs:List (Str × Addr)}:∀ (names:List (Str × NameKind)) (acc cl:List (Str × Addr)),xW names cs acc=some cl→∀ p ∈ acc,p ∈ cl
 | [],acc,cl,h,p,hp=>by
  have e:acc=cl:=A8 h
  subst e;exact hp
 | (n0,k) :: r,acc,cl,h,p,hp=>by
  unfold xW at h
  split at h
  ·split at h
   ·exact d7 r _ cl h p (Aw _ hp)
   ·cases h
  ·exact d7 r acc cl h p hp
theorem dE {cs:List (Str × Addr)}:∀ (names:List (Str × NameKind)) (acc cl:List (Str × Addr)),xW names cs acc=some cl→∀ n,(n,NameKind.free) ∈ names→∃ c,(n,c) ∈ cl
 | (n0,k) :: r,acc,cl,h,n,hn=>by
  unfold xW at h
  rcases A2.mp hn with e | hn
  ·cases e
   simp only [Ck,BO] at h
   split at h
   ·rename_i c0 hc
    exact ⟨c0,d7 r _ cl h _ Aq⟩
   ·cases h
  ·split at h
   ·split at h
    ·exact dE r _ cl h n hn
    ·cases h
   ·exact dE r acc cl h n hn
theorem zZ {β:Type}:∀ {l:List (Str × β)} {n:Str} {c:β},(n,c) ∈ l→∃ c',l.lookup n=some c'
 | (m,d) :: r,n,c,h=>by
  rw [Bg]
  cases e:n == m with
  | true=>exact ⟨d,rfl⟩
  | false =>
   rcases A2.mp h with q | q
   ·cases q;simp at e
   ·exact zZ q
theorem jE {cs cl:List (Str × Addr)}{names:List (Str × NameKind)}(h:xW names cs [] = some cl){x:Str}{c:Addr}(q:cl.lookup x=some c):cs.lookup x=some c :=
 bK names [] cl h (fun _ _ z=>absurd z (by simp)) x c (Br q)
theorem g6 {env : Env} : ∀ {names : List (Str × NameKind)} {x : Str}, (∀ y ∈ names, y.2 ≠ NameKind.cell) →
    ((names.map fun (n, k) => if (k == NameKind.free && env.scope.kind == .function && env.kindOf n == some .cell) then (n, NameKind.cell) else (n, k)).lookup x = some .cell ∨
     (names.map fun (n, k) => if (k == NameKind.free && env.scope.kind == .function && env.kindOf n == some .cell) then (n, NameKind.cell) else (n, k)).lookup x = some .free) → (x, NameKind.free) ∈ names
  | [], x, _, h => by simp at h
  | (n, k) :: r, x, hc, h => by
    have ih := @g6 env r x (fun y hy => hc y (Aw _ hy))
    rw [AK] at h
    cases hx : x == n with
    | true =>
      have e : x = n := by simpa using hx
      subst e
      by_cases hk : k = NameKind.free
      · subst hk; exact Aq
      · have hb : (k == NameKind.free) = false := by simpa using hk
        simp only [hb, BA, AQ, BK, Bg, Ck] at h
        rcases h with h | h
        · exact absurd (A8 h) (hc (x, k) Aq)
        · exact absurd (A8 h) hk
    | false =>
      refine Aw _ (ih ?_)
      by_cases hcnd : (k == NameKind.free && env.scope.kind == .function && env.kindOf n == some .cell) = true
      · simp only [hcnd, BO, Bg, hx] at h; exact h
      · simp only [hcnd, BK, Bg, hx, AQ] at h; exact h
theorem relabel_free' {sc:Scope}{env:Env}{x:Str}(hc:∀ y ∈ sc.names,y.2 ≠ NameKind.cell)(h:(relabel sc env).names.lookup x=some .cell∨(relabel sc env).names.lookup x=some .free):(x,NameKind.free) ∈ sc.names:=g6 hc h
def fT (X:Cx)(N:List Str)(sc:Scope)(cl:List (Str × Addr))(s:Shared)(H:Hp)(ex:List Addr):Cx where
 prog:=X.prog
 w:=X.w
 K:=X.K
 mg:=X.mg
 base:=X.base
 A:=X.A
 N:=N
 s₀:=s
 H₀:=H
 env:=compEnvC sc cl s.heap.objs.size X.env
 outer:=X.stack
 stack:=X.stack
 ex:=ex
 fn:=fun _=>false
 calm:=X.calm
 pn:=[]
 xe:=fun _ _=>False
def pY (fr:List (Option Nat))(σ:St):St:=fr.map fun o=>o.bind fun j=>(σ[j]?).bind id
def pW (X:Cx)(ifs:List Expr)(t:TT):Prop :=
 ∀ (pins:List (Addr × Obj)) (s:Shared) (σ:St) (H:Hp) (Q:Bool→Hp→Prop),Inv X pins σ H s→t σ H Q →
  wpAny (model X.prog X.w) X.A (forIn ifs true fun c r=>if r=true then do let ok ← isTrue c X.env (eval c X.env);pure (ForInStep.yield ok) else pure (ForInStep.yield r)) (TP X pins σ Q) X.xe s
def tTrue:TT:=fun _ H Q=>Q true H
theorem kP {X:Cx}:pW X [] tTrue:=fun _ _ _ _ _ I h=>wpAny_tests_nil ⟨_,I,h⟩
theorem zR {X:Cx}{c:Expr}{t:TT}(h:PT X c t):pW X [c] t:=fun pins s σ H Q I q=>wpAny_tests_one (h pins s σ H Q I q)
abbrev TB:=St→Hp→(St→Hp→Prop)→Prop
def PB (X:Cx)(body:Sem Unit)(t:TB):Prop :=
 ∀ (pins:List (Addr × Obj)) (s:Shared) (σ:St) (H:Hp) (N:St→Hp→Prop),Inv X pins σ H s→t σ H N →
  wpAny (model X.prog X.w) X.A body (fun _ s'=>∃ σ' H',Inv X pins σ' H' s'∧N σ' H') X.xe s
def xF (p:Addr)(te:TE):TB:=fun σ H N=>te σ H fun y H1=>∃ ys,H1 p=some (.lst ys)∧ys.length < sizeLine∧N σ (upd H1 p (.lst (ys ++ [y])))
theorem mY {X:Cx}{elt:Expr}{te:TE}{p:Addr}(h:PE X elt te):PB X (do let _ ← call (.builtin "list.append") [.ref p,← eval elt X.env]) (xF p te):=by
 intro pins s σ H N I q
 refine wpAny_bind (jJ (h pins s σ H _ I q) fun u s1 ⟨y,H1,I1,r,ys,hp,hz,n⟩=>?_)
 refine wpAny_bind (jJ (cT (X:=X) pins s1 σ H1 (.ref p) [y] (.ref p) [u] (fun _ H2=>N σ H2) I1 rfl (.cons r .nil) ⟨p,ys,y,rfl,rfl,hp,hz,n⟩) fun _ s2 ⟨_,H2,I2,_,n2⟩=>wpAny_pure ⟨σ,H2,I2,n2⟩)
def nZ (J:It)(g:TG)(tc:TT)(tb:TB):(St→Hp→Prop)→St→Hp→Prop:=fun D σ H=>∃ W:Nat→Nat→St→Hp→Prop,(∃ m,W 0 m σ H)∧∀ i m σ H,W i m σ H →
 (J.stop i H∧D σ H)∨(J.go i H∧∃ N:St→Hp→Prop,(∀ σ' H',N σ' H'→∃ m',m' < m∧W (i + 1) m' σ' H')∧∀ x H',J.yld i H x H'→g x σ H' fun σ2 H2=>tc σ2 H2 fun b H3=>if b=true then tb σ2 H3 N else N σ2 H3)
theorem vS {X:Cx}{e tg:Expr}{d:Nat}{ip:Pos}{ifs:List Expr}{body:Sem Unit}{acc:Value}{it:Addr}{fp:List Addr}{tn:Nat→Heap→Prop}{J:It}{g:TG}{tc:TT}{tb:TB}{D:St→Hp→Prop}{pins:List (Addr × Obj)}{σ:St}{H:Hp}{s:Shared}
  (hc:X.calm=true) (hx:X.xe=fun _ _=>False)
  (heq:compTurn e d (.ref it) acc X.env=(do
   standAt ip
   match ← pyNext (.ref it) with
   | none=>pure (.done .next)
   | some v =>
    letOwnedTupleGo tg (.ref it) v
    assign tg X.env v
    let mut ok:=true
    for c in ifs do
     if ok then ok ← isTrue c X.env (eval c X.env)
    if ok then body
    again (.compLoop e d (.ref it) acc X.env)))
  (hfrm:(Code.compLoop e d (.ref it) acc X.env).isFrame=false) (hund:X.A.under (Code.compLoop e d (.ref it) acc X.env)=X.A) (hq:(Code.compLoop e d (.ref it) acc X.env).quiet=true)
  (T:Turn X.prog X.w X.K tg J fp it tn) (hg:PG X tg g) (hi:pW X ifs tc) (hb:PB X body tb)
  (I:Inv X pins σ H s) (st:tn 0 s.heap) (f:∀ b ∈ fp,xY X pins H b) (h:nZ J g tc tb D σ H) :
  codeAny (model X.prog X.w) X.A (.compLoop e d (.ref it) acc X.env) (fun r s'=>r = .ok .next∧∃ σ' H',Inv X pins σ' H' s'∧D σ' H') s:=by
 obtain ⟨W,⟨m0,w0⟩,turn⟩:=h
 have stat:∀ {H':Hp},(∀ b ∈ fp,H' b=none)→∀ b ∈ fp,xY X pins H' b:=fun hn b hb=>⟨hn b hb,(f b hb).2⟩
 refine codeAny_loop hq (fun n s'=>∃ i σ' H',Inv X pins σ' H' s'∧tn i s'.heap∧(∀ b ∈ fp,H' b=none)∧W i n σ' H') ?_ m0 ⟨0,σ,H,I,st,fun b hb=>(f b hb).1,w0⟩
 rintro n s3 ⟨i,σ3,H3,I3,st3,fr3,w3⟩
 rw [hund]
 show wpAny _ X.A (if (Code.compLoop e d (.ref it) acc X.env).isFrame then _ else (compTurn e d (.ref it) acc X.env).onRaise (fun x=>do noteFrame x X.env;theTreesLotGoes x)) _ _ s3
 rw [hfrm]
 show wpAny _ X.A ((compTurn e d (.ref it) acc X.env).onRaise (fun x=>do noteFrame x X.env;theTreesLotGoes x)) _ _ s3
 refine wpAny_noted ?_
 rw [heq]
 have no:∀ {α:Type} {t:Sem α} {Q:α→Shared→Prop} {E:Value→Shared→Prop} {s:Shared},wpAny (model X.prog X.w) X.A t Q X.xe s→wpAny (model X.prog X.w) X.A t Q E s:=fun h=>wpAny_mono h (fun _ _ q=>q) fun _ _ z=>by rw [hx] at z;exact z.elim
 refine wpAny_bind (wpAny_standAt (wpAny_bind ?_))
 rcases turn i n σ3 H3 w3 with ⟨stop,qn⟩ | ⟨go,N,hN,step⟩
 ·refine jJ (T.done X rfl rfl rfl hc i pins s3 σ3 H3 _ I3 (stat fr3) st3 stop) fun r s4 ⟨hr,I4⟩=>?_
  subst hr
  exact wpAny_pure ⟨rfl,σ3,H3,I4,qn⟩
 ·refine jJ (T.item X rfl rfl rfl hc i pins s3 σ3 H3 _ I3 (stat fr3) st3 go) fun r s4 ⟨u,hr,h4⟩=>?_
  subst hr
  refine wpAny_bind (jJ h4 fun _ s5 ⟨x,H5,I5,r5,y5,st5,fr5⟩=>?_)
  have I5':=I5.pinned (stat fr5) (T.obj _ _ st5)
  have again:∀ {s7:Shared} {σ7:St} {H7:Hp},Inv X (pins ++ wQ fp s5.heap) σ7 H7 s7→N σ7 H7→∃ m,m < n∧∃ i σ' H',Inv X pins σ' H' s7∧tn i s7.heap∧(∀ b ∈ fp,H' b=none)∧W i m σ' H':=fun {s7 σ7 H7} I7 n7=>by
   obtain ⟨m',hm,w7⟩:=hN σ7 H7 n7
   refine ⟨m',hm,i + 1,σ7,H7,I7.unpinned,T.keep _ _ _ st5 fun b hb o e=>(I7.pin (b,o) (A9 _ (A9 _ (yR hb e)))).1,fun b hb=>?_,w7⟩
   obtain ⟨o,e,d⟩:=T.obj _ _ st5 b hb
   exact (I7.pin (b,o) (A9 _ (A9 _ (yR hb e)))).2.1
  refine wpAny_bind (no (jJ (hg _ s5 σ3 H5 x u _ I5' r5 (step x H5 y5)) fun _ s6 ⟨σ6,H6,I6,q6⟩=>?_))
  refine wpAny_bind (no (jJ (hi _ s6 σ6 H6 _ I6 q6) fun ok s7 ⟨H7,I7,q7⟩=>?_))
  cases ok with
  | false=>exact wpAny_pure ⟨rfl,again I7 q7⟩
  | true =>
   refine wpAny_bind (no (jJ (hb _ s7 σ6 H7 _ I7 q7) fun _ s8 ⟨σ8,H8,I8,n8⟩=>?_))
   exact wpAny_pure ⟨rfl,again I8 n8⟩
theorem zG {env : Env} : ∀ {names : List (Str × NameKind)} {x : Str}, names.lookup x = some .free →
    ((names.map fun (n, k) => if (k == NameKind.free && env.scope.kind == .function && env.kindOf n == some .cell) then (n, NameKind.cell) else (n, k)).lookup x = some .cell ∨
     (names.map fun (n, k) => if (k == NameKind.free && env.scope.kind == .function && env.kindOf n == some .cell) then (n, NameKind.cell) else (n, k)).lookup x = some .free)
  | [], _, h => by simp at h
  | (n, k) :: r, x, h => by
    have ih := @zG env r x
    rw [AK]
    cases hx : x == n with
    | true =>
      simp only [Bg, hx] at h
      cases h
      by_cases hc : (NameKind.free == NameKind.free && env.scope.kind == .function && env.kindOf n == some .cell) = true
      · left; simp only [hc, BO, Bg, hx]
      · right; simp only [hc, BK, Bg, hx, AQ]
    | false =>
      simp only [Bg, hx] at h
      by_cases hc : (k == NameKind.free && env.scope.kind == .function && env.kindOf n == some .cell) = true
      · simp only [hc, BO, Bg, hx]; exact ih h
      · simp only [hc, BK, Bg, hx, AQ]; exact ih h
structure CScope (X:Cx)(N:List Str)(fr:List (Option Nat))(sc:Scope):Prop where
 kind:sc.kind = .function
 nocell:∀ y ∈ sc.names,y.2 ≠ NameKind.cell
 loc:∀ y ∈ sc.names,y.2 = .local→sc.names.lookup y.1=some .local
 len:fr.length=N.length
 fr:∀ (i j:Nat),fr[i]? = some (some j)→∃ x,N[i]? = some x∧X.N[j]? = some x∧sc.names.lookup x=some .free∧(X.env.kindOf x=some .cell∨X.env.kindOf x=some .free)
def rR (XN:List Str)(XS names:List (Str × NameKind)):List Str→List (Option Nat)→Bool
 | [],[]=>true
 | x :: N,o :: fr=>(match o with
  | none=>true
  | some j=>XN[j]? == some x && names.lookup x == some .free && (XS.lookup x == some .cell || XS.lookup x == some .free)) && rR XN XS names N fr
 | _,_=>false
theorem lR {XN:List Str}{XS names:List (Str × NameKind)}:∀ {N:List Str} {fr:List (Option Nat)},rR XN XS names N fr=true→fr.length=N.length
 | [],[],_=>rfl
 | x :: N,o :: fr,h=>by
  unfold rR at h
  rw [AF] at h
  rw [Ba,Ba,lR h.2]
 | [],_ :: _,h=>by cases h
 | _ :: _,[],h=>by cases h
theorem lU {XN:List Str}{XS names:List (Str × NameKind)}:∀ {N:List Str} {fr:List (Option Nat)} {i j:Nat},rR XN XS names N fr=true→fr[i]? = some (some j)→∃ x,N[i]? = some x∧XN[j]? = some x∧names.lookup x=some .free∧(XS.lookup x=some .cell∨XS.lookup x=some .free)
 | [],[],_,_,_,e=>by simp at e
 | x :: N,o :: fr,0,j,h,e=>by
  unfold rR at h
  rw [AF] at h
  simp at e
  subst e
  have h1:=h.1
  simp only [AF,Cr,beq_iff_eq] at h1
  exact ⟨x,rfl,h1.1.1,h1.1.2,h1.2⟩
 | x :: N,o :: fr,i + 1,j,h,e=>by
  unfold rR at h
  rw [AF] at h
  obtain ⟨y,q⟩:=lU (i:=i) (j:=j) h.2 (by simpa using e)
  exact ⟨y,by simpa using q.1,q.2⟩
 | [],_ :: _,_,_,h,_=>by cases h
 | _ :: _,[],_,_,h,_=>by cases h
def okLoc (names:List (Str × NameKind)):Bool:=names.all fun y=>!(y.2 == .cell) && (!(y.2 == .local) || names.lookup y.1 == some .local)
theorem CScope.of {X:Cx}{N:List Str}{fr:List (Option Nat)}{sc:Scope}(h1:sc.kind = .function)(h2:okLoc sc.names=true)(h3:rR X.N X.env.scope.names sc.names N fr=true):CScope X N fr sc:=by
 have h2':=B3.mp h2
 refine ⟨h1,fun y hy e=>?_,fun y hy e=>?_,lR h3,fun i j e=>lU h3 e⟩
 ·have q:=h2' y hy
  rw [e] at q
  simp at q
 ·have q:=h2' y hy
  rw [e] at q
  simpa using q
theorem frS_get {fr:List (Option Nat)}{σ:St}{i:Nat}{v:V}(h:(pY fr σ)[i]? = some (some v)):∃ j,fr[i]? = some (some j)∧σ[j]? = some (some v):=by
 unfold pY at h
 rw [Ag] at h
 cases e:fr[i]? with
 | none=>rw [e] at h;cases h
 | some o =>
  rw [e] at h
  cases o with
  | none=>cases h
  | some j =>
   refine ⟨j,rfl,?_⟩
   have h':(σ[j]?).bind id=some v:=A8 h
   cases q:σ[j]? with
   | none=>rw [q] at h';cases h'
   | some o=>rw [q] at h';exact AW some h'
section
variable {X:Cx}{pins:List (Addr × Obj)}{σ:St}{H H':Hp}{s:Shared}
theorem Inv.block {N:List Str}{fr:List (Option Nat)}{sc:Scope}{cl:List (Str × Addr)}{ex:List Addr}{h1:Heap}{tk:Nat}(I:Inv X pins σ H s)(S:CScope X N fr sc)(hcl:xW sc.names X.env.cells [] = some cl)
  (hex:∀ b ∈ ex,xY X pins H b∧b < s.heap.objs.size) (hns:h1.Ns s.heap.objs.size (fun _=>none)) (hk:∀ b u,s.heap.get? b=some u→h1.get? b=some u) :
  Inv (fT X N sc cl s H ex) [] (pY fr σ) H { s with heap:=h1,toks:=tk }:=by
 have hfree:H s.heap.objs.size=none:=I.hok.fresh (Ad _)
 have cne:∀ x c,cl.lookup x=some c→c ≠ s.heap.objs.size:=fun x c e z=>by
  obtain ⟨v,q⟩:=I.cell x c (jE hcl e)
  exact absurd q.lt (by rw [z];exact AJ _)
 refine ⟨⟨I.ok.mod,S.kind,I.ok.glob,I.ok.blt,Ad _,fun x y c h1 h2=>I.ok.inj x y c (jE hcl h1) (jE hcl h2),fun x hx=>?_,fun x c z=>absurd (show false=true from z) (by decide),I.ok.hd,I.ok.frames,Or.inl rfl,fun b hb=>?_,I.bs,AB I.ok.bsz I.sz,fun b o e hb=>?_,fun b hb hf=>?_,I.stack,I.stkFree⟩,
  rfl,I.bare,Un.kept hk,⟨_,hns,fun i x v h1 h2 h3=>?_⟩,fun x c e=>?_,hfree,fun x c e=>I.freeC x c (jE hcl e),fun p hp=>absurd (show p ∈ ([] : List (Addr × Obj)) from hp) (by simp),I.hok.kept hk,?_⟩
 ·have hx':(relabel sc X.env).names.lookup x=some .cell∨(relabel sc X.env).names.lookup x=some .free:=hx
  obtain ⟨c,hc⟩:=dE sc.names [] cl hcl x (relabel_free' S.nocell hx')
  exact zZ hc
 ·obtain ⟨⟨f0,f1,f2,f3,f4,f5⟩,lt⟩:=hex b hb
  exact ⟨A3 lt,fun x c e=>f4 x c (jE hcl e)⟩
 ·obtain ⟨⟨f0,f1,f2,f3,f4,f5⟩,lt⟩:=hex b hb
  rcases f3 with f3 | f3
  ·exact I.ok.noex b o e f3
  ·exact absurd (Az (An e) I.ok.bsz) (Nat.not_lt.mpr f3)
 ·obtain ⟨⟨f0,f1,f2,f3,f4,f5⟩,lt⟩:=hex b hb
  rcases A2.mp (I.stkSub b hf) with e | e
  ·exact f1 e
  ·exact f2 e
 ·obtain ⟨j,hj,hv⟩:=frS_get h2
  obtain ⟨x',e1,e2,e3,e4⟩:=S.fr i j hj
  have hN:N[i]? = some x:=h1
  rw [hN] at e1
  cases e1
  obtain ⟨c,hc⟩:=dE sc.names [] cl hcl x (Br e3)
  obtain ⟨c',hc'⟩:=zZ hc
  have hcX:=jE hcl hc'
  obtain ⟨m,hn,hl⟩:=I.loc
  have kc:(relabel sc X.env).names.lookup x=some .cell∨(relabel sc X.env).names.lookup x=some .free:=zG e3
  have vis:Vis X.env.scope x∧(X.env.kindOf x ≠ some .local):=by
   rcases e4 with q | q
   ·exact ⟨.inr (.inl q),by rw [q];decide⟩
   ·exact ⟨.inr (.inr q),by rw [q];decide⟩
  obtain ⟨u,r,l⟩:=hl j x v e2 hv vis.1
  refine ⟨u,r,.inr ⟨kc,c',hc',?_⟩⟩
  rcases l with ⟨q,_⟩ | ⟨_,d,hd,hcell⟩
  ·exact absurd q vis.2
  ·rw [hcX] at hd
   cases hd
   exact hcell.keeps hk
 ·obtain ⟨v,q⟩:=I.cell x c (jE hcl e)
  exact ⟨v,q.keeps hk⟩
 ·show (pY fr σ).length=N.length
  unfold pY
  rw [Aa];exact S.len
end
section
variable {X:Cx}{pins:List (Addr × Obj)}{σ:St}{H H':Hp}{s:Shared}
theorem Inv.unblock {N:List Str}{sc:Scope}{cl:List (Str × Addr)}{ex:List Addr}{pins':List (Addr × Obj)}{σ':St}{s':Shared}{h':Heap}(I:Inv X pins σ H s)(J:Inv (fT X N sc cl s H ex) pins' σ' H' s')
  (hex:∀ b ∈ ex,xY X pins H b) (sb:Heap.SameBut s.heap.objs.size s'.heap h'):Inv X pins σ H' { s' with heap:=h' }:=by
 have free:H' s.heap.objs.size=none:=J.free
 have eq:∀ b,b ≠ s.heap.objs.size→h'.get? b=s'.heap.get? b:=sb.2
 have ne:∀ b o,s.heap.get? b=some o→b ≠ s.heap.objs.size:=fun b o e=>A3 (An e)
 have B:Un (eH X.stack) ex H H' s.heap s'.heap:=J.base
 refine I.call' (s':={ s' with heap:=h' }) (ch:=ex) J.os ⟨fun b o q n hb hx=>(eq b (ne b o q)).trans (B.keep b o q n hb hx),fun b o q n hb hx=>?_,B.free,fun b o q hx=>?_,B.tups,B.frzs,B.tbls⟩ (fun a o e=>?_) J.bare (fun b hb=>?_)
 ·obtain ⟨sl,e⟩:=B.slot b o q n hb hx
  exact ⟨sl,(eq b (ne b o q)).trans e⟩
 ·obtain ⟨o',e⟩:=B.there b o q hx
  exact ⟨o',(eq b (ne b o q)).trans e⟩
 ·refine (J.hok a o e).stay (fun b u hb q=>?_) (fun _ q=>q) fun _ _ q=>q
  refine (eq b ?_).trans q
  rcases hb with rfl | hb
  ·exact qF e free
  ·exact qF hb free
 ·obtain ⟨f0,f1,f2,f3,f4,f5⟩:=hex b hb
  exact ⟨f3,f1,f4,f5⟩
end
section
variable {X:Cx}
def tLC (fr:List (Option Nat))(wi:TI)(g:TG)(tc:TT)(te:TE):TE:=fun σ H Q=>wi σ H fun J H1=>∀ p,H1 p=none→nZ J g tc (xF p te) (fun _ H2=>Q (.ref p) H2) (pY fr σ) (upd H1 p (.lst []))
theorem pA {N:List Str}{fr:List (Option Nat)}{e tg iter:Expr}{ifs:List Expr}{gs:List Comprehension}{sc:Scope}{ip:Pos}{cl:List (Str × Addr)}{wi:TI}{D:It→Addr→St→Hp→Prop}{pins:List (Addr × Obj)}{σ:St}{H:Hp}{s:Shared}{Q:VK}
  (he:clausesOf e=⟨tg,iter,ifs,0⟩ :: gs) (hi:PI X tg iter wi) (S:CScope X N fr sc) (hcl:xW sc.names X.env.cells [] = some cl) (I:Inv X pins σ H s)
  (h:wi σ H fun J H1=>∀ p,H1 p=none→D J p (pY fr σ) (upd H1 p (.lst [])))
  (loop:∀ (it p:Addr) (fp:List Addr) (tn:Nat→Heap→Prop) (J:It) (s1 s2:Shared) (H1:Hp) (σ1:St),Turn X.prog X.w X.K tg J fp it tn→Inv (fT X N sc cl s1 H1 fp) [] σ1 H1 s2→tn 0 s2.heap→(∀ b ∈ fp,xY (fT X N sc cl s1 H1 fp) [] H1 b)→D J p σ1 H1 →
   codeAny (model X.prog X.w) X.A (.compStart e 0 (.ref it) (.ref p) (compEnvC sc cl s1.heap.objs.size X.env)) (fun r s'=>r = .ok .next∧∃ σ' H',Inv (fT X N sc cl s1 H1 fp) [] σ' H' s'∧Q (.ref p) H') s2)
  (hs:∀ x,foldedSetIterable iter X.env x=pure x) :
  wpAny (model X.prog X.w) X.A (comprehension e sc X.env ip (newList []) false (eval iter X.env)) (EP X pins σ Q) X.xe s:=by
 refine wpAny_comprehension_free (use:=none) he hs (xU hcl) S.kind S.loc ?_
 refine jJ (hi pins s σ H _ I h) fun v s1 h1=>jJ h1 fun itv s2 ⟨it,fp,tn,J,H2,e2,I2,T,st2,f2,q⟩=>?_
 subst e2
 refine wpAny_newObj_type ?_
 have hp:H2 s2.heap.objs.size=none:=I2.hok.fresh (Ad _)
 have I3:Inv X pins σ (upd H2 s2.heap.objs.size (.lst [])) { s2 with heap:=s2.heap.push { cls:=.type "list",data:=.seq ([] : List Value).toArray },toks:=s2.toks }:=I2.lnew (its:=[]) (ys:=[]) .nil (Bb _)
 have lt2:∀ b ∈ fp,b < s2.heap.objs.size:=fun b hb=>let ⟨o,e,_⟩:=T.obj 0 _ st2 b hb;An e
 have f3:∀ b ∈ fp,xY X pins (upd H2 s2.heap.objs.size (.lst [])) b:=fun b hb=>⟨by rw [qQ (A3 (lt2 b hb))];exact (f2 b hb).1,(f2 b hb).2⟩
 have st3:tn 0 (s2.heap.push { cls:=.type "list",data:=.seq ([] : List Value).toArray }):=T.keep _ _ _ st2 fun b _ o e=>Ac _ e
 refine wpAny_newFunctionEnv S.nocell (by intro y hy;simp at hy) (fun h₁ hns₁ hsb₁=>?_) S.kind
 generalize hs3:({ s2 with heap:=s2.heap.push { cls:=.type "list",data:=.seq ([] : List Value).toArray } }:Shared)=s3 at hns₁ hsb₁ ⊢
 have I3':Inv X pins σ (upd H2 s2.heap.objs.size (.lst [])) s3:=by rw [← hs3];exact I3
 have st3':tn 0 s3.heap:=by rw [← hs3];exact st3
 have lt3:∀ b ∈ fp,b < s3.heap.objs.size:=fun b hb=>let ⟨o,e,_⟩:=T.obj 0 _ st3' b hb;An e
 have hk:∀ b u,s3.heap.get? b=some u→h₁.get? b=some u:=fun b u e=>hsb₁.extBut b u (A3 (An e)) (Ac _ e)
 have hns:h₁.Ns s3.heap.objs.size (fun _=>none):=by simpa using hns₁
 have B:=I3'.block (N:=N) (fr:=fr) (sc:=sc) (cl:=cl) (ex:=fp) (h1:=h₁) (tk:=s3.toks + ([] : List (Str × Value)).length) S hcl (fun b hb=>⟨f3 b hb,lt3 b hb⟩) hns hk
 have stB:tn 0 h₁:=T.keep _ _ _ st3' fun b _ o e=>hk b o e
 refine codeAny_mono (loop it s2.heap.objs.size fp tn J s3 _ (upd H2 s2.heap.objs.size (.lst [])) (pY fr σ) T B stB (fun b hb=>?_) (q _ hp)) fun r s' hr=>?_
 ·obtain ⟨f0,f1,f2',f3',f4,f5⟩:=f3 b hb
  refine ⟨f0,A3 (lt3 b hb),fun z=>?_,.inl hb,fun x c e=>f4 x c (jE hcl e),fun p hp'=>absurd (show p ∈ ([] : List (Addr × Obj)) from hp') (by simp)⟩
  rcases A2.mp (I3'.stkSub b z) with e | e
  ·exact f1 e
  ·exact f2' e
 ·obtain ⟨rfl,σ',H',J',q'⟩:=hr
  obtain ⟨m,hn,_⟩:=J'.loc
  exact ⟨m,hn,fun h' sb=>⟨.ref s2.heap.objs.size,H',I3'.unblock J' f3 sb,rfl,q'⟩⟩
theorem jQ {N:List Str}{fr:List (Option Nat)}{tg iter elt:Expr}{ifs:List Expr}{sc:Scope}{pos:Pos}{cl:List (Str × Addr)}{wi:TI}{g:TG}{tc:TT}{te:TE}(hc:X.calm=true)(hi:PI X tg iter wi)(S:CScope X N fr sc)(hcl:xW sc.names X.env.cells [] = some cl)
  (hb:∀ s H ex,PG (fT X N sc cl s H ex) tg g∧pW (fT X N sc cl s H ex) ifs tc∧PE (fT X N sc cl s H ex) elt te) (hs:∀ x,foldedSetIterable iter X.env x=pure x:=by intro _;rfl) :
  PE X (.ListComp elt [⟨tg,iter,ifs,0⟩] sc pos) (tLC fr wi g tc te):=by
 intro pins s σ H Q I h
 rw [eval_ListComp]
 refine pA (D:=fun J p σ H=>nZ J g tc (xF p te) (fun _ H2=>Q (.ref p) H2) σ H) rfl hi S hcl I h (fun it p fp tn J s1 s2 H1 σ1 T B st f d=>?_) hs
 obtain ⟨hg,hifs,helt⟩:=hb s1 H1 fp
 have L:=vS (X:=fT X N sc cl s1 H1 fp) (e:=.ListComp elt [⟨tg,iter,ifs,0⟩] sc pos) (d:=0) (acc:=.ref p) (D:=fun _ H2=>Q (.ref p) H2) (s:=s2) hc rfl (compTurn_list elt tg iter ifs sc pos (.ref it) (.ref p) _) rfl rfl rfl T hg hifs (mY helt) B st f d
 exact codeAny_compStart_list L (T.self X.A 0 s2 _ _ st L)
end
def sq (H:Hp)(a:Addr):Option (List V):=match H a with
 | some (.lst xs)=>some xs
 | some (.tup xs)=>some xs
 | some (.frz _ (.lst xs))=>some xs
 | some (.frz _ (.tup xs))=>some xs
 | _=>none
theorem kL {H:Hp}{a:Addr}{xs:List V}(h:H a=some (.lst xs)):sq H a=some xs:=by unfold sq;rw [h]
theorem q8 {H:Hp}{a:Addr}{xs:List V}(h:H a=some (.tup xs)):sq H a=some xs:=by unfold sq;rw [h]
theorem sq_updL {H:Hp}{a:Addr}{xs:List V}:sq (upd H a (.lst xs)) a=some xs:=kL qG
theorem sq_updT {H:Hp}{a:Addr}{xs:List V}:sq (upd H a (.tup xs)) a=some xs:=q8 qG
theorem sq_rd {H:Hp}{a:Addr}{xs:List V}(h:sq H a=some xs):Rd H a (.lst xs)∨Rd H a (.tup xs):=by
 unfold sq at h
 cases e:H a with
 | none=>rw [e] at h;cases h
 | some o =>
  rw [e] at h
  cases o with
  | lst ys=>cases h;exact .inl (.inl e)
  | tup ys=>cases h;exact .inr (.inl e)
  | frz ob u =>
   cases u with
   | lst ys=>cases h;exact .inl (.inr ⟨ob,e⟩)
   | tup ys=>cases h;exact .inr (.inr ⟨ob,e⟩)
   | _=>cases h
  | _=>cases h
theorem dU {K:PySem.W.Frag}{H:Hp}{a:Addr}{xs:List V}(h:sq H a=some xs):SqL K H a xs∨SqT K H a xs:=by
 rcases sq_rd h with h | h
 ·exact .inl (.inl h)
 ·exact .inr (.inl h)
section
variable {X:Cx}
def rIx0:R2:=fun x y H Q=>∃ p xs i v,x = .ref p∧y = .int i∧sq H p=some xs∧dM xs i=some v∧Q v H
theorem yJ:IxR X rIx0:=by
 intro value slice pins s σ H x y v u Q I rx ry h hs
 obtain ⟨p,xs,i,z,e1,e2,hq,ha,q⟩:=h
 rcases dU (K:=X.K) hq with k | k
 ·exact ix_list value slice pins s σ H x y v u Q I rx ry ⟨p,xs,i,z,e1,e2,k,ha,q⟩ hs
 ·exact ix_tup value slice pins s σ H x y v u Q I rx ry ⟨p,xs,i,z,e1,e2,k,ha,q⟩ hs
theorem len0:j7 X (.builtin "len") (fun xs H Q=>∃ p ys,xs=[.ref p]∧sq H p=some ys∧Q (.int ys.length) H):=by
 intro pins s σ H xs us Q I r h
 obtain ⟨p,ys,e,hq,q⟩:=h
 exact nM pins s σ H xs us Q I r ⟨p,ys,e,dU hq,q⟩
theorem tupL0:j7 X (.type "tuple") (fun xs H Q=>∃ p ys,xs=[.ref p]∧H p=some (.lst ys)∧∀ l,H l=none→Q (.ref l) (upd H l (.tup ys))):=by
 intro pins s σ H xs us Q I r h
 obtain ⟨p,ys,e,hq,q⟩:=h
 exact bQ pins s σ H xs us Q I r ⟨p,ys,e,.inl ⟨SqL.of hq,q⟩⟩
theorem list0:j7 X (.type "list") (fun xs H Q=>∃ p ys,xs=[.ref p]∧sq H p=some ys∧∀ l,H l=none→Q (.ref l) (upd H l (.lst ys))):=by
 intro pins s σ H xs us Q I r h
 obtain ⟨p,ys,e,hq,q⟩:=h
 exact dF pins s σ H xs us Q I r ⟨p,ys,e,dU hq,q⟩
def rIn0 (neg:Bool):R2:=fun x y H Q=>∃ p xs,y = .ref p∧sq H p=some xs∧zT x=true∧xs.all zT=true∧Q (.bl (if neg then !inV x xs else inV x xs)) H
theorem in0:xD X (compareOp .In) (rIn0 false):=by
 intro pins s σ H x y v u Q I rx ry h
 obtain ⟨p,xs,e,hq,f1,f2,q⟩:=h
 exact u6 pins s σ H x y v u Q I rx ry ⟨p,xs,e,dU hq,f1,f2,q⟩
def gTup0 (n:Nat)(t:TGs):TG:=fun v σ H Q=>∃ a xs,v = .ref a∧H a=some (.tup xs)∧xs.length=n∧t xs σ H Q
theorem kU {es:List Expr}{k:Nat}{t:TGs}{n:Nat}{pos:Pos}(hc:X.calm=true)(h:PGs X es t)
  (hn:(assignEach es X.env).length=n:=by rfl) (hst:(assignEach es X.env).findIdx? (·.1)=none:=by rfl):PG X (.Tuple es k pos) (gTup0 n t):=by
 intro pins s σ H v u Q I r hw
 obtain ⟨a,xs,e1,hq,hl,hw⟩:=hw
 exact pg_tup hc h hn hst pins s σ H v u Q I r ⟨a,xs,e1,SqT.of hq,hl,hw⟩
theorem PG.mono {tg:Expr}{g g':TG}(h:PG X tg g)(m:∀ v σ H Q,g' v σ H Q→g v σ H Q):PG X tg g':=fun pins s σ H v u Q I r q=>h pins s σ H v u Q I r (m _ _ _ _ q)
def sL (f:Hp→Prop)(xs:List V):It:=⟨fun i H=>f H∧i < xs.length,fun i H x H'=>H'=H∧xs[i]? = some x,fun i H=>f H∧xs.length ≤ i⟩
theorem Turn.weak {P:Program}{w:World}{K:PySem.W.Frag}{tg:Expr}{J J':It}{fp:List Addr}{it:Addr}{tn:Nat→Heap→Prop}(T:Turn P w K tg J fp it tn)(hg:∀ i H,J'.go i H→J.go i H)(hs:∀ i H,J'.stop i H→J.stop i H)
  (hy:∀ i H x H',J'.go i H→J.yld i H x H'→J'.yld i H x H'):Turn P w K tg J' fp it tn where
 mem:=T.mem
 obj:=T.obj
 keep:=T.keep
 item:=fun X h1 h2 h3 hc i pins s σ H E I f st go=>jJ (T.item X h1 h2 h3 hc i pins s σ H E I f st (hg i H go)) fun r s1 ⟨u,e,q⟩=>⟨u,e,jJ q fun _ s2 ⟨x,H',I2,r2,y,t,n⟩=>⟨x,H',I2,r2,hy i H x H' go y,t,n⟩⟩
 done:=fun X h1 h2 h3 hc i pins s σ H E I f st go=>T.done X h1 h2 h3 hc i pins s σ H E I f st (hs i H go)
 self:=T.self
theorem PI.weak {tg iter:Expr}{wi wi':TI}(h:PI X tg iter wi)(m:∀ σ H R,wi' σ H R→wi σ H fun J H1=>∃ J',R J' H1∧(∀ i H,J'.go i H→J.go i H)∧(∀ i H,J'.stop i H→J.stop i H)∧(∀ i H x H',J'.go i H→J.yld i H x H'→J'.yld i H x H')):PI X tg iter wi':=by
 intro pins s σ H R I q
 refine jJ (h pins s σ H _ I (m σ H R q)) fun v s1 h1=>jJ h1 fun itv s2 ⟨it,fp,tn,J,H',e,I2,T,st,f,J',r,a,b,c⟩=>?_
 exact ⟨it,fp,tn,J',H',e,I2,T.weak a b c,st,f,r⟩
def iT0 (tl:TE):TI:=fun σ H R=>tl σ H fun x H1=>∃ a xs,x = .ref a∧H1 a=some (.tup xs)∧R (sL (fun H=>H a=some (.tup xs)) xs) H1
def iL0 (tl:TE):TI:=fun σ H R=>tl σ H fun x H1=>∃ a xs,x = .ref a∧H1 a=some (.lst xs)∧R (sL (fun H=>H a=some (.lst xs)) xs) H1
theorem yW {xs:List V}{i:Nat}(h:i < xs.length):∃ x,xs[i]? = some x:=⟨xs[i],by simp [h]⟩
theorem vF {tg l:Expr}{tl:TE}(hl:PE X l tl):PI X tg l (iT0 tl):=by
 intro pins s σ H R I h
 refine jJ (hl pins s σ H _ I h) fun v s1 ⟨x,H1,I1,r1,q1⟩=>?_
 obtain ⟨a,xs,e,hq,q⟩:=q1
 subst e
 cases r1
 obtain ⟨its,rv,p,hz⟩:=I1.tuple (SqT.of hq)
 refine wpAny_pyIter_tuple (show s1.heap.IsTuple a its.toArray from p) ?_
 refine ⟨s1.heap.objs.size,[s1.heap.objs.size],_,_,H1,rfl,I1.kept (t':=s1.toks) fun b o e=>Ac _ e,(fW a _).weak (J':=sL (fun H=>H a=some (.tup xs)) xs) (fun i H ⟨k,hi⟩=>?_) (fun i H ⟨k,hi⟩=>⟨xs,SqT.of k,hi⟩) (fun i H x H' ⟨k,hi⟩ ⟨y1,y2⟩=>⟨y1,y2 xs (SqT.of k)⟩),⟨_,Ak _ rfl,rfl,rfl⟩,fun b hb=>?_,q⟩
 ·obtain ⟨x,hx⟩:=yW hi
  exact ⟨xs,x,SqT.of k,hx⟩
 ·have e:b=s1.heap.objs.size:=by simpa using hb
  subst e
  exact I1.fpOk (Ad _) (I1.hok.fresh (Ad _))
theorem xO {tg l:Expr}{tl:TE}(hl:PE X l tl):PI X tg l (iL0 tl):=by
 intro pins s σ H R I h
 refine jJ (hl pins s σ H _ I h) fun v s1 ⟨x,H1,I1,r1,q1⟩=>?_
 obtain ⟨a,xs,e,hq,q⟩:=q1
 subst e
 cases r1
 obtain ⟨its,rv,p,hz⟩:=I1.list (SqL.of hq)
 refine wpAny_pyIter_list p.isList ?_
 refine ⟨s1.heap.objs.size,[s1.heap.objs.size],_,_,H1,rfl,I1.kept (t':=s1.toks) fun b o e=>Ac _ e,(bV a _).weak (J':=sL (fun H=>H a=some (.lst xs)) xs) (fun i H ⟨k,hi⟩=>?_) (fun i H ⟨k,hi⟩=>⟨xs,SqL.of k,hi⟩) (fun i H x H' ⟨k,hi⟩ ⟨y1,y2⟩=>⟨y1,y2 xs (SqL.of k)⟩),⟨_,Ak _ rfl,rfl,rfl⟩,fun b hb=>?_,q⟩
 ·obtain ⟨x,hx⟩:=yW hi
  exact ⟨xs,x,SqL.of k,hx⟩
 ·have e:b=s1.heap.objs.size:=by simpa using hb
  subst e
  exact I1.fpOk (Ad _) (I1.hok.fresh (Ad _))
def Cal (P:Program)(w:World)(K:PySem.W.Frag)(mg:Str→Option Value)(base:Heap)(x:Str)(ps:List Str)(k:Nat)(sp:Sp):Prop :=
 ∃ f fd,FnOk P w K mg base CX0 k f fd ps sp∧mg x=some (.ref f)∧PySem.W.keepIn K (.ref f)=true∧Binds K fd ps []
theorem Cal.imp {P:Program}{w:World}{K:PySem.W.Frag}{mg:Str→Option Value}{base:Heap}{x:Str}{ps:List Str}{k:Nat}{sp sp':Sp}(c:Cal P w K mg base x ps k sp)(h:∀ vs H Q E,sp' vs H Q E→sp vs H Q E):Cal P w K mg base x ps k sp' :=
 let ⟨f,fd,F,r⟩:=c;⟨f,fd,F.imp h,r⟩
theorem Cal.mono {P:Program}{w:World}{K:PySem.W.Frag}{mg:Str→Option Value}{base:Heap}{x:Str}{ps:List Str}{j k:Nat}{sp:Sp}(c:Cal P w K mg base x ps j sp)(h:j ≤ k):Cal P w K mg base x ps k sp :=
 let ⟨f,fd,F,r⟩:=c;⟨f,fd,F.mono h,r⟩
def tCal (sp:Sp)(t:TA):TE:=fun σ H Q=>t σ H fun vs H1=>sp vs H1 Q E0
theorem qJ {k j:Nat}{x:Str}{ps:List Str}{sp:Sp}{t:TA}{e:Expr}{es:List Expr}{p pos:Pos}(c:Cal X.prog X.w X.K X.mg X.base x ps k sp)(hr:Room j X.A)(ha:PA X (e :: es) t)(hg:Gl X x:=by rfl)(hk:k ≤ j:=by decide)
  (hdb:(x == ("__debug__" : Str))=false:=by decide) (he:starEach (e :: es) X.env=(false,eval e X.env) :: starEach es X.env:=by rfl) (hpl:(backTo pos (starEach es X.env)).any (·.1)=false:=by rfl) :
  PE X (.Call (.Name x p) (e :: es) [] pos) (tCal sp t):=by
 obtain ⟨f,fd,F,hm,kp,hb⟩:=c
 intro pins s σ H Q I h
 refine pe_call (E:=E0) (dvs:=[]) F (hr.mono hk) hg hm kp hb .nil pass0 ha hdb he hpl pins s σ H Q I ?_
 show t σ H fun vs H1=>sp (vs ++ []) H1 Q E0
 have h':t σ H fun vs H1=>sp vs H1 Q E0:=h
 simpa using h'
theorem q0 {P:Program}{w:World}{K:PySem.W.Frag}{mg:Str→Option Value}{base:Heap}{x:Str}{st:Stmt}{f:Addr}{fd:FuncData}{N ps:List Str}{k:Nat}{sp:Sp}(F:Fun K x x st f fd)(hm:mg x=some (.ref f))(hb:Binds K fd ps [])
  (S:FnScope N ps (qE st)) (len:∀ vs H Q E,sp vs H Q E→vs.length=ps.length)
  (hbody:∀ (cdv:Value) (A:Around) (outer:List Env) (s:Shared) (H:Hp) (vs:List V) (Q:VK) (E:XK),Room k (A.deeper (envOfC x (qE st) s.heap.objs.size f cdv))→sp vs H Q E →
   ∃ t,PSs (sD CX0 P w K mg base N x (qE st) f cdv A outer s H E).nox (qN st) t∧t { nx:=fun _ H'=>Q .non H',rt:=Q } (start N vs) H):Cal P w K mg base x ps (k + 1) sp :=
 ⟨f,fd,F.ok S len hbody,hm,F.kp,hb⟩
def tBits (to:TE):TE:=fun σ H Q=>to σ H fun x H1=>∃ i,x = .int i∧Q (.int (Builtin.Int.intBits i:Nat)) H1
theorem is_bl:xD X (compareOp .Is) (fun x y H Q=>∃ a b,x = .bl a∧y = .bl b∧Q (.bl (a == b)) H):=by
 intro pins s σ H x y v u Q I rx ry h
 obtain ⟨a,b,rfl,rfl,q⟩:=h
 cases rx
 cases ry
 exact is_bool ⟨.bl (a == b),H,I,rfl,q⟩
theorem dC:xD X (compareOp .IsNot) (fun x y H Q=>∃ a b,x = .bl a∧y = .bl b∧Q (.bl (a != b)) H):=by
 intro pins s σ H x y v u Q I rx ry h
 obtain ⟨a,b,rfl,rfl,q⟩:=h
 cases rx
 cases ry
 exact isnot_bool ⟨.bl (a != b),H,I,rfl,q⟩
section
variable {pins:List (Addr × Obj)}{σ:St}{H:Hp}{s:Shared}
theorem Inv.walk {p:Addr}{xs:List V}{E:Value→Shared→Prop}{R:Value→Shared→Prop}(I:Inv X pins σ H s)(hc:X.calm=true)(hq:sq H p=some xs)
  (h:∀ (it:Addr) (its:List Value) (s2:Shared) (St:Nat→Heap→Prop) (fp:List Addr),Vals xs its→Walks X.prog X.w X.A.in1 it fp [it] its.length (fun i v=>its[i]? = some v) St→St 0 s2.heap→(∀ b ∈ fp,b < s2.heap.objs.size)→s2.heap.objs.size=it + 1 →
   (∀ h' tk,(∀ b o,b ∉ [it]→s2.heap.get? b=some o→h'.get? b=some o)→Inv X pins σ H { s2 with heap:=h',toks:=tk })→R (.ref it) s2) :
  wpAny (model X.prog X.w) X.A.in1 (pyIter (.ref p)) R E s:=by
 have hd:X.A.in1.handled=none:=I.ok.hd hc
 have key:∀ (ob:Obj),Inv X pins σ H { s with heap:=s.heap.push ob }∧∀ h' tk,(∀ b o,b ∉ [s.heap.objs.size]→(s.heap.push ob).get? b=some o→h'.get? b=some o)→Inv X pins σ H { s with heap:=h',toks:=tk }:=fun ob=>by
  refine ⟨I.kept (t':=s.toks) fun b o e=>Ac _ e,fun h' tk k=>I.kept fun b o e=>k b o (fun z=>?_) (Ac _ e)⟩
  have e':b=s.heap.objs.size:=by simpa using z
  exact AJ _ (e' ▸ An e)
 rcases dU (K:=X.K) hq with k | k
 ·obtain ⟨its,rv,pl,hz⟩:=I.list k
  have ne:p ≠ s.heap.objs.size:=A3 (let ⟨_,e,_⟩:=pl.isList;An e)
  refine wpAny_pyIter_list pl.isList ?_
  refine h s.heap.objs.size its _ (fun i h=>h.IsListIter s.heap.objs.size p i∧h.IsList p its.toArray) [s.heap.objs.size,p] rv (by simpa using Walks.list hd s.heap.objs.size p ne its.toArray) ⟨⟨_,Ak _ rfl,rfl,rfl⟩,pl.isList.at fun o e=>Ac _ e⟩ (fun b hb=>?_) (AN ..) (key _).2
  rw [AN]
  rcases A2.mp hb with rfl | hb
  ·exact AS _
  ·have e:b=p:=by simpa using hb
   subst e
   exact Ce (let ⟨_,e,_⟩:=pl.isList;An e)
 ·obtain ⟨its,rv,pl,hz⟩:=I.tuple k
  have lt:p < s.heap.objs.size:=pl.lt
  have ne:p ≠ s.heap.objs.size:=A3 lt
  refine wpAny_pyIter_tuple (show s.heap.IsTuple p its.toArray from pl) ?_
  refine h s.heap.objs.size its _ (fun i h=>h.IsTupleIter s.heap.objs.size p i∧h.IsTuple p its.toArray) [s.heap.objs.size,p] rv (by simpa using Walks.tuple hd s.heap.objs.size p ne its.toArray) ⟨⟨_,Ak _ rfl,rfl,rfl⟩,(show s.heap.IsTuple p its.toArray from pl).at fun o e=>Ac _ e⟩ (fun b hb=>?_) (AN ..) (key _).2
  rw [AN]
  rcases A2.mp hb with rfl | hb
  ·exact AS _
  ·have e:b=p:=by simpa using hb
   subst e
   exact Ce lt
end
theorem preSum_eq (ns:List Int):∀ n,n ≤ ns.length→preSum (fun i=>ns.getD i 0) n=(ns.take n).sum
 | 0,_=>rfl
 | n + 1,h=>by
  show preSum (fun i=>ns.getD i 0) n + ns.getD n 0=_
  rw [preSum_eq ns n (by omega),A6,Ae (by omega),BX]
  simp [Ab,Ae (show n < ns.length by omega)]
theorem jM {ns:List Int}{its:List Value}(r:Vals (ns.map V.int) its){i:Nat}{v:Value}(h:its[i]? = some v):∃ t,v = .int (ns.getD i 0) t:=by
 have hl:=r.length
 rw [Aa] at hl
 have hi:i < ns.length:=by rw [hl];exact (Af.mp h).1
 obtain ⟨u,hu,t,rfl⟩:=r.get (i:=i) (x:=V.int ns[i]) (by simp [hi])
 rw [h] at hu
 cases hu
 exact ⟨t,by simp [Ab,hi]⟩
def mP (ns:List Int):Prop:=(∀ n ∈ ns,-(2 ^ 62) ≤ n∧n < 2 ^ 62)∧∀ j,j ≤ ns.length→InLong (ns.take j).sum
theorem iD (hc:X.calm=true):j7 X (.builtin "sum") (fun xs H Q=>∃ (p:Addr) (ns:List Int),xs=[.ref p]∧sq H p=some (ns.map V.int)∧mP ns∧Q (.int ns.sum) H):=by
 intro pins s σ H xs us Q I r h
 obtain ⟨p,ns,rfl,hq,fit,q⟩:=h
 obtain ⟨u,rfl,ru⟩:=r.one
 cases ru
 refine call_sum_walk (I.walk hc hq fun it its s2 St fp rv W st hfp hsz J=>?_)
 have hl:=rv.length
 rw [Aa] at hl
 refine ⟨it,fp,[it],its.length,_,St,fun i=>ns.getD i 0,rfl,W,st,hfp,fun i v hv=>jM rv hv,fun j hj=>⟨?_,?_⟩,fun h' tk t' k=>⟨.int ns.sum,H,J h' tk k,?_,q⟩⟩
 ·have hj':j < ns.length:=by omega
  have e:ns.getD j 0=ns[j]:=by simp [Ab,hj']
  show InLong (ns.getD j 0)
  rw [e]
  obtain ⟨a,b⟩:=fit.1 ns[j] (AH hj')
  exact ⟨by omega,by omega⟩
 ·rw [preSum_eq ns (j + 1) (by omega)]
  exact fit.2 (j + 1) (by omega)
 ·rw [← hl,preSum_eq ns _ (Ad _),AL]
  exact ⟨_,rfl⟩
theorem nS {bs:List Bool}{its:List Value}(r:Vals (bs.map V.bl) its){i:Nat}{v:Value}(h:its[i]? = some v):v = .bool (bs.getD i true):=by
 have hl:=r.length
 rw [Aa] at hl
 have hi:i < bs.length:=by rw [hl];exact (Af.mp h).1
 obtain ⟨u,hu,e⟩:=r.get (i:=i) (x:=V.bl bs[i]) (by simp [hi])
 rw [h] at hu
 cases hu
 rw [show v=Value.bool bs[i] from e]
 simp [Ab,hi]
theorem eW {bs:List Bool}{its:List Value}(r:Vals (bs.map V.bl) its)(A:Around):TruthOf X.prog X.w A (fun i v=>its[i]? = some v) (fun i=>bs.getD i true):=fun i v s Q E h q=>by
 rw [nS r h]
 exact wpAny_truthy_bool q
theorem range_all (bs:List Bool):(List.range bs.length).all (fun i=>bs.getD i true)=bs.all id:=by
 rw [Bl,B3,B3]
 constructor
 ·intro h b hb
  obtain ⟨i,hi,rfl⟩:=Cp.mp hb
  have:=h i (AZ.mpr hi)
  simpa [Ab,hi] using this
 ·intro h i hi
  have hi':=AZ.mp hi
  have:=h bs[i] (AH hi')
  simpa [Ab,hi'] using this
theorem all0 (hc:X.calm=true):j7 X (.builtin "all") (fun xs H Q=>∃ (p:Addr) (bs:List Bool),xs=[.ref p]∧sq H p=some (bs.map V.bl)∧Q (.bl (bs.all id)) H):=by
 intro pins s σ H xs us Q I r h
 obtain ⟨p,bs,rfl,hq,q⟩:=h
 obtain ⟨u,rfl,ru⟩:=r.one
 cases ru
 refine call_all_walk (I.walk hc hq fun it its s2 St fp rv W st hfp hsz J=>?_)
 have hl:=rv.length
 rw [Aa] at hl
 refine ⟨it,fp,[it],its.length,_,St,fun i=>bs.getD i true,rfl,W,st,eW rv _,fun h' tk k=>⟨.bl (bs.all id),H,J h' tk k,?_,q⟩⟩
 rw [← hl,range_all]
 exact rfl
def jR (H:Hp):V→Option String
 | .non=>some "NoneType"
 | .bl _=>some "bool"
 | .int _=>some "int"
 | .str _=>some "str"
 | .ref a=>match H a with
  | some (.lst _)=>some "list"
  | some (.tup _)=>some "tuple"
  | some (.dK _)=>some "dict"
  | _=>none
 | _=>none
def subN (t T:String):Bool:=t == T || (t == "bool" && T == "int")
theorem eS {K:PySem.W.Frag}{H:Hp}{x:V}{t:String}(h:jR H x=some t):TyOf K H x (.type t)∧(t = "NoneType" ∨ t = "bool" ∨ t = "int" ∨ t = "str" ∨ t = "list" ∨ t = "tuple" ∨ t = "dict"):=by
 cases x with
 | non=>cases h;exact ⟨.non,by simp⟩
 | bl b=>cases h;exact ⟨.bl b,by simp⟩
 | int i=>cases h;exact ⟨.int i,by simp⟩
 | str i=>cases h;exact ⟨.str i,by simp⟩
 | ref a =>
  cases e:H a with
  | none=>simp [jR,e] at h
  | some o =>
   cases o with
   | lst xs=>simp [jR,e] at h;subst h;exact ⟨.lst e,by simp⟩
   | tup xs=>simp [jR,e] at h;subst h;exact ⟨.tup e,by simp⟩
   | dK xs=>simp [jR,e] at h;subst h;exact ⟨.dK e,by simp⟩
   | _=>simp [jR,e] at h
 | _=>cases h
theorem kit_of {K:PySem.W.Frag}{t T:String}(h:t = "NoneType" ∨ t = "bool" ∨ t = "int" ∨ t = "str" ∨ t = "list" ∨ t = "tuple" ∨ t = "dict") (hT:T = "int" ∨ T = "bool" ∨ T = "tuple" ∨ T = "str" ∨ T = "list"):PySem.W.kitOne K (.type t) (.type T)=some (subN t T):=by
 rcases h with rfl | rfl | rfl | rfl | rfl | rfl | rfl <;> rcases hT with rfl | rfl | rfl | rfl | rfl <;> rfl
theorem aP:j7 X (.builtin "isinstance") (fun xs H Q=>∃ x T t,xs=[x,.ty T]∧jR H x=some t∧(T = "int" ∨ T = "bool" ∨ T = "tuple" ∨ T = "str" ∨ T = "list")∧Q (.bl (subN t T)) H):=by
 intro pins s σ H xs us Q I r h
 obtain ⟨x,T,t,rfl,ht,hT,q⟩:=h
 obtain ⟨u,v,rfl,ru,rv⟩:=r.two
 cases (show v=Value.type T from rv)
 obtain ⟨ty,ht'⟩:=eS (K:=X.K) ht
 exact aO I ru ty (kit_of ht' hT) fun tk=>⟨.bl (subN t T),H,I.tok tk,rfl,q⟩
end
theorem kY:bootBuiltins "len" = some (.builtin "len"):=by decide +kernel
theorem bM:bootBuiltins "sum" = some (.builtin "sum"):=by decide +kernel
theorem bt_all:bootBuiltins "all" = some (.builtin "all"):=by decide +kernel
theorem jN:bootBuiltins "isinstance" = some (.builtin "isinstance"):=by decide +kernel
theorem bt_abs:bootBuiltins "abs" = some (.builtin "abs"):=by decide +kernel
theorem bt_min:bootBuiltins "min" = some (.builtin "min"):=by decide +kernel
theorem d8:bootBuiltins "max" = some (.builtin "max"):=by decide +kernel
theorem eD:bootBuiltins "sorted" = some (.builtin "sorted"):=by decide +kernel
theorem kN:bootBuiltins "tuple" = some (.type "tuple"):=by decide +kernel
theorem uH:bootBuiltins "list" = some (.type "list"):=by decide +kernel
theorem bt_int:bootBuiltins "int" = some (.type "int"):=by decide +kernel
theorem bt_bool:bootBuiltins "bool" = some (.type "bool"):=by decide +kernel
theorem for_seq {f:Hp→Prop}{xs:List V}{g:TG}{tb:TS}{D:Ends}{σ:St}{H:Hp}(Pv:Nat→St→Hp→Prop)(h0:Pv 0 σ H)(hl:∀ i σ H,i ≤ xs.length→Pv i σ H→f H)
  (hs:∀ i x σ H,xs[i]? = some x→Pv i σ H→g x σ H fun σ2 H2=>tb { D with nx:=Pv (i + 1),ct:=Pv (i + 1),bk:=D.nx } σ2 H2) (hd:∀ σ H,Pv xs.length σ H→D.nx σ H) :
  ∃ W:Nat→Nat→St→Hp→Prop,(∃ m,W 0 m σ H)∧∀ i m σ H,W i m σ H →
   ((sL f xs).stop i H∧D.nx σ H)∨((sL f xs).go i H∧∃ N:St→Hp→Prop,(∀ σ' H',N σ' H'→∃ m',m' < m∧W (i + 1) m' σ' H')∧∀ x H',(sL f xs).yld i H x H'→g x σ H' fun σ2 H2=>tb { D with nx:=N,ct:=N,bk:=D.nx } σ2 H2):=by
 refine ⟨fun i m σ H=>m=xs.length - i∧i ≤ xs.length∧Pv i σ H,⟨xs.length,by simp,Bb _,h0⟩,?_⟩
 rintro i m σ H ⟨rfl,hi,p⟩
 have q:=hl i σ H hi p
 by_cases hlt:i < xs.length
 ·refine .inr ⟨⟨q,hlt⟩,Pv (i + 1),fun σ' H' p'=>⟨xs.length - (i + 1),by omega,rfl,hlt,p'⟩,fun x H' y=>?_⟩
  obtain ⟨e,y⟩:=y
  subst e
  exact hs i x σ _ y p
 ·have e:i=xs.length:=by omega
  subst e
  exact .inl ⟨⟨q,Ad _⟩,hd σ H p⟩
theorem jY {f:Hp→Prop}{xs:List V}{g:TG}{tc:TT}{tb:TB}{D:St→Hp→Prop}{σ:St}{H:Hp}(Pv:Nat→St→Hp→Prop)(h0:Pv 0 σ H)(hl:∀ i σ H,i ≤ xs.length→Pv i σ H→f H)
  (hs:∀ i x σ H,xs[i]? = some x→Pv i σ H→g x σ H fun σ2 H2=>tc σ2 H2 fun b H3=>if b=true then tb σ2 H3 (Pv (i + 1)) else Pv (i + 1) σ2 H3) (hd:∀ σ H,Pv xs.length σ H→D σ H):nZ (sL f xs) g tc tb D σ H:=by
 refine ⟨fun i m σ H=>m=xs.length - i∧i ≤ xs.length∧Pv i σ H,⟨xs.length,by simp,Bb _,h0⟩,?_⟩
 rintro i m σ H ⟨rfl,hi,p⟩
 have q:=hl i σ H hi p
 by_cases hlt:i < xs.length
 ·refine .inr ⟨⟨q,hlt⟩,Pv (i + 1),fun σ' H' p'=>⟨xs.length - (i + 1),by omega,rfl,hlt,p'⟩,fun x H' y=>?_⟩
  obtain ⟨e,y⟩:=y
  subst e
  exact hs i x σ _ y p
 ·have e:i=xs.length:=by omega
  subst e
  exact .inl ⟨⟨q,Ad _⟩,hd σ H p⟩
theorem zK {lo:Int}{n:Nat}{g:TG}{tc:TT}{tb:TB}{D:St→Hp→Prop}{σ:St}{H:Hp}(Pv:Nat→St→Hp→Prop)(h0:Pv 0 σ H)
  (hs:∀ i σ H,i < n→Pv i σ H→g (.int (lo + i)) σ H fun σ2 H2=>tc σ2 H2 fun b H3=>if b=true then tb σ2 H3 (Pv (i + 1)) else Pv (i + 1) σ2 H3) (hd:∀ σ H,Pv n σ H→D σ H):nZ (Itr lo n) g tc tb D σ H:=by
 refine ⟨fun i m σ H=>m=n - i∧i ≤ n∧Pv i σ H,⟨n,by simp,Bb _,h0⟩,?_⟩
 rintro i m σ H ⟨rfl,hi,p⟩
 by_cases hlt:i < n
 ·refine .inr ⟨hlt,Pv (i + 1),fun σ' H' p'=>⟨n - (i + 1),by omega,rfl,hlt,p'⟩,fun x H' y=>?_⟩
  obtain ⟨e,y⟩:=y
  subst e y
  exact hs i σ _ hlt p
 ·have e:i=n:=by omega
  subst e
  exact .inl ⟨Ad _,hd σ H p⟩
def Box (H:Hp)(p:Addr):Prop:=∃ g m c:Int,H p=some (.lst [.int g,.int m,.int c])
def But (p:Addr)(H H':Hp):Prop:=∀ b,b ≠ p→H' b=H b
theorem But.refl {p:Addr}{H:Hp}:But p H H:=fun _ _=>rfl
theorem But.trans {p:Addr}{H H1 H2:Hp}(a:But p H H1)(b:But p H1 H2):But p H H2:=fun c h=>(b c h).trans (a c h)
theorem But.upd {p:Addr}{H:Hp}{o:HO}:But p H (upd H p o):=fun _ h=>qQ h
theorem But.sq {p a:Addr}{H H':Hp}(h:But p H H')(n:a ≠ p):sq H' a=sq H a:=by unfold L2.sq;rw [h a n]
def Scr (K:PySem.W.Frag)(a:Addr)(ns:List Int)(H:Hp):Prop:=SqL K H a (ns.map V.int)
theorem kI {H:Hp}{p:Addr}{o:HO}(n:H p=none):Same H (upd H p o):=fun b u e=>by rw [qQ (qF e n)];exact e
section
variable {X:Cx}
def eY (t:TA):TE:=fun σ H Q=>t σ H fun xs H1=>xs.length ≤ sizeLine∧∀ (p:Addr) (H2:Hp),H1 p=none→Same H1 H2→H2 p=some (.tup xs)→Q (.ref p) H2
theorem kQ {es:List Expr}{t:TA}{x1}{pos:Pos}(h:PA X es t):PE X (.Tuple es x1 pos) (eY t):=by
 intro pins s σ H Q I hq
 refine Tuple_ (jJ (h pos pins s σ H _ I hq) fun us s1 ⟨xs,H1,I1,r,z,q⟩=>?_)
 have hf:H1 s1.heap.objs.size=none:=I1.hok.fresh (Ad _)
 refine wpAny_newObj_type ?_ (by show us.toArray.size ≤ sizeLine;rw [Ah,← r.length];exact z)
 refine ⟨.ref s1.heap.objs.size,upd H1 s1.heap.objs.size (.tup xs),I1.laid (t':=s1.toks) (fun b u e=>Ac _ e) (Ad _) ?_,rfl,q _ _ hf (kI hf) qG⟩
 exact ⟨z,us,r,C0 s1.heap _⟩
theorem z6:j7 X (.type "tuple") (fun xs H Q=>∃ p ys,xs=[.ref p]∧H p=some (.lst ys)∧∀ (l:Addr) (H2:Hp),H l=none→Same H H2→H2 l=some (.tup ys)→Q (.ref l) H2):=by
 intro pins s σ H xs us Q I r h
 obtain ⟨p,ys,e,hq,q⟩:=h
 exact tupL0 pins s σ H xs us Q I r ⟨p,ys,e,hq,fun l n=>q l _ n (kI n) qG⟩
theorem a_tTupA {t:TA}{σ:St}{H:Hp}{Q:VK}:eY t σ H Q=t σ H fun xs H1=>xs.length ≤ sizeLine∧∀ (p:Addr) (H2:Hp),H1 p=none→Same H1 H2→H2 p=some (.tup xs)→Q (.ref p) H2:=rfl
end
section
variable {D:Ends}{σ:St}{H:Hp}{Q:VK}{QB:Bool→Hp→Prop}{QA:List V→Hp→Prop}{QG:St→Hp→Prop}{R:It→Hp→Prop}
theorem a_tSeq {t u:TS}:tSeq t u D σ H=t { D with nx:=u D } σ H:=rfl
theorem a_tRet {te:TE}:tRet te D σ H=te σ H D.rt:=rfl
theorem a_tRetN:tRetN D σ H=D.rt .non H:=rfl
theorem a_tNext:tNext D σ H=D.nx σ H:=rfl
theorem a_tDrop {te:TE}:tDrop te D σ H=te σ H fun _ H1=>D.nx σ H1:=rfl
theorem a_tAsg {te:TE}{g:TG}:iC te g D σ H=te σ H fun x H1=>g x σ H1 D.nx:=rfl
theorem a_tIfS {c:TT}{t u:TS}:tIfS c t u D σ H=c σ H fun b H1=>if b=true then t D σ H1 else u D σ H1:=rfl
theorem a_tPar {i j:Nat}{ta:TA}:tPar i j ta D σ H=ta σ H fun vs H1=>∃ v w,vs=[v,w]∧D.nx ((σ.set i (some v)).set j (some w)) H1:=rfl
theorem a_gName {i:Nat}{v:V}:j8 i v σ H QG=QG (σ.set i (some v)) H:=rfl
theorem a_gNil {vs:List V}:gNil vs σ H QG=(vs=[]∧QG σ H):=rfl
theorem a_gCons {t:TG}{u:TGs}{vs:List V}:gCons t u vs σ H QG = ∃ v r,vs=v :: r∧t v σ H fun σ' H'=>u r σ' H' QG:=rfl
theorem a_gTup0 {n:Nat}{t:TGs}{v:V}:gTup0 n t v σ H QG = ∃ a xs,v = .ref a∧H a=some (.tup xs)∧xs.length=n∧t xs σ H QG:=rfl
theorem a_gSub {to ti:TE}{t:TSet}{v:V}:gSub to ti t v σ H QG=to σ H fun o H1=>ti σ H1 fun i H2=>t o i v H2 fun H3=>QG σ H3:=rfl
theorem a_rSetL {o i v:V}{q:Hp→Prop}:iS o i v H q = ∃ p xs k j,o = .ref p∧i = .int k∧H p=some (.lst xs)∧pD xs.length k=some j∧q (upd H p (.lst (xs.set j v))):=rfl
theorem a_tAnd {t u:TT}:tAnd t u σ H QB=t σ H fun c H1=>if c=true then u σ H1 QB else QB false H1:=rfl
theorem a_tOr {t u:TT}:tOr t u σ H QB=t σ H fun c H1=>if c=true then QB true H1 else u σ H1 QB:=rfl
theorem a_tNot {t:TT}:tNot t σ H QB=t σ H fun c H1=>QB (!c) H1:=rfl
theorem a_tTest {t:TE}:tTest t σ H QB=t σ H fun x H'=>∃ k,x = .bl k∧QB k H':=rfl
theorem a_tB {t:TE}:tB t σ H QB=t σ H fun x H1=>∃ c,x = .bl c∧QB c H1:=rfl
theorem a_tTrue:tTrue σ H QB=QB true H:=rfl
theorem a_tIf {t:TT}{ta tb:TE}:tIf t ta tb σ H Q=t σ H fun c H1=>if c=true then ta σ H1 Q else tb σ H1 Q:=rfl
theorem a_tAndV {ta tb:TE}:tAndV ta tb σ H Q=ta σ H fun x H1=>∃ c,x = .bl c∧if c=true then tb σ H1 Q else Q (.bl false) H1:=rfl
theorem a_tOrV {ta tb:TE}:tOrV ta tb σ H Q=ta σ H fun x H1=>∃ c,x = .bl c∧if c=true then Q (.bl true) H1 else tb σ H1 Q:=rfl
theorem a_tNotV {ta:TE}:tNotV ta σ H Q=ta σ H fun x H1=>∃ c,x = .bl c∧Q (.bl (!c)) H1:=rfl
theorem a_tOp {r:R2}{ta tb:TE}:tOp r ta tb σ H Q=ta σ H fun x H1=>tb σ H1 fun y H2=>r x y H2 Q:=rfl
theorem a_tUn {r:V→Hp→VK→Prop}{ta:TE}:tUn r ta σ H Q=ta σ H fun x H1=>r x H1 Q:=rfl
theorem a_rU {g:Int→V}{x:V}:rU g x H Q = ∃ i,x = .int i∧Q (g i) H:=rfl
theorem a_tVar {i:Nat}:gC i σ H Q = ∃ v,σ[i]? = some (some v)∧Q v H:=rfl
theorem a_tC {v:V}:tC v σ H Q=Q v H:=rfl
theorem a_rI0 {g:Int→Int→V}{x y:V}:eF g x y H Q = ∃ i j,x = .int i∧y = .int j∧Q (g i j) H:=rfl
theorem a_rI {C:Int→Int→Prop}{g:Int→Int→V}{x y:V}:rI C g x y H Q = ∃ i j,x = .int i∧y = .int j∧C i j∧Q (g i j) H:=rfl
theorem a_rEq {x y:V}:rEq x y H Q=(z9 x y=true∧Q (.bl (decide (x=y))) H):=rfl
theorem a_rNe {x y:V}:rNe x y H Q=(z9 x y=true∧Q (.bl (!decide (x=y))) H):=rfl
theorem a_rIx0 {x y:V}:rIx0 x y H Q = ∃ p xs i v,x = .ref p∧y = .int i∧sq H p=some xs∧dM xs i=some v∧Q v H:=rfl
theorem a_rIn0 {neg:Bool}{x y:V}:rIn0 neg x y H Q = ∃ p xs,y = .ref p∧sq H p=some xs∧zT x=true∧xs.all zT=true∧Q (.bl (if neg then !inV x xs else inV x xs)) H:=rfl
theorem a_tCB {r:List V→Hp→VK→Prop}{t:TA}:tCB r t σ H Q=t σ H fun vs H1=>r vs H1 Q:=rfl
theorem a_tCal {sp:Sp}{t:TA}:tCal sp t σ H Q=t σ H fun vs H1=>sp vs H1 Q E0:=rfl
theorem a_tCons {ta:TE}{tr:TA}:sV ta tr σ H QA=ta σ H fun x H1=>tr σ H1 fun xs H2=>QA (x :: xs) H2:=rfl
theorem a_tNil:tNil σ H QA=QA [] H:=rfl
theorem a_tLst {t:TA}:tLst t σ H Q=t σ H fun xs H1=>xs.length ≤ sizeLine∧∀ p,H1 p=none→Q (.ref p) (upd H1 p (.lst xs)):=rfl
theorem a_tBits {to:TE}:tBits to σ H Q=to σ H fun x H1=>∃ i,x = .int i∧Q (.int (Builtin.Int.intBits i:Nat)) H1:=rfl
theorem a_tLC {fr:List (Option Nat)}{wi:TI}{g:TG}{tc:TT}{te:TE}:tLC fr wi g tc te σ H Q=wi σ H fun J H1=>∀ p,H1 p=none→nZ J g tc (xF p te) (fun _ H2=>Q (.ref p) H2) (pY fr σ) (upd H1 p (.lst [])):=rfl
theorem a_iRng1 {ta:TA}:iRng1 ta σ H R=ta σ H fun vs H1=>∃ j:Int,vs=[.int j]∧-(2 ^ 62) ≤ j∧j < 2 ^ 62∧R (Itr 0 j.toNat) H1:=rfl
theorem a_iRng2 {ta:TA}:iRng2 ta σ H R=ta σ H fun vs H1=>∃ i j:Int,vs=[.int i,.int j]∧(-(2 ^ 62) ≤ i∧i < 2 ^ 62∧-(2 ^ 62) ≤ j∧j < 2 ^ 62)∧R (Itr i (j - i).toNat) H1:=rfl
theorem a_iT0 {tl:TE}:iT0 tl σ H R=tl σ H fun x H1=>∃ a xs,x = .ref a∧H1 a=some (.tup xs)∧R (sL (fun H=>H a=some (.tup xs)) xs) H1:=rfl
theorem a_iL0 {tl:TE}:iL0 tl σ H R=tl σ H fun x H1=>∃ a xs,x = .ref a∧H1 a=some (.lst xs)∧R (sL (fun H=>H a=some (.lst xs)) xs) H1:=rfl
theorem a_tEmit {p:Addr}{te:TE}:xF p te σ H QG=te σ H fun y H1=>∃ ys,H1 p=some (.lst ys)∧ys.length < sizeLine∧QG σ (upd H1 p (.lst (ys ++ [y]))):=rfl
end
def FL (J:It)(g:TG)(tb:TS)(D:Ends)(σ:St)(H1:Hp):Prop:=∃ W:Nat→Nat→St→Hp→Prop,(∃ m,W 0 m σ H1)∧∀ i m σ H,W i m σ H →
 (J.stop i H∧D.nx σ H)∨(J.go i H∧∃ N:St→Hp→Prop,(∀ σ' H',N σ' H'→∃ m',m' < m∧W (i + 1) m' σ' H')∧∀ x H',J.yld i H x H'→g x σ H' fun σ2 H2=>tb { D with nx:=N,ct:=N,bk:=D.nx } σ2 H2)
theorem a_tFor {wi:TI}{g:TG}{tb:TS}{D:Ends}{σ:St}{H:Hp}:tFor wi g tb D σ H=wi σ H fun J H1=>FL J g tb D σ H1:=rfl
theorem yZ {f:Hp→Prop}{xs:List V}{g:TG}{tb:TS}{D:Ends}{σ:St}{H:Hp}(Pv:Nat→St→Hp→Prop)(h0:Pv 0 σ H)(hl:∀ i σ H,i ≤ xs.length→Pv i σ H→f H)
  (hs:∀ i x σ H,xs[i]? = some x→Pv i σ H→g x σ H fun σ2 H2=>tb { D with nx:=Pv (i + 1),ct:=Pv (i + 1),bk:=D.nx } σ2 H2) (hd:∀ σ H,Pv xs.length σ H→D.nx σ H):FL (sL f xs) g tb D σ H:=for_seq Pv h0 hl hs hd
theorem yI {lo:Int}{n:Nat}{g:TG}{tb:TS}{D:Ends}{σ:St}{H:Hp}(Pv:Nat→St→Hp→Prop)(h0:Pv 0 σ H)
  (hs:∀ i σ H,i < n→Pv i σ H→g (.int (lo + i)) σ H fun σ2 H2=>tb { D with nx:=Pv (i + 1),ct:=Pv (i + 1),bk:=D.nx } σ2 H2) (hd:∀ σ H,Pv n σ H→D.nx σ H):FL (Itr lo n) g tb D σ H:=aV Pv h0 hs hd
def SameX (c:Addr)(H H':Hp):Prop:=∀ b o,b ≠ c→H b=some o→H' b=some o
theorem SameX.refl {c:Addr}{H:Hp}:SameX c H H:=fun _ _ _ h=>h
theorem SameX.trans {c:Addr}{H H1 H2:Hp}(a:SameX c H H1)(b:SameX c H1 H2):SameX c H H2:=fun d o n h=>b d o n (a d o n h)
theorem SameX.upd {c:Addr}{H:Hp}{o:HO}:SameX c H (upd H c o):=fun b u n h=>by rw [qQ n];exact h
theorem Same.x {c:Addr}{H H':Hp}(h:Same H H'):SameX c H H':=fun b o _ e=>h b o e
theorem SameX.same {c:Addr}{H H':Hp}(h:SameX c H H')(n:H c=none):Same H H':=fun b o e=>h b o (qF e n) e
theorem But.x {p:Addr}{H H':Hp}(h:But p H H'):SameX p H H':=fun b o n e=>by rw [h b n];exact e
theorem Same.sq {H H':Hp}(h:Same H H'){a:Addr}{xs:List V}(e:L2.sq H a=some xs):L2.sq H' a=some xs:=by
 unfold L2.sq at e ⊢
 cases q:H a with
 | none=>rw [q] at e;cases e
 | some o=>rw [q] at e;rw [h a o q];exact e
theorem SameX.sq {c:Addr}{H H':Hp}(h:SameX c H H'){a:Addr}{xs:List V}(n:a ≠ c)(e:L2.sq H a=some xs):L2.sq H' a=some xs:=by
 unfold L2.sq at e ⊢
 cases q:H a with
 | none=>rw [q] at e;cases e
 | some o=>rw [q] at e;rw [h a o n q];exact e
theorem Scr.keep {K:PySem.W.Frag}{a p:Addr}{ns:List Int}{H H':Hp}(h:Scr K a ns H)(n:H p=none)(s:SameX p H H'):Scr K a ns H':=Same.seq (s.same n) h
theorem a_rIxL {K:PySem.W.Frag}{x y:V}{H:Hp}{Q:VK}:rIxL K x y H Q = ∃ p xs i v,x = .ref p∧y = .int i∧SqL K H p xs∧dM xs i=some v∧Q v H:=rfl
theorem sum_bound {b:Int}:∀ {ns:List Int},(∀ n ∈ ns,-b ≤ n∧n ≤ b)→-(b * (ns.length:Int)) ≤ ns.sum∧ns.sum ≤ b * (ns.length:Int)
 | [],_=>by simp
 | n :: ns,h=>by
  have h1:=h n Aq
  have h2:=sum_bound (ns:=ns) fun m hm=>h m (Aw _ hm)
  rw [Bz,Ba,Int.natCast_add,Int.mul_add]
  simp only [Int.natCast_one,Int.mul_one]
  omega
theorem gD {ns:List Int}(h:∀ n ∈ ns,-(2 ^ 40) ≤ n∧n ≤ 2 ^ 40)(hl:ns.length ≤ 1000):mP ns:=by
 refine ⟨fun n hn=>⟨by have:=(h n hn).1;omega,by have:=(h n hn).2;omega⟩,fun j hj=>?_⟩
 have q:=sum_bound (b:=2 ^ 40) (ns:=ns.take j) fun n hn=>h n (BQ hn)
 have e:(ns.take j).length ≤ 1000:=by rw [Av];omega
 have e':(2:Int) ^ 40 * ((ns.take j).length:Int) ≤ 2 ^ 40 * 1000:=Int.mul_le_mul_of_nonneg_left (by omega) (by decide)
 constructor
 ·have:(2:Int) ^ 40 * 1000 < 2 ^ 63:=by decide
  omega
 ·have:(2:Int) ^ 40 * 1000 < 2 ^ 63:=by decide
  omega
theorem ixN30:pD 3 0=some 0:=rfl
theorem ixN31:pD 3 1=some 1:=rfl
theorem ixN32:pD 3 2=some 2:=rfl
theorem atI0 {α:Type}(a:α)(l:List α):dM (a :: l) 0=some a:=xC (j:=0) (xs:=a :: l) rfl
theorem atI1 {α:Type}(a b:α)(l:List α):dM (a :: b :: l) 1=some b:=xC (j:=1) (xs:=a :: b :: l) rfl
theorem atI2 {α:Type}(a b c:α)(l:List α):dM (a :: b :: c :: l) 2=some c:=xC (j:=2) (xs:=a :: b :: c :: l) rfl
def SeqOf (h:Heap)(c:String)(l:Addr)(xs:Array Value):Prop:=(c = "list_iterator" ∧ h.IsList l xs)∨(c = "tuple_iterator" ∧ h.IsTuple l xs)
def Src (h:Heap)(c:String)(it l:Addr)(xs:Array Value)(k:Nat):Prop:=(c = "list_iterator" ∧ h.IsListIter it l k∧h.IsList l xs)∨(c = "tuple_iterator" ∧ h.IsTupleIter it l k∧h.IsTuple l xs)
theorem SeqOf.at {h h':Heap}{c:String}{l:Addr}{xs:Array Value}(x:SeqOf h c l xs)(k:∀ o,h.get? l=some o→h'.get? l=some o):SeqOf h' c l xs:=by
 rcases x with ⟨e,x⟩ | ⟨e,x⟩
 ·exact .inl ⟨e,x.at k⟩
 ·exact .inr ⟨e,x.at k⟩
theorem SeqOf.lt {h:Heap}{c:String}{l:Addr}{xs:Array Value}(x:SeqOf h c l xs):l < h.objs.size:=by
 rcases x with ⟨_,o,e,_⟩ | ⟨_,o,e,_⟩ <;> exact An e
theorem Src.at {h h':Heap}{c:String}{it l:Addr}{xs:Array Value}{k:Nat}(x:Src h c it l xs k)(k1:∀ o,h.get? it=some o→h'.get? it=some o)(k2:∀ o,h.get? l=some o→h'.get? l=some o):Src h' c it l xs k:=by
 rcases x with ⟨e,⟨o,a,r⟩,y⟩ | ⟨e,⟨o,a,r⟩,y⟩
 ·exact .inl ⟨e,⟨o,k1 o a,r⟩,y.at k2⟩
 ·exact .inr ⟨e,⟨o,k1 o a,r⟩,y.at k2⟩
theorem Src.ext {h h':Heap}{c:String}{it l b:Addr}{xs:Array Value}{k:Nat}(x:Src h c it l xs k)(hs:Heap.SameBut b h h')(n1:it ≠ b)(n2:l ≠ b):Src h' c it l xs k :=
 x.at (fun o e=>hs.extBut _ _ n1 e) fun o e=>hs.extBut _ _ n2 e
theorem Src.itlt {h:Heap}{c:String}{it l:Addr}{xs:Array Value}{k:Nat}(x:Src h c it l xs k):∃ o,h.get? it=some o∧∀ v,o.data ≠ .cell v:=by
 rcases x with ⟨_,⟨o,e,_,d⟩,_⟩ | ⟨_,⟨o,e,_,d⟩,_⟩ <;> exact ⟨o,e,fun v z=>by rw [d] at z;cases z⟩
section
variable {prog:Program}{w:World}{A:Around}{E:Value→Shared→Prop}{s:Shared}
theorem pE {c:String}{l:Addr}{xs:Array Value}{Q:Value→Shared→Prop}(x:SeqOf s.heap c l xs)(h:Q (.ref s.heap.objs.size) { s with heap:=s.heap.push { cls:=.type c,data:=.fields #[.ref l,.int 0 0] } }):wpAny (model prog w) A (pyIter (.ref l)) Q E s:=by
 rcases x with ⟨rfl,x⟩ | ⟨rfl,x⟩
 ·exact wpAny_pyIter_list x h
 ·exact wpAny_pyIter_tuple x h
theorem rT {it l:Addr}{i:Nat}{items:Array Value}{x:Value}{Q:Value→Shared→Prop}(hit:s.heap.IsTupleIter it l i)(ht:s.heap.IsTuple l items)(hx:items[i]? = some x)
  (hQ:∀ h',h'.IsTupleIter it l (i + 1)→Heap.SameBut it s.heap h'→Q x { s with heap:=h' }):wpAny (model prog w) A (Builtin.SmallTypes.nextOf (.ref it)) Q E s:=by
 obtain ⟨o,ho,hc,hd⟩:=id hit
 obtain ⟨ot,hot,_,nt,hdt⟩:=ht
 unfold Builtin.SmallTypes.nextOf
 refine wpAny_bind (wpAny_callSpecial?_slot (name:=Str.ofString "__next__") hit.typeIs B4 (wpAny_call_entry B4 hit.typeIs F.entry_tuple_iterator_next ?_ (F.args_tuple_iterator_next_1 _)))
 refine wpAny_bind (m:=field (.ref it) 0) (wpAny_field ho hd (x:=.ref l) rfl ?_)
 rw [Au (show ¬ ((Value.ref l == Value.none)=true) from Ao)]
 refine wpAny_bind (m:=field (.ref it) 1) (wpAny_field ho hd (x:=.int i 0) rfl ?_)
 refine wpAny_bind (m:=seqItems? (.ref l)) (wpAny_seqItems hot hdt ?_)
 simp only [Ar,hx]
 refine wpAny_bind (wpAny_setField ho hd (by simp) (wpAny_pure ⟨x,rfl,wpAny_pure (hQ _ ?_ (Heap.SameBut.update ..))⟩))
 refine ⟨_,BN _ ho (Obj.isFreed_of_fields (Obj.data_mapFields hd _)),(Obj.cls_mapFields ..).trans hc,?_⟩
 rw [Obj.data_mapFields hd];simp [rawInt]
theorem yQ {c:String}{it l:Addr}{xs:Array Value}{k:Nat}{x:Value}{Q:Value→Shared→Prop}(S:Src s.heap c it l xs k)(ne:l ≠ it)(hx:xs[k]? = some x)
  (hQ:∀ h',Src h' c it l xs (k + 1)→Heap.SameBut it s.heap h'→Q x { s with heap:=h' }):wpAny (model prog w) A (Builtin.SmallTypes.nextOf (.ref it)) Q E s:=by
 rcases S with ⟨e,a,b⟩ | ⟨e,a,b⟩
 ·exact wpAny_nextOf_list_item a b hx fun h' a' sb=>hQ h' (.inl ⟨e,a',b.extBut sb.extBut ne⟩) sb
 ·exact rT a b hx fun h' a' sb=>hQ h' (.inr ⟨e,a',b.at fun o q=>sb.extBut _ _ ne q⟩) sb
theorem wY {it l:Addr}{i:Nat}{items:Array Value}{Q:Value→Shared→Prop}(hh:A.handled=none)(hit:s.heap.IsTupleIter it l i)(ht:s.heap.IsTuple l items)(hx:items[i]? = none)
  (hE:∀ h' e,Heap.ExtBut it s.heap h'→(∃ o,h'.get? e=some o∧o.cls = .type "StopIteration")→E (.ref e) { s with heap:=h' }):wpAny (model prog w) A (Builtin.SmallTypes.nextOf (.ref it)) Q E s:=by
 obtain ⟨o,ho,hc,hd⟩:=id hit
 obtain ⟨ot,hot,_,nt,hdt⟩:=ht
 unfold Builtin.SmallTypes.nextOf
 refine wpAny_bind (wpAny_callSpecial?_slot (name:=Str.ofString "__next__") hit.typeIs B4 (wpAny_call_entry B4 hit.typeIs F.entry_tuple_iterator_next ?_ (F.args_tuple_iterator_next_1 _)))
 refine wpAny_bind (m:=field (.ref it) 0) (wpAny_field ho hd (x:=.ref l) rfl ?_)
 rw [Au (show ¬ ((Value.ref l == Value.none)=true) from Ao)]
 refine wpAny_bind (m:=field (.ref it) 1) (wpAny_field ho hd (x:=.int i 0) rfl ?_)
 refine wpAny_bind (m:=seqItems? (.ref l)) (wpAny_seqItems hot hdt ?_)
 simp only [Ar,hx]
 refine wpAny_bind (wpAny_rule (wpAny_bind (wpAny_setField ho hd (by simp) ?_)))
 refine wpAny_bind (m:=newExc (.type "StopIteration") []) ?_
 simp only [newExc,newTuple]
 refine wpAny_bind (wpAny_newObj_type ?_ (by size_fits))
 refine wpAny_bind (m:=firstArgMember _ _) (wpAny_of_eq (a:=Value.none) (by first | rfl | (simp only [firstArgMember];rfl)) ?_)
 refine wpAny_newObj_type ?_ (by size_fits)
 simp only [raiseNew]
 refine wpAny_bind (wpAny_handled ?_)
 first | rw [show A.in1.handled=none from hh] | rw [hh]
 refine wpAny_bind (wpAny_pure (wpAny_throw ?_))
 exact hE _ _ (((Heap.SameBut.update ..).extBut.push _).push _) ⟨_,Ak _ rfl,rfl⟩
theorem wW {c:String}{it l:Addr}{xs:Array Value}{k:Nat}{Q:Value→Shared→Prop}(hh:A.handled=none)(S:Src s.heap c it l xs k)(hx:xs[k]? = none)
  (hE:∀ h' e,Heap.ExtBut it s.heap h'→(∃ o,h'.get? e=some o∧o.cls = .type "StopIteration")→E (.ref e) { s with heap:=h' }):wpAny (model prog w) A (Builtin.SmallTypes.nextOf (.ref it)) Q E s:=by
 rcases S with ⟨e,a,b⟩ | ⟨e,a,b⟩
 ·exact wpAny_nextOf_list_end hh a b hx hE
 ·exact wY hh a b hx hE
structure Zs (h:Heap)(z TI TO i1 i2:Addr)(c1 c2:String)(l1 l2:Addr)(xs ys:Array Value)(k:Nat):Prop where
 zip:IsZip h z TI TO .none
 ti:IsPair h TI (.ref i1) (.ref i2)
 to:∃ a b,IsPair h TO a b
 s1:Src h c1 i1 l1 xs k
 s2:Src h c2 i2 l2 ys k
def bU (h:Heap)(z TI TO:Addr)(f g:Value):Prop:=h.get? z=some { cls:=.type "zip",dict:=none,data:=.fields #[f,g,.bool false,.ref TI,.ref TO],slots := #[] }
def nQ (f:Value):Prop:=f = .none∨∃ n:Nat,f=rawInt (n:Int)
theorem eP {a:Addr}{Q:Option Obj→Shared→Prop}(h:Q (s.heap.get? a) s):wpAny (model prog w) A (loadIfAlive a) Q E s:=fun _ _ _=>h
theorem eL {z TI TO:Addr}{f g:Value}{Q:Bool→Shared→Prop}(hz:bU s.heap z TI TO f g)(hf:nQ f)(h1:Q true s)(h2:∀ h' g',f ≠ .none→bU h' z TI TO f g'→Heap.SameBut z s.heap h'→Q false { s with heap:=h' }):wpAny (model prog w) A (Builtin.SmallTypes.ownedTupleIsFree (.ref z)) Q E s:=by
 unfold Builtin.SmallTypes.ownedTupleIsFree
 refine wpAny_bind (wpAny_field hz rfl (x:=f) rfl ?_)
 rcases hf with rfl | ⟨n,rfl⟩
 ·exact wpAny_pure h1
 ·show wpAny (model prog w) A (loadIfAlive (n:Int).toNat >>= _) _ _ _
  refine wpAny_bind (eP ?_)
  cases e:s.heap.get? (n:Int).toNat with
  | none =>
   show wpAny (model prog w) A (if (none:Option Obj).isNone=true then pure true else _) _ _ _
   rw [As (show (none:Option Obj).isNone=true from rfl)]
   exact wpAny_pure h1
  | some o =>
   show wpAny (model prog w) A (if (some o).isNone=true then pure true else _) _ _ _
   rw [Au (by simp)]
   refine wpAny_bind (wpAny_field hz rfl (x:=g) rfl ?_)
   by_cases c:(g != Value.bool true)=true
   ·simp only [c,BO]
    refine wpAny_bind (wpAny_setField_rec hz (by simp) fun h' hz' hs=>wpAny_pure (h2 h' _ (fun q=>by cases q) hz' hs))
   ·simp only [c,BK]
    refine wpAny_pure ?_
    have:=h2 s.heap g (fun q=>by cases q) hz ⟨rfl,fun _ _=>rfl⟩
    exact this
theorem sM {z TI TO i1 i2 l1 l2:Addr}{c1 c2:String}{k:Nat}{xs ys:Array Value}{x y f g:Value}{Q:Fin→Shared→Prop}(D:ZipApart z TI TO i1 i2 l1 l2)(hz:bU s.heap z TI TO f g)(hf:nQ f)(hTI:IsPair s.heap TI (.ref i1) (.ref i2))(hTO:∃ a b,IsPair s.heap TO a b)(h1:Src s.heap c1 i1 l1 xs k)(h2:Src s.heap c2 i2 l2 ys k)(hx:xs[k]? = some x)(hy:ys[k]? = some y)
  (hQ:∀ h' f' g',(f = .none→f'=rawInt s.heap.objs.size∧g' = .bool false∧IsPair h' TO x y)→bU h' z TI TO f' g'→nQ f'→IsPair h' TI (.ref i1) (.ref i2)→(∃ a b,IsPair h' TO a b)→Src h' c1 i1 l1 xs (k + 1)→Src h' c2 i2 l2 ys (k + 1)→IsPair h' s.heap.objs.size x y→h'.objs.size=s.heap.objs.size + 1 →
   (∀ c o,c ∉ [z,TO,i1,i2]→s.heap.get? c=some o→h'.get? c=some o)→Q (.done (.ret (.ref s.heap.objs.size))) { s with heap:=h' }):wpAny (model prog w) A (Builtin.«zip.__next__» { pos:=[.ref z] }) Q E s:=by
 obtain ⟨a,b,hTO⟩:=hTO
 refine wpAny_bind (m:=field (.ref z) 2) (wpAny_field hz rfl (x:=.bool false) rfl ?_)
 refine wpAny_bind (m:=field (.ref z) 3) (wpAny_field hz rfl (x:=.ref TI) rfl ?_)
 refine wpAny_bind (wpAny_seqItems hTI rfl ?_)
 refine wpAny_bind (m:=Builtin.SmallTypes.ownedTupleIsFree (.ref z)) (eL hz hf ?_ fun h0 g' fn hz0 hs0=>?_)
 ·simp only [BO]
  refine wpAny_bind (wpAny_rule ?_)
  refine wpAny_bind (wpAny_field hz rfl (x:=.ref TO) rfl ?_)
  refine wpAny_bind (wpAny_setField_rec hz (by simp) fun ha hza hsa=>?_)
  replace hza:bU ha z TI TO .ellipsis g:=hza
  refine wpAny_bind ?_
  simp only [List.zipIdx_cons,List.zipIdx_nil,BW,C3]
  refine wpAny_bind (wpAny_bind (wpAny_onRaise ?_))
  refine wpAny_bind (m:=Builtin.SmallTypes.nextOf (.ref i1)) (yQ (s:={ s with heap:=ha }) (h1.ext hsa D.i1z D.l1z) D.l1i1 hx fun hb h1b hsb=>wpAny_pure ?_)
  have hTOb:IsPair hb TO a b:=hsb.extBut _ _ D.TOi1 (hsa.extBut _ _ D.TOz hTO)
  refine wpAny_bind (wpAny_seqItems hTOb rfl ?_)
  refine wpAny_bind (wpAny_updateSeq_pair hTOb fun hc hTOc hsc=>?_)
  replace hTOc:IsPair hc TO x b:=hTOc
  refine wpAny_bind (wpAny_letGo (wpAny_pure ?_))
  refine wpAny_bind (wpAny_bind (wpAny_onRaise ?_))
  refine wpAny_bind (m:=Builtin.SmallTypes.nextOf (.ref i2)) (yQ (s:={ s with heap:=hc }) (((h2.ext hsa D.i2z D.l2z).ext hsb D.i12.symm D.l2i1).ext hsc D.TOi2.symm D.l2TO) D.l2i2 hy fun hd h2d hsd=>wpAny_pure ?_)
  have hTOd:IsPair hd TO x b:=hsd.extBut _ _ D.TOi2 hTOc
  refine wpAny_bind (wpAny_seqItems hTOd rfl ?_)
  refine wpAny_bind (wpAny_updateSeq_pair hTOd fun he hTOe hse=>?_)
  replace hTOe:IsPair he TO x y:=hTOe
  refine wpAny_bind (wpAny_letGo (wpAny_pure (wpAny_pure ?_)))
  refine wpAny_bind (wpAny_seqItems hTOe rfl ?_)
  refine wpAny_bind (wpAny_newTuple ?_)
  have sz:he.objs.size=s.heap.objs.size:=by rw [hse.1,hsd.1,hsc.1,hsb.1,hsa.1]
  have ze:bU he z TI TO .ellipsis g:=hse.extBut _ _ D.TOz.symm (hsd.extBut _ _ D.i2z.symm (hsc.extBut _ _ D.TOz.symm (hsb.extBut _ _ D.i1z.symm hza)))
  have ke:∀ c o,c ≠ z→c ≠ TO→c ≠ i1→c ≠ i2→s.heap.get? c=some o→he.get? c=some o:=fun c o n1 n2 n3 n4 e=>hse.extBut _ _ n2 (hsd.extBut _ _ n4 (hsc.extBut _ _ n2 (hsb.extBut _ _ n3 (hsa.extBut _ _ n1 e))))
  have h1e:Src he c1 i1 l1 xs (k + 1):=((h1b.ext hsc D.TOi1.symm D.l1TO).ext hsd D.i12 D.l1i2).ext hse D.TOi1.symm D.l1TO
  have h2e:Src he c2 i2 l2 ys (k + 1):=h2d.ext hse D.TOi2.symm D.l2TO
  have zlt:z < he.objs.size:=An ze
  refine wpAny_bind (m:=Builtin.SmallTypes.ownedTupleHandOut (.ref z) (.ref he.objs.size)) ?_
  unfold Builtin.SmallTypes.ownedTupleHandOut
  refine wpAny_bind (wpAny_setField_rec (show bU (he.push { cls:=.type "tuple",data:=.seq #[x,y] }) z TI TO .ellipsis g from Ac _ ze) (by simp) fun hf' hzf hsf=>?_)
  replace hzf:bU hf' z TI TO (rawInt he.objs.size) g:=hzf
  refine wpAny_setField_rec hzf (by simp) fun hg hzg hsg=>?_
  replace hzg:bU hg z TI TO (rawInt he.objs.size) (.bool false):=hzg
  have up:∀ c o,c ≠ z→he.get? c=some o→hg.get? c=some o:=fun c o n e=>hsg.extBut _ _ n (hsf.extBut _ _ n (Ac _ e))
  have new:IsPair hg he.objs.size x y:=hsg.extBut _ _ (CA zlt) (hsf.extBut _ _ (CA zlt) (Ak _ rfl))
  have szg:hg.objs.size=he.objs.size + 1:=by rw [hsg.1,hsf.1,AN]
  refine wpAny_pure ?_
  rw [sz] at hzg new szg ⊢
  refine hQ hg _ _ (fun _=>⟨rfl,rfl,up _ _ D.TOz hTOe⟩) hzg (.inr ⟨_,rfl⟩) (up _ _ D.TIz (ke _ _ D.TIz D.TITO D.TIi1 D.TIi2 hTI)) ⟨_,_,up _ _ D.TOz hTOe⟩ (h1e.at (fun o e=>up _ o D.i1z e) fun o e=>up _ o D.l1z e) (h2e.at (fun o e=>up _ o D.i2z e) fun o e=>up _ o D.l2z e) new szg fun c o hc' e=>?_
  have n1:c ≠ z:=fun q=>hc' (by simp [q])
  exact up c o n1 (ke c o n1 (fun q=>hc' (by simp [q])) (fun q=>hc' (by simp [q])) (fun q=>hc' (by simp [q])) e)
 ·simp only [AQ,BK]
  rw [← Array.forIn_toList]
  simp only [BW,C3]
  refine wpAny_bind (wpAny_bind (wpAny_bind (wpAny_holding ?_)))
  refine wpAny_bind (m:=Builtin.SmallTypes.nextOf (.ref i1)) (yQ (s:={ s with heap:=h0 }) (h1.ext hs0 D.i1z D.l1z) D.l1i1 hx fun hb h1b hsb=>wpAny_pure ?_)
  refine wpAny_pure ?_
  refine wpAny_bind (wpAny_bind (wpAny_holding ?_))
  refine wpAny_bind (m:=Builtin.SmallTypes.nextOf (.ref i2)) (yQ (s:={ s with heap:=hb }) ((h2.ext hs0 D.i2z D.l2z).ext hsb D.i12.symm D.l2i1) D.l2i2 hy fun hd h2d hsd=>wpAny_pure ?_)
  refine wpAny_pure (wpAny_pure ?_)
  refine wpAny_bind (m:=newTuple [x,y]) (wpAny_newTuple ?_)
  have sz:hd.objs.size=s.heap.objs.size:=by rw [hsd.1,hsb.1,hs0.1]
  have ke:∀ c o,c ≠ z→c ≠ i1→c ≠ i2→s.heap.get? c=some o→hd.get? c=some o:=fun c o n1 n3 n4 e=>hsd.extBut _ _ n4 (hsb.extBut _ _ n3 (hs0.extBut _ _ n1 e))
  have zd:bU hd z TI TO f g':=hsd.extBut _ _ D.i2z.symm (hsb.extBut _ _ D.i1z.symm hz0)
  have up:∀ c o,hd.get? c=some o→(hd.push { cls:=.type "tuple",data:=.seq #[x,y] }).get? c=some o:=fun c o e=>Ac _ e
  have new:IsPair (hd.push { cls:=.type "tuple",data:=.seq #[x,y] }) hd.objs.size x y:=Ak _ rfl
  have szg:(hd.push { cls:=.type "tuple",data:=.seq #[x,y] }).objs.size=hd.objs.size + 1:=AN ..
  refine wpAny_pure ?_
  have h1d:Src hd c1 i1 l1 xs (k + 1):=h1b.ext hsd D.i12 D.l1i2
  rw [sz] at new szg
  show Q (.done (.ret (.ref hd.objs.size))) _
  rw [sz]
  refine hQ _ _ _ (fun q=>absurd q fn) (up _ _ zd) hf (up _ _ (ke _ _ D.TIz D.TIi1 D.TIi2 hTI)) ⟨_,_,up _ _ (ke _ _ D.TOz D.TOi1 D.TOi2 hTO)⟩ (h1d.at (fun o e=>up _ o e) fun o e=>up _ o e) (h2d.at (fun o e=>up _ o e) fun o e=>up _ o e) new szg fun c o hc' e=>?_
  exact up c o (ke c o (fun q=>hc' (by simp [q])) (fun q=>hc' (by simp [q])) (fun q=>hc' (by simp [q])) e)
theorem eK {z TI TO i1 i2 l1 l2:Addr}{c1 c2:String}{k:Nat}{xs ys:Array Value}{f g:Value}{Q:Fin→Shared→Prop}(hh:A.handled=none)(D:ZipApart z TI TO i1 i2 l1 l2)(hz:bU s.heap z TI TO f g)(hf:nQ f)(hTI:IsPair s.heap TI (.ref i1) (.ref i2))(hTO:∃ a b,IsPair s.heap TO a b)(h1:Src s.heap c1 i1 l1 xs k)(h2:Src s.heap c2 i2 l2 ys k)(hend:xs[k]? = none∨ys[k]? = none)
  (hE:∀ h' e,(∀ c o,c ∉ [z,TO,i1,i2]→s.heap.get? c=some o→h'.get? c=some o)→(∃ o,h'.get? e=some o∧o.cls = .type "StopIteration")→E (.ref e) { s with heap:=h' }):wpAny (model prog w) A (Builtin.«zip.__next__» { pos:=[.ref z] }) Q E s:=by
 obtain ⟨a,b,hTO⟩:=hTO
 have fin:∀ h' e,(∀ c o,c ≠ z→c ≠ TO→c ≠ i1→c ≠ i2→s.heap.get? c=some o→h'.get? c=some o)→(∃ o,h'.get? e=some o∧o.cls = .type "StopIteration")→E (.ref e) { s with heap:=h' }:=fun h' e k ho =>
  hE h' e (fun c o hc' x=>k c o (fun q=>hc' (by simp [q])) (fun q=>hc' (by simp [q])) (fun q=>hc' (by simp [q])) (fun q=>hc' (by simp [q])) x) ho
 refine wpAny_bind (m:=field (.ref z) 2) (wpAny_field hz rfl (x:=.bool false) rfl ?_)
 refine wpAny_bind (m:=field (.ref z) 3) (wpAny_field hz rfl (x:=.ref TI) rfl ?_)
 refine wpAny_bind (wpAny_seqItems hTI rfl ?_)
 refine wpAny_bind (m:=Builtin.SmallTypes.ownedTupleIsFree (.ref z)) (eL hz hf ?_ fun h0 g' _ hz0 hs0=>?_)
 ·simp only [BO]
  refine wpAny_bind (wpAny_rule ?_)
  refine wpAny_bind (wpAny_field hz rfl (x:=.ref TO) rfl ?_)
  refine wpAny_bind (wpAny_setField_rec hz (by simp) fun ha hza hsa=>?_)
  replace hza:bU ha z TI TO .ellipsis g:=hza
  refine wpAny_bind ?_
  simp only [List.zipIdx_cons,List.zipIdx_nil,BW,C3]
  refine wpAny_bind (wpAny_bind (wpAny_onRaise ?_))
  cases hx:xs[k]? with
  | none =>
   refine wpAny_bind (m:=Builtin.SmallTypes.nextOf (.ref i1)) (wW (s:={ s with heap:=ha }) hh (h1.ext hsa D.i1z D.l1z) hx fun hb e hsb he=>?_)
   obtain ⟨oe,hoe,hce⟩:=he
   have hzb:bU hb z TI TO .ellipsis g:=hsb _ _ D.i1z.symm hza
   have hez:e ≠ z:=fun q=>by subst q;unfold bU at hzb;rw [hzb] at hoe;cases hoe;simp at hce
   refine wpAny_setField_rec hzb (by simp) fun hc _ hsc=>fin hc e (fun c o n1 _ n3 _ q=>hsc.extBut _ _ n1 (hsb _ _ n3 (hsa.extBut _ _ n1 q))) ⟨oe,hsc.extBut _ _ hez hoe,hce⟩
  | some x =>
   have hy:ys[k]? = none:=by rcases hend with h | h;rw [hx] at h;cases h;exact h
   refine wpAny_bind (m:=Builtin.SmallTypes.nextOf (.ref i1)) (yQ (s:={ s with heap:=ha }) (h1.ext hsa D.i1z D.l1z) D.l1i1 hx fun hb h1b hsb=>wpAny_pure ?_)
   have hTOb:IsPair hb TO a b:=hsb.extBut _ _ D.TOi1 (hsa.extBut _ _ D.TOz hTO)
   refine wpAny_bind (wpAny_seqItems hTOb rfl ?_)
   refine wpAny_bind (wpAny_updateSeq_pair hTOb fun hc hTOc hsc=>?_)
   refine wpAny_bind (wpAny_letGo (wpAny_pure ?_))
   refine wpAny_bind (wpAny_bind (wpAny_onRaise ?_))
   refine wpAny_bind (m:=Builtin.SmallTypes.nextOf (.ref i2)) (wW (s:={ s with heap:=hc }) hh (((h2.ext hsa D.i2z D.l2z).ext hsb D.i12.symm D.l2i1).ext hsc D.TOi2.symm D.l2TO) hy fun hd e hsd he=>?_)
   obtain ⟨oe,hoe,hce⟩:=he
   have hzd:bU hd z TI TO .ellipsis g:=hsd _ _ D.i2z.symm (hsc.extBut _ _ D.TOz.symm (hsb.extBut _ _ D.i1z.symm hza))
   have hez:e ≠ z:=fun q=>by subst q;unfold bU at hzd;rw [hzd] at hoe;cases hoe;simp at hce
   refine wpAny_setField_rec hzd (by simp) fun he _ hse=>fin he e (fun c o n1 n2 n3 n4 q=>hse.extBut _ _ n1 (hsd _ _ n4 (hsc.extBut _ _ n2 (hsb.extBut _ _ n3 (hsa.extBut _ _ n1 q))))) ⟨oe,hse.extBut _ _ hez hoe,hce⟩
 ·simp only [AQ,BK]
  rw [← Array.forIn_toList]
  simp only [BW,C3]
  refine wpAny_bind (wpAny_bind (wpAny_bind (wpAny_holding ?_)))
  cases hx:xs[k]? with
  | none =>
   refine wpAny_bind (m:=Builtin.SmallTypes.nextOf (.ref i1)) (wW (s:={ s with heap:=h0 }) hh (h1.ext hs0 D.i1z D.l1z) hx fun hb e hsb he=>?_)
   exact fin hb e (fun c o n1 _ n3 _ q=>hsb _ _ n3 (hs0.extBut _ _ n1 q)) he
  | some x =>
   have hy:ys[k]? = none:=by rcases hend with h | h;rw [hx] at h;cases h;exact h
   refine wpAny_bind (m:=Builtin.SmallTypes.nextOf (.ref i1)) (yQ (s:={ s with heap:=h0 }) (h1.ext hs0 D.i1z D.l1z) D.l1i1 hx fun hb h1b hsb=>wpAny_pure ?_)
   refine wpAny_pure ?_
   refine wpAny_bind (wpAny_bind (wpAny_holding ?_))
   refine wpAny_bind (m:=Builtin.SmallTypes.nextOf (.ref i2)) (wW (s:={ s with heap:=hb }) hh ((h2.ext hs0 D.i2z D.l2z).ext hsb D.i12.symm D.l2i1) hy fun hd e hsd he=>?_)
   exact fin hd e (fun c o n1 _ n3 n4 q=>hsd _ _ n4 (hsb.extBut _ _ n3 (hs0.extBut _ _ n1 q))) he
theorem zs_item {z TI TO i1 i2 l1 l2:Addr}{c1 c2:String}{k:Nat}{xs ys:Array Value}{x y:Value}{Q:Option Value→Shared→Prop}(D:ZipApart z TI TO i1 i2 l1 l2)(Z:Zs s.heap z TI TO i1 i2 c1 c2 l1 l2 xs ys k)(hx:xs[k]? = some x)(hy:ys[k]? = some y)
  (hQ:∀ h',IsZip h' z TI TO (rawInt s.heap.objs.size)→IsPair h' TI (.ref i1) (.ref i2)→IsPair h' TO x y→Src h' c1 i1 l1 xs (k + 1)→Src h' c2 i2 l2 ys (k + 1)→IsPair h' s.heap.objs.size x y→h'.objs.size=s.heap.objs.size + 1 →
   (∀ c o,c ∉ [z,TO,i1,i2]→s.heap.get? c=some o→h'.get? c=some o)→Q (some (.ref s.heap.objs.size)) { s with heap:=h' }):wpAny (model prog w) A (pyNext (.ref z)) Q E s:=by
 refine wpAny_bind (wpAny_attempt (wpAny_callSpecial?_slot (name:=Str.ofString "__next__") ⟨_,Z.zip,rfl⟩ Bw (wpAny_call_entry Bw ⟨_,Z.zip,rfl⟩ Cg (sM D Z.zip (.inl rfl) Z.ti Z.to Z.s1 Z.s2 hx hy fun h' f' g' fn iz _ ti _ s1 s2 new sz k=>?_) (Cc _))))
 obtain ⟨rfl,rfl,to⟩:=fn rfl
 exact ⟨_,rfl,wpAny_pure (hQ h' iz ti to s1 s2 new sz k)⟩
end
section
variable {prog:Program}{w:World}{A:Around}{E:Value→Shared→Prop}{s:Shared}
theorem zs_end {z TI TO i1 i2 l1 l2:Addr}{c1 c2:String}{k:Nat}{xs ys:Array Value}{Q:Option Value→Shared→Prop}(hh:A.handled=none)(D:ZipApart z TI TO i1 i2 l1 l2)(Z:Zs s.heap z TI TO i1 i2 c1 c2 l1 l2 xs ys k)(hend:xs[k]? = none∨ys[k]? = none)
  (hQ:∀ h',(∀ c o,c ∉ [z,TO,i1,i2]→s.heap.get? c=some o→h'.get? c=some o)→Q none { s with heap:=h' }):wpAny (model prog w) A (pyNext (.ref z)) Q E s:=by
 refine wpAny_bind (wpAny_attempt (wpAny_callSpecial?_slot (name:=Str.ofString "__next__") ⟨_,Z.zip,rfl⟩ Bw (wpAny_call_entry Bw ⟨_,Z.zip,rfl⟩ Cg (eK hh D Z.zip (.inl rfl) Z.ti Z.to Z.s1 Z.s2 hend fun h' e k ⟨o,ho,hc⟩=>?_) (Cc _))))
 exact wpAny_bind (wpAny_isInstance (T := "StopIteration") (b:=true) ⟨o,ho,hc⟩ isSubtype_stop (wpAny_pure (hQ _ k)))
abbrev zH1 (h:Heap)(c1:String)(l1:Addr):Heap:=h.push { cls:=.type c1,data:=.fields #[.ref l1,.int 0 0] }
abbrev zH2 (h:Heap)(c1 c2:String)(l1 l2:Addr):Heap:=(zH1 h c1 l1).push { cls:=.type c2,data:=.fields #[.ref l2,.int 0 0] }
abbrev zH3 (h:Heap)(c1 c2:String)(l1 l2:Addr):Heap:=(zH2 h c1 c2 l1 l2).push { cls:=.type "tuple",data:=.seq #[.ref h.objs.size,.ref (zH1 h c1 l1).objs.size] }
abbrev zH4 (h:Heap)(c1 c2:String)(l1 l2:Addr):Heap:=(zH3 h c1 c2 l1 l2).push { cls:=.type "tuple",data:=.seq #[.none,.none] }
abbrev zH5 (h:Heap)(c1 c2:String)(l1 l2:Addr):Heap:=(zH4 h c1 c2 l1 l2).push { cls:=.type "zip",data:=.fields #[.none,.bool false,.bool false,.ref (zH2 h c1 c2 l1 l2).objs.size,.ref (zH3 h c1 c2 l1 l2).objs.size] }
theorem aI (c1 c2:String)(l1 l2:Addr)(xs ys:Array Value) :
  Meets (Builtin.«zip.__new__» ⟨[.type "zip",.ref l1,.ref l2],[]⟩) (fun _ R s=>SeqOf s.heap c1 l1 xs∧SeqOf s.heap c2 l2 ys∧R (.ok (.ret (.ref (zH4 s.heap c1 c2 l1 l2).objs.size))) { s with heap:=zH5 s.heap c1 c2 l1 l2 }) :=
 .of_wp fun prog w A R s h=>by
  obtain ⟨hp,g,d,tk,os⟩:=s
  obtain ⟨hl1,hl2,h⟩:=h
  have hsub:=PySem.sub_zip
  have hL1:SeqOf (Shared.heap ⟨hp,g,d,tk,os⟩) c1 l1 xs:=hl1
  have hL2:SeqOf (Shared.heap ⟨hp.push { cls:=.type c1,data:=.fields #[.ref l1,.int 0 0] },g,d,tk,os⟩) c2 l2 ys:=hl2.at fun o e=>Ac _ e
  wp_walk using pE hL1,pE hL2
  exact ⟨_,rfl,h⟩
theorem pS {c1 c2:String}{l1 l2:Addr}{xs ys:Array Value}{Q:Value→Shared→Prop}(hl1:SeqOf s.heap c1 l1 xs)(hl2:SeqOf s.heap c2 l2 ys)
  (h:∀ h',Zs h' (s.heap.objs.size + 4) (s.heap.objs.size + 2) (s.heap.objs.size + 3) s.heap.objs.size (s.heap.objs.size + 1) c1 c2 l1 l2 xs ys 0→h'.objs.size=s.heap.objs.size + 5 →
   (∀ c o,s.heap.get? c=some o→h'.get? c=some o)→Q (.ref (s.heap.objs.size + 4)) { s with heap:=h' }):wpAny (model prog w) A (call (.type "zip") [.ref l1,.ref l2]) Q E s:=by
 refine callType_new F.called_zip (by decide) (F.typeCall_zip_2 _ _) (F.newCall_zip_2 _ _) (fun obj=>F.args_object_init_3 obj _ _) F.entry_zip_new (aI c1 c2 l1 l2 xs ys) ⟨hl1,hl2,?_⟩
 have z1:(zH1 s.heap c1 l1).objs.size=s.heap.objs.size + 1:=AN ..
 have z2:(zH2 s.heap c1 c2 l1 l2).objs.size=s.heap.objs.size + 2:=by rw [AN,z1]
 have z3:(zH3 s.heap c1 c2 l1 l2).objs.size=s.heap.objs.size + 3:=by rw [AN,z2]
 have z4:(zH4 s.heap c1 c2 l1 l2).objs.size=s.heap.objs.size + 4:=by rw [AN,z3]
 have z5:(zH5 s.heap c1 c2 l1 l2).objs.size=s.heap.objs.size + 5:=by rw [AN,z4]
 have g5:(zH5 s.heap c1 c2 l1 l2).get? (zH4 s.heap c1 c2 l1 l2).objs.size=some _:=Ak _ rfl
 have g4:(zH5 s.heap c1 c2 l1 l2).get? (zH3 s.heap c1 c2 l1 l2).objs.size=some _:=Ac _ (Ak _ rfl)
 have g3:(zH5 s.heap c1 c2 l1 l2).get? (zH2 s.heap c1 c2 l1 l2).objs.size=some _:=Ac _ (Ac _ (Ak _ rfl))
 have g2:(zH5 s.heap c1 c2 l1 l2).get? (zH1 s.heap c1 l1).objs.size=some _:=Ac _ (Ac _ (Ac _ (Ak _ rfl)))
 have g1:(zH5 s.heap c1 c2 l1 l2).get? s.heap.objs.size=some _:=Ac _ (Ac _ (Ac _ (Ac _ (Ak _ rfl))))
 show _∧_
 rw [z2,z3,z4] at g5
 rw [z1,z2] at g3
 rw [z3] at g4
 rw [z1] at g2
 rw [z4]
 have old:∀ c o,s.heap.get? c=some o→(zH5 s.heap c1 c2 l1 l2).get? c=some o:=fun c o x=>Ac _ (Ac _ (Ac _ (Ac _ (Ac _ x))))
 refine ⟨⟨_,g5,rfl⟩,h _ ⟨g5,g3,⟨_,_,g4⟩,?_,?_⟩ z5 old⟩
 ·rcases hl1 with ⟨rfl,x⟩ | ⟨rfl,x⟩
  ·exact .inl ⟨rfl,⟨_,g1,rfl,rfl⟩,x.at fun o e=>old _ o e⟩
  ·exact .inr ⟨rfl,⟨_,g1,rfl,rfl⟩,x.at fun o e=>old _ o e⟩
 ·rcases hl2 with ⟨rfl,x⟩ | ⟨rfl,x⟩
  ·exact .inl ⟨rfl,⟨_,g2,rfl,rfl⟩,x.at fun o e=>old _ o e⟩
  ·exact .inr ⟨rfl,⟨_,g2,rfl,rfl⟩,x.at fun o e=>old _ o e⟩
end
theorem Inv.turnedT {X:Cx}{pins:List (Addr × Obj)}{σ:St}{H:Hp}{s:Shared}{fp:List Addr}{h':Heap}{T:Addr}{xs:List V}{us:List Value}{t':Nat}(I:Inv X pins σ H s)(f:∀ b ∈ fp,xY X pins H b)
  (k:∀ c o,c ∉ fp→s.heap.get? c=some o→h'.get? c=some o) (hT:s.heap.objs.size ≤ T) (hz:xs.length ≤ sizeLine) (r:Vals xs us) (hp:IsTup h' T us.toArray) (hTf:T ∉ fp) :
  Inv X pins σ (upd H T (.tup xs)) { s with heap:=h',toks:=t' }:=by
 have hn:H T=none:=I.hok.fresh hT
 have nfp:∀ a o,H a=some o→a ∉ fp:=fun a o e hb=>by have:=(f a hb).1;rw [e] at this;cases this
 have hTn:∀ b o,s.heap.get? b=some o→b ≠ T:=fun b o e=>A3 (Az (An e) hT)
 refine I.call' (s':={ s with heap:=h',toks:=t' }) (ch:=fp) rfl ⟨fun b o q n _ hx=>k b o hx q,fun b o q n _ hx=>⟨o.slots,k b o hx q⟩,fun b o q n _=>by rw [qQ (hTn b o q)];exact n,fun b o q hx=>⟨o,k b o hx q⟩,
  fun b ys q=>by rw [qQ (qF q hn)];exact q,fun b o ys q=>by rw [qQ (qF q hn)];exact q,fun b ps q=>⟨#[],by rw [qQ (qF q hn),q];simp⟩⟩ (fun a o e=>?_) I.bare (fun b hb=>?_)
 ·by_cases ha:a=T
  ·subst ha
   rw [qG] at e
   cases e
   exact ⟨hz,us,r,hp⟩
  ·rw [qQ ha] at e
   refine (I.hok a o e).stay (fun b u hb q=>k b u ?_ q) (fun b q=>by rw [qQ (qF q hn)];exact q) fun b ys q=>by rw [qQ (qF q hn)];exact q
   rcases hb with rfl | hb
   ·exact nfp b o e
   ·exact nfp b _ hb
 ·obtain ⟨f0,f1,f2,f3,f4,f5⟩:=f b hb
  exact ⟨f3,f1,f4,f5⟩
theorem Inv.turnedN {X:Cx}{pins:List (Addr × Obj)}{σ:St}{H:Hp}{s:Shared}{fp:List Addr}{h':Heap}{t':Nat}(I:Inv X pins σ H s)(f:∀ b ∈ fp,xY X pins H b)
  (k:∀ c o,c ∉ fp→s.heap.get? c=some o→h'.get? c=some o):Inv X pins σ H { s with heap:=h',toks:=t' }:=by
 have nfp:∀ a o,H a=some o→a ∉ fp:=fun a o e hb=>by have:=(f a hb).1;rw [e] at this;cases this
 refine I.call' (s':={ s with heap:=h',toks:=t' }) (ch:=fp) rfl ⟨fun b o q n _ hx=>k b o hx q,fun b o q n _ hx=>⟨o.slots,k b o hx q⟩,fun b o q n _=>n,fun b o q hx=>⟨o,k b o hx q⟩,fun b ys q=>q,fun b o ys q=>q,fun b ps q=>⟨#[],by rw [q];simp⟩⟩ (fun a o e=>?_) I.bare (fun b hb=>?_)
 ·refine (I.hok a o e).stay (fun b u hb q=>k b u ?_ q) (fun b q=>q) fun b ys q=>q
  rcases hb with rfl | hb
  ·exact nfp b o e
  ·exact nfp b _ hb
 ·obtain ⟨f0,f1,f2,f3,f4,f5⟩:=f b hb
  exact ⟨f3,f1,f4,f5⟩
def dN (H:Hp)(c:String)(a:Addr)(xs:List V):Prop:=(c = "list_iterator" ∧ H a=some (.lst xs))∨(c = "tuple_iterator" ∧ H a=some (.tup xs))
theorem Inv.seqOf {X:Cx}{pins:List (Addr × Obj)}{σ:St}{H:Hp}{s:Shared}{c:String}{a:Addr}{xs:List V}(I:Inv X pins σ H s)(h:dN H c a xs):∃ its:List Value,Vals xs its∧SeqOf s.heap c a its.toArray:=by
 rcases h with ⟨rfl,h⟩ | ⟨rfl,h⟩
 ·obtain ⟨its,r,p,_⟩:=I.list (SqL.of h)
  exact ⟨its,r,.inl ⟨rfl,p.isList⟩⟩
 ·obtain ⟨its,r,p,_⟩:=I.tuple (SqT.of h)
  exact ⟨its,r,.inr ⟨rfl,p⟩⟩
def Itz (c1 c2:String)(a b:Addr)(xs ys:List V):It :=
 ⟨fun i H=>dN H c1 a xs∧dN H c2 b ys∧i < xs.length∧i < ys.length,fun i H x H'=>∃ T u v,x = .ref T∧H T=none∧H'=upd H T (.tup [u,v])∧xs[i]? = some u∧ys[i]? = some v,fun i H=>dN H c1 a xs∧dN H c2 b ys∧(xs.length ≤ i∨ys.length ≤ i)⟩
structure Zt (h:Heap)(z TI TO i1 i2:Addr)(c1 c2:String)(l1 l2:Addr)(k:Nat):Prop where
 zip:IsZip h z TI TO .none
 ti:IsPair h TI (.ref i1) (.ref i2)
 to:∃ a b,IsPair h TO a b
 s1:(c1 = "list_iterator" ∧ h.IsListIter i1 l1 k)∨(c1 = "tuple_iterator" ∧ h.IsTupleIter i1 l1 k)
 s2:(c2 = "list_iterator" ∧ h.IsListIter i2 l2 k)∨(c2 = "tuple_iterator" ∧ h.IsTupleIter i2 l2 k)
theorem zV {h:Heap}{c:String}{it l:Addr}{xs:Array Value}{k:Nat}(a:(c = "list_iterator" ∧ h.IsListIter it l k)∨(c = "tuple_iterator" ∧ h.IsTupleIter it l k)) (b:SeqOf h c l xs):Src h c it l xs k:=by
 rcases a with ⟨rfl,a⟩ | ⟨rfl,a⟩ <;> rcases b with ⟨e,b⟩ | ⟨e,b⟩
 ·exact .inl ⟨rfl,a,b⟩
 ·exact absurd e (by decide)
 ·exact absurd e (by decide)
 ·exact .inr ⟨rfl,a,b⟩
theorem yP {h:Heap}{c:String}{it l:Addr}{xs:Array Value}{k:Nat}(a:Src h c it l xs k):(c = "list_iterator" ∧ h.IsListIter it l k)∨(c = "tuple_iterator" ∧ h.IsTupleIter it l k):=by
 rcases a with ⟨e,a,_⟩ | ⟨e,a,_⟩
 ·exact .inl ⟨e,a⟩
 ·exact .inr ⟨e,a⟩
theorem xR {h h':Heap}{c:String}{it l:Addr}{k:Nat}(a:(c = "list_iterator" ∧ h.IsListIter it l k)∨(c = "tuple_iterator" ∧ h.IsTupleIter it l k)) (q:∀ o,h.get? it=some o→h'.get? it=some o):(c = "list_iterator" ∧ h'.IsListIter it l k)∨(c = "tuple_iterator" ∧ h'.IsTupleIter it l k):=by
 rcases a with ⟨e,o,a,r⟩ | ⟨e,o,a,r⟩
 ·exact .inl ⟨e,o,q o a,r⟩
 ·exact .inr ⟨e,o,q o a,r⟩
theorem d4 {h:Heap}{c:String}{it l:Addr}{k:Nat}(a:(c = "list_iterator" ∧ h.IsListIter it l k)∨(c = "tuple_iterator" ∧ h.IsTupleIter it l k)):∃ o,h.get? it=some o∧∀ v,o.data ≠ .cell v:=by
 rcases a with ⟨_,o,e,_,d⟩ | ⟨_,o,e,_,d⟩ <;> exact ⟨o,e,fun v z=>by rw [d] at z;cases z⟩
theorem mm1 {α:Type}{a b:α}{l:List α}:b ∈ a :: b :: l:=.tail _ (.head _)
theorem mm2 {α:Type}{a b c:α}{l:List α}:c ∈ a :: b :: c :: l:=.tail _ mm1
theorem mm3 {α:Type}{a b c d:α}{l:List α}:d ∈ a :: b :: c :: d :: l:=.tail _ mm2
theorem mm4 {α:Type}{a b c d e:α}{l:List α}:e ∈ a :: b :: c :: d :: e :: l:=.tail _ mm3
theorem mm5 {α:Type}{a b c d e f:α}{l:List α}:f ∈ a :: b :: c :: d :: e :: f :: l:=.tail _ mm4
theorem oV {α:Type}{c z t:α}{l:List α}(h:c ∈ z :: l):c ∈ z :: t :: l:=by
 cases h with
 | head=>exact .head _
 | tail _ h=>exact .tail _ (.tail _ h)
theorem dI {α:Type}{l:List α}{n i:Nat}(e:n=l.length)(q:n ≤ i):l.toArray[i]? = none:=by subst e;simp;omega
theorem dat_f {v:Option Value}{xs:Array Value}:Data.fields xs ≠ Data.cell v:=fun q=>by cases q
theorem eJ {h:Heap}{z TI TO i1 i2 l1 l2:Addr}{c1 c2:String}{i:Nat}(st:Zt h z TI TO i1 i2 c1 c2 l1 l2 i):∀ b ∈ [z,TI,TO,i1,i2],∃ o,h.get? b=some o∧∀ v,o.data ≠ .cell v:=by
 obtain ⟨hz,hti,⟨a,c,hto⟩,h1,h2⟩:=st
 exact AI.2 ⟨⟨_,hz,fun _=>dat_f⟩,AI.2 ⟨⟨_,hti,fun v q=>by cases (show Data.seq _ _=Data.cell v from q)⟩,AI.2 ⟨⟨_,hto,fun v q=>by cases (show Data.seq _ _=Data.cell v from q)⟩,AI.2 ⟨d4 h1,AI.2 ⟨d4 h2,fun _ q=>nomatch q⟩⟩⟩⟩⟩
theorem ob_lt {h:Heap}{fp:List Addr}(k:∀ b ∈ fp,∃ o,h.get? b=some o∧∀ v,o.data ≠ .cell v):∀ b ∈ fp,b < h.objs.size:=fun b hb=>let ⟨_,e,_⟩:=k b hb;An e
theorem eT {P:Program}{w:World}{K:PySem.W.Frag}{es:List Expr}{tk:_}{tp:Pos}(z TI TO i1 i2 l1 l2:Addr)(c1 c2:String)(xs ys:List V)(D:ZipApart z TI TO i1 i2 l1 l2) :
  Turn P w K (.Tuple es tk tp) (Itz c1 c2 l1 l2 xs ys) [z,TI,TO,i1,i2] z (fun i h=>Zt h z TI TO i1 i2 c1 c2 l1 l2 i) where
 mem:=.head _
 obj:=fun i h st=>eJ st
 keep:=fun i h h' st k=>by
  obtain ⟨hz,hti,⟨a,c,hto⟩,h1,h2⟩:=st
  exact ⟨k z (.head _) _ hz,k TI mm1 _ hti,⟨a,c,k TO mm2 _ hto⟩,xR h1 fun o e=>k i1 mm3 o e,xR h2 fun o e=>k i2 mm4 o e⟩
 item:=by
  intro X hP hw hK hc i pins s σ H E I hf st hg
  subst hP hw hK
  obtain ⟨q1,q2,hi1,hi2⟩:=hg
  obtain ⟨its1,r1,e1⟩:=I.seqOf q1
  obtain ⟨its2,r2,e2⟩:=I.seqOf q2
  obtain ⟨x,hx⟩:=yW hi1
  obtain ⟨y,hy⟩:=yW hi2
  obtain ⟨u,hu,ru⟩:=r1.get hx
  obtain ⟨v,hv,rv⟩:=r2.get hy
  obtain ⟨hz,hti,hto,h1,h2⟩:=id st
  refine zs_item D ⟨hz,hti,hto,zV h1 e1,zV h2 e2⟩ (by simpa using hu) (by simpa using hv) fun h' z' ti' to' s1' s2' new szn k=>?_
  have kk:∀ c o,c ∉ [z,TI,TO,i1,i2]→s.heap.get? c=some o→h'.get? c=some o:=fun c o hc e=>k c o (fun q=>hc (oV q)) e
  have lt:=ob_lt (eJ st)
  refine ⟨_,rfl,wpAny_letOwnedTupleGo_zip z' fun h'' z'' sb=>?_⟩
  have nT:s.heap.objs.size ∉ [z,TI,TO,i1,i2]:=fun hb=>AJ _ (lt _ hb)
  have nTz:s.heap.objs.size ≠ z:=fun q=>nT (q ▸ .head _)
  have J:=I.turnedT (fp:=[z,TI,TO,i1,i2]) (h':=h'') (T:=s.heap.objs.size) (xs:=[x,y]) (us:=[u,v]) (t':=s.toks) hf (fun c o hc e=>sb.extBut _ _ (fun q=>hc (q ▸ .head _)) (kk c o hc e)) (Ad _) (by show 2 ≤ sizeLine;decide) (.cons ru (.cons rv .nil))
   ⟨_,sb.extBut _ _ nTz new,rfl,_,rfl⟩ nT
  refine ⟨.ref s.heap.objs.size,_,J,rfl,⟨_,x,y,rfl,I.hok.fresh (Ad _),rfl,hx,hy⟩,⟨z'',sb.extBut _ _ D.TIz ti',⟨_,_,sb.extBut _ _ D.TOz to'⟩,xR (yP s1') fun o e=>sb.extBut _ _ D.i1z e,xR (yP s2') fun o e=>sb.extBut _ _ D.i2z e⟩,fun b hb=>?_⟩
  rw [qQ (A3 (lt b hb))]
  exact (hf b hb).1
 done:=by
  intro X hP hw hK hc i pins s σ H E I hf st hg
  subst hP hw hK
  obtain ⟨q1,q2,hend⟩:=hg
  obtain ⟨its1,r1,e1⟩:=I.seqOf q1
  obtain ⟨its2,r2,e2⟩:=I.seqOf q2
  obtain ⟨hz,hti,hto,h1,h2⟩:=id st
  refine zs_end (I.ok.hd hc) D ⟨hz,hti,hto,zV h1 e1,zV h2 e2⟩ (hend.imp (dI r1.length) (dI r2.length)) fun h' k=>?_
  exact ⟨rfl,I.turnedN (fp:=[z,TI,TO,i1,i2]) hf fun c o hc e=>k c o (fun q=>hc (oV q)) e⟩
 self:=fun A i s Q E st h=>wpAny_pyIter_zip st.zip h
theorem bt_zip:bootBuiltins "zip" = some (.type "zip"):=by decide +kernel
section
variable {X:Cx}
def iZip (ta:TA):TI:=fun σ H R=>ta σ H fun vs H1=>∃ a b c1 c2 xs ys,vs=[.ref a,.ref b]∧dN H1 c1 a xs∧dN H1 c2 b ys∧R (Itz c1 c2 a b xs ys) H1
theorem pi_zip {es:List Expr}{kk:_}{tp:Pos}{a b:Expr}{ta:TA}{p pos:Pos}(hg:Gl X "zip") (hm:X.mg "zip" = none) (ha:PA X [a,b] ta) (hs:starEach [a,b] X.env=[(false,eval a X.env),(false,eval b X.env)]:=by rfl) (hs2:starEach [b] X.env=[(false,eval b X.env)]:=by rfl) :
  PI X (.Tuple es kk tp) (.Call (.Name "zip" p) [a,b] [] pos) (iZip ta):=by
 intro pins s σ H R I h
 refine Call_ (vH I hg hm bt_zip (Be (jJ (ha pos pins s σ H _ I h) fun us s1 ⟨vs,H1,I1,r1,q1⟩=>?_) (by rw [hs,hs2]) (by rw [hs2];rfl)))
 obtain ⟨l1,l2,c1,c2,xs,ys,e,k1,k2,q⟩:=q1
 subst e
 obtain ⟨u1,u2,rfl,e1,e2⟩:=r1.two
 cases e1
 cases e2
 obtain ⟨its1,v1,o1⟩:=I1.seqOf k1
 obtain ⟨its2,v2,o2⟩:=I1.seqOf k2
 have lt1:(l1:Nat) < (s1.heap.objs.size:Nat):=o1.lt
 have lt2:(l2:Nat) < (s1.heap.objs.size:Nat):=o2.lt
 refine pS o1 o2 fun h' Z sz old=>wpAny_pyIter_zip Z.zip ?_
 have D:ZipApart (s1.heap.objs.size + 4) (s1.heap.objs.size + 2) (s1.heap.objs.size + 3) s1.heap.objs.size (s1.heap.objs.size + 1) l1 l2:=PySem.W.ktu_apart _ _ _ o1.lt o2.lt
 have J:Inv X pins σ H1 { s1 with heap:=h' }:=I1.kept (t':=s1.toks) old
 refine ⟨s1.heap.objs.size + 4,_,_,_,H1,rfl,J,eT _ _ _ _ _ l1 l2 c1 c2 xs ys D,⟨Z.zip,Z.ti,Z.to,yP Z.s1,yP Z.s2⟩,fun b hb=>?_,q⟩
 have hb':s1.heap.objs.size ≤ b:=by
  simp only [A2,Bh,or_false] at hb
  rcases hb with rfl | rfl | rfl | rfl | rfl <;> omega
 exact I1.fpOk hb' (I1.hok.fresh hb')
theorem a_iZip {ta:TA}{σ:St}{H:Hp}{R:It→Hp→Prop}:iZip ta σ H R=ta σ H fun vs H1=>∃ a b c1 c2 xs ys,vs=[.ref a,.ref b]∧dN H1 c1 a xs∧dN H1 c2 b ys∧R (Itz c1 c2 a b xs ys) H1:=rfl
end
theorem cl_zip {c1 c2:String}{a b:Addr}{xs ys:List V}{g:TG}{tc:TT}{tb:TB}{D:St→Hp→Prop}{σ:St}{H:Hp}(Pv:Nat→St→Hp→Prop)(h0:Pv 0 σ H)(hl:∀ i σ H,Pv i σ H→dN H c1 a xs∧dN H c2 b ys)
  (hs:∀ (i:Nat) u v (T:Addr) σ H H',xs[i]? = some u→ys[i]? = some v→Pv i σ H→H T=none→Same H H'→H' T=some (.tup [u,v])→g (.ref T) σ H' fun σ2 H2=>tc σ2 H2 fun b H3=>if b=true then tb σ2 H3 (Pv (i + 1)) else Pv (i + 1) σ2 H3)
  (hd:∀ σ H,Pv (min xs.length ys.length) σ H→D σ H):nZ (Itz c1 c2 a b xs ys) g tc tb D σ H:=by
 refine ⟨fun i m σ H=>m=min xs.length ys.length - i∧i ≤ min xs.length ys.length∧Pv i σ H,⟨min xs.length ys.length,by simp,Bb _,h0⟩,?_⟩
 rintro i m σ H ⟨rfl,hi,p⟩
 obtain ⟨q1,q2⟩:=hl i σ H p
 by_cases hlt:i < min xs.length ys.length
 ·refine .inr ⟨⟨q1,q2,by omega,by omega⟩,Pv (i + 1),fun σ' H' p'=>⟨min xs.length ys.length - (i + 1),by omega,rfl,hlt,p'⟩,fun x H' y=>?_⟩
  obtain ⟨T,u,v,rfl,n,rfl,e1,e2⟩:=y
  exact hs i u v T σ H _ e1 e2 p n (kI n) qG
 ·have e:i=min xs.length ys.length:=by omega
  subst e
  exact .inl ⟨⟨q1,q2,by omega⟩,hd σ H p⟩
section
variable {X:Cx}
def tSortR (ta:TA)(tk:TA):TE:=fun σ H Q=>ta σ H fun vs H1=>tk σ H1 fun zs H2=>∃ (p:Addr) (ns:List Int) (b:Bool),vs=[.ref p]∧zs=[.bl b]∧H2 p=some (.lst (ns.map V.int))∧ns.length < 64 ∧
 ∀ (l:Addr) (ms:List Int),H2 l=none→ms.Perm ns→Ordered b ms→Q (.ref l) (upd H2 l (.lst (ms.map V.int)))
theorem a_tSortR {ta tk:TA}{σ:St}{H:Hp}{Q:VK}:tSortR ta tk σ H Q=ta σ H fun vs H1=>tk σ H1 fun zs H2=>∃ (p:Addr) (ns:List Int) (b:Bool),vs=[.ref p]∧zs=[.bl b]∧H2 p=some (.lst (ns.map V.int))∧ns.length < 64 ∧
 ∀ (l:Addr) (ms:List Int),H2 l=none→ms.Perm ns→Ordered b ms→Q (.ref l) (upd H2 l (.lst (ms.map V.int))):=rfl
def rSlL0:V→Option Int→Option Int→Hp→VK→Prop:=fun x lo hi H Q=>∃ a xs,x = .ref a∧H a=some (.lst xs)∧∀ p,H p=none→Q (.ref p) (upd H p (.lst (zL xs lo hi)))
theorem slL0:SlR X rSlL0:=fun pins s σ H x v vl vu lo hi sl Q I rx hs pl pu h=>by
 obtain ⟨a,xs,e,k,q⟩:=h
 exact sl_list pins s σ H x v vl vu lo hi sl Q I rx hs pl pu ⟨a,xs,e,SqL.of k,q⟩
theorem a_tSl {r:V→Option Int→Option Int→Hp→VK→Prop}{te:TE}{tl th:TO}{σ:St}{H:Hp}{Q:VK}:tSl r te tl th σ H Q=te σ H fun x H1=>tl σ H1 fun l H2=>th σ H2 fun u H3=>r x l u H3 Q:=rfl
theorem a_rSlL0 {x:V}{lo hi:Option Int}{H:Hp}{Q:VK}:rSlL0 x lo hi H Q = ∃ a xs,x = .ref a∧H a=some (.lst xs)∧∀ p,H p=none→Q (.ref p) (upd H p (.lst (zL xs lo hi))):=rfl
theorem eE {σ:St}{H:Hp}{q:Option Int→Hp→Prop}:sU σ H q=q none H:=rfl
theorem a_tPart {t:TE}{σ:St}{H:Hp}{q:Option Int→Hp→Prop}:tPart t σ H q=t σ H fun x H1=>∃ i,x = .int i∧q (some i) H1:=rfl
def tApp (to:TE)(t:TA):TE:=fun σ H Q=>to σ H fun x H1=>∃ l xs0,x = .ref l∧H1 l=some (.lst xs0)∧t σ H1 fun vs H2=>∃ xs y,vs=[y]∧H2 l=some (.lst xs)∧xs.length < sizeLine∧Q .non (upd H2 l (.lst (xs ++ [y])))
theorem zB {o e:Expr}{to:TE}{t:TA}{apos cpos:Pos}(ho:PE X o to)(ha:PA X [e] t)(hbase:attributeBase o "append" X.env (eval o X.env)=eval o X.env:=by rfl)
  (hfew:((backTo cpos (starEach [e] X.env)).all (fun x=>!x.1) && (backToKw cpos (keywordEach [] X.env)).all (fun x=>x.1.isSome) && decide ([e].length + ([] : List Keyword).length + (if ([] : List Keyword).isEmpty then 0 else 1) < 30))=true:=by rfl)
  (hline:(apos.endLine == cpos.line)=true:=by rfl) (hs:starEach [e] X.env=(false,eval e X.env) :: starEach [] X.env:=by rfl):PE X (.Call (.Attribute o "append" apos) [e] [] cpos) (tApp to t):=by
 intro pins s σ H Q I h
 refine wpAny_Call_method_late hbase hfew hline rfl (jJ (ho pins s σ H _ I h) fun v s1 ⟨x,H1,I1,r1,q1⟩=>?_)
 obtain ⟨l,xs0,rfl,hl,q1⟩:=q1
 have ty:tyV X.K "list" (.ref l) H1:=.inl ⟨rfl,_,SqL.of hl⟩
 obtain ⟨h1,h2⟩:=eR I1 r1 ty
 refine ⟨"list", "list.append",PySem.F.plainAttrs_list,PySem.F.slot_list_append,PySem.F.type_list_append,h1,h2,?_⟩
 have hA:=ha cpos pins s1 σ H1 _ I1 q1
 rw [hs] at hA ⊢
 refine Calls.callWith_builtin (by rfl) (Calls.evalArgs_plain ?_)
 exact jJ hA fun us s2 ⟨vs,H2,I2,r2,xs,y,e,k,z,q⟩=>cT pins s2 σ H2 (.ref l) vs v us Q I2 r1 r2 ⟨l,xs,y,rfl,e,k,z,q⟩
theorem a_tApp {to:TE}{t:TA}{σ:St}{H:Hp}{Q:VK}:tApp to t σ H Q=to σ H fun x H1=>∃ l xs0,x = .ref l∧H1 l=some (.lst xs0)∧t σ H1 fun vs H2=>∃ xs y,vs=[y]∧H2 l=some (.lst xs)∧xs.length < sizeLine∧Q .non (upd H2 l (.lst (xs ++ [y]))):=rfl
end
section
variable {X:Cx}
def insV (xs:List V)(i:Nat)(y:V):List V:=xs.take i ++ y :: xs.drop i
def tIns (to:TE)(t:TA):TE:=fun σ H Q=>to σ H fun x H1=>∃ l xs0,x = .ref l∧H1 l=some (.lst xs0)∧t σ H1 fun vs H2=>∃ xs y,∃ i:Nat,vs=[.int (i:Int),y]∧H2 l=some (.lst xs)∧i ≤ xs.length∧xs.length < sizeLine∧Q .non (upd H2 l (.lst (insV xs i y)))
theorem a_tIns {to:TE}{t:TA}{σ:St}{H:Hp}{Q:VK}:tIns to t σ H Q=to σ H fun x H1=>∃ l xs0,x = .ref l∧H1 l=some (.lst xs0)∧t σ H1 fun vs H2=>∃ xs y,∃ i:Nat,vs=[.int (i:Int),y]∧H2 l=some (.lst xs)∧i ≤ xs.length∧xs.length < sizeLine∧Q .non (upd H2 l (.lst (insV xs i y))):=rfl
theorem max_gen (hc:X.calm=true){pins:List (Addr × Obj)}{σ:St}{H:Hp}{s:Shared}{p:Addr}{ns:List Int}{Q:VK}(I:Inv X pins σ H s)(hq:sq H p=some (ns.map V.int))(hne:ns ≠ [])
  (q:∀ m,m ∈ ns→(∀ x ∈ ns,x ≤ m)→Q (.int m) H):wpAny (model X.prog X.w) X.A (call (.builtin "max") [.ref p]) (EP X pins σ Q) X.xe s:=by
 have hp:0 < ns.length:=List.length_pos_iff.mpr hne
 refine call_max_walk (I.walk hc hq fun it its s2 St fp rv W st hfp hsz J=>?_)
 have hl:=rv.length
 rw [Aa] at hl
 refine ⟨it,fp,[it],its.length,_,St,_,rfl,W,st,hfp,by omega,CmpOf.ints_gt (fun i=>ns.getD i 0) fun i v hv=>jM rv hv,fun v h' tk hv k=>?_⟩
 obtain ⟨a1,a2⟩:=argBest_gt (fun i=>ns.getD i 0) (its.length - 1)
 obtain ⟨t,rfl⟩:=jM rv hv
 generalize argBest (fun i j=>decide (ns.getD i 0 > ns.getD j 0)) (its.length - 1)=j at a1 a2 hv ⊢
 have hj:j < ns.length:=by omega
 have e:ns.getD j 0=ns[j]:=by simp [Ab,hj]
 refine ⟨.int ns[j],H,J h' tk k,⟨t,by rw [e]⟩,q _ (AH hj) fun x hx=>?_⟩
 obtain ⟨i,hi,rfl⟩:=Cp.mp hx
 have:=a2 i (by omega)
 simp only [Ab,Ae hi,Ae hj,BD] at this
 exact this
theorem max0 (hc:X.calm=true):j7 X (.builtin "max") (fun xs H Q=>∃ (p:Addr) (ns:List Int),xs=[.ref p]∧sq H p=some (ns.map V.int)∧ns ≠ []∧∀ m,m ∈ ns→(∀ x ∈ ns,x ≤ m)→Q (.int m) H):=by
 intro pins s σ H xs us Q I r h
 obtain ⟨p,ns,rfl,hq,hne,q⟩:=h
 obtain ⟨u,rfl,ru⟩:=r.one
 cases ru
 exact max_gen hc I hq hne q
def rCatA:R2:=fun x y H Q=>∃ a b xs ys,x = .ref a∧y = .ref b∧H a=some (.tup xs)∧H b=some (.tup ys)∧xs.length + ys.length ≤ sizeLine∧∀ (p:Addr) (H':Hp),Same H H'→H' p=some (.tup (xs ++ ys))→Q (.ref p) H'
theorem uG:xD X (binaryOp .Add) rCatA:=by
 intro pins s σ H x y v u Q I rx ry h
 obtain ⟨a,b,xs,ys,rfl,rfl,ha,hb,hz,q⟩:=h
 by_cases hx:xs=[]
 ·cases rx
  cases ry
  obtain ⟨its,r1,p1,_⟩:=I.tuple (SqT.of ha)
  obtain ⟨its2,r2,p2,_⟩:=I.tuple (SqT.of hb)
  have e1:its=[]:=r1.nil_iff.mpr hx
  obtain ⟨⟨c1,d1,da1,sl1⟩,o1,k1,n1,g1⟩:=id p1
  obtain ⟨⟨c2,d2,da2,sl2⟩,o2,k2,n2,g2⟩:=id p2
  simp only at k1 g1 k2 g2
  subst k1 g1 k2 g2
  refine concat_meets ⟨_,o1,rfl⟩ ⟨_,o2,rfl⟩ noFill_tuple_add seq_tuple_add F.slot_tuple_add F.entry_tuple_add (F.args_tuple_add_2 _ _) (tuple_addW0 a b its.toArray its2.toArray n1 n2 d1 d2 sl1 sl2 (by simp [e1])) ⟨o1,o2,?_⟩
  subst hx
  exact ⟨.ref b,H,I,rfl,q b H (Same.refl H) hb⟩
 ·refine op_catT pins s σ H (.ref a) (.ref b) v u Q I rx ry ⟨a,b,xs,ys,rfl,rfl,SqT.of ha,SqT.of hb,hx,hz,fun e=>?_,fun _ p np=>q p _ (kI np) qG⟩
  subst e
  exact q a H (Same.refl H) (by rw [Bx];exact ha)
theorem a_rCatA {x y:V}{H:Hp}{Q:VK}:rCatA x y H Q = ∃ a b xs ys,x = .ref a∧y = .ref b∧H a=some (.tup xs)∧H b=some (.tup ys)∧xs.length + ys.length ≤ sizeLine∧∀ (p:Addr) (H':Hp),Same H H'→H' p=some (.tup (xs ++ ys))→Q (.ref p) H':=rfl
def rCatL:R2:=fun x y H Q=>∃ l b xs zs,x = .ref l∧y = .ref b∧H l=some (.lst xs)∧H b=some (.lst zs)∧xs.length + zs.length ≤ sizeLine∧∀ (p:Addr) (H':Hp),H p=none→Same H H'→H' p=some (.lst (xs ++ zs))→Q (.ref p) H'
theorem pQ:xD X (binaryOp .Add) rCatL:=fun pins s σ H x y v u Q I rx ry h=>by
 obtain ⟨l,b,xs,zs,e1,e2,h1,h2,hz,q⟩:=h
 exact op_cat pins s σ H x y v u Q I rx ry ⟨l,b,xs,zs,e1,e2,h1,h2,hz,fun p np=>q p _ np (kI np) qG⟩
theorem a_rCatL {x y:V}{H:Hp}{Q:VK}:rCatL x y H Q = ∃ l b xs zs,x = .ref l∧y = .ref b∧H l=some (.lst xs)∧H b=some (.lst zs)∧xs.length + zs.length ≤ sizeLine∧∀ (p:Addr) (H':Hp),H p=none→Same H H'→H' p=some (.lst (xs ++ zs))→Q (.ref p) H':=rfl
end
section
variable {prog:Program}{w:World}{A:Around}{E:Value→Shared→Prop}{s:Shared}
theorem uR {t sl:Addr}{items:Array Value}{vl vu:Value}{lo hi:Option Int}{Q:Value→Shared→Prop}(ht:IsTup s.heap t items)(hs:s.heap.IsSliceOf sl vl vu .none)(pl:IsPart vl lo)(pu:IsPart vu hi)
  (hw:HT.sIx items.size 0 lo=0∧HT.sIx items.size items.size hi=items.size) (h:Q (.ref t) s):wpAny (model prog w) A (getItem (.ref t) (.ref sl)) Q E s:=by
 obtain ⟨os,d6,hcs,hds⟩:=id hs
 have kind:s.TypeIs (.ref sl) "slice" := ⟨os,d6,hcs⟩
 unfold getItem
 try with_reducible refine wpAny_holding ?_
 first | refine wpAny_bind (wpAny_pure ?_) | skip
 refine wpAny_bind (wpAny_sequenceKey ht.typeIs (by decide) ?_)
 refine wpAny_bind (wpAny_callSpecial?_slot (name:=Str.ofString "__getitem__") ht.typeIs slot_tuple_getitem (wpAny_call_entry slot_tuple_getitem ht.typeIs entry_tuple_getitem ?_ (args_tuple_getitem _ _)))
 show wpAny _ _ (Builtin.Tuple.tupleItemsOf (.ref t) >>= _) _ _ s
 refine wpAny_bind (tupleItemsOf_ ht (wpAny_bind (wpAny_typeOf kind ?_)))
 rw [As (by decide)]
 refine wpAny_bind (HT.sliceApplied_gen hs pl pu ?_)
 rw [hw.1,hw.2]
 have yes:((((0:Nat):Int) == 0 && (1:Int) == 1 && (items.size - 0) == items.size)=true):=by simp
 show wpAny _ _ (if ((((0:Nat):Int) == 0 && (1:Int) == 1 && (items.size - 0) == items.size)=true) then _ else _) _ _ s
 rw [As yes]
 unfold Builtin.Tuple.tupleIsExact
 refine wpAny_bind (wpAny_bind (wpAny_typeOf ht.typeIs (wpAny_pure ?_)))
 rw [As (by decide)]
 exact wpAny_bind (wpAny_rule (wpAny_pure ⟨_,rfl,wpAny_pure h⟩))
end
section
variable {X:Cx}
def rSlA:V→Option Int→Option Int→Hp→VK→Prop:=fun x lo hi H Q=>∃ a xs,x = .ref a∧H a=some (.tup xs)∧∀ (p:Addr) (H':Hp),Same H H'→H' p=some (.tup (zL xs lo hi))→Q (.ref p) H'
theorem eA {xs:List V}{lo hi:Option Int}(h:HT.sIx xs.length 0 lo=0∧HT.sIx xs.length xs.length hi=xs.length):zL xs lo hi=xs:=by
 unfold zL
 rw [h.1,h.2,BP,Nat.sub_zero,AL]
theorem slA0:SlR X rSlA:=by
 intro pins s σ H x v vl vu lo hi sl Q I rx hs pl pu h
 obtain ⟨a,xs,rfl,hx,q⟩:=h
 by_cases hw:HT.sIx xs.length 0 lo=0∧HT.sIx xs.length xs.length hi=xs.length
 ·cases rx
  obtain ⟨its,r,ht,hz⟩:=I.tuple (SqT.of hx)
  have hlen:its.toArray.size=xs.length:=by rw [Ah];exact r.length.symm
  refine ⟨"tuple",_,slot_tuple_getitem.lookup,ht.typeIs,uR ht hs pl pu (by rw [hlen];exact hw) ?_⟩
  exact ⟨.ref a,H,I,rfl,q a H (Same.refl H) (by rw [eA hw];exact hx)⟩
 ·exact sl_tup pins s σ H (.ref a) v vl vu lo hi sl Q I rx hs pl pu ⟨a,xs,rfl,SqT.of hx,hw,fun p np=>q p _ (kI np) qG⟩
theorem a_rSlA {x:V}{lo hi:Option Int}{H:Hp}{Q:VK}:rSlA x lo hi H Q = ∃ a xs,x = .ref a∧H a=some (.tup xs)∧∀ (p:Addr) (H':Hp),Same H H'→H' p=some (.tup (zL xs lo hi))→Q (.ref p) H':=rfl
def tRev (te:TE):TE:=fun σ H Q=>te σ H fun x H1=>∃ a xs,x = .ref a∧H1 a=some (.tup xs)∧∀ (p:Addr) (H':Hp),H1 p=none→Same H1 H'→H' p=some (.tup xs.reverse)→Q (.ref p) H'
theorem a_tRev {te:TE}{σ:St}{H:Hp}{Q:VK}:tRev te σ H Q=te σ H fun x H1=>∃ a xs,x = .ref a∧H1 a=some (.tup xs)∧∀ (p:Addr) (H':Hp),H1 p=none→Same H1 H'→H' p=some (.tup xs.reverse)→Q (.ref p) H':=rfl
end
section
variable {prog:Program}{w:World}{A:Around}{E:Value→Shared→Prop}{s:Shared}
theorem pO {t:Addr}{vs:List Value}{Q:List Value→Shared→Prop}(ht:IsTup s.heap t vs.toArray)(hz:vs.length ≤ sizeLine)
  (h:Q vs { s with heap:=(s.heap.push (seqObj "list" #[] 0)).update s.heap.objs.size (Obj.mapSeq (· ++ vs.toArray)) }):wpAny (model prog w) A (collect (.ref t)) Q E s:=by
 obtain ⟨ot,hot,kt,nt,dt⟩:=id ht
 unfold collect
 refine wpAny_bind (wpAny_runValue (codeAny_builtin entry_proto_collect' (show wpAny _ _ (do again (.builtin "list.__iadd__" ⟨[← newList [],.ref t],[]⟩)) _ _ s from ?_)))
 refine wpAny_bind (wpAny_newList (wpAny_pure ⟨Code.quiet_builtin _ (by decide +kernel),codeAny_builtin entry_list_iadd' (show wpAny _ _ (Builtin.List.listExtendWith (.ref s.heap.objs.size) (.ref t) (.ref s.heap.objs.size)) _ _ { s with heap:=s.heap.push (seqObj "list" #[] 0) } from ?_)⟩))
 unfold Builtin.List.listExtendWith
 have old:(s.heap.push (seqObj "list" #[] 0)).get? t=some ot:=Ac _ hot
 refine wpAny_bind (wpAny_typeOf (T := "tuple") ⟨ot,old,kt⟩ ?_)
 have yes:(Value.type "tuple" == Value.type "tuple")=true:=by rfl
 rw [As (by rw [yes,Bool.or_true])]
 refine wpAny_bind (listItems_at old dt (wpAny_bind (listItems_at (xs := #[]) (n:=0) (Ak _ rfl) rfl ?_)))
 rw [Au (by simp)]
 refine wpAny_bind (listUpdate_at (xs := #[]) (n:=0) (Ak _ rfl) rfl (wpAny_pure ?_) (Bb _) (by show (#[] ++ vs.toArray).size ≤ sizeLine + 1;rw [Array.size_append,Ah];simp;omega))
 show wpAny (model prog w) A (do { let o ← load s.heap.objs.size;match o.data with | .seq xs _=>pure xs.toList | _=>unsupported "internal:collect" }) Q E { s with heap:=(s.heap.push (seqObj "list" #[] 0)).update s.heap.objs.size (Obj.mapSeq (· ++ vs.toArray)) }
 refine wpAny_bind (wpAny_load (get?_update_seq (Ak _ rfl) _) (show wpAny _ _ (pure ((#[] : Array Value) ++ vs.toArray).toList) Q E _ from ?_))
 rw [show ((#[] : Array Value) ++ vs.toArray).toList=vs by simp]
 exact wpAny_pure h
theorem rG {t:Addr}{vs:List Value}{ns:List Int}{Q:Value→Shared→Prop}(ht:IsTup s.heap t vs.toArray)(hI:IntsAre vs ns)(h64:vs.length < 64)
  (h:∀ (out:Array Value) (ms:List Int),IntsAre out.toList ms→ms.Perm ns→ms.Pairwise (· ≤ ·)→Q (.ref (s.heap.objs.size + 1)) { s with heap:=sortedAll s.heap vs out }):wpAny (model prog w) A (call (.builtin "sorted") [.ref t]) Q E s:=by
 refine Calls.call_function_entry kind_sorted plain_sorted entry_sorted (args_sorted1 _) ?_
 unfold Builtin.«sorted»
 refine wpAny_bind (m:=checkCount "sorted" 1 1 _) (wpAny_pure (wpAny_bind (pO ht (by rw [sizeLine_eq];omega) (wpAny_bind (wpAny_newList ?_)))))
 have size1:((s.heap.push (seqObj "list" #[] 0)).update s.heap.objs.size (Obj.mapSeq (· ++ vs.toArray))).objs.size=s.heap.objs.size + 1:=(Heap.size_update ..).trans (size_push' ..)
 have new1:(((s.heap.push (seqObj "list" #[] 0)).update s.heap.objs.size (Obj.mapSeq (· ++ vs.toArray))).push (seqObj "list" vs.toArray 0)).get? (s.heap.objs.size + 1)=some (seqObj "list" vs.toArray 0):=by rw [← size1];exact Ak _ rfl
 show wpAny _ _ _ _ _ { s with heap:=(((s.heap.push (seqObj "list" #[] 0)).update s.heap.objs.size (Obj.mapSeq (· ++ vs.toArray))).push (seqObj "list" vs.toArray 0)) }
 rw [size1]
 exact wpAny_bind (wpAny_holding (wpAny_call_entry slot_list_sort ⟨_,new1,rfl⟩ entry_list_sort (list_sort_tree new1 hI h64 fun out ms a1 a2 a3=>⟨_,rfl,wpAny_pure ⟨_,rfl,h out ms a1 a2 a3⟩⟩) (args_list_sort _)))
end
section
variable {X:Cx}
theorem sorted0:j7 X (.builtin "sorted") (fun xs H Q=>∃ (p:Addr) (ns:List Int),xs=[.ref p]∧sq H p=some (ns.map V.int)∧ns.length < 64∧∀ (l:Addr) (ms:List Int) (H':Hp),H l=none→Same H H'→ms.Perm ns→ms.Pairwise (· ≤ ·)→H' l=some (.lst (ms.map V.int))→Q (.ref l) H'):=by
 intro pins s σ H xs us Q I r h
 obtain ⟨p,ns,rfl,hq,h64,q⟩:=h
 obtain ⟨u,rfl,ru⟩:=r.one
 cases ru
 have hf:H (s.heap.objs.size + 1)=none:=I.hok.fresh (Cq _)
 have fin:∀ (its:List Value) (out:Array Value) (ms:List Int),Vals (ns.map V.int) its→IntsAre out.toList ms→ms.Perm ns→ms.Pairwise (· ≤ ·)→EP X pins σ Q (.ref (s.heap.objs.size + 1)) { s with heap:=sortedAll s.heap its out }:=fun its out ms vi h1 h2 h3=>by
  obtain ⟨e',he'⟩:=sortedAll_at s.heap its out
  have hml:ms.length=ns.length:=h2.length_eq
  refine ⟨.ref (s.heap.objs.size + 1),_,I.laid (o:=.lst (ms.map V.int)) (t':=s.toks) (fun b u e=>sortedAll_old e) (Cq _) ?_,rfl,q _ ms _ hf (kI hf) h2 h3 qG⟩
  exact ⟨by rw [Aa,hml,sizeLine_eq];omega,out.toList,e',dQ h1,by simpa [seqObj] using he'⟩
 rcases dU (K:=X.K) hq with k | k
 ·obtain ⟨its,vi,pl,hz⟩:=I.list k
  have hlen:=vi.length
  rw [Aa] at hlen
  exact sorted_ints pl.isList (intsAre_of vi) (by omega) fun out ms h1 h2 h3=>fin its out ms vi h1 h2 h3
 ·obtain ⟨its,vi,pl,hz⟩:=I.tuple k
  have hlen:=vi.length
  rw [Aa] at hlen
  exact rG pl (intsAre_of vi) (by omega) fun out ms h1 h2 h3=>fin its out ms vi h1 h2 h3
end
def vR (e iter:Expr)(d:Nat)(acc:Value)(env:Env):Sem Unit:=do
 let x ← eval iter env
 standAt iter.pos
 let x ← foldedSetIterable iter env x
 let _ ← runOwn (.compStart e d (← holding [x] (pyIter x)) acc env) env
theorem p6 (elt tg iter tg2 iter2:Expr)(ifs ifs2:List Expr)(rest:List Comprehension)(sc:Scope)(pos:Pos)(it acc:Value)(env:Env) :
  compTurn (.ListComp elt (⟨tg,iter,ifs,0⟩ :: ⟨tg2,iter2,ifs2,0⟩ :: rest) sc pos) 0 it acc env=(do
   standAt iter.pos
   match ← pyNext it with
   | none=>pure (.done .next)
   | some v =>
    letOwnedTupleGo tg it v
    assign tg env v
    let mut ok:=true
    for c in ifs do
     if ok then ok ← isTrue c env (eval c env)
    if ok then vR (.ListComp elt (⟨tg,iter,ifs,0⟩ :: ⟨tg2,iter2,ifs2,0⟩ :: rest) sc pos) iter2 1 acc env
    again (.compLoop (.ListComp elt (⟨tg,iter,ifs,0⟩ :: ⟨tg2,iter2,ifs2,0⟩ :: rest) sc pos) 0 it acc env)):=by
 unfold vR
 simp only [bind_assoc,pure_bind]
 rfl
theorem p7 (elt tg iter tg2 iter2:Expr)(ifs ifs2:List Expr)(sc:Scope)(pos:Pos)(it acc:Value)(env:Env) :
  compTurn (.ListComp elt [⟨tg,iter,ifs,0⟩,⟨tg2,iter2,ifs2,0⟩] sc pos) 1 it acc env=(do
   standAt iter2.pos
   match ← pyNext it with
   | none=>pure (.done .next)
   | some v =>
    letOwnedTupleGo tg2 it v
    assign tg2 env v
    let mut ok:=true
    for c in ifs2 do
     if ok then ok ← isTrue c env (eval c env)
    if ok then (do let _ ← call (.builtin "list.append") [acc,← eval elt env])
    again (.compLoop (.ListComp elt [⟨tg,iter,ifs,0⟩,⟨tg2,iter2,ifs2,0⟩] sc pos) 1 it acc env)):=by rfl
section
variable {prog:Program}{w:World}{A:Around}{R:Result→Shared→Prop}{s:Shared}
theorem lB {elt:Expr}{gs:List Comprehension}{sc:Scope}{pos:Pos}{d:Nat}{g:Comprehension}{it acc:Value}{env:Env}(hg:gs[d]? = some g)(ha:g.is_async=0)
  (h0:codeAny (model prog w) A (.compLoop (.ListComp elt gs sc pos) d it acc env) R s)
  (h:wpAny (model prog w) A (pyIter it) (fun it' s'=>codeAny (model prog w) A (.compLoop (.ListComp elt gs sc pos) d it' acc env) R s') (notedBy (model prog w) A env fun x s'=>R (.error x) s') s) :
  codeAny (model prog w) A (.compStart (.ListComp elt gs sc pos) d it acc env) R s:=by
 refine codeAny_of_tree (show wpAny _ _ ((compStart (.ListComp elt gs sc pos) d it acc env).onRaise (fun x=>do noteFrame x env;standAt theWindowsPlace)) _ _ s from wpAny_notedAt ?_)
 unfold compStart
 have e:(clausesOf (.ListComp elt gs sc pos))[d]? = some g:=hg
 rw [e]
 have ea:(some g).elim false (fun x:Comprehension=>x.is_async != 0)=false:=by show (g.is_async != 0)=false;rw [ha];rfl
 rw [ea]
 refine wpAny_bind (wpAny_askSetting (wpAny_ite ?_))
 split
 ·first
   | exact wpAny_pure ⟨rfl,h0⟩
   | exact wpAny_bind (wpAny_pure (wpAny_pure ⟨rfl,h0⟩))
 ·exact wpAny_bind (wpAny_rule (wpAny_bind (wpAny_standAt (wpAny_bind (wpAny_mono h (fun it' s' h'=>wpAny_pure ⟨rfl,h'⟩) fun _ _ x=>x)))))
end
def yL (wi:TI)(g:TG)(tc:TT)(tb:TB):TB:=fun σ H N=>wi σ H fun J H1=>nZ J g tc tb N σ H1
theorem i6 {X:Cx}{elt tg iter:Expr}{ifs:List Expr}{gs:List Comprehension}{sc:Scope}{pos:Pos}{d:Nat}{acc:Value}{wi:TI}{g:TG}{tc:TT}{tb:TB}{body:Sem Unit}(hc:X.calm=true)(hx:X.xe=fun _ _=>False)(hgs:gs[d]? = some ⟨tg,iter,ifs,0⟩)
  (hi:PI X tg iter wi) (hg:PG X tg g) (hifs:pW X ifs tc) (hb:PB X body tb)
  (heq:∀ it:Addr,compTurn (.ListComp elt gs sc pos) d (.ref it) acc X.env=(do
   standAt iter.pos
   match ← pyNext (.ref it) with
   | none=>pure (.done .next)
   | some v =>
    letOwnedTupleGo tg (.ref it) v
    assign tg X.env v
    let mut ok:=true
    for c in ifs do
     if ok then ok ← isTrue c X.env (eval c X.env)
    if ok then body
    again (.compLoop (.ListComp elt gs sc pos) d (.ref it) acc X.env)))
  (hs:∀ x,foldedSetIterable iter X.env x=pure x):PB X (vR (.ListComp elt gs sc pos) iter d acc X.env) (yL wi g tc tb):=by
 intro pins s σ H N I q
 unfold vR
 refine wpAny_bind (jJ (hi pins s σ H _ I q) fun v s1 h1=>?_)
 refine wpAny_bind (wpAny_standAt (wpAny_bind (wpAny_of_eq (hs v) (wpAny_bind (wpAny_holding (jJ h1 fun itv s2 h2=>?_))))))
 obtain ⟨it,fp,tn,J,H2,e2,I2,T,st2,f2,q2⟩:=h2
 subst e2
 have L:=vS (X:=X) (e:=.ListComp elt gs sc pos) (d:=d) (acc:=acc) (D:=N) (s:=s2) hc hx (heq it) rfl rfl rfl T hg hifs hb I2 st2 f2 q2
 refine wpAny_bind (wpAny_runOwn (lB hgs rfl ?_ ?_))
 ·refine codeAny_mono L fun r s' hr=>?_
  obtain ⟨rfl,σ',H',J',n'⟩:=hr
  exact wpAny_pure ⟨σ',H',J',n'⟩
 ·refine T.self X.A 0 s2 _ _ st2 ?_
  refine codeAny_mono L fun r s' hr=>?_
  obtain ⟨rfl,σ',H',J',n'⟩:=hr
  exact wpAny_pure ⟨σ',H',J',n'⟩
section
variable {X:Cx}
def tLC2 (fr:List (Option Nat))(wi:TI)(g:TG)(tc:TT)(wi2:TI)(g2:TG)(tc2:TT)(te:TE):TE:=fun σ H Q=>wi σ H fun J H1=>∀ p,H1 p=none→nZ J g tc (yL wi2 g2 tc2 (xF p te)) (fun _ H2=>Q (.ref p) H2) (pY fr σ) (upd H1 p (.lst []))
theorem pe_lc2 {N:List Str}{fr:List (Option Nat)}{tg iter tg2 iter2 elt:Expr}{ifs ifs2:List Expr}{sc:Scope}{pos:Pos}{cl:List (Str × Addr)}{wi wi2:TI}{g g2:TG}{tc tc2:TT}{te:TE}(hc:X.calm=true)(hi:PI X tg iter wi)(S:CScope X N fr sc)(hcl:xW sc.names X.env.cells [] = some cl)
  (hb:∀ s H ex,PG (fT X N sc cl s H ex) tg g∧pW (fT X N sc cl s H ex) ifs tc∧PI (fT X N sc cl s H ex) tg2 iter2 wi2∧PG (fT X N sc cl s H ex) tg2 g2∧pW (fT X N sc cl s H ex) ifs2 tc2∧PE (fT X N sc cl s H ex) elt te) (hs:∀ x,foldedSetIterable iter X.env x=pure x:=by intro _;rfl) (hs2:∀ env x,foldedSetIterable iter2 env x=pure x:=by intro _ _;rfl) :
  PE X (.ListComp elt [⟨tg,iter,ifs,0⟩,⟨tg2,iter2,ifs2,0⟩] sc pos) (tLC2 fr wi g tc wi2 g2 tc2 te):=by
 intro pins s σ H Q I h
 rw [eval_ListComp]
 refine pA (D:=fun J p σ H=>nZ J g tc (yL wi2 g2 tc2 (xF p te)) (fun _ H2=>Q (.ref p) H2) σ H) rfl hi S hcl I h (fun it p fp tn J s1 s2 H1 σ1 T B st f d=>?_) hs
 obtain ⟨hg,hifs,hi2,hg2,hifs2,helt⟩:=hb s1 H1 fp
 have inn:=i6 (X:=fT X N sc cl s1 H1 fp) (elt:=elt) (gs:=[⟨tg,iter,ifs,0⟩,⟨tg2,iter2,ifs2,0⟩]) (sc:=sc) (pos:=pos) (d:=1) (acc:=.ref p) hc rfl rfl hi2 hg2 hifs2 (mY (p:=p) helt) (fun it=>p7 elt tg iter tg2 iter2 ifs ifs2 sc pos (.ref it) (.ref p) _) (hs2 _)
 have L:=vS (X:=fT X N sc cl s1 H1 fp) (e:=.ListComp elt [⟨tg,iter,ifs,0⟩,⟨tg2,iter2,ifs2,0⟩] sc pos) (d:=0) (acc:=.ref p) (D:=fun _ H2=>Q (.ref p) H2) (s:=s2) hc rfl (p6 elt tg iter tg2 iter2 ifs ifs2 [] sc pos (.ref it) (.ref p) _) rfl rfl rfl T hg hifs inn B st f d
 exact codeAny_compStart_list L (T.self X.A 0 s2 _ _ st L)
def tLC3 (fr:List (Option Nat))(wi:TI)(g:TG)(tc:TT)(wi2:TI)(g2:TG)(tc2:TT)(wi3:TI)(g3:TG)(tc3:TT)(te:TE):TE:=fun σ H Q=>wi σ H fun J H1=>∀ p,H1 p=none→nZ J g tc (yL wi2 g2 tc2 (yL wi3 g3 tc3 (xF p te))) (fun _ H2=>Q (.ref p) H2) (pY fr σ) (upd H1 p (.lst []))
theorem a_tLC2 {fr:List (Option Nat)}{wi wi2:TI}{g g2:TG}{tc tc2:TT}{te:TE}{σ:St}{H:Hp}{Q:VK}:tLC2 fr wi g tc wi2 g2 tc2 te σ H Q=wi σ H fun J H1=>∀ p,H1 p=none→nZ J g tc (yL wi2 g2 tc2 (xF p te)) (fun _ H2=>Q (.ref p) H2) (pY fr σ) (upd H1 p (.lst [])):=rfl
theorem a_tLC3 {fr:List (Option Nat)}{wi wi2 wi3:TI}{g g2 g3:TG}{tc tc2 tc3:TT}{te:TE}{σ:St}{H:Hp}{Q:VK}:tLC3 fr wi g tc wi2 g2 tc2 wi3 g3 tc3 te σ H Q=wi σ H fun J H1=>∀ p,H1 p=none→nZ J g tc (yL wi2 g2 tc2 (yL wi3 g3 tc3 (xF p te))) (fun _ H2=>Q (.ref p) H2) (pY fr σ) (upd H1 p (.lst [])):=rfl
theorem a_tInner {wi:TI}{g:TG}{tc:TT}{tb:TB}{σ:St}{H:Hp}{N:St→Hp→Prop}:yL wi g tc tb σ H N=wi σ H fun J H1=>nZ J g tc tb N σ H1:=rfl
end
theorem range_drop {n i:Nat}(h:i < n):(List.range n).drop i=i :: (List.range n).drop (i + 1):=by simp [AX,h]
theorem tuple_neAt (l b:Addr)(items items2:Array Value)(n n2:Nat)(dd dd2:Option Addr)(sl sl2:Array (Option Value))(e:Nat→Bool) :
  Meets (Builtin.«tuple.__ne__» ⟨[.ref l,.ref b],[]⟩) (fun A R s=>s.heap.get? l=some { cls:=.type "tuple",dict:=dd,data:=.seq items n,slots:=sl }∧s.heap.get? b=some { cls:=.type "tuple",dict:=dd2,data:=.seq items2 n2,slots:=sl2 } ∧
    (∀ j (h1:j < items.size) (h2:j < items2.size),SeqAt.EqAt A.in1 s items[j] items2[j] (e j))∧R (.ok (.ret (.bool (!((List.range (min items.size items2.size)).all e && items.size == items2.size))))) s) :=
 .of_wp fun prog w A R s h=>by
  obtain ⟨hp,g,d,tk,os⟩:=s;obtain ⟨hl,hb,he,h⟩:=h
  have f2:=BU
  have zl:(items.toList.zip items2.toList).length=min items.size items2.size:=by simp
  wp_walk using wpAny_loadPart' hl,wpAny_loadPart' hb,wpAny_forIn_list _ (fun rest b s'=>b.1=none∧s'=⟨hp,g,d,tk,os⟩∧∃ i,rest=(items.toList.zip items2.toList).drop i∧R (.ok (.ret (.bool (!(((List.range (min items.size items2.size)).drop i).all e && items.size == items2.size))))) ⟨hp,g,d,tk,os⟩) _
  case turn =>
   rintro ⟨y,x⟩ rest b s' ⟨hb',rfl,i,hz,hR⟩
   have lt:i < (items.toList.zip items2.toList).length:=by
    rcases AY i (items.toList.zip items2.toList).length with q | q
    ·exact q
    ·rw [Bo q] at hz;cases hz
   have lm:i < min items.size items2.size:=zl ▸ lt
   have l1:i < items.size:=by omega
   have l2:i < items2.size:=by omega
   rw [AX lt] at hz
   injection hz with z1 z2
   have hy:y=items[i]:=by have:=AW Prod.fst z1;simpa using this
   have hx:x=items2[i]:=by have:=AW Prod.snd z1;simpa using this
   subst hy hx
   have dr:=range_drop lm
   refine wpAny_bind (he i l1 l2 prog w _ _ ?_)
   cases hc:e i with
   | true =>
    rw [dr,Cm,hc,BL] at hR
    exact wpAny_pure ⟨rfl,rfl,i + 1,z2,hR⟩
   | false =>
    rw [dr,Cm,hc,BA,BA,Bool.not_false] at hR
    wp_walk
    exact ⟨_,rfl,hR⟩
  case fin =>
   rintro ⟨b1,b2⟩ s' ⟨hb',rfl,i,hz,hR⟩
   cases (show b1=none from hb')
   have ge:min items.size items2.size ≤ i:=by
    rcases AY i (items.toList.zip items2.toList).length with q | q
    ·rw [AX q] at hz;cases hz
    ·exact zl ▸ q
   rw [Bo (by simpa using ge),List.all_nil,BL] at hR
   wp_walk
   exact ⟨_,rfl,hR⟩
  case h=>exact ⟨rfl,rfl,0,rfl,by rw [BP];exact h⟩
theorem bD:∀ (ns ms:List Int),((List.range (min ns.length ms.length)).all (fun j=>decide (ns.getD j 0=ms.getD j 0)) && ns.length == ms.length)=decide (ns=ms):=fun ns ms=>by
 rw [Bl,AF,B3,AU,beq_iff_eq]
 constructor
 ·rintro ⟨h1,h2⟩
  apply BS h2
  intro i q1 q2
  have:=h1 i (AZ.mpr (by omega))
  simpa [Ab,q1,q2] using this
 ·rintro rfl
  exact ⟨fun j _=>by simp,rfl⟩
section
variable {X:Cx}
theorem sQ {pins:List (Addr × Obj)}{σ:St}{H:Hp}{s:Shared}{a b:Addr}{ns ms:List Int}(I:Inv X pins σ H s)(ha:H a=some (.tup (ns.map V.int)))(hb:H b=some (.tup (ms.map V.int))) :
  ∃ its its2:List Value,IsTup s.heap a its.toArray∧IsTup s.heap b its2.toArray∧its.length=ns.length∧its2.length=ms.length∧∀ (A:Around) (j:Nat) (h1:j < its.toArray.size) (h2:j < its2.toArray.size),SeqAt.EqAt A s its.toArray[j] its2.toArray[j] (decide (ns.getD j 0=ms.getD j 0)):=by
 obtain ⟨its,r1,p1,_⟩:=I.tuple (SqT.of ha)
 obtain ⟨its2,r2,p2,_⟩:=I.tuple (SqT.of hb)
 have l1:=r1.length
 have l2:=r2.length
 rw [Aa] at l1 l2
 refine ⟨its,its2,p1,p2,l1.symm,l2.symm,fun A j h1 h2=>?_⟩
 have h1':j < its.length:=by simpa using h1
 have h2':j < its2.length:=by simpa using h2
 obtain ⟨t,e1⟩:=jM r1 (i:=j) (v:=its[j]) (by simp [h1'])
 obtain ⟨u,e2⟩:=jM r2 (i:=j) (v:=its2[j]) (by simp [h2'])
 have key:SeqAt.EqAt A s its[j] its2[j] (pI (.int (ns.getD j 0)) (.int (ms.getD j 0))):=gJ ⟨t,e1⟩ ⟨u,e2⟩ rfl rfl
 have e:pI (.int (ns.getD j 0)) (.int (ms.getD j 0))=decide (ns.getD j 0=ms.getD j 0):=by
  show (ns.getD j 0 == ms.getD j 0)=_
  rfl
 rw [e] at key
 simpa using key
def rEqT (neg:Bool):R2:=fun x y H Q=>∃ (a b:Addr) (ns ms:List Int),x = .ref a∧y = .ref b∧H a=some (.tup (ns.map V.int))∧H b=some (.tup (ms.map V.int))∧Q (.bl (if neg then !decide (ns=ms) else decide (ns=ms))) H
theorem eqT0 (hu:X.A.units < cLine):xD X (compareOp .Eq) (rEqT false):=by
 intro pins s σ H x y v u Q I rx ry h
 obtain ⟨a,b,ns,ms,rfl,rfl,ha,hb,q⟩:=h
 cases rx
 cases ry
 obtain ⟨its,its2,p1,p2,l1,l2,he⟩:=sQ I ha hb
 refine SeqAt.eq_tupleAt (show s.heap.IsTuple a its.toArray from p1) (show s.heap.IsTuple b its2.toArray from p2) hu (fun j h1 h2=>he _ j h1 h2) ?_
 refine ⟨.bl (decide (ns=ms)),H,I,?_,q⟩
 rw [Ah,Ah,l1,l2,bD]
 rfl
theorem a_rEqT {neg:Bool}{x y:V}{H:Hp}{Q:VK}:rEqT neg x y H Q = ∃ (a b:Addr) (ns ms:List Int),x = .ref a∧y = .ref b∧H a=some (.tup (ns.map V.int))∧H b=some (.tup (ms.map V.int))∧Q (.bl (if neg then !decide (ns=ms) else decide (ns=ms))) H:=rfl
end
theorem iO (a:Int)(t:Tok)(l:Addr)(items:Array Value)(n:Nat)(dd:Option Addr)(sl:Array (Option Value)) :
  Meets (Builtin.«int.__rmul__» ⟨[.int a t,.ref l],[]⟩) (fun _ R s=>s.heap.get? l=some { cls:=.type "tuple",dict:=dd,data:=.seq items n,slots:=sl }∧R (.ok (.ret Value.notImplemented)) s) :=
 .of_wp fun prog w A R s h=>by
  obtain ⟨hp,g,d,tk,os⟩:=s
  obtain ⟨hl,h⟩:=h
  wp_walk
  exact ⟨_,rfl,h⟩
theorem wX:fillsNumberSlot (.type "tuple") "mul" = pure false :=
 PySem.fillsNumberSlot_seq (id := "tuple.__mul__") (r:=some (.builtin "tuple.__rmul__")) BR.lookup (by decide +kernel) F.slot_tuple_rmul.lookup (by decide +kernel)
theorem rJ:seqRepeat? (.type "tuple")=pure (some (.builtin "tuple.__mul__")):=by
 unfold seqRepeat?
 rw [PySem.seqSlot_of (T := "tuple") (name := "__mul__") (id := "tuple.__mul__") BR.lookup (by decide +kernel),PySem.seqSlot_of (T := "tuple") (name := "__rmul__") (id := "tuple.__rmul__") F.slot_tuple_rmul.lookup (by decide +kernel)]
 rfl
theorem mul_one (t:Addr)(items:Array Value)(n:Nat)(dd:Option Addr)(sl:Array (Option Value))(k:Int)(u:Tok)(h1:¬ (decide (k < -(2 ^ 63)) || decide (k ≥ 2 ^ 63))=true)(hc:(items.isEmpty || k == 1)=true) :
  Meets (Builtin.«tuple.__mul__» ⟨[.ref t,.int k u],[]⟩) (fun _ R s=>s.heap.get? t=some { cls:=.type "tuple",dict:=dd,data:=.seq items n,slots:=sl }∧R (.ok (.ret (.ref t))) s) :=
 .of_wp fun prog w A R s h=>by
  obtain ⟨hp,g,d,tk,os⟩:=s
  obtain ⟨hl,h⟩:=h
  wp_walk
  refine wpAny_ite_split (fun q=>absurd q h1) fun _=>?_
  wp_walk
  exact ⟨_,rfl,h⟩
theorem mul_nil (t:Addr)(items:Array Value)(n:Nat)(dd:Option Addr)(sl:Array (Option Value))(k:Int)(u:Tok)(h1:¬ (decide (k < -(2 ^ 63)) || decide (k ≥ 2 ^ 63))=true)(hc:¬ (items.isEmpty || k == 1)=true)(hn:(decide (k ≤ 0) || items.isEmpty)=true) :
  Meets (Builtin.«tuple.__mul__» ⟨[.ref t,.int k u],[]⟩) (fun _ R s=>s.heap.get? t=some { cls:=.type "tuple",dict:=dd,data:=.seq items n,slots:=sl }∧R (.ok (.ret (.ref s.heap.objs.size))) { s with heap:=s.heap.push { cls:=.type "tuple",data:=.seq #[] } }) :=
 .of_wp fun prog w A R s h=>by
  obtain ⟨hp,g,d,tk,os⟩:=s
  obtain ⟨hl,h⟩:=h
  wp_walk
  refine wpAny_ite_split (fun q=>absurd q h1) fun _=>?_
  wp_walk
  exact ⟨_,rfl,h⟩
theorem oT (t:Addr)(items:Array Value)(n:Nat)(dd:Option Addr)(sl:Array (Option Value))(k:Int)(u:Tok)(h1:¬ (decide (k < -(2 ^ 63)) || decide (k ≥ 2 ^ 63))=true)(hc:¬ (items.isEmpty || k == 1)=true)(hn:¬ (decide (k ≤ 0) || items.isEmpty)=true)
  (hm:¬ (items.size * k > (2 ^ 63 - 1) / 8)) (hl':¬ Builtin.Tuple.tupleTooMany (items.size * k)=true) (hsz:((List.replicate k.toNat items).foldl (· ++ ·) #[]).size ≤ sizeLine) :
  Meets (Builtin.«tuple.__mul__» ⟨[.ref t,.int k u],[]⟩) (fun _ R s=>s.heap.get? t=some { cls:=.type "tuple",dict:=dd,data:=.seq items n,slots:=sl }∧R (.ok (.ret (.ref s.heap.objs.size))) { s with heap:=s.heap.push { cls:=.type "tuple",data:=.seq ((List.replicate k.toNat items).foldl (· ++ ·) #[]) } }) :=
 .of_wp fun prog w A R s h=>by
  obtain ⟨hp,g,d,tk,os⟩:=s
  obtain ⟨hl,h⟩:=h
  wp_walk
  refine wpAny_ite_split (fun q=>absurd q h1) fun _=>?_
  wp_walk
  refine wpAny_ite_split (fun q=>absurd q hm) fun _=>?_
  wp_walk
  exact ⟨_,rfl,h⟩
section
variable {X:Cx}
def rMulT:R2:=fun x y H Q=>∃ (a:Addr) (k:Nat) (xs:List V),x = .ref a∧y = .int (k:Int)∧H a=some (.tup xs)∧xs.length * k ≤ 1000∧k ≤ 1000∧∀ (p:Addr) (H':Hp),Same H H'→H' p=some (.tup (List.replicate k xs).flatten)→Q (.ref p) H'
theorem mulT0:xD X (binaryOp .Mult) rMulT:=by
 intro pins s σ H x y v u Q I rx ry h
 obtain ⟨a,k,xs,rfl,rfl,ha,hz,hk,q⟩:=h
 cases rx
 obtain ⟨t,rfl⟩:=ry
 obtain ⟨its,r,p1,_⟩:=I.tuple (SqT.of ha)
 have hlen:=r.length
 obtain ⟨⟨c1,d1,da1,sl1⟩,e,k1,n1,g1⟩:=id p1
 simp only at k1 g1
 subst k1 g1
 have h1:¬ (decide ((k:Int) < -(2 ^ 63)) || decide ((k:Int) ≥ 2 ^ 63))=true:=by
  rw [Cr,AU,AU]
  omega
 refine wpAny_binaryOp_repeat_ref (T := "tuple") (U := "int") (by decide) ⟨_,e,rfl⟩ (fun s'=>typeIs_int s' (k:Int) t) wX F.fills_int_mul F.slot_int_rmul rJ F.slot_int_index.lookup
  (call_meets F.slot_int_rmul (typeIs_int s (k:Int) t) F.entry_int_rmul (F.args_int_rmul_2 _ _) (iO (k:Int) t a its.toArray n1 d1 sl1) ⟨e,rfl,⟨_,e,rfl⟩,?_⟩)
 by_cases hc:(its.toArray.isEmpty || (k:Int) == 1)=true
 ·refine call_meets BR ⟨_,e,rfl⟩ F.entry_tuple_mul (F.args_tuple_mul_2 _ _) (mul_one a its.toArray n1 d1 sl1 (k:Int) t h1 hc) ⟨e,⟨.ref a,H,I,rfl,q a H (Same.refl H) ?_⟩⟩
  rw [ha]
  congr 2
  rw [Cr] at hc
  rcases hc with hc | hc
  ·have:its=[]:=by simpa using hc
   have:xs=[]:=r.nil_iff.mp this
   subst this
   induction k with
   | zero=>simp
   | succ k ih=>simp
  ·have:k=1:=by have:=eq_of_beq hc;omega
   subst this
   simp
 ·have ne:¬ its.toArray.isEmpty=true:=fun z=>hc (by rw [z];rfl)
  by_cases hk0:k=0
  ·subst hk0
   refine call_meets BR ⟨_,e,rfl⟩ F.entry_tuple_mul (F.args_tuple_mul_2 _ _) (mul_nil a its.toArray n1 d1 sl1 ((0:Nat):Int) t h1 hc (by simp)) ⟨e,?_⟩
   have hf:=I.hok.fresh (Ad s.heap.objs.size)
   refine ⟨.ref s.heap.objs.size,upd H s.heap.objs.size (.tup []),I.laid (t':=s.toks) (fun b o z=>Ac _ z) (Ad _) ⟨Bb _,[],.nil,C0 _ _⟩,rfl,q _ _ (kI hf) ?_⟩
   rw [qG]
   simp
  ·have fl:(List.replicate (k:Int).toNat its.toArray).foldl (· ++ ·) #[] = (List.replicate k its).flatten.toArray:=by
    have:=foldl_rep its k []
    rw [List.nil_append] at this
    rw [Ar]
    exact this
   have lr:(List.replicate k its).flatten.length=k * its.length:=len_rep its k
   have lx:(List.replicate k xs).flatten.length=k * xs.length:=len_rep xs k
   have hsm:k * its.length ≤ 1000:=by rw [← hlen,C9];exact hz
   have cast:((its.toArray.size:Nat):Int) * (k:Int)=((its.length * k:Nat):Int):=by rw [Ah];norm_cast
   have hsm2:its.length * k ≤ 1000:=by rw [C9];exact hsm
   refine call_meets BR ⟨_,e,rfl⟩ F.entry_tuple_mul (F.args_tuple_mul_2 _ _) (oT a its.toArray n1 d1 sl1 (k:Int) t h1 hc ?_ ?_ ?_ ?_) ⟨e,?_⟩
   ·rw [Cr,AU]
    rintro (z | z)
    ·omega
    ·exact ne z
   ·rw [cast];omega
   ·unfold Builtin.Tuple.tupleTooMany
    rw [cast,sizeLine_eq,AU]
    omega
   ·rw [fl,Ah,lr,sizeLine_eq]
    omega
   ·rw [fl]
    have hf:=I.hok.fresh (Ad s.heap.objs.size)
    refine ⟨.ref s.heap.objs.size,upd H s.heap.objs.size (.tup (List.replicate k xs).flatten),I.laid (t':=s.toks) (fun b o z=>Ac _ z) (Ad _) ⟨?_,(List.replicate k its).flatten,?_,C0 _ _⟩,rfl,q _ _ (kI hf) qG⟩
    ·rw [lx,hlen,sizeLine_eq];omega
    ·exact r.rep k
theorem a_rMulT {x y:V}{H:Hp}{Q:VK}:rMulT x y H Q = ∃ (a:Addr) (k:Nat) (xs:List V),x = .ref a∧y = .int (k:Int)∧H a=some (.tup xs)∧xs.length * k ≤ 1000∧k ≤ 1000∧∀ (p:Addr) (H':Hp),Same H H'→H' p=some (.tup (List.replicate k xs).flatten)→Q (.ref p) H':=rfl
end
theorem Box.ne {H:Hp}{p c:Addr}(bx:Box H p)(n:H c=none):p ≠ c:=by
 rintro rfl
 obtain ⟨_,_,_,e⟩:=bx
 rw [n] at e
 cases e
theorem Box.upd {H:Hp}{p c:Addr}{o:HO}(bx:Box H p)(n:p ≠ c):Box (L2.upd H c o) p:=by
 obtain ⟨g,m,z,e⟩:=bx
 exact ⟨g,m,z,by rw [qQ n];exact e⟩
theorem Box.same {H H':Hp}{p:Addr}(bx:Box H p)(s:Same H H'):Box H' p:=by
 obtain ⟨g,m,z,e⟩:=bx
 exact ⟨g,m,z,s _ _ e⟩
section
variable {X:Cx}
def rM:Expr→Bool
 | .Starred _ _=>false
 | _=>true
theorem uX {e:Expr}{es:List Expr}{env:Env}(h:rM e=true):starEach (e :: es) env=(false,eval e env) :: starEach es env:=by
 cases e <;> first | rfl | cases h
theorem qA {e:Expr}{es:List Expr}{te:TE}{t:TA}(ha:PE X e te)(hr:PA X es t)(hp:rM e=true:=by rfl):PA X (e :: es) (sV te t):=tL ha hr (uX hp)
def tDict:TE:=fun _ H Q=>∀ (p:Addr) (H':Hp),H p=none→Same H H'→H' p=some (.dK [])→Q (.ref p) H'
theorem wU {pos:Pos}:PE X (.Dict [] [] pos) tDict:=by
 intro pins s σ H Q I h
 have lt:mainGlobals < s.heap.objs.size:=(I.mod.glob.keeps I.bk).lt
 have big:sysModules < s.heap.objs.size:=Nat.lt_trans (by decide) lt
 have hf:=I.hok.fresh (Ad s.heap.objs.size)
 have ok:ObjOk X.prog X.w (upd H s.heap.objs.size (.dK [])) (s.heap.push { cls:=.type "dict",data:=.dict #[] }) s.heap.objs.size (.dK []):=⟨Bb _,beq_eq_false_iff_ne.mpr (BZ (A3 big)),[],.nil,Heap.DictOf.new s.heap⟩
 exact wpAny_Dict_empty ⟨.ref s.heap.objs.size,_,I.laid (t':=s.toks) (fun _ _ q=>Ac _ q) (Ad _) ok,rfl,h _ _ hf (kI hf) qG⟩
theorem a_tChain {r r':R2}{ta tb tc:TE}{σ:St}{H:Hp}{Q:VK}:tChain r r' ta tb tc σ H Q=ta σ H fun x H1=>tb σ H1 fun y H2=>r x y H2 fun z H3=>∃ k,z = .bl k∧(if k=true then tc σ H3 fun w' H4=>r' y w' H4 Q else Q (.bl false) H3):=rfl
theorem a_tDict {σ:St}{H:Hp}{Q:VK}:tDict σ H Q = ∀ (p:Addr) (H':Hp),H p=none→Same H H'→H' p=some (.dK [])→Q (.ref p) H':=rfl
def iB (t:TA):TE:=fun σ H Q=>t σ H fun xs H1=>xs.length ≤ sizeLine∧∀ (p:Addr) (H2:Hp),H1 p=none→Same H1 H2→H2 p=some (.lst xs)→Q (.ref p) H2
theorem jC {es:List Expr}{t:TA}{pos:Pos}(h:PA X es t):PE X (.List es pos) (iB t):=by
 intro pins s σ H Q I hq
 refine wpAny_List_spliced (jJ (h pos pins s σ H _ I hq) fun us s1 ⟨xs,H1,I1,r,z,q⟩=>⟨r.length ▸ z,?_⟩)
 have nf:=I1.hok.fresh (Ad s1.heap.objs.size)
 exact ⟨.ref s1.heap.objs.size,upd H1 s1.heap.objs.size (.lst xs),I1.laid (t':=s1.toks) (fun b u e=>Ac _ e) (Ad _) ⟨z,us,0,r,Ak _ rfl⟩,rfl,q _ _ nf (kI nf) qG⟩
theorem a_tLstA {t:TA}{σ:St}{H:Hp}{Q:VK}:iB t σ H Q=t σ H fun xs H1=>xs.length ≤ sizeLine∧∀ (p:Addr) (H2:Hp),H1 p=none→Same H1 H2→H2 p=some (.lst xs)→Q (.ref p) H2:=rfl
theorem listA0:j7 X (.type "list") (fun xs H Q=>∃ p ys,xs=[.ref p]∧sq H p=some ys∧∀ (l:Addr) (H2:Hp),H l=none→Same H H2→H2 l=some (.lst ys)→Q (.ref l) H2):=by
 intro pins s σ H xs us Q I r h
 obtain ⟨p,ys,e,hq,q⟩:=h
 exact list0 pins s σ H xs us Q I r ⟨p,ys,e,hq,fun l n=>q l _ n (kI n) qG⟩
end
def eZ (t u:TS):TS:=tSeq t u
theorem qK {X:Cx}{st:Stmt}{sts:List Stmt}{t u:TS}(h:PS X st t)(hs:PSs X sts u):PSs X (st :: sts) (eZ t u):=kE h hs
structure QE (X:Cx)(e:Expr)(t:TE):Prop where
 get:PE X e t
structure QA (X:Cx)(es:List Expr)(t:TA):Prop where
 get:PA X es t
structure QS (X:Cx)(st:Stmt)(t:TS):Prop where
 get:PS X st t
structure QSs (X:Cx)(sts:List Stmt)(t:TS):Prop where
 get:PSs X sts t
section
variable {X:Cx}
theorem jH:QA X [] tNil:=⟨qD⟩
theorem qT {e:Expr}{es:List Expr}{te:TE}{t:TA}(ha:QE X e te)(hr:QA X es t)(hp:rM e=true:=by rfl):QA X (e :: es) (sV te t):=⟨qA ha.get hr.get hp⟩
theorem kD {e:Expr}{te:TE}(h:PE X e te):QE X e te:=⟨h⟩
theorem wM {st:Stmt}{t:TS}(h:PS X st t):QS X st t:=⟨h⟩
theorem wN {es:List Expr}{t:TA}{pos:Pos}(h:QA X es t):QE X (.List es pos) (iB t):=⟨jC h.get⟩
theorem rK {i:Nat}{x:Str}{e:Expr}{te:TE}{pos pos':Pos}(hN:X.N.Nodup)(hi:X.N[i]? = some x)(hx:Loc X.env.scope x)(he:QE X e te)(hs:swapsWith e (some (.Name x pos')) pos.line X.env=pure false:=by rfl)(hf:X.fn x=true∨X.env.scope.names.lookup x=some .local:=by first | exact .inl rfl | exact .inr rfl | assumption):QS X (.Assign [.Name x pos'] e pos) (iC te (j8 i)):=⟨qY hN hi hx he.get hs hf⟩
theorem tI {st:Stmt}{t:TS}(h:QS X st t):QSs X [st] t:=⟨qI h.get⟩
theorem jS {st:Stmt}{sts:List Stmt}{t u:TS}(h:QS X st t)(hs:QSs X sts u):QSs X (st :: sts) (eZ t u):=⟨qK h.get hs.get⟩
end
section
variable {X:Cx}
theorem aM {N:List Str}{fr:List (Option Nat)}{e tg iter:Expr}{ifs:List Expr}{gs:List Comprehension}{sc:Scope}{ip pos':Pos}{cl:List (Str × Addr)}{wi:TI}{D:It→Addr→St→Hp→Prop}{pins:List (Addr × Obj)}{σ:St}{H:Hp}{s:Shared}{Q:VK}{i:Nat}{x:Str}
  (hN:X.N.Nodup) (hix:X.N[i]? = some x) (hx:Loc X.env.scope x) (hf:X.fn x=true∨X.env.scope.names.lookup x=some .local)
  (he:clausesOf e=⟨tg,iter,ifs,0⟩ :: gs) (hi:PI X tg iter wi) (S:CScope X N fr sc) (hcl:xW sc.names X.env.cells [] = some cl) (I:Inv X pins σ H s)
  (h:wi σ H fun J H1=>∀ p,H1 p=none→D J p (pY fr σ) (upd H1 p (.lst [])))
  (loop:∀ (it p:Addr) (fp:List Addr) (tn:Nat→Heap→Prop) (J:It) (s1 s2:Shared) (H1:Hp) (σ1:St),Turn X.prog X.w X.K tg J fp it tn→Inv (fT X N sc cl s1 H1 fp) [] σ1 H1 s2→tn 0 s2.heap→(∀ b ∈ fp,xY (fT X N sc cl s1 H1 fp) [] H1 b)→D J p σ1 H1 →
   codeAny (model X.prog X.w) X.A (.compStart e 0 (.ref it) (.ref p) (compEnvC sc cl s1.heap.objs.size X.env)) (fun r s'=>r = .ok .next∧∃ σ' H',Inv (fT X N sc cl s1 H1 fp) [] σ' H' s'∧Q (.ref p) H') s2)
  (hs:∀ x,foldedSetIterable iter X.env x=pure x) :
  wpAny (model X.prog X.w) X.A (comprehension e sc X.env ip (newList []) false (eval iter X.env) (some (assign (.Name x pos') X.env))) (fun _ s'=>∃ v H',Inv X pins (σ.set i (some v)) H' s'∧Q v H') X.xe s:=by
 refine wpAny_comprehension_free (use:=some (assign (.Name x pos') X.env)) he hs (xU hcl) S.kind S.loc ?_
 refine jJ (hi pins s σ H _ I h) fun v s1 h1=>jJ h1 fun itv s2 ⟨it,fp,tn,J,H2,e2,I2,T,st2,f2,q⟩=>?_
 subst e2
 refine wpAny_newObj_type ?_
 have hp:H2 s2.heap.objs.size=none:=I2.hok.fresh (Ad _)
 have I3:Inv X pins σ (upd H2 s2.heap.objs.size (.lst [])) { s2 with heap:=s2.heap.push { cls:=.type "list",data:=.seq ([] : List Value).toArray },toks:=s2.toks }:=I2.lnew (its:=[]) (ys:=[]) .nil (Bb _)
 have lt2:∀ b ∈ fp,b < s2.heap.objs.size:=fun b hb=>let ⟨o,e,_⟩:=T.obj 0 _ st2 b hb;An e
 have f3:∀ b ∈ fp,xY X pins (upd H2 s2.heap.objs.size (.lst [])) b:=fun b hb=>⟨by rw [qQ (A3 (lt2 b hb))];exact (f2 b hb).1,(f2 b hb).2⟩
 have st3:tn 0 (s2.heap.push { cls:=.type "list",data:=.seq ([] : List Value).toArray }):=T.keep _ _ _ st2 fun b _ o e=>Ac _ e
 refine wpAny_newFunctionEnv S.nocell (by intro y hy;simp at hy) (fun h₁ hns₁ hsb₁=>?_) S.kind
 generalize hs3:({ s2 with heap:=s2.heap.push { cls:=.type "list",data:=.seq ([] : List Value).toArray } }:Shared)=s3 at hns₁ hsb₁ ⊢
 have I3':Inv X pins σ (upd H2 s2.heap.objs.size (.lst [])) s3:=by rw [← hs3];exact I3
 have st3':tn 0 s3.heap:=by rw [← hs3];exact st3
 have lt3:∀ b ∈ fp,b < s3.heap.objs.size:=fun b hb=>let ⟨o,e,_⟩:=T.obj 0 _ st3' b hb;An e
 have hk:∀ b u,s3.heap.get? b=some u→h₁.get? b=some u:=fun b u e=>hsb₁.extBut b u (A3 (An e)) (Ac _ e)
 have hns:h₁.Ns s3.heap.objs.size (fun _=>none):=by simpa using hns₁
 have B:=I3'.block (N:=N) (fr:=fr) (sc:=sc) (cl:=cl) (ex:=fp) (h1:=h₁) (tk:=s3.toks + ([] : List (Str × Value)).length) S hcl (fun b hb=>⟨f3 b hb,lt3 b hb⟩) hns hk
 have stB:tn 0 h₁:=T.keep _ _ _ st3' fun b _ o e=>hk b o e
 have fC:xY X pins (upd H2 s2.heap.objs.size (.lst [])) s3.heap.objs.size:=I3'.fpOk (Ad _) (I3'.hok.fresh (Ad _))
 refine codeAny_mono (loop it s2.heap.objs.size fp tn J s3 _ (upd H2 s2.heap.objs.size (.lst [])) (pY fr σ) T B stB (fun b hb=>?_) (q _ hp)) fun r s' hr=>?_
 ·obtain ⟨f0,f1,f2',f3',f4,f5⟩:=f3 b hb
  refine ⟨f0,A3 (lt3 b hb),fun z=>?_,.inl hb,fun x c e=>f4 x c (jE hcl e),fun p hp'=>absurd (show p ∈ ([] : List (Addr × Obj)) from hp') (by simp)⟩
  rcases A2.mp (I3'.stkSub b z) with e | e
  ·exact f1 e
  ·exact f2' e
 ·obtain ⟨rfl,σ',H',J',q'⟩:=hr
  have I5:Inv X pins σ H' s':=I3'.unblock (h':=s'.heap) J' f3 ⟨rfl,fun _ _=>rfl⟩
  show wpAny _ X.A (assign (.Name x pos') X.env (.ref s2.heap.objs.size)) _ X.xe s'
  refine wpAny_assign_Name (cA (v:=.ref s2.heap.objs.size) I5 hN hix hx rfl (fun s4 I6 ⟨a,sb,ha⟩=>?_) hf)
  obtain ⟨m,hn,_⟩:=J'.loc
  have free:H' s3.heap.objs.size=none:=J'.free
  obtain ⟨g0,g1,g2,g3,g4,g5⟩:=fC
  have aC:s3.heap.objs.size ≠ a:=by
   rcases ha with rfl | ha
   ·exact g1
   ·exact fun z=>g4 x a ha z.symm
  refine ⟨m,hn.sameBut sb aC,fun h' sb'=>⟨.ref s2.heap.objs.size,H',?_,q'⟩⟩
  refine I6.turnedN (fp:=[s3.heap.objs.size]) (fun b hb=>?_) fun c o hc e=>sb'.extBut _ _ (fun z=>hc (A5.mpr z)) e
  have eb:b=s3.heap.objs.size:=by simpa using hb
  subst eb
  exact ⟨free,g1,g2,g3,g4,g5⟩
theorem lL {N:List Str}{fr:List (Option Nat)}{tg iter elt:Expr}{ifs:List Expr}{sc:Scope}{pos pos' cpos:Pos}{cl:List (Str × Addr)}{wi:TI}{g:TG}{tc:TT}{te:TE}{i:Nat}{x:Str}(hN:X.N.Nodup)(hix:X.N[i]? = some x)(hx:Loc X.env.scope x)
  (hc:X.calm=true) (hi:PI X tg iter wi) (S:CScope X N fr sc) (hcl:xW sc.names X.env.cells [] = some cl)
  (hb:∀ s H ex,PG (fT X N sc cl s H ex) tg g∧pW (fT X N sc cl s H ex) ifs tc∧PE (fT X N sc cl s H ex) elt te) (hsw:swapsWith (.ListComp elt [⟨tg,iter,ifs,0⟩] sc cpos) (some (.Name x pos')) pos.line X.env=pure true:=by rfl)
  (hs:∀ x,foldedSetIterable iter X.env x=pure x:=by intro _;rfl) (hf:X.fn x=true∨X.env.scope.names.lookup x=some .local:=by first | exact .inl rfl | exact .inr rfl | assumption) :
  PS X (.Assign [.Name x pos'] (.ListComp elt [⟨tg,iter,ifs,0⟩] sc cpos) pos) (iC (tLC fr wi g tc te) (j8 i)):=by
 intro pins s σ H D I h
 rw [exec_Assign_Name_used _ _ _ _ hsw]
 refine wpAny_bind (wpAny_standAt (wpAny_bind ?_))
 show wpAny _ X.A (do let _ ← comprehension (.ListComp elt [⟨tg,iter,ifs,0⟩] sc cpos) sc X.env _ (newList []) false (eval iter X.env) (some (assign (.Name x pos') X.env))) _ _ s
 refine wpAny_bind (jJ (aM (Q:=fun v H2=>D.nx (σ.set i (some v)) H2) (D:=fun J p σ1 H1=>nZ J g tc (xF p te) (fun _ H2=>D.nx (σ.set i (some (.ref p))) H2) σ1 H1) hN hix hx hf rfl hi S hcl I h (fun it p fp tn J s1 s2 H1 σ1 T B st f d=>?_) hs) fun _ s' ⟨v,H',I',q'⟩=>wpAny_pure (wpAny_pure ⟨_,H',I',q'⟩))
 obtain ⟨hg,hifs,helt⟩:=hb s1 H1 fp
 have L:=vS (X:=fT X N sc cl s1 H1 fp) (e:=.ListComp elt [⟨tg,iter,ifs,0⟩] sc cpos) (d:=0) (acc:=.ref p) (D:=fun _ H2=>D.nx (σ.set i (some (.ref p))) H2) (s:=s2) hc rfl (compTurn_list elt tg iter ifs sc cpos (.ref it) (.ref p) _) rfl rfl rfl T hg hifs (mY helt) B st f d
 exact codeAny_compStart_list L (T.self X.A 0 s2 _ _ st L)
end
theorem dG:bootBuiltins "enumerate" = some (.type "enumerate"):=by decide +kernel
def Itr1 (h:Heap)(c:String)(it l:Addr)(k:Nat):Prop:=(c = "list_iterator" ∧ h.IsListIter it l k)∨(c = "tuple_iterator" ∧ h.IsTupleIter it l k)
theorem cZ {prog:Program}{w:World}{A:Around}(hh:A.handled=none)(c:String)(it l:Addr)(ne:l ≠ it)(xs:Array Value):Draws prog w A it [it,l] xs.size (fun i v=>xs[i]? = some v) (fun i h=>Src h c it l xs i) where
 live:=fun _ _ st=>let ⟨o,ho,_⟩:=st.itlt;⟨o,ho⟩
 frame:=fun _ _ _ st hk=>st.at (fun o e=>hk it (by simp) o e) fun o e=>hk l (by simp) o e
 item:=fun i s Q E hi st hQ=>yQ st ne (x:=xs[i]) (by simp [hi]) fun h' st' sb=>hQ _ h' s.toks (by simp [hi]) st' sb
 done:=fun s Q E st hE=>wW hh st (by simp) hE
theorem aZ (l:Addr)(items:Array Value)(n:Nat)(dct:Option Addr)(sl:Array (Option Value)) :
  Meets (Builtin.«enumerate.__new__» ⟨[.type "enumerate",.ref l],[]⟩) (fun _ R s=>s.heap.get? l=some { cls:=.type "tuple",dict:=dct,data:=.seq items n,slots:=sl }∧R (.ok (.ret (.ref (s.heap.push { cls:=.type "tuple_iterator",data:=.fields #[.ref l,.int 0 0] }).objs.size)))
    { s with heap:=(s.heap.push { cls:=.type "tuple_iterator",data:=.fields #[.ref l,.int 0 0] }).push { cls:=.type "enumerate",data:=.fields #[.none,.bool false,.ref s.heap.objs.size,rawInt 0,.none,.none] } }) :=
 .of_wp fun prog w A R s h=>by
  obtain ⟨hp,g,d,tk,os⟩:=s
  obtain ⟨hl,h⟩:=h
  have sub:=sub_enumerate
  have isT:Heap.IsTuple (Shared.heap ⟨hp,g,d,tk,os⟩) l items:=⟨_,hl,rfl,n,rfl⟩
  wp_walk using Bk hl
  refine wpAny_stack_any fun st=>wpAny_pure ?_
  split
  ·rename_i c _ _ _ _ _
   cases (c == Value.type "enumerate") <;> (wp_walk using Bk hl,wpAny_pyIter_tuple isT;exact ⟨_,rfl,h⟩)
  ·wp_walk using Bk hl,wpAny_pyIter_tuple isT
   exact ⟨_,rfl,h⟩
section
variable {prog:Program}{w:World}{A:Around}{E:Value→Shared→Prop}{s:Shared}
theorem eC {c:String}{l:Addr}{xs:Array Value}{Q:Value→Shared→Prop}(x:SeqOf s.heap c l xs)
  (h:∀ h',IsEnum h' (s.heap.objs.size + 1) s.heap.objs.size 0 .none→Itr1 h' c s.heap.objs.size l 0→(∀ b o,s.heap.get? b=some o→h'.get? b=some o)→Q (.ref (s.heap.objs.size + 1)) { s with heap:=h' }):wpAny (model prog w) A (call (.type "enumerate") [.ref l]) Q E s:=by
 rcases x with ⟨rfl,x⟩ | ⟨rfl,x⟩
 ·exact call_enumerate_list x fun h' he hi _ k=>h h' he (.inl ⟨rfl,hi⟩) k
 ·obtain ⟨⟨c,dct,dt,sl⟩,hl,hc,n,hd⟩:=x
  cases (show c = .type "tuple" from hc)
  cases (show dt = .seq xs n from hd)
  refine callType_new F.called_enumerate (by decide) (F.typeCall_enumerate_1 _) (F.newCall_enumerate_1 _) (fun obj=>F.args_object_init_2 obj _) F.entry_enumerate_new (aZ l xs n dct sl) ⟨hl,?_⟩
  have size1:(s.heap.push { cls:=.type "tuple_iterator",data:=.fields #[.ref l,.int 0 0] }).objs.size=s.heap.objs.size + 1:=AN ..
  show _∧_
  rw [size1]
  have made:=Ak (s.heap.push { cls:=.type "tuple_iterator",data:=.fields #[.ref l,.int 0 0] }) (o:={ cls:=.type "enumerate",data:=.fields #[.none,.bool false,.ref s.heap.objs.size,rawInt 0,.none,.none] }) rfl
  rw [size1] at made
  exact ⟨⟨_,made,rfl⟩,h _ made (.inr ⟨rfl,_,Ac _ (Ak _ rfl),rfl,rfl⟩) fun b o z=>Ac _ (Ac _ z)⟩
end
def Ite (c:String)(l:Addr)(xs:List V):It:=⟨fun i H=>dN H c l xs∧i < xs.length,fun i H x H'=>∃ T v,x = .ref T∧H T=none∧H'=upd H T (.tup [.int (i:Int),v])∧xs[i]? = some v,fun i H=>dN H c l xs∧i=xs.length⟩
theorem uQ {P:Program}{w:World}{K:PySem.W.Frag}{es:List Expr}{tk:_}{tp:Pos}(e it l:Addr)(c:String)(xs:List V)(hei:e ≠ it)(hle:l ≠ e)(hli:l ≠ it) :
  Turn P w K (.Tuple es tk tp) (Ite c l xs) [e,it] e (fun i h=>(∃ old,IsEnum h e it (i:Int) old)∧Itr1 h c it l i) where
 mem:=by simp
 obj:=fun i h st b hb=>by
  obtain ⟨⟨old,he⟩,hi⟩:=st
  simp only [A2,Bh,or_false] at hb
  rcases hb with rfl | rfl
  ·exact ⟨_,he,fun v q=>by cases (show Data.fields _=Data.cell v from q)⟩
  ·exact d4 hi
 keep:=fun i h h' st k=>by
  obtain ⟨⟨old,he⟩,hi⟩:=st
  exact ⟨⟨old,k e (by simp) _ he⟩,xR hi fun o q=>k it (by simp) o q⟩
 item:=by
  intro X hP hw hK hc i pins s σ H E I hf st hg
  subst hP hw hK
  obtain ⟨q1,hi1⟩:=hg
  obtain ⟨its,r1,e1⟩:=I.seqOf q1
  obtain ⟨x,hx⟩:=yW hi1
  obtain ⟨u,hu,ru⟩:=r1.get hx
  obtain ⟨⟨old,he⟩,hi⟩:=id st
  have hl:=r1.length
  have hlt:i < its.toArray.size:=by rw [Ah,← hl];exact hi1
  refine wpAny_pyNext_enum_itemD (cZ (A:=X.A.in1) (I.ok.hd hc) c it l hli its.toArray) he (zV hi e1) hlt hei (by simp;exact ⟨hei,hle.symm⟩) fun y h' tk' hy out st' new size k=>?_
  have yu:y=u:=by
   have hu':its.toArray[i]? = some u:=by simpa using hu
   have hy':its.toArray[i]? = some y:=hy
   rw [hu'] at hy'
   exact (A8 hy').symm
  subst yu
  refine ⟨_,rfl,wpAny_letOwnedTupleGo_enum out fun h'' z'' sb=>?_⟩
  have lt:∀ b ∈ [e,it],b < s.heap.objs.size:=fun b hb=>by
   simp only [A2,Bh,or_false] at hb
   rcases hb with rfl | rfl
   ·exact An he
   ·obtain ⟨o,q,_⟩:=d4 hi;exact An q
  have nT:s.heap.objs.size ∉ [e,it]:=fun hb=>AJ _ (lt _ hb)
  have nTe:s.heap.objs.size ≠ e:=fun q=>nT (by simp [q])
  have J:=I.turnedT (fp:=[e,it]) (h':=h'') (T:=s.heap.objs.size) (xs:=[.int (i:Int),x]) (us:=[.int i tk',y]) (t':=tk' + 1) hf (fun b o hb q=>sb.extBut _ _ (fun z=>hb (by simp [z])) (k b o (fun z=>hb (by simp [z])) (fun z=>hb (by simp [z])) q)) (Ad _) (by show 2 ≤ sizeLine;decide) (.cons ⟨tk',rfl⟩ (.cons ru .nil))
   ⟨_,sb.extBut _ _ nTe new,rfl,_,rfl⟩ nT
  refine ⟨.ref s.heap.objs.size,_,J,rfl,⟨_,x,rfl,I.hok.fresh (Ad _),rfl,hx⟩,⟨⟨y,z''⟩,xR (yP st') fun o q=>sb.extBut _ _ hei.symm q⟩,fun b hb=>?_⟩
  rw [qQ (A3 (lt b hb))]
  exact (hf b hb).1
 done:=by
  intro X hP hw hK hc i pins s σ H E I hf st hg
  subst hP hw hK
  obtain ⟨q1,hend⟩:=hg
  obtain ⟨its,r1,e1⟩:=I.seqOf q1
  obtain ⟨⟨old,he⟩,hi⟩:=id st
  have hl:=r1.length
  have si:Src s.heap c it l its.toArray its.toArray.size:=by
   have:=zV hi e1
   rw [hend,hl] at this
   simpa using this
  refine wpAny_pyNext_enum_endD (cZ (A:=X.A.in1) (I.ok.hd hc) c it l hli its.toArray) he si fun h' k=>?_
  exact ⟨rfl,I.turnedN (fp:=[e,it]) hf fun b o hb q=>k b o (fun z=>hb (by simp [z])) q⟩
 self:=fun A i s Q E st h=>by
  obtain ⟨⟨old,he⟩,hi⟩:=st
  exact wpAny_pyIter_enum he h
section
variable {X:Cx}
def iEnum (ta:TA):TI:=fun σ H R=>ta σ H fun vs H1=>∃ l c xs,vs=[.ref l]∧dN H1 c l xs∧R (Ite c l xs) H1
theorem g7 {es:List Expr}{kk:_}{tp:Pos}{a:Expr}{ta:TA}{p pos:Pos}(hg:Gl X "enumerate") (hm:X.mg "enumerate" = none) (ha:PA X [a] ta) (hs:starEach [a] X.env=[(false,eval a X.env)]:=by rfl):PI X (.Tuple es kk tp) (.Call (.Name "enumerate" p) [a] [] pos) (iEnum ta):=by
 intro pins s σ H R I h
 refine Call_ (vH I hg hm dG (Be (jJ (ha pos pins s σ H _ I h) fun us s1 ⟨vs,H1,I1,r1,q1⟩=>?_) hs rfl))
 obtain ⟨l,c,xs,e,k1,q⟩:=q1
 subst e
 obtain ⟨u,rfl,ru⟩:=r1.one
 cases ru
 obtain ⟨its,v1,o1⟩:=I1.seqOf k1
 have lt1:(l:Nat) < (s1.heap.objs.size:Nat):=o1.lt
 refine eC o1 fun h' he hi old=>wpAny_pyIter_enum he ?_
 have J:Inv X pins σ H1 { s1 with heap:=h' }:=I1.kept (t':=s1.toks) old
 refine ⟨s1.heap.objs.size + 1,_,_,_,H1,rfl,J,uQ (s1.heap.objs.size + 1) s1.heap.objs.size l c xs (Nat.succ_ne_self _) (A3 (Ce lt1)) (A3 lt1),⟨⟨_,he⟩,hi⟩,fun b hb=>?_,q⟩
 have hb':s1.heap.objs.size ≤ b:=by
  simp only [A2,Bh,or_false] at hb
  rcases hb with rfl | rfl <;> omega
 exact I1.fpOk hb' (I1.hok.fresh hb')
theorem a_iEnum {ta:TA}{σ:St}{H:Hp}{R:It→Hp→Prop}:iEnum ta σ H R=ta σ H fun vs H1=>∃ l c xs,vs=[.ref l]∧dN H1 c l xs∧R (Ite c l xs) H1:=rfl
end
theorem uF {c:String}{l:Addr}{xs:List V}{g:TG}{tc:TT}{tb:TB}{D:St→Hp→Prop}{σ:St}{H:Hp}(Pv:Nat→St→Hp→Prop)(h0:Pv 0 σ H)(hl:∀ i σ H,Pv i σ H→dN H c l xs)
  (hs:∀ (i:Nat) v (T:Addr) σ H H',xs[i]? = some v→Pv i σ H→H T=none→Same H H'→H' T=some (.tup [.int (i:Int),v])→g (.ref T) σ H' fun σ2 H2=>tc σ2 H2 fun b H3=>if b=true then tb σ2 H3 (Pv (i + 1)) else Pv (i + 1) σ2 H3)
  (hd:∀ σ H,Pv xs.length σ H→D σ H):nZ (Ite c l xs) g tc tb D σ H:=by
 refine ⟨fun i m σ H=>m=xs.length - i∧i ≤ xs.length∧Pv i σ H,⟨xs.length,by simp,Bb _,h0⟩,?_⟩
 rintro i m σ H ⟨rfl,hi,p⟩
 have q:=hl i σ H p
 by_cases hlt:i < xs.length
 ·refine .inr ⟨⟨q,hlt⟩,Pv (i + 1),fun σ' H' p'=>⟨xs.length - (i + 1),by omega,rfl,hlt,p'⟩,fun x H' y=>?_⟩
  obtain ⟨T,v,rfl,n,rfl,e⟩:=y
  exact hs i v T σ H _ e p n (kI n) qG
 ·have e:i=xs.length:=by omega
  subst e
  exact .inl ⟨⟨q,rfl⟩,hd σ H p⟩
theorem nK {c:String}{l:Addr}{xs:List V}{g:TG}{tb:TS}{D:Ends}{σ:St}{H:Hp}(Pv:Nat→St→Hp→Prop)(h0:Pv 0 σ H)(hl:∀ i σ H,Pv i σ H→dN H c l xs)
  (hs:∀ (i:Nat) v (T:Addr) σ H H',xs[i]? = some v→Pv i σ H→H T=none→Same H H'→H' T=some (.tup [.int (i:Int),v])→g (.ref T) σ H' fun σ2 H2=>tb { D with nx:=Pv (i + 1),ct:=Pv (i + 1),bk:=D.nx } σ2 H2)
  (hd:∀ σ H,Pv xs.length σ H→D.nx σ H):FL (Ite c l xs) g tb D σ H:=by
 refine ⟨fun i m σ H=>m=xs.length - i∧i ≤ xs.length∧Pv i σ H,⟨xs.length,by simp,Bb _,h0⟩,?_⟩
 rintro i m σ H ⟨rfl,hi,p⟩
 have q:=hl i σ H p
 by_cases hlt:i < xs.length
 ·refine .inr ⟨⟨q,hlt⟩,Pv (i + 1),fun σ' H' p'=>⟨xs.length - (i + 1),by omega,rfl,hlt,p'⟩,fun x H' y=>?_⟩
  obtain ⟨T,v,rfl,n,rfl,e⟩:=y
  exact hs i v T σ H _ e p n (kI n) qG
 ·have e:i=xs.length:=by omega
  subst e
  exact .inl ⟨⟨q,rfl⟩,hd σ H p⟩
def tCalK (sp:Sp)(gV:List V→List V)(tk:TA):TE:=fun σ H Q=>tk σ H fun zs H2=>sp (gV zs) H2 Q E0
section
variable {X:Cx}
theorem a_tCalK {sp:Sp}{gV:List V→List V}{tk:TA}{σ:St}{H:Hp}{Q:VK}:tCalK sp gV tk σ H Q=tk σ H fun zs H2=>sp (gV zs) H2 Q E0:=rfl
end
def g1 {α:Type}:List α→List α
 | [a]=>[a]
 | _=>[]
def g2 {α:Type}:List α→List α
 | [a,b]=>[a,b]
 | _=>[]
def g2r {α:Type}:List α→List α
 | [a,b]=>[b,a]
 | _=>[]
theorem gL {P:Program}{w:World}{K:PySem.W.Frag}{mg:Str→Option Value}{base:Heap}{x:Str}{st:Stmt}{f:Addr}{fd:FuncData}{ps:List Str}{k:Nat}{sp:Sp}(F:Fun K x x st f fd)(ok:FnOk P w K mg base CX0 k f fd ps sp)(hm:mg x=some (.ref f))(hb:Binds K fd ps []):Cal P w K mg base x ps k sp:=⟨f,fd,ok,hm,F.kp,hb⟩
section
variable {X:Cx}
theorem dD {pins:List (Addr × Obj)}{σ:St}{H:Hp}{s:Shared}{A:Around}{a b:Addr}{ns ms:List Int}(I:Inv X pins σ H s)(ha:H a=some (.tup (ns.map V.int)))(hb:H b=some (.tup (ms.map V.int)))(hu:A.units < cLine):SeqAt.EqAt A s (.ref a) (.ref b) (decide (ns=ms)):=by
 by_cases hab:a=b
 ·subst hab
  rw [ha] at hb
  have e:ns.map V.int=ms.map V.int:=by injection hb with h;injection h
  have:ns=ms:=BF (fun _ _ h=>by injection h) |>.mp e
  rw [A0 this]
  exact Ca _
 ·obtain ⟨its,its2,p1,p2,l1,l2,he⟩:=sQ I ha hb
  have r:=SeqAt.RcAt.tuples (A:=A) (s:=s) (show s.heap.IsTuple a its.toArray from p1) (show s.heap.IsTuple b its2.toArray from p2) hu (fun j h1 h2=>he _ j h1 h2)
  rw [Ah,Ah,l1,l2,bD] at r
  exact Cb hab r
def rNePP:R2:=fun x y H Q=>∃ (a b a1 a2 b1 b2:Addr) (n1 n2 m1 m2:List Int),x = .ref a∧y = .ref b∧H a=some (.tup [.ref a1,.ref a2])∧H b=some (.tup [.ref b1,.ref b2])∧H a1=some (.tup (n1.map V.int))∧H a2=some (.tup (n2.map V.int))∧H b1=some (.tup (m1.map V.int))∧H b2=some (.tup (m2.map V.int))∧Q (.bl (!(decide (n1=m1) && decide (n2=m2)))) H
theorem a_rNePP {x y:V}{H:Hp}{Q:VK}:rNePP x y H Q = ∃ (a b a1 a2 b1 b2:Addr) (n1 n2 m1 m2:List Int),x = .ref a∧y = .ref b∧H a=some (.tup [.ref a1,.ref a2])∧H b=some (.tup [.ref b1,.ref b2])∧H a1=some (.tup (n1.map V.int))∧H a2=some (.tup (n2.map V.int))∧H b1=some (.tup (m1.map V.int))∧H b2=some (.tup (m2.map V.int))∧Q (.bl (!(decide (n1=m1) && decide (n2=m2)))) H:=rfl
end
section
variable {X:Cx}
def tPop0 (to:TE)(t:TA):TE:=fun σ H Q=>to σ H fun x H1=>∃ l xs0,x = .ref l∧H1 l=some (.lst xs0)∧t σ H1 fun vs H2=>∃ (y:V) (ys:List V),vs=[.int 0]∧H2 l=some (.lst (y :: ys))∧Q y (upd H2 l (.lst ys))
theorem pe_pop0 {o e:Expr}{to:TE}{t:TA}{apos cpos:Pos}(ho:PE X o to)(ha:PA X [e] t)(hbase:attributeBase o "pop" X.env (eval o X.env)=eval o X.env:=by rfl)
  (hfew:((backTo cpos (starEach [e] X.env)).all (fun x=>!x.1) && (backToKw cpos (keywordEach [] X.env)).all (fun x=>x.1.isSome) && decide ([e].length + ([] : List Keyword).length + (if ([] : List Keyword).isEmpty then 0 else 1) < 30))=true:=by rfl)
  (hline:(apos.endLine == cpos.line)=true:=by rfl) (hs:starEach [e] X.env=(false,eval e X.env) :: starEach [] X.env:=by rfl):PE X (.Call (.Attribute o "pop" apos) [e] [] cpos) (tPop0 to t):=by
 intro pins s σ H Q I h
 refine wpAny_Call_method_late hbase hfew hline rfl (jJ (ho pins s σ H _ I h) fun v s1 ⟨x,H1,I1,r1,q1⟩=>?_)
 obtain ⟨l,xs0,rfl,hl,q1⟩:=q1
 have ty:tyV X.K "list" (.ref l) H1:=.inl ⟨rfl,_,SqL.of hl⟩
 obtain ⟨h1,h2⟩:=eR I1 r1 ty
 refine ⟨"list", "list.pop",PySem.F.plainAttrs_list,PySem.F.slot_list_pop,PySem.F.type_list_pop,h1,h2,?_⟩
 have hA:=ha cpos pins s1 σ H1 _ I1 q1
 rw [hs] at hA ⊢
 refine Calls.callWith_builtin (by rfl) (Calls.evalArgs_plain ?_)
 exact jJ hA fun us s2 ⟨vs,H2,I2,r2,y,ys,e,k,q⟩=>oU pins s2 σ H2 (.ref l) vs v us Q I2 r1 r2 ⟨l,y :: ys,0,0,y,rfl,e,k,by decide,by decide,by simp [seqIndex?],rfl,q⟩
theorem a_tPop0 {to:TE}{t:TA}{σ:St}{H:Hp}{Q:VK}:tPop0 to t σ H Q=to σ H fun x H1=>∃ l xs0,x = .ref l∧H1 l=some (.lst xs0)∧t σ H1 fun vs H2=>∃ (y:V) (ys:List V),vs=[.int 0]∧H2 l=some (.lst (y :: ys))∧Q y (upd H2 l (.lst ys)):=rfl
theorem listS0:j7 X (.type "list") (fun xs H Q=>∃ p ys,xs=[.ref p]∧SqL X.K H p ys∧∀ (l:Addr) (H2:Hp),H l=none→Same H H2→H2 l=some (.lst ys)→Q (.ref l) H2):=by
 intro pins s σ H xs us Q I r h
 obtain ⟨p,ys,e,hq,q⟩:=h
 exact dF pins s σ H xs us Q I r ⟨p,ys,e,.inl hq,fun l n=>q l _ n (kI n) qG⟩
end
def g3r {α:Type}:List α→List α
 | [a,b,c]=>[c,b,a]
 | _=>[]
theorem g3r_is {α:Type}{a b c:α}:g3r [a,b,c] = [c,b,a]:=rfl
theorem g2r_is {α:Type}{a b:α}:g2r [a,b] = [b,a]:=rfl
theorem g2_is {α:Type}{a b:α}:g2 [a,b] = [a,b]:=rfl
theorem g1_is {α:Type}{a:α}:g1 [a] = [a]:=rfl
section
variable {X:Cx}
def iS0 (tl:TE):TI:=fun σ H R=>tl σ H fun x H1=>∃ a xs o,x = .ref a∧(o=HO.tup xs∨o=HO.lst xs)∧H1 a=some o∧R (sL (fun H=>H a=some o) xs) H1
theorem pi_s0 {tg l:Expr}{tl:TE}(hl:PE X l tl):PI X tg l (iS0 tl):=by
 intro pins s σ H R I h
 refine jJ (hl pins s σ H _ I h) fun v s1 ⟨x,H1,I1,r1,q1⟩=>?_
 obtain ⟨a,xs,o,e,ho,hq,q⟩:=q1
 subst e
 cases r1
 rcases ho with rfl | rfl
 ·skip
  obtain ⟨its,rv,p,hz⟩:=I1.tuple (SqT.of hq)
  refine wpAny_pyIter_tuple (show s1.heap.IsTuple a its.toArray from p) ?_
  refine ⟨s1.heap.objs.size,[s1.heap.objs.size],_,_,H1,rfl,I1.kept (t':=s1.toks) fun b o e=>Ac _ e,(fW a _).weak (J':=sL (fun H=>H a=some (.tup xs)) xs) (fun i H ⟨k,hi⟩=>?_) (fun i H ⟨k,hi⟩=>⟨xs,SqT.of k,hi⟩) (fun i H x H' ⟨k,hi⟩ ⟨y1,y2⟩=>⟨y1,y2 xs (SqT.of k)⟩),⟨_,Ak _ rfl,rfl,rfl⟩,fun b hb=>?_,q⟩
  ·obtain ⟨x,hx⟩:=yW hi
   exact ⟨xs,x,SqT.of k,hx⟩
  ·have e:b=s1.heap.objs.size:=by simpa using hb
   subst e
   exact I1.fpOk (Ad _) (I1.hok.fresh (Ad _))
 ·skip
  obtain ⟨its,rv,p,hz⟩:=I1.list (SqL.of hq)
  refine wpAny_pyIter_list p.isList ?_
  refine ⟨s1.heap.objs.size,[s1.heap.objs.size],_,_,H1,rfl,I1.kept (t':=s1.toks) fun b o e=>Ac _ e,(bV a _).weak (J':=sL (fun H=>H a=some (.lst xs)) xs) (fun i H ⟨k,hi⟩=>?_) (fun i H ⟨k,hi⟩=>⟨xs,SqL.of k,hi⟩) (fun i H x H' ⟨k,hi⟩ ⟨y1,y2⟩=>⟨y1,y2 xs (SqL.of k)⟩),⟨_,Ak _ rfl,rfl,rfl⟩,fun b hb=>?_,q⟩
  ·obtain ⟨x,hx⟩:=yW hi
   exact ⟨xs,x,SqL.of k,hx⟩
  ·have e:b=s1.heap.objs.size:=by simpa using hb
   subst e
   exact I1.fpOk (Ad _) (I1.hok.fresh (Ad _))
theorem a_iS0 {tl:TE}{σ:St}{H:Hp}{R:It→Hp→Prop}:iS0 tl σ H R=tl σ H fun x H1=>∃ a xs o,x = .ref a∧(o=HO.tup xs∨o=HO.lst xs)∧H1 a=some o∧R (sL (fun H=>H a=some o) xs) H1:=rfl
end
section
variable {X:Cx}
def tRevL (te:TE):TE:=fun σ H Q=>te σ H fun x H1=>∃ a xs,x = .ref a∧H1 a=some (.lst xs)∧∀ (p:Addr) (H':Hp),H1 p=none→Same H1 H'→H' p=some (.lst xs.reverse)→Q (.ref p) H'
theorem pe_revL {e m:Expr}{te tm:TE}{pos p2:Pos}(he:PE X e te)(hm:PE X m tm)(hv:∀ σ H (Q:VK),Q (.int (-1)) H→tm σ H Q):PE X (.Subscript e (.Slice none none (some m) p2) pos) (tRevL te):=by
 intro pins s σ H Q I h
 refine Subscript_ (jJ (he pins s σ H _ I h) fun v s1 ⟨x,H1,I1,r1,q1⟩=>?_)
 refine wpAny_Slice ?_
 rw [evalPart_none]
 refine wpAny_pure (wpAny_pure ?_)
 rw [evalPart_some]
 refine jJ (hm pins s1 σ H1 (fun x H2=>x = .int (-1)∧H2=H1) I1 (hv _ _ _ ⟨rfl,rfl⟩)) fun vu s3 ⟨y,H3,I3,r3,e3,e4⟩=>?_
 subst e3 e4
 obtain ⟨tk,rfl⟩:=r3
 obtain ⟨a,xs,rfl,hx,q⟩:=q1
 cases r1
 have I4:Inv X pins σ H3 { s3 with heap:=s3.heap.push { cls:=.type "slice",data:=.fields #[.none,.none,.int (-1) tk] } }:=I3.kept (t':=s3.toks) fun b ob q=>Ac _ q
 obtain ⟨its,r,ht,hz⟩:=I4.list (SqL.of hx)
 have hlen:its.toArray.size=xs.length:=by rw [Ah];exact r.length.symm
 show wpAny (model X.prog X.w) X.A (subscriptTail e (.Slice none none (some m) p2) (.ref a) (.ref s3.heap.objs.size)) (EP X pins σ Q) X.xe { s3 with heap:=s3.heap.push { cls:=.type "slice",data:=.fields #[.none,.none,.int (-1) tk] } }
 refine tail_any (ops:=[.ref a,.ref s3.heap.objs.size]) ht.isList.typeIs slot_list_getitem.lookup (wpAny_getItem_list_slice ht.isList (Heap.IsSliceOf.new ..) .none .none (IsPart.int _ _) (by decide) ?_ (by rw [hlen];exact hz)) (by with_unfolding_all rfl)
 rw [PySem.W.krv_pick]
 have hf:=I4.hok.fresh (Ad _)
 refine ⟨.ref _,_,I4.laid (t':=s3.toks) (o:=.lst xs.reverse) (fun b ob q=>Ac _ q) (Ad _) ?_,rfl,q _ _ hf (kI hf) qG⟩
 exact ⟨by rw [List.length_reverse];exact hz,its.reverse,0,r.reverse,Ak _ rfl⟩
theorem a_tRevL {te:TE}{σ:St}{H:Hp}{Q:VK}:tRevL te σ H Q=te σ H fun x H1=>∃ a xs,x = .ref a∧H1 a=some (.lst xs)∧∀ (p:Addr) (H':Hp),H1 p=none→Same H1 H'→H' p=some (.lst xs.reverse)→Q (.ref p) H':=rfl
end
section
variable {X:Cx}
def iU:R2:=fun x y H Q=>∃ (l b:Addr) (xs:List V),x = .ref l∧y = .ref b∧H l=some (.lst xs)∧H b=some (.lst [])∧Q (.bl xs.isEmpty) H
theorem eqNil0 (hu:X.A.units < cLine):xD X (compareOp .Eq) iU:=by
 intro pins s σ H x y v u Q I rx ry h
 obtain ⟨l,b,xs,rfl,rfl,hl,hb,q⟩:=h
 cases rx
 cases ry
 obtain ⟨its,r1,p1,_⟩:=I.list (SqL.of hl)
 obtain ⟨its2,r2,p2,_⟩:=I.list (SqL.of hb)
 have l1:=r1.length
 have l2:=r2.length
 have e2:its2=[]:=List.length_eq_zero_iff.mp (by simpa using l2.symm)
 subst e2
 cases xs with
 | nil =>
  have e1:its=[]:=List.length_eq_zero_iff.mp (by simpa using l1.symm)
  subst e1
  refine SeqAt.eq_listAt (e:=fun _=>true) p1.isList p2.isList rfl hu (fun j h1 _=>absurd h1 (by simp)) ?_
  exact ⟨.bl true,H,I,rfl,q⟩
 | cons z zs =>
  refine SeqAt.eq_list_lengthsAt p1.isList p2.isList ?_ hu ?_
  ·have:its.length ≠ 0:=by rw [← l1];simp
   simpa using this
  ·exact ⟨.bl false,H,I,rfl,q⟩
theorem a_rEqNil {x y:V}{H:Hp}{Q:VK}:iU x y H Q = ∃ (l b:Addr) (xs:List V),x = .ref l∧y = .ref b∧H l=some (.lst xs)∧H b=some (.lst [])∧Q (.bl xs.isEmpty) H:=rfl
def tTruL (ta:TE):TT:=fun σ H Q=>ta σ H fun x H'=>∃ (l:Addr) (xs:List V),x = .ref l∧H' l=some (.lst xs)∧Q (!xs.isEmpty) H'
theorem a_tTruL {ta:TE}{σ:St}{H:Hp}{Q:_}:tTruL ta σ H Q=ta σ H fun x H'=>∃ (l:Addr) (xs:List V),x = .ref l∧H' l=some (.lst xs)∧Q (!xs.isEmpty) H':=rfl
end
def fP (op:CmpOp)(A:Around)(s:Shared)(y x:Value)(b:Bool):Prop:=∀ (prog:Program) (w:World) (E:Value→Shared→Prop) (Q:Value→Shared→Prop),Q (.bool b) s→wpAny (model prog w) A (richCompare op y x) Q E s
def yV (e c:Nat→Bool)(last:Bool):List Nat→Bool
 | []=>last
 | i :: r=>if e i=true then yV e c last r else c i
theorem p8 (l b:Addr)(items items2:Array Value)(n n2:Nat)(dd dd2:Option Addr)(sl sl2:Array (Option Value))(e c:Nat→Bool) :
  Meets (Builtin.«tuple.__lt__» ⟨[.ref l,.ref b],[]⟩) (fun A R s=>s.heap.get? l=some { cls:=.type "tuple",dict:=dd,data:=.seq items n,slots:=sl }∧s.heap.get? b=some { cls:=.type "tuple",dict:=dd2,data:=.seq items2 n2,slots:=sl2 } ∧
    (∀ j (h1:j < items.size) (h2:j < items2.size),SeqAt.EqAt A.in1 s items[j] items2[j] (e j))∧(∀ j (h1:j < items.size) (h2:j < items2.size),e j=false→fP .Lt A.in1 s items[j] items2[j] (c j))∧R (.ok (.ret (.bool (yV e c (decide (items.size < items2.size)) (List.range (min items.size items2.size)))))) s) :=
 .of_wp fun prog w A R s h=>by
  obtain ⟨hp,g,d,tk,os⟩:=s;obtain ⟨hl,hb,he,hcp,h⟩:=h
  have f2:=BU
  have zl:(items.toList.zip items2.toList).length=min items.size items2.size:=by simp
  wp_walk using wpAny_loadPart' hl,wpAny_loadPart' hb,wpAny_forIn_list _ (fun rest b s'=>b.1=none∧s'=⟨hp,g,d,tk,os⟩∧∃ i,rest=(items.toList.zip items2.toList).drop i∧R (.ok (.ret (.bool (yV e c (decide (items.size < items2.size)) ((List.range (min items.size items2.size)).drop i))))) ⟨hp,g,d,tk,os⟩) _
  case turn =>
   rintro ⟨y,x⟩ rest b s' ⟨hb',rfl,i,hz,hR⟩
   have lt:i < (items.toList.zip items2.toList).length:=by
    rcases AY i (items.toList.zip items2.toList).length with q | q
    ·exact q
    ·rw [Bo q] at hz;cases hz
   have lm:i < min items.size items2.size:=zl ▸ lt
   have l1:i < items.size:=by omega
   have l2:i < items2.size:=by omega
   rw [AX lt] at hz
   injection hz with z1 z2
   have hy:y=items[i]:=by have:=AW Prod.fst z1;simpa using this
   have hx:x=items2[i]:=by have:=AW Prod.snd z1;simpa using this
   subst hy hx
   have dr:=range_drop lm
   refine wpAny_bind (he i l1 l2 prog w _ _ ?_)
   cases hc:e i with
   | true =>
    rw [dr,yV,As hc] at hR
    exact wpAny_pure ⟨rfl,rfl,i + 1,z2,hR⟩
   | false =>
    rw [dr,yV,Au (by rw [hc];exact Ao)] at hR
    have hq:=hcp i l1 l2 hc prog w
    wp_walk using hq _ _
    exact ⟨_,rfl,hR⟩
  case fin =>
   rintro ⟨b1,b2⟩ s' ⟨hb',rfl,i,hz,hR⟩
   cases (show b1=none from hb')
   have ge:min items.size items2.size ≤ i:=by
    rcases AY i (items.toList.zip items2.toList).length with q | q
    ·rw [AX q] at hz;cases hz
    ·exact zl ▸ q
   rw [Bo (by simpa using ge),yV] at hR
   wp_walk
   exact ⟨_,rfl,hR⟩
  case h=>exact ⟨rfl,rfl,0,rfl,by rw [BP];exact h⟩
theorem cp_lt {A:Around}{s:Shared}{a b:Addr}{its its2:List Value}(p1:IsTup s.heap a its.toArray)(p2:IsTup s.heap b its2.toArray)(hu:A.units < cLine)(e c:Nat→Bool)
  (he:∀ j (h1:j < its.length) (h2:j < its2.length),SeqAt.EqAt A.in1 s its[j] its2[j] (e j)) (hc:∀ j (h1:j < its.length) (h2:j < its2.length),e j=false→fP .Lt A.in1 s its[j] its2[j] (c j)) :
  fP .Lt A s (.ref a) (.ref b) (yV e c (decide (its.length < its2.length)) (List.range (min its.length its2.length))):=by
 intro prog w E Q h
 obtain ⟨⟨c1,d1,da1,sl1⟩,o1,k1,n1,g1⟩:=id p1
 obtain ⟨⟨c2,d2,da2,sl2⟩,o2,k2,n2,g2⟩:=id p2
 simp only at k1 g1 k2 g2
 subst k1 g1 k2 g2
 refine richCompare_meets_room (op:=.Lt) ⟨_,o1,rfl⟩ ⟨_,o2,rfl⟩ F.slot_tuple_lt F.entry_tuple_lt (F.args_tuple_lt_2 _ _) (p8 a b its.toArray its2.toArray n1 n2 d1 d2 sl1 sl2 e c) ⟨o1,o2,fun j h1 h2=>by simpa using he j (by simpa using h1) (by simpa using h2),fun j h1 h2 z=>by simpa using hc j (by simpa using h1) (by simpa using h2) z,?_⟩ hu
 refine ⟨(fun z=>nomatch z),?_⟩
 simpa using h
theorem p9 (l b:Addr)(items items2:Array Value)(n n2:Nat)(dd dd2:Option Addr)(sl sl2:Array (Option Value))(e c:Nat→Bool) :
  Meets (Builtin.«tuple.__gt__» ⟨[.ref l,.ref b],[]⟩) (fun A R s=>s.heap.get? l=some { cls:=.type "tuple",dict:=dd,data:=.seq items n,slots:=sl }∧s.heap.get? b=some { cls:=.type "tuple",dict:=dd2,data:=.seq items2 n2,slots:=sl2 } ∧
    (∀ j (h1:j < items.size) (h2:j < items2.size),SeqAt.EqAt A.in1 s items[j] items2[j] (e j))∧(∀ j (h1:j < items.size) (h2:j < items2.size),e j=false→fP .Gt A.in1 s items[j] items2[j] (c j))∧R (.ok (.ret (.bool (yV e c (decide (items.size > items2.size)) (List.range (min items.size items2.size)))))) s) :=
 .of_wp fun prog w A R s h=>by
  obtain ⟨hp,g,d,tk,os⟩:=s;obtain ⟨hl,hb,he,hcp,h⟩:=h
  have f2:=BU
  have zl:(items.toList.zip items2.toList).length=min items.size items2.size:=by simp
  wp_walk using wpAny_loadPart' hl,wpAny_loadPart' hb,wpAny_forIn_list _ (fun rest b s'=>b.1=none∧s'=⟨hp,g,d,tk,os⟩∧∃ i,rest=(items.toList.zip items2.toList).drop i∧R (.ok (.ret (.bool (yV e c (decide (items.size > items2.size)) ((List.range (min items.size items2.size)).drop i))))) ⟨hp,g,d,tk,os⟩) _
  case turn =>
   rintro ⟨y,x⟩ rest b s' ⟨hb',rfl,i,hz,hR⟩
   have lt:i < (items.toList.zip items2.toList).length:=by
    rcases AY i (items.toList.zip items2.toList).length with q | q
    ·exact q
    ·rw [Bo q] at hz;cases hz
   have lm:i < min items.size items2.size:=zl ▸ lt
   have l1:i < items.size:=by omega
   have l2:i < items2.size:=by omega
   rw [AX lt] at hz
   injection hz with z1 z2
   have hy:y=items[i]:=by have:=AW Prod.fst z1;simpa using this
   have hx:x=items2[i]:=by have:=AW Prod.snd z1;simpa using this
   subst hy hx
   have dr:=range_drop lm
   refine wpAny_bind (he i l1 l2 prog w _ _ ?_)
   cases hc:e i with
   | true =>
    rw [dr,yV,As hc] at hR
    exact wpAny_pure ⟨rfl,rfl,i + 1,z2,hR⟩
   | false =>
    rw [dr,yV,Au (by rw [hc];exact Ao)] at hR
    have hq:=hcp i l1 l2 hc prog w
    wp_walk using hq _ _
    exact ⟨_,rfl,hR⟩
  case fin =>
   rintro ⟨b1,b2⟩ s' ⟨hb',rfl,i,hz,hR⟩
   cases (show b1=none from hb')
   have ge:min items.size items2.size ≤ i:=by
    rcases AY i (items.toList.zip items2.toList).length with q | q
    ·rw [AX q] at hz;cases hz
    ·exact zl ▸ q
   rw [Bo (by simpa using ge),yV] at hR
   wp_walk
   exact ⟨_,rfl,hR⟩
  case h=>exact ⟨rfl,rfl,0,rfl,by rw [BP];exact h⟩
theorem cp_gt {A:Around}{s:Shared}{a b:Addr}{its its2:List Value}(p1:IsTup s.heap a its.toArray)(p2:IsTup s.heap b its2.toArray)(hu:A.units < cLine)(e c:Nat→Bool)
  (he:∀ j (h1:j < its.length) (h2:j < its2.length),SeqAt.EqAt A.in1 s its[j] its2[j] (e j)) (hc:∀ j (h1:j < its.length) (h2:j < its2.length),e j=false→fP .Gt A.in1 s its[j] its2[j] (c j)) :
  fP .Gt A s (.ref a) (.ref b) (yV e c (decide (its.length > its2.length)) (List.range (min its.length its2.length))):=by
 intro prog w E Q h
 obtain ⟨⟨c1,d1,da1,sl1⟩,o1,k1,n1,g1⟩:=id p1
 obtain ⟨⟨c2,d2,da2,sl2⟩,o2,k2,n2,g2⟩:=id p2
 simp only at k1 g1 k2 g2
 subst k1 g1 k2 g2
 refine richCompare_meets_room (op:=.Gt) ⟨_,o1,rfl⟩ ⟨_,o2,rfl⟩ F.slot_tuple_gt F.entry_tuple_gt (F.args_tuple_gt_2 _ _) (p9 a b its.toArray its2.toArray n1 n2 d1 d2 sl1 sl2 e c) ⟨o1,o2,fun j h1 h2=>by simpa using he j (by simpa using h1) (by simpa using h2),fun j h1 h2 z=>by simpa using hc j (by simpa using h1) (by simpa using h2) z,?_⟩ hu
 refine ⟨(fun z=>nomatch z),?_⟩
 simpa using h
inductive Ky where
 | i (n:Int)
 | t (a:Addr) (ns:List Int)
def cW:Ky→V
 | .i n=>.int n
 | .t a _=>.ref a
def bC (H:Hp):Ky→Prop
 | .i _=>True
 | .t a ns=>H a=some (.tup (ns.map V.int))
def aN:Ky→List Int
 | .i n=>[n]
 | .t _ ns=>ns
def dB:Ky→Option Nat
 | .i _=>none
 | .t _ ns=>some ns.length
def kS (ks:List Ky):List Int:=(ks.map aN).flatten
def kEq (k l:Ky):Bool:=decide (aN k=aN l)
def kLt (k l:Ky):Bool:=HT.lexLt (aN k) (aN l)
def aL:List Ky→List Ky→Bool
 | k :: ks,l :: ls=>if kEq k l=true then aL ks ls else kLt k l
 | _,_=>false
theorem tP:∀ (a b x y:List Int),a.length=b.length→HT.lexLt (a ++ x) (b ++ y)=if a=b then HT.lexLt x y else HT.lexLt a b
 | [],[],x,y,_=>by simp
 | p :: a,q :: b,x,y,h=>by
  have ih:=tP a b x y (by simpa using h)
  rw [List.cons_append,List.cons_append,HT.lexLt_cons,HT.lexLt_cons,ih]
  by_cases e:p=q
  ·subst e
   simp
  ·simp [e]
 | [],_ :: _,_,_,h=>by simp at h
 | _ :: _,[],_,_,h=>by simp at h
theorem tU {k l:Ky}(h:dB k=dB l):(aN k).length=(aN l).length:=by
 cases k <;> cases l <;> simp_all [dB,aN]
theorem vQ:∀ (ks ls:List Ky),ks.map dB=ls.map dB→aL ks ls=HT.lexLt (kS ks) (kS ls)
 | [],[],_=>by simp [aL,kS,HT.lexLt_nil_nil]
 | k :: ks,l :: ls,h=>by
  have h1:dB k=dB l:=by simpa using AW List.head? h
  have h2:ks.map dB=ls.map dB:=by simpa using AW List.tail h
  have ih:=vQ ks ls h2
  have e1:kS (k :: ks)=aN k ++ kS ks:=by simp [kS]
  have e2:kS (l :: ls)=aN l ++ kS ls:=by simp [kS]
  rw [e1,e2,tP _ _ _ _ (tU h1),aL,ih]
  by_cases z:aN k=aN l <;> simp [kEq,kLt,z]
 | [],_ :: _,h=>by simp at h
 | _ :: _,[],h=>by simp at h
theorem lZ (e c:Nat→Bool)(last:Bool):∀ l:List Nat,yV e c last (l.map Nat.succ)=yV (fun j=>e (j + 1)) (fun j=>c (j + 1)) last l
 | []=>rfl
 | i :: r=>by rw [AK,yV,yV,lZ e c last r]
def k0:Ky:=.i 0
theorem nD:∀ (ks ls:List Ky),ks.length=ls.length→yV (fun j=>kEq (ks.getD j k0) (ls.getD j k0)) (fun j=>kLt (ks.getD j k0) (ls.getD j k0)) false (List.range ks.length)=aL ks ls
 | [],[],_=>rfl
 | k :: ks,l :: ls,h=>by
  have ih:=nD ks ls (by simpa using h)
  rw [Ba,List.range_succ_eq_map,yV,lZ,aL]
  simp only [List.getD_cons_zero,List.getD_cons_succ]
  rw [ih]
 | [],_ :: _,h=>by simp at h
 | _ :: _,[],h=>by simp at h
section
variable {X:Cx}
theorem xQ {ks:List Ky}{its:List Value}(r:Vals (ks.map cW) its){j:Nat}(h:j < its.length):RelV (cW (ks.getD j k0)) its[j]:=by
 have hl:=r.length
 rw [Aa] at hl
 obtain ⟨u,hu,ru⟩:=r.get (i:=j) (x:=cW (ks[j]'(by omega))) (by simp [show j < ks.length by omega])
 rw [Ae h] at hu
 cases hu
 have:ks.getD j k0=ks[j]'(by omega):=by simp [Ab,show j < ks.length by omega]
 rw [this]
 exact ru
theorem oY {ks ls:List Ky}(h:ks.map dB=ls.map dB)(j:Nat):dB (ks.getD j k0)=dB (ls.getD j k0):=by
 have:=AW (fun l=>l[j]?) h
 simp only [Ag] at this
 rw [Ab,Ab]
 cases e:ks[j]? <;> cases e2:ls[j]? <;> simp_all
theorem fR {H:Hp}{ks:List Ky}(h:∀ k ∈ ks,bC H k)(j:Nat):bC H (ks.getD j k0):=by
 rw [Ab]
 cases e:ks[j]? with
 | none=>trivial
 | some k=>exact h k (Ap e)
theorem ky_eq {pins:List (Addr × Obj)}{σ:St}{H:Hp}{s:Shared}{A:Around}(I:Inv X pins σ H s)(hu:A.units < cLine){k l:Ky}{u v:Value}(ru:RelV (cW k) u)(rv:RelV (cW l) v)(ok:bC H k)(ol:bC H l)(sh:dB k=dB l):SeqAt.EqAt A s u v (kEq k l):=by
 cases k with
 | i n =>
  cases l with
  | i m =>
   have:=gJ (A:=A) (s:=s) ru rv rfl rfl
   have e:pI (cW (.i n)) (cW (.i m))=kEq (.i n) (.i m):=by
    show (n == m)=decide ([n] = [m])
    rw [Bl]
    simp
   rw [e] at this
   exact this
  | t b ms=>simp [dB] at sh
 | t a ns =>
  cases l with
  | i m=>simp [dB] at sh
  | t b ms =>
   cases ru
   cases rv
   exact dD I ok ol hu
theorem dec_lt (n m:Int):(n == m)=decide ([n] = [m]):=by rw [Bl];simp
theorem dec_gt (n m:Int):(n == m)=decide ([m] = [n]):=by rw [dec_lt,decide_eq_decide];exact eq_comm
theorem rQ (n m:Int):decide (n < m)=HT.lexLt [n] [m]:=by
 rw [HT.lexLt_cons,HT.lexLt_nil_nil]
 by_cases z:n=m
 ·rw [As z]
  exact Al (by omega)
 ·rw [Au z]
theorem one_gt (n m:Int):decide (n > m)=HT.lexLt [m] [n]:=rQ m n
theorem zE (ns:List Int)(j:Nat){a:Addr}{xs:List Int}:(ns.map Ky.i).getD j k0 ≠ .t a xs:=by
 rw [Ab,Ag]
 cases ns[j]? <;> simp [k0]
theorem int_lt {A:Around}{s:Shared}{n m:Int}{u v:Value}(ru:RelV (.int n) u)(rv:RelV (.int m) v):fP .Lt A s u v (decide (n < m)):=by
 intro prog w E Q h
 obtain ⟨t,rfl⟩:=ru
 obtain ⟨t',rfl⟩:=rv
 exact CmpOf.ints_lt (P:=fun i v=>∃ t,v = .int (if i=0 then n else m) t) (fun i=>if i=0 then n else m) (fun i v h=>h) 0 1 _ _ s Q E ⟨t,rfl⟩ ⟨t',rfl⟩ h
theorem ints_lt {pins:List (Addr × Obj)}{σ:St}{H:Hp}{s:Shared}{A:Around}{a b:Addr}{ns ms:List Int}(I:Inv X pins σ H s)(ha:H a=some (.tup (ns.map V.int)))(hb:H b=some (.tup (ms.map V.int)))(hl:ns.length=ms.length)(hu:A.units < cLine):fP .Lt A s (.ref a) (.ref b) (HT.lexLt ns ms):=by
 obtain ⟨its,r1,p1,_⟩:=I.tuple (SqT.of ha)
 obtain ⟨its2,r2,p2,_⟩:=I.tuple (SqT.of hb)
 have r1':Vals ((ns.map Ky.i).map cW) its:=by rw [AO];exact r1
 have r2':Vals ((ms.map Ky.i).map cW) its2:=by rw [AO];exact r2
 have l1:=r1.length
 have l2:=r2.length
 rw [Aa] at l1 l2
 have sh:(ns.map Ky.i).map dB=(ms.map Ky.i).map dB:=by
  rw [AO,AO]
  show ns.map (fun _=>none)=ms.map fun _=>none
  rw [Cs,Cs,hl]
 have ok:∀ (xs:List Int) k,k ∈ xs.map Ky.i→bC H k:=fun xs k hk=>by
  obtain ⟨x,_,rfl⟩:=Am.mp hk
  trivial
 have fl:∀ xs:List Int,kS (xs.map Ky.i)=xs:=fun xs=>by
  unfold kS
  rw [AO]
  show (xs.map fun x=>[x]).flatten=xs
  induction xs with
  | nil=>rfl
  | cons x xs ih=>rw [AK,Bv,ih];rfl
 have key:=cp_lt (A:=A) p1 p2 hu (fun j=>kEq ((ns.map Ky.i).getD j k0) ((ms.map Ky.i).getD j k0)) (fun j=>kLt ((ns.map Ky.i).getD j k0) ((ms.map Ky.i).getD j k0)) (fun j h1 h2=>?_) fun j h1 h2 _=>?_
 ·rw [show min its.length its2.length=(ns.map Ky.i).length by rw [Aa];omega,show decide (its.length < its2.length)=false from Al (by omega),nD _ _ (by simp [hl]),vQ _ _ sh,fl,fl] at key
  exact key
 ·have:=gJ (A:=A.in1) (s:=s) (xQ r1' h1) (xQ r2' h2) (by cases e:(ns.map Ky.i).getD j k0 with | i n=>rfl | t a xs=>exact absurd e (zE ns j)) (by cases e:(ms.map Ky.i).getD j k0 with | i n=>rfl | t a xs=>exact absurd e (zE ms j))
  revert this
  cases e1:(ns.map Ky.i).getD j k0 with
  | t a xs=>exact absurd e1 (zE ns j)
  | i n =>
   cases e2:(ms.map Ky.i).getD j k0 with
   | t a xs=>exact absurd e2 (zE ms j)
   | i m =>
    intro this
    have e:pI (cW (.i n)) (cW (.i m))=kEq (.i n) (.i m):=by
     exact dec_lt n m
    rw [e] at this
    exact this
 ·have q1:=xQ r1' h1
  have q2:=xQ r2' h2
  revert q1 q2
  cases e1:(ns.map Ky.i).getD j k0 with
  | t a xs=>exact absurd e1 (zE ns j)
  | i n =>
   cases e2:(ms.map Ky.i).getD j k0 with
   | t a xs=>exact absurd e2 (zE ms j)
   | i m =>
    intro q1 q2
    have:=int_lt (A:=A.in1) (s:=s) q1 q2
    have e:decide (n < m)=kLt (.i n) (.i m):=by
     exact rQ n m
    rw [e] at this
    exact this
theorem ky_lt {pins:List (Addr × Obj)}{σ:St}{H:Hp}{s:Shared}{A:Around}(I:Inv X pins σ H s)(hu:A.units < cLine){k l:Ky}{u v:Value}(q1:RelV (cW k) u)(q2:RelV (cW l) v)(o1:bC H k)(o2:bC H l)(hs:dB k=dB l):fP .Lt A s u v (kLt k l):=by
 cases k with
 | i n =>
  cases l with
  | t b ms=>simp [dB] at hs
  | i m =>
   have:=int_lt (A:=A) (s:=s) q1 q2
   have e:decide (n < m)=kLt (.i n) (.i m):=by
    exact rQ n m
   rw [e] at this
   exact this
 | t a ns =>
  cases l with
  | i m=>simp [dB] at hs
  | t b ms =>
   cases q1
   cases q2
   exact ints_lt I o1 o2 (tU hs) hu
theorem rows_lt {pins:List (Addr × Obj)}{σ:St}{H:Hp}{s:Shared}{A:Around}{a b:Addr}{ks ls:List Ky}(I:Inv X pins σ H s)(ha:H a=some (.tup (ks.map cW)))(hb:H b=some (.tup (ls.map cW)))(ok:∀ k ∈ ks,bC H k)(ol:∀ k ∈ ls,bC H k)(sh:ks.map dB=ls.map dB)(hu:A.units + 64 < cLine):fP .Lt A s (.ref a) (.ref b) (HT.lexLt (kS ks) (kS ls)):=by
 obtain ⟨its,r1,p1,_⟩:=I.tuple (SqT.of ha)
 obtain ⟨its2,r2,p2,_⟩:=I.tuple (SqT.of hb)
 have l1:=r1.length
 have l2:=r2.length
 rw [Aa] at l1 l2
 have hl:ks.length=ls.length:=by simpa using AW List.length sh
 have hu1:A.in1.units < cLine:=by simp only [Bu];omega
 have key:=cp_lt (A:=A) p1 p2 (by omega) (fun j=>kEq (ks.getD j k0) (ls.getD j k0)) (fun j=>kLt (ks.getD j k0) (ls.getD j k0)) (fun j h1 h2=>?_) fun j h1 h2 _=>?_
 ·rw [show min its.length its2.length=ks.length by omega,show decide (its.length < its2.length)=false from Al (by omega),nD _ _ (by omega),vQ _ _ sh] at key
  exact key
 ·have:=ky_eq I hu1 (xQ r1 h1) (xQ r2 h2) (fR ok j) (fR ol j) (oY sh j)
  skip
  exact this
 ·exact ky_lt I hu1 (xQ r1 h1) (xQ r2 h2) (fR ok j) (fR ol j) (oY sh j)
theorem int_gt {A:Around}{s:Shared}{n m:Int}{u v:Value}(ru:RelV (.int n) u)(rv:RelV (.int m) v):fP .Gt A s u v (decide (n > m)):=by
 intro prog w E Q h
 obtain ⟨t,rfl⟩:=ru
 obtain ⟨t',rfl⟩:=rv
 exact CmpOf.ints_gt (P:=fun i v=>∃ t,v = .int (if i=0 then n else m) t) (fun i=>if i=0 then n else m) (fun i v h=>h) 0 1 _ _ s Q E ⟨t,rfl⟩ ⟨t',rfl⟩ h
theorem ints_gt {pins:List (Addr × Obj)}{σ:St}{H:Hp}{s:Shared}{A:Around}{a b:Addr}{ns ms:List Int}(I:Inv X pins σ H s)(ha:H a=some (.tup (ns.map V.int)))(hb:H b=some (.tup (ms.map V.int)))(hl:ns.length=ms.length)(hu:A.units < cLine):fP .Gt A s (.ref a) (.ref b) (HT.lexLt ms ns):=by
 obtain ⟨its,r1,p1,_⟩:=I.tuple (SqT.of ha)
 obtain ⟨its2,r2,p2,_⟩:=I.tuple (SqT.of hb)
 have r1':Vals ((ns.map Ky.i).map cW) its:=by rw [AO];exact r1
 have r2':Vals ((ms.map Ky.i).map cW) its2:=by rw [AO];exact r2
 have l1:=r1.length
 have l2:=r2.length
 rw [Aa] at l1 l2
 have sh:(ns.map Ky.i).map dB=(ms.map Ky.i).map dB:=by
  rw [AO,AO]
  show ns.map (fun _=>none)=ms.map fun _=>none
  rw [Cs,Cs,hl]
 have ok:∀ (xs:List Int) k,k ∈ xs.map Ky.i→bC H k:=fun xs k hk=>by
  obtain ⟨x,_,rfl⟩:=Am.mp hk
  trivial
 have fl:∀ xs:List Int,kS (xs.map Ky.i)=xs:=fun xs=>by
  unfold kS
  rw [AO]
  show (xs.map fun x=>[x]).flatten=xs
  induction xs with
  | nil=>rfl
  | cons x xs ih=>rw [AK,Bv,ih];rfl
 have key:=cp_gt (A:=A) p1 p2 hu (fun j=>kEq ((ms.map Ky.i).getD j k0) ((ns.map Ky.i).getD j k0)) (fun j=>kLt ((ms.map Ky.i).getD j k0) ((ns.map Ky.i).getD j k0)) (fun j h1 h2=>?_) fun j h1 h2 _=>?_
 ·rw [show min its.length its2.length=(ms.map Ky.i).length by rw [Aa];omega,show decide (its.length > its2.length)=false from Al (by omega),nD _ _ (by simp [hl]),vQ _ _ sh.symm,fl,fl] at key
  exact key
 ·have:=gJ (A:=A.in1) (s:=s) (xQ r1' h1) (xQ r2' h2) (by cases e:(ns.map Ky.i).getD j k0 with | i n=>rfl | t a xs=>exact absurd e (zE ns j)) (by cases e:(ms.map Ky.i).getD j k0 with | i n=>rfl | t a xs=>exact absurd e (zE ms j))
  revert this
  cases e1:(ns.map Ky.i).getD j k0 with
  | t a xs=>exact absurd e1 (zE ns j)
  | i n =>
   cases e2:(ms.map Ky.i).getD j k0 with
   | t a xs=>exact absurd e2 (zE ms j)
   | i m =>
    intro this
    have e:pI (cW (.i n)) (cW (.i m))=kEq (.i m) (.i n):=by
     exact dec_gt n m
    rw [e] at this
    exact this
 ·have q1:=xQ r1' h1
  have q2:=xQ r2' h2
  revert q1 q2
  cases e1:(ns.map Ky.i).getD j k0 with
  | t a xs=>exact absurd e1 (zE ns j)
  | i n =>
   cases e2:(ms.map Ky.i).getD j k0 with
   | t a xs=>exact absurd e2 (zE ms j)
   | i m =>
    intro q1 q2
    have:=int_gt (A:=A.in1) (s:=s) q1 q2
    have e:decide (n > m)=kLt (.i m) (.i n):=by
     exact one_gt n m
    rw [e] at this
    exact this
end
section
variable {prog:Program}{w:World}{A:Around}{R:Result→Shared→Prop}{it:Addr}{fp wr:List Addr}{n:Nat}{Pv:Nat→Value→Prop}{St:Nat→Heap→Prop}{D:Shared→Prop}
theorem aH (W:Walks prog w A.in1 it fp wr n Pv St)(bt:Nat→Nat→Bool)(hc:∀ i j x y (s:Shared) (Q E:Value→Shared→Prop),D s→Pv i x→Pv j y→Q (.bool (bt i j)) s→wpAny (model prog w) A.in1 (richCompare .Lt x y) Q E s)(Z:Addr)(zf:Z ∉ fp) :
  ∀ (k j:Nat) (s:Shared) (x:Value) (c:Nat),n - (j + 1)=k→j + 1 ≤ n→St (j + 1) s.heap→Pv (argBest bt j) x →
  s.heap.get? Z=some { cls:=.type "list",dict:=none,data:=.seq #[x,x] c,slots := #[] }→(∀ h' tk,(∀ b o,b ∉ wr→b ≠ Z→s.heap.get? b=some o→h'.get? b=some o)→D { s with heap:=h',toks:=tk }) →
  (∀ v h' tk,Pv (argBest bt (n - 1)) v→(∀ b o,b ∉ wr→b ≠ Z→s.heap.get? b=some o→h'.get? b=some o)→R (.ok (.ret v)) { s with heap:=h',toks:=tk }) →
  codeAny (model prog w) A (.builtin "min.loop" ⟨[.ref it,.none,.ref Z],[]⟩) R s:=by
 have zw:Z ∉ wr:=fun h=>zf (W.sub _ h)
 have nm:(toString "min" ++ toString ".loop" : String) = "min.loop" := by decide
 intro k
 induction k with
 | zero =>
  intro j s x c hk hj st px ez dd hR
  have jn:j + 1=n:=by omega
  refine codeAny_builtin F.entry_min_loop ?_
  rw [Cn B2 _]
  show wpAny (model prog w) A.in1 (seqItems? (.ref Z) >>= _) _ _ s
  refine wpAny_bind (wpAny_seqItems ez rfl ?_)
  show wpAny (model prog w) A.in1 (tryCatch (pyNext (.ref it)) _ >>= _) _ _ s
  refine wpAny_bind (wpAny_tryCatch (W.done s _ _ (jn ▸ st) fun h' tk keep=>?_))
  have ez':=keep Z _ zw ez
  show wpAny (model prog w) A.in1 (updateSeq Z (fun _ => #[]) >>= _) _ _ _
  refine wpAny_bind ?_
  refine wpAny_updateSeq ez' rfl (wpAny_bind (wpAny_letGo (wpAny_pure ?_)))
  exact hR x _ tk (by rw [← jn];exact px) fun b o b1 b2 e=>(AM _ _ (BZ b2)).trans (keep b o b1 e)
 | succ k ih =>
  intro j s x c hk hj st px ez dd hR
  have jl:j + 1 < n:=by omega
  refine codeAny_builtin F.entry_min_loop ?_
  rw [Cn B2 _]
  show wpAny (model prog w) A.in1 (seqItems? (.ref Z) >>= _) _ _ s
  refine wpAny_bind (wpAny_seqItems ez rfl ?_)
  show wpAny (model prog w) A.in1 (tryCatch (pyNext (.ref it)) _ >>= _) _ _ s
  refine wpAny_bind (wpAny_tryCatch (W.item (j + 1) s _ _ jl st fun v h' tk pv st' keep=>?_))
  have ez':=keep Z _ zw ez
  show wpAny (model prog w) A.in1 (tryCatch (holding [v,v] (richCompare .Lt v x >>= _)) _ >>= _) _ _ _
  refine wpAny_bind (wpAny_tryCatch (wpAny_holding (wpAny_bind (hc (j + 1) (argBest bt j) v x _ _ _ (dd h' tk fun b o b1 _ e=>keep b o b1 e) pv px ?_))))
  refine wpAny_bind (wpAny_holding (wpAny_truthy_bool ?_))
  refine wpAny_bind (wpAny_letGo (wpAny_pure ?_))
  cases hb:bt (j + 1) (argBest bt j) with
  | true =>
   simp only [BO]
   refine wpAny_bind ?_
   refine wpAny_updateSeq ez' rfl (wpAny_bind (wpAny_letGo ?_))
   rw [nm]
   refine wpAny_pure ⟨plainId_quiet B2 _,ih (j + 1) _ v _ (by omega) jl (W.frame _ _ _ st' fun b bf o e=>?_) (by simp only [argBest,hb,BO];exact pv) (BN _ ez' rfl) (fun h2 t2 k2=>dd h2 t2 fun b o b1 b2 e=>k2 b o b1 b2 ((AM _ _ (BZ b2)).trans (keep b o b1 e))) fun v2 h2 t2 p2 k2=>?_⟩
   ·exact (AM _ _ (fun h:Z=b=>zf (by rw [h];exact bf))).trans e
   ·exact hR v2 h2 t2 p2 fun b o b1 b2 e=>k2 b o b1 b2 ((AM _ _ (BZ b2)).trans (keep b o b1 e))
  | false =>
   simp only [AQ,BK]
   refine wpAny_bind (wpAny_letGo ?_)
   rw [nm]
   refine wpAny_pure ⟨plainId_quiet B2 _,ih (j + 1) _ x c (by omega) jl st' (by simp only [argBest,hb,AQ,BK];exact px) ez' (fun h2 t2 k2=>dd h2 t2 fun b o b1 b2 e=>k2 b o b1 b2 (keep b o b1 e)) fun v2 h2 t2 p2 k2=>?_⟩
   exact hR v2 h2 t2 p2 fun b o b1 b2 e=>k2 b o b1 b2 (keep b o b1 e)
theorem rV (W:Walks prog w A.in1 it fp wr n Pv St)(bt:Nat→Nat→Bool)(hc:∀ i j x y (s:Shared) (Q E:Value→Shared→Prop),D s→Pv i x→Pv j y→Q (.bool (bt i j)) s→wpAny (model prog w) A.in1 (richCompare .Lt x y) Q E s)(Z:Addr)(zf:Z ∉ fp)(n0:0 < n){s:Shared}{c:Nat}(st:St 0 s.heap)
  (ez:s.heap.get? Z=some { cls:=.type "list",dict:=none,data:=.seq #[] c,slots := #[] }) (dd:∀ h' tk,(∀ b o,b ∉ wr→b ≠ Z→s.heap.get? b=some o→h'.get? b=some o)→D { s with heap:=h',toks:=tk })
  (hR:∀ v h' tk,Pv (argBest bt (n - 1)) v→(∀ b o,b ∉ wr→b ≠ Z→s.heap.get? b=some o→h'.get? b=some o)→R (.ok (.ret v)) { s with heap:=h',toks:=tk }) :
  codeAny (model prog w) A (.builtin "min.loop" ⟨[.ref it,.none,.ref Z],[]⟩) R s:=by
 have zw:Z ∉ wr:=fun h=>zf (W.sub _ h)
 have nm:(toString "min" ++ toString ".loop" : String) = "min.loop" := by decide
 refine codeAny_builtin F.entry_min_loop ?_
 rw [Cn B2 _]
 show wpAny (model prog w) A.in1 (seqItems? (.ref Z) >>= _) _ _ s
 refine wpAny_bind (wpAny_seqItems ez rfl ?_)
 show wpAny (model prog w) A.in1 (tryCatch (pyNext (.ref it)) _ >>= _) _ _ s
 refine wpAny_bind (wpAny_tryCatch (W.item 0 s _ _ n0 st fun v h' tk pv st' keep=>?_))
 have ez':=keep Z _ zw ez
 show wpAny (model prog w) A.in1 (updateSeq Z (fun _ => #[v,v]) >>= _) _ _ _
 refine wpAny_bind ?_
 refine wpAny_updateSeq ez' rfl ?_
 rw [nm]
 refine wpAny_pure ⟨plainId_quiet B2 _,aH W bt hc Z zf _ 0 _ v _ rfl n0 (W.frame _ _ _ st' fun b bf o e=>?_) pv (BN _ ez' rfl) (fun h2 t2 k2=>dd h2 t2 fun b o b1 b2 e=>k2 b o b1 b2 ((AM _ _ (BZ b2)).trans (keep b o b1 e))) fun v2 h2 t2 p2 k2=>?_⟩
 ·exact (AM _ _ (fun h:Z=b=>zf (by rw [h];exact bf))).trans e
 ·exact hR v2 h2 t2 p2 fun b o b1 b2 e=>k2 b o b1 b2 ((AM _ _ (BZ b2)).trans (keep b o b1 e))
end
theorem aG {prog:Program}{w:World}{A:Around}{E:Value→Shared→Prop}{s:Shared}{x:Value}{Q:Value→Shared→Prop}
  (h:wpAny (model prog w) A.in1 (pyIter x) (fun v s2=>∃ it fp wr n Pv St bt,∃ D:Shared→Prop,v = .ref it∧Walks prog w A.in1 it fp wr n Pv St∧St 0 s2.heap∧(∀ b ∈ fp,b < s2.heap.objs.size)∧0 < n ∧
   (∀ i j x y (s:Shared) (Q E:Value→Shared→Prop),D s→Pv i x→Pv j y→Q (.bool (bt i j)) s→wpAny (model prog w) A.in1 (richCompare .Lt x y) Q E s)∧(∀ h' tk,(∀ b o,b ∉ wr→s2.heap.get? b=some o→h'.get? b=some o)→D { s2 with heap:=h',toks:=tk }) ∧
   ∀ v h' tk,Pv (argBest bt (n - 1)) v→(∀ b o,b ∉ wr→s2.heap.get? b=some o→h'.get? b=some o)→Q v { s2 with heap:=h',toks:=tk }) E s) :
  wpAny (model prog w) A (call (.builtin "min") [x]) Q E s:=by
 have nm:(toString "min" ++ toString ".loop" : String) = "min.loop" := by decide
 refine call_function_tree F.kind_min F.plain_min F.entry_min (F.args_min1 _) ?_
 show wpAny (model prog w) A.in1 (Builtin.Builtins.bindParams "min" ["key", "default"] 0 ⟨[],[]⟩ >>= _) _ _ s
 refine wpAny_bind (wpAny_of_eq (show Builtin.Builtins.bindParams "min" ["key", "default"] 0 ⟨[],[]⟩=pure [none,none] by rfl) ?_)
 refine wpAny_bind (wpAny_pure ?_)
 refine wpAny_bind (wpAny_mono h (fun v s2 h2=>?_) fun _ _ e=>e)
 obtain ⟨it,fp,wr,n,Pv,St,bt,D,rfl,W,st,hfp,n0,hc,dd,hQ⟩:=h2
 refine wpAny_bind (wpAny_newObj_type ?_)
 have zf:s2.heap.objs.size ∉ fp:=fun hm=>AJ _ (hfp _ hm)
 rw [nm]
 refine wpAny_pure ⟨plainId_quiet B2 _,rV (D:=D) W bt hc s2.heap.objs.size zf n0 (W.frame _ _ _ st fun b _ o e=>Ac _ e) (Ak _ rfl) (fun h' tk k=>dd h' tk fun b o b1 e=>k b o b1 (A3 (An e)) (Ac _ e)) fun v h' tk pv k=>?_⟩
 exact hQ v h' tk pv fun b o b1 e=>k b o b1 (A3 (An e)) (Ac _ e)
section
variable {prog:Program}{w:World}{A:Around}{R:Result→Shared→Prop}{it:Addr}{fp wr:List Addr}{n:Nat}{Pv:Nat→Value→Prop}{St:Nat→Heap→Prop}{D:Shared→Prop}
end
theorem pH:∀ ks:List Ky,(kS ks).length=((ks.map dB).map fun o=>o.getD 1).sum
 | []=>rfl
 | k :: ks=>by
  have ih:=pH ks
  have e:kS (k :: ks)=aN k ++ kS ks:=by simp [kS]
  rw [e,Ax,ih,AK,AK,Bz]
  cases k <;> rfl
theorem lex_irrefl:∀ a:List Int,HT.lexLt a a=false
 | []=>HT.lexLt_nil_nil
 | x :: a=>by rw [HT.lexLt_cons,As rfl];exact lex_irrefl a
theorem lex_trans:∀ a b c:List Int,a.length=b.length→b.length=c.length→HT.lexLt a b=true→HT.lexLt b c=true→HT.lexLt a c=true
 | [],[],[],_,_,h,_=>by rw [HT.lexLt_nil_nil] at h;cases h
 | x :: a,y :: b,z :: c,l1,l2,h1,h2=>by
  rw [HT.lexLt_cons] at h1 h2 ⊢
  by_cases e1:x=y
  ·subst e1
   rw [As rfl] at h1
   by_cases e2:x=z
   ·subst e2
    rw [As rfl] at h2 ⊢
    exact lex_trans a b c (by simpa using l1) (by simpa using l2) h1 h2
   ·rw [Au e2] at h2 ⊢
    exact h2
  ·rw [Au e1] at h1
   have h1':=Bj h1
   by_cases e2:y=z
   ·subst e2
    rw [Au e1]
    exact h1
   ·rw [Au e2] at h2
    have h2':=Bj h2
    rw [Au (by omega)]
    exact A0 (by omega)
 | [],_ :: _,_,l1,_,_,_=>by simp at l1
 | _ :: _,[],_,l1,_,_,_=>by simp at l1
 | [],[],_ :: _,_,l2,_,_=>by simp at l2
 | _ :: _,_ :: _,[],_,l2,_,_=>by simp at l2
theorem uJ (val:Nat→List Int)(n:Nat):∀ k,(∀ i,i ≤ k→(val i).length=n)→argBest (fun i j=>HT.lexLt (val i) (val j)) k ≤ k∧∀ j,j ≤ k→HT.lexLt (val j) (val (argBest (fun i j=>HT.lexLt (val i) (val j)) k))=false
 | 0,_=>⟨Ad _,fun j hj=>by
  have:j=0:=by omega
  subst this
  exact lex_irrefl _⟩
 | k + 1,hl=>by
  obtain ⟨i1,i2⟩:=uJ val n k fun i hi=>hl i (by omega)
  have lb:=hl _ (AB i1 (Cq k))
  have ln:=hl (k + 1) (Ad _)
  rw [argBest]
  generalize argBest (fun i j=>HT.lexLt (val i) (val j)) k=b at *
  cases e:HT.lexLt (val (k + 1)) (val b) with
  | true =>
   rw [As rfl]
   refine ⟨Ad _,fun j hj=>?_⟩
   rcases AY j (k + 1) with z | z
   ·cases e2:HT.lexLt (val j) (val (k + 1)) with
    | false=>rfl
    | true =>
     have lj:=hl j (by omega)
     have:=lex_trans _ _ _ (by omega) (by omega) e2 e
     rw [i2 j (by omega)] at this
     cases this
   ·have:j=k + 1:=by omega
    subst this
    exact lex_irrefl _
  | false =>
   rw [Au Ao]
   refine ⟨by omega,fun j hj=>?_⟩
   rcases AY j (k + 1) with z | z
   ·exact i2 j (by omega)
   ·have:j=k + 1:=by omega
    subst this
    exact e
section
variable {X:Cx}
def RowsK (H:Hp)(rs:List (Addr × List Ky)):Prop:=(∀ r ∈ rs,H r.1=some (.tup (r.2.map cW))∧∀ k ∈ r.2,bC H k)∧∃ sh,∀ r ∈ rs,r.2.map dB=sh
theorem minP0 (hc:X.calm=true)(hu:X.A.units + 128 < cLine):j7 X (.builtin "min") (fun xs H Q=>∃ (p:Addr) (rs:List (Addr × List Ky)),xs=[.ref p]∧sq H p=some (rs.map fun r=>V.ref r.1)∧RowsK H rs∧rs ≠ []∧∀ m,m ∈ rs→(∀ r ∈ rs,HT.lexLt (kS r.2) (kS m.2)=false)→Q (.ref m.1) H):=by
 intro pins s σ H xs us Q I r h
 obtain ⟨p,rs,rfl,hq,⟨rk,sh,hsh⟩,hne,q⟩:=h
 obtain ⟨u,rfl,ru⟩:=r.one
 cases ru
 have hp:0 < rs.length:=List.length_pos_iff.mpr hne
 refine aG (I.walk hc hq fun it its s2 St fp rv W st hfp hsz J=>?_)
 have hl:=rv.length
 rw [Aa] at hl
 have at_:∀ i v,its[i]? = some v→i < rs.length∧∃ r ∈ rs,rs[i]? = some r∧v = .ref r.1:=fun i v hv=>by
  have hi:i < rs.length:=by rw [hl];exact (Af.mp hv).1
  obtain ⟨u,hu',ru⟩:=rv.get (i:=i) (x:=V.ref rs[i].1) (by simp [hi])
  rw [hv] at hu'
  cases hu'
  cases ru
  exact ⟨hi,rs[i],AH hi,Ae hi,rfl⟩
 let val:Nat→List Int:=fun i=>kS ((rs[i]?.map fun r=>r.2).getD [])
 refine ⟨it,fp,[it],its.length,_,St,fun i j=>HT.lexLt (val i) (val j),fun s=>Inv X pins σ H s,rfl,W,st,hfp,by omega,fun i j x y s' Q' E' D hi hj hQ=>?_,fun h' tk k=>J h' tk k,fun v h' tk hv k=>?_⟩
 ·obtain ⟨_,r1,m1,e1,rfl⟩:=at_ i x hi
  obtain ⟨_,r2,m2,e2,rfl⟩:=at_ j y hj
  have key:=rows_lt D (rk r1 m1).1 (rk r2 m2).1 (rk r1 m1).2 (rk r2 m2).2 ((hsh r1 m1).trans (hsh r2 m2).symm) (A:=X.A.in1) (by simp only [Bu];omega)
  refine key _ _ E' Q' ?_
  have v1:val i=kS r1.2:=by simp only [val,e1,BJ,BD]
  have v2:val j=kS r2.2:=by simp only [val,e2,BJ,BD]
  rw [← v1,← v2]
  exact hQ
 ·have lens:∀ i,i < rs.length→(val i).length=(sh.map fun o=>o.getD 1).sum:=fun i hi=>by
   have e:val i=kS rs[i].2:=by simp only [val,Ae hi,BJ,BD]
   rw [e,← hsh rs[i] (AH hi)]
   exact pH _
  obtain ⟨b1,b2⟩:=uJ val (sh.map fun o=>o.getD 1).sum (its.length - 1) fun i hi=>lens i (by omega)
  obtain ⟨hj,r,mr,er,rfl⟩:=at_ _ v hv
  refine ⟨.ref r.1,H,J h' tk k,rfl,q r mr fun r' hr'=>?_⟩
  obtain ⟨i,hi,rfl⟩:=Cp.mp hr'
  have v1:val (argBest (fun i j=>HT.lexLt (val i) (val j)) (its.length - 1))=kS r.2:=by simp only [val,er,BJ,BD]
  have v2:val i=kS rs[i].2:=by simp only [val,Ae hi,BJ,BD]
  rw [← v1,← v2]
  exact b2 i (by omega)
end
theorem hu128 {A:Around}{k:Nat}(hr:Room k A):A.units + 128 < cLine:=by have:=hr.un;omega
section
variable {prog:Program}{w:World}{A:Around}{E:Value→Shared→Prop}{s:Shared}
theorem zn_item {z TI TO i1 i2 l1 l2:Addr}{c1 c2:String}{k:Nat}{xs ys:Array Value}{x y f g:Value}{Q:Value→Shared→Prop}(D:ZipApart z TI TO i1 i2 l1 l2)(hz:bU s.heap z TI TO f g)(hf:nQ f)(hTI:IsPair s.heap TI (.ref i1) (.ref i2))(hTO:∃ a b,IsPair s.heap TO a b)(h1:Src s.heap c1 i1 l1 xs k)(h2:Src s.heap c2 i2 l2 ys k)(hx:xs[k]? = some x)(hy:ys[k]? = some y)
  (hQ:∀ h' f' g',bU h' z TI TO f' g'→nQ f'→IsPair h' TI (.ref i1) (.ref i2)→(∃ a b,IsPair h' TO a b)→Src h' c1 i1 l1 xs (k + 1)→Src h' c2 i2 l2 ys (k + 1)→IsPair h' s.heap.objs.size x y→h'.objs.size=s.heap.objs.size + 1 →
   (∀ c o,c ∉ [z,TO,i1,i2]→s.heap.get? c=some o→h'.get? c=some o)→Q (.ref s.heap.objs.size) { s with heap:=h' }):wpAny (model prog w) A (Builtin.SmallTypes.nextOf (.ref z)) Q E s:=by
 exact wpAny_bind (wpAny_callSpecial?_slot (name:=Str.ofString "__next__") ⟨_,hz,rfl⟩ Bw (wpAny_call_entry Bw ⟨_,hz,rfl⟩ Cg (sM D hz hf hTI hTO h1 h2 hx hy fun h' f' g' _ iz of ti to s1 s2 new sz k=>⟨_,rfl,wpAny_pure (hQ h' f' g' iz of ti to s1 s2 new sz k)⟩) (Cc _)))
theorem zn_end {z TI TO i1 i2 l1 l2:Addr}{c1 c2:String}{k:Nat}{xs ys:Array Value}{f g:Value}{Q:Value→Shared→Prop}(hh:A.handled=none)(D:ZipApart z TI TO i1 i2 l1 l2)(hz:bU s.heap z TI TO f g)(hf:nQ f)(hTI:IsPair s.heap TI (.ref i1) (.ref i2))(hTO:∃ a b,IsPair s.heap TO a b)(h1:Src s.heap c1 i1 l1 xs k)(h2:Src s.heap c2 i2 l2 ys k)(hend:xs[k]? = none∨ys[k]? = none)
  (hE:∀ h' e,(∀ c o,c ∉ [z,TO,i1,i2]→s.heap.get? c=some o→h'.get? c=some o)→(∃ o,h'.get? e=some o∧o.cls = .type "StopIteration")→E (.ref e) { s with heap:=h' }):wpAny (model prog w) A (Builtin.SmallTypes.nextOf (.ref z)) Q E s:=by
 exact wpAny_bind (wpAny_callSpecial?_slot (name:=Str.ofString "__next__") ⟨_,hz,rfl⟩ Bw (wpAny_call_entry Bw ⟨_,hz,rfl⟩ Cg (eK hh D hz hf hTI hTO h1 h2 hend hE) (Cc _)))
theorem en_item {e it:Addr}{i:Nat}{old:Value}{Q:Option Value→Shared→Prop}{RR:Value→Heap→Prop}(he:IsEnum s.heap e it i old)
  (hin:∀ (Q':Value→Shared→Prop) (E':Value→Shared→Prop),(∀ x h1,RR x h1→Q' x { s with heap:=h1 })→wpAny (model prog w) A.in1 (Builtin.SmallTypes.nextOf (.ref it)) Q' E' s)
  (hR:∀ x h1,RR x h1→IsEnum h1 e it i old)
  (hQ:∀ x h1 h',RR x h1→IsEnumOut h' e it ((i:Int) + 1) x h1.objs.size→h'.get? h1.objs.size=some { cls:=.type "tuple",data:=.seq #[.int i s.toks,x] }→h'.objs.size=h1.objs.size + 1 →
   (∀ b o,b ≠ e→h1.get? b=some o→h'.get? b=some o)→Q (some (.ref h1.objs.size)) { s with heap:=h',toks:=s.toks + 1 }):wpAny (model prog w) A (pyNext (.ref e)) Q E s:=by
 obtain ⟨hp,gn,d,tk,os⟩:=s
 have hT:Shared.TypeIs ⟨hp,gn,d,tk,os⟩ (.ref e) "enumerate" := ⟨_,he,rfl⟩
 unfold pyNext
 refine wpAny_bind (wpAny_attempt (wpAny_callSpecial?_slot (name:=Str.ofString "__next__") hT BM (wpAny_call_entry BM hT F.entry_enumerate_next ?_ (F.args_enumerate_next_1 _))))
 refine wpAny_bind (m:=field (.ref e) 2) (wpAny_field he rfl (x:=.ref it) rfl ?_)
 refine wpAny_bind (hin _ _ fun x h1 rr=>?_)
 have e1:=hR x h1 rr
 refine wpAny_bind (m:=field (.ref e) 3) (wpAny_field e1 rfl (x:=rawInt i) rfl ?_)
 refine wpAny_bind (m:=field (.ref e) 4) (wpAny_field e1 rfl (x:=.none) rfl ?_)
 refine wpAny_bind (m:=mkInt i) (wpAny_mkInt ?_)
 refine wpAny_bind (m:=setField (.ref e) 3 (rawInt ((i:Int) + 1))) (wpAny_setField_rec e1 (by simp) fun h2 e2 s2=>?_)
 replace e2:IsEnum h2 e it ((i:Int) + 1) old:=e2
 refine wpAny_bind (m:=setField (.ref e) 4 .none) (wpAny_setField_rec e2 (by simp) fun h3 e3 s3=>?_)
 replace e3:IsEnum h3 e it ((i:Int) + 1) old:=e3
 refine wpAny_bind (m:=newTuple [.int i tk,x]) (wpAny_newTuple ?_)
 have z3:h3.objs.size=h1.objs.size:=by rw [s3.1,s2.1]
 have elt:e < h3.objs.size:=An e3
 have e4:IsEnum (h3.push { cls:=.type "tuple",data:=.seq #[.int i tk,x] }) e it ((i:Int) + 1) old:=Ac _ e3
 refine wpAny_bind (m:=Builtin.SmallTypes.ownedTupleIsFree (.ref e)) ?_
 unfold Builtin.SmallTypes.ownedTupleIsFree
 refine wpAny_bind (wpAny_field e4 rfl (x:=.none) rfl (wpAny_pure ?_))
 simp only [BO]
 refine wpAny_bind (wpAny_rule ?_)
 refine wpAny_bind (wpAny_field e4 rfl (x:=old) rfl ?_)
 refine wpAny_bind (wpAny_setField_rec e4 (by simp) fun h5 e5 s5=>?_)
 replace e5:IsEnum h5 e it ((i:Int) + 1) x:=e5
 refine wpAny_bind (m:=Builtin.SmallTypes.ownedTupleHandOut (.ref e) (.ref h3.objs.size)) ?_
 unfold Builtin.SmallTypes.ownedTupleHandOut
 refine wpAny_bind (wpAny_setField_rec e5 (by simp) fun h6 e6 s6=>?_)
 replace e6:IsEnumOut h6 e it ((i:Int) + 1) x h3.objs.size:=e6
 refine wpAny_setField_rec e6 (by simp) fun h7 e7 s7=>?_
 replace e7:IsEnumOut h7 e it ((i:Int) + 1) x h3.objs.size:=e7
 have up:∀ b o,b ≠ e→(h3.push { cls:=.type "tuple",data:=.seq #[.int i tk,x] }).get? b=some o→h7.get? b=some o:=fun b o n q=>s7.extBut _ _ n (s6.extBut _ _ n (s5.extBut _ _ n q))
 have new:h7.get? h3.objs.size=some { cls:=.type "tuple",data:=.seq #[.int i tk,x] }:=up _ _ (CA elt) (Ak _ rfl)
 have sz:h7.objs.size=h3.objs.size + 1:=by rw [s7.1,s6.1,s5.1,AN]
 refine wpAny_bind (wpAny_letGo (wpAny_pure ⟨_,rfl,wpAny_pure ?_⟩))
 rw [z3] at e7 new sz
 show Q (some (.ref h3.objs.size)) _
 rw [z3]
 exact hQ x h1 h7 rr e7 new sz fun b o n q=>up b o n (Ac _ (s3.extBut _ _ n (s2.extBut _ _ n q)))
theorem en_end {e it:Addr}{i:Int}{old:Value}{Q:Option Value→Shared→Prop}{RE:Heap→Prop}(he:IsEnum s.heap e it i old)
  (hin:∀ (Q':Value→Shared→Prop) (E':Value→Shared→Prop),(∀ h' x,RE h'→(∃ o,h'.get? x=some o∧o.cls = .type "StopIteration")→E' (.ref x) { s with heap:=h' })→wpAny (model prog w) A.in1 (Builtin.SmallTypes.nextOf (.ref it)) Q' E' s)
  (hQ:∀ h',RE h'→Q none { s with heap:=h' }):wpAny (model prog w) A (pyNext (.ref e)) Q E s:=by
 have hT:s.TypeIs (.ref e) "enumerate" := ⟨_,he,rfl⟩
 unfold pyNext
 refine wpAny_bind (wpAny_attempt (wpAny_callSpecial?_slot (name:=Str.ofString "__next__") hT BM (wpAny_call_entry BM hT F.entry_enumerate_next ?_ (F.args_enumerate_next_1 _))))
 refine wpAny_bind (m:=field (.ref e) 2) (wpAny_field he rfl (x:=.ref it) rfl ?_)
 refine wpAny_bind (hin _ _ fun h' x re hx=>?_)
 obtain ⟨o,ho,hc⟩:=hx
 refine wpAny_bind (wpAny_isInstance (T := "StopIteration") (b:=true) ⟨o,ho,hc⟩ isSubtype_stop ?_)
 exact wpAny_pure (hQ _ re)
theorem aX (z TI TO:Addr) :
  Meets (Builtin.«enumerate.__new__» ⟨[.type "enumerate",.ref z],[]⟩) (fun _ R s=>IsZip s.heap z TI TO .none∧R (.ok (.ret (.ref s.heap.objs.size)))
    { s with heap:=s.heap.push { cls:=.type "enumerate",data:=.fields #[.none,.bool false,.ref z,rawInt 0,.none,.none] } }) :=
 .of_wp fun prog w A R s h=>by
  obtain ⟨hp,gn,d,tk,os⟩:=s
  obtain ⟨hl,h⟩:=h
  have sub:=sub_enumerate
  have itz:∀ {A':Around} {Q:Value→Shared→Prop} {E:Value→Shared→Prop},Q (.ref z) ⟨hp,gn,d,tk,os⟩→wpAny (model prog w) A' (pyIter (.ref z)) Q E ⟨hp,gn,d,tk,os⟩:=fun hq=>wpAny_pyIter_zip (s:=⟨hp,gn,d,tk,os⟩) hl hq
  wp_walk using Bk hl
  refine wpAny_stack_any fun st=>wpAny_pure ?_
  split
  ·rename_i c _ _ _ _ _
   cases (c == Value.type "enumerate") <;> (wp_walk using Bk hl,itz;exact ⟨_,rfl,h⟩)
  ·wp_walk using Bk hl,itz
   exact ⟨_,rfl,h⟩
theorem sE {z TI TO:Addr}{Q:Value→Shared→Prop}(hz:IsZip s.heap z TI TO .none)
  (h:∀ h',IsEnum h' s.heap.objs.size z 0 .none→(∀ b o,s.heap.get? b=some o→h'.get? b=some o)→Q (.ref s.heap.objs.size) { s with heap:=h' }):wpAny (model prog w) A (call (.type "enumerate") [.ref z]) Q E s:=by
 refine callType_new F.called_enumerate (by decide) (F.typeCall_enumerate_1 _) (F.newCall_enumerate_1 _) (fun obj=>F.args_object_init_2 obj _) F.entry_enumerate_new (aX z TI TO) ⟨hz,?_⟩
 have made:=Ak s.heap (o:={ cls:=.type "enumerate",data:=.fields #[.none,.bool false,.ref z,rawInt 0,.none,.none] }) rfl
 exact ⟨⟨_,made,rfl⟩,h _ made fun b o q=>Ac _ q⟩
end
def Itez (c1 c2:String)(a b:Addr)(xs ys:List V):It :=
 ⟨fun i H=>dN H c1 a xs∧dN H c2 b ys∧i < xs.length∧i < ys.length,fun i H x H'=>∃ T1 T2 u v,x = .ref T2∧H T1=none∧H T2=none∧T2 ≠ T1∧H'=upd (upd H T1 (.tup [u,v])) T2 (.tup [.int (i:Int),.ref T1])∧xs[i]? = some u∧ys[i]? = some v,fun i H=>dN H c1 a xs∧dN H c2 b ys∧(xs.length ≤ i∨ys.length ≤ i)⟩
structure Ez (h:Heap)(e z TI TO i1 i2:Addr)(c1 c2:String)(l1 l2:Addr)(k:Nat):Prop where
 en:∃ old,IsEnum h e z (k:Int) old
 zip:∃ f g,bU h z TI TO f g∧nQ f
 ti:IsPair h TI (.ref i1) (.ref i2)
 to:∃ a b,IsPair h TO a b
 s1:(c1 = "list_iterator" ∧ h.IsListIter i1 l1 k)∨(c1 = "tuple_iterator" ∧ h.IsTupleIter i1 l1 k)
 s2:(c2 = "list_iterator" ∧ h.IsListIter i2 l2 k)∨(c2 = "tuple_iterator" ∧ h.IsTupleIter i2 l2 k)
theorem ez_obj {h:Heap}{e z TI TO i1 i2 l1 l2:Addr}{c1 c2:String}{i:Nat}(st:Ez h e z TI TO i1 i2 c1 c2 l1 l2 i):∀ b ∈ [e,z,TI,TO,i1,i2],∃ o,h.get? b=some o∧∀ v,o.data ≠ .cell v:=by
 obtain ⟨⟨old,he⟩,⟨f,g,hz,_⟩,hti,⟨a,c,hto⟩,h1,h2⟩:=st
 exact AI.2 ⟨⟨_,he,fun _=>dat_f⟩,AI.2 ⟨⟨_,hz,fun _=>dat_f⟩,AI.2 ⟨⟨_,hti,fun v q=>by cases (show Data.seq _ _=Data.cell v from q)⟩,AI.2 ⟨⟨_,hto,fun v q=>by cases (show Data.seq _ _=Data.cell v from q)⟩,AI.2 ⟨d4 h1,AI.2 ⟨d4 h2,fun _ q=>nomatch q⟩⟩⟩⟩⟩⟩
theorem turn_ez {P:Program}{w:World}{K:PySem.W.Frag}{es:List Expr}{tk:_}{tp:Pos}(e z TI TO i1 i2 l1 l2:Addr)(c1 c2:String)(xs ys:List V)(D:ZipApart z TI TO i1 i2 l1 l2)(ne:e ∉ [z,TI,TO,i1,i2]) :
  Turn P w K (.Tuple es tk tp) (Itez c1 c2 l1 l2 xs ys) [e,z,TI,TO,i1,i2] e (fun i h=>Ez h e z TI TO i1 i2 c1 c2 l1 l2 i) where
 mem:=.head _
 obj:=fun i h st=>ez_obj st
 keep:=fun i h h' st k=>by
  obtain ⟨⟨old,he⟩,⟨f,g,hz,hf⟩,hti,⟨a,c,hto⟩,h1,h2⟩:=st
  exact ⟨⟨old,k e (.head _) _ he⟩,⟨f,g,k z mm1 _ hz,hf⟩,k TI mm2 _ hti,⟨a,c,k TO mm3 _ hto⟩,xR h1 fun o q=>k i1 mm4 o q,xR h2 fun o q=>k i2 mm5 o q⟩
 item:=by
  intro X hP hw hK hc i pins s σ H E I hf st hg
  subst hP hw hK
  obtain ⟨q1,q2,hi1,hi2⟩:=hg
  obtain ⟨its1,r1,o1⟩:=I.seqOf q1
  obtain ⟨its2,r2,o2⟩:=I.seqOf q2
  obtain ⟨x,hx⟩:=yW hi1
  obtain ⟨y,hy⟩:=yW hi2
  obtain ⟨u,hu,ru⟩:=r1.get hx
  obtain ⟨v,hv,rv⟩:=r2.get hy
  obtain ⟨⟨old,he⟩,⟨f,g,hz,hfo⟩,hti,hto,h1,h2⟩:=id st
  have lt:=ob_lt (ez_obj st)
  refine en_item (RR:=fun x' h1'=>x' = .ref s.heap.objs.size∧(∃ f' g',bU h1' z TI TO f' g'∧nQ f')∧IsPair h1' TI (.ref i1) (.ref i2)∧(∃ a b,IsPair h1' TO a b)∧Src h1' c1 i1 l1 its1.toArray (i + 1)∧Src h1' c2 i2 l2 its2.toArray (i + 1)∧IsPair h1' s.heap.objs.size u v∧h1'.objs.size=s.heap.objs.size + 1∧∀ c o,c ∉ [z,TO,i1,i2]→s.heap.get? c=some o→h1'.get? c=some o) he
   (fun Q' E' hq=>zn_item D hz hfo hti hto (zV h1 o1) (zV h2 o2) (by simpa using hu) (by simpa using hv) fun h' f' g' a1 a2 a3 a4 a5 a6 a7 a8 a9=>hq _ h' ⟨rfl,⟨f',g',a1,a2⟩,a3,a4,a5,a6,a7,a8,a9⟩)
   (fun x' h1' rr=>rr.2.2.2.2.2.2.2.2 e _ (fun q=>ne (oV q)) he)
   fun x' h1' h' rr out new size k=>?_
  obtain ⟨rfl,⟨f',g',zz,ff⟩,ti',to',s1',s2',pr,sz1,k1⟩:=rr
  refine ⟨_,rfl,wpAny_letOwnedTupleGo_enum out fun h'' z'' sb=>?_⟩
  have nT1:s.heap.objs.size ∉ [e,z,TI,TO,i1,i2]:=fun hb=>AJ _ (lt _ hb)
  have nT2:h1'.objs.size ∉ [e,z,TI,TO,i1,i2]:=fun hb=>absurd (lt _ hb) (by rw [sz1];exact Nat.not_lt_of_le (Cq _))
  have nm:∀ {c:Addr},c ∉ [e,z,TI,TO,i1,i2]→c ∉ [z,TO,i1,i2]∧c ≠ e:=fun h=>⟨fun q=>h (.tail _ (oV q)),fun q=>h (q ▸ .head _)⟩
  have kk:∀ c o,c ≠ e→h1'.get? c=some o→h''.get? c=some o:=fun c o n q=>sb.extBut _ _ n (k c o n q)
  have J1:=I.turnedT (fp:=[e,z,TI,TO,i1,i2]) (h':=h1') (T:=s.heap.objs.size) (xs:=[x,y]) (us:=[u,v]) (t':=s.toks) hf (fun c o hc' q=>k1 c o (nm hc').1 q) (Ad _) (by show 2 ≤ sizeLine;decide) (.cons ru (.cons rv .nil)) ⟨_,pr,rfl,_,rfl⟩ nT1
  have hf1:∀ b ∈ [e,z,TI,TO,i1,i2],xY X pins (upd H s.heap.objs.size (.tup [x,y])) b:=fun b hb=>⟨by rw [qQ (A3 (lt b hb))];exact (hf b hb).1,(hf b hb).2⟩
  have J2:=J1.turnedT (fp:=[e,z,TI,TO,i1,i2]) (h':=h'') (T:=h1'.objs.size) (xs:=[.int (i:Int),.ref s.heap.objs.size]) (us:=[.int i s.toks,.ref s.heap.objs.size]) (t':=s.toks + 1) hf1 (fun c o hc' q=>kk c o (nm hc').2 q) (Ad _) (by show 2 ≤ sizeLine;decide) (.cons ⟨s.toks,rfl⟩ (.cons rfl .nil)) ⟨_,sb.extBut _ _ (nm nT2).2 new,rfl,_,rfl⟩ nT2
  have ez:∀ {c:Addr},c ∈ [z,TI,TO,i1,i2]→c ≠ e:=fun h q=>ne (q ▸ h)
  refine ⟨.ref h1'.objs.size,_,J2,rfl,⟨s.heap.objs.size,h1'.objs.size,x,y,rfl,I.hok.fresh (Ad _),I.hok.fresh (by rw [sz1];exact Cq _),by rw [sz1];exact Nat.succ_ne_self _,rfl,hx,hy⟩,⟨⟨_,z''⟩,⟨f',g',kk _ _ (ez (.head _)) zz,ff⟩,kk _ _ (ez mm1) ti',?_,xR (yP s1') fun o q=>kk _ _ (ez mm3) q,xR (yP s2') fun o q=>kk _ _ (ez mm4) q⟩,fun b hb=>?_⟩
  ·obtain ⟨a,c,q⟩:=to'
   exact ⟨a,c,kk _ _ (ez mm2) q⟩
  ·have hlt:=lt b hb
   rw [qQ (A3 (by rw [sz1];exact Ce hlt)),qQ (A3 hlt)]
   exact (hf b hb).1
 done:=by
  intro X hP hw hK hc i pins s σ H E I hf st hg
  subst hP hw hK
  obtain ⟨q1,q2,hend⟩:=hg
  obtain ⟨its1,r1,o1⟩:=I.seqOf q1
  obtain ⟨its2,r2,o2⟩:=I.seqOf q2
  obtain ⟨⟨old,he⟩,⟨f,g,hz,hfo⟩,hti,hto,h1,h2⟩:=id st
  refine en_end (RE:=fun h'=>∀ c o,c ∉ [z,TO,i1,i2]→s.heap.get? c=some o→h'.get? c=some o) he (fun Q' E' hE=>zn_end (I.ok.hd hc) D hz hfo hti hto (zV h1 o1) (zV h2 o2) (hend.imp (dI r1.length) (dI r2.length)) fun h' x k hx=>hE h' x k hx) fun h' k=>?_
  exact ⟨rfl,I.turnedN (fp:=[e,z,TI,TO,i1,i2]) hf fun c o hc' q=>k c o (fun q=>hc' (.tail _ (oV q))) q⟩
 self:=fun A i s Q E st h=>by
  obtain ⟨⟨old,he⟩,_⟩:=st
  exact wpAny_pyIter_enum he h
section
variable {X:Cx}
def iEz (ta:TA):TI:=fun σ H R=>ta σ H fun vs H1=>∃ a b c1 c2 xs ys,vs=[.ref a,.ref b]∧dN H1 c1 a xs∧dN H1 c2 b ys∧R (Itez c1 c2 a b xs ys) H1
theorem pi_ez {es:List Expr}{kk:_}{tp:Pos}{a b:Expr}{ta:TA}{p pos p2 pos2:Pos}(hg:Gl X "enumerate") (hm:X.mg "enumerate" = none) (hg2:Gl X "zip") (hm2:X.mg "zip" = none) (ha:PA X [a,b] ta) (hs:starEach [a,b] X.env=[(false,eval a X.env),(false,eval b X.env)]:=by rfl) (hs2:starEach [b] X.env=[(false,eval b X.env)]:=by rfl)
  (hs3:starEach [.Call (.Name "zip" p2) [a,b] [] pos2] X.env=[(false,eval (.Call (.Name "zip" p2) [a,b] [] pos2) X.env)]:=by rfl) :
  PI X (.Tuple es kk tp) (.Call (.Name "enumerate" p) [.Call (.Name "zip" p2) [a,b] [] pos2] [] pos) (iEz ta):=by
 intro pins s σ H R I h
 refine Call_ (vH I hg hm dG (Be ?_ hs3 rfl))
 rw [hs3]
 show wpAny _ _ (spliced ((false,eval (.Call (.Name "zip" p2) [a,b] [] pos2) X.env) :: backTo pos [])) _ _ s
 refine Calls.spliced_cons ?_
 refine Call_ (vH I hg2 hm2 bt_zip (Be (jJ (ha pos2 pins s σ H _ I h) fun us s1 ⟨vs,H1,I1,r1,q1⟩=>?_) (by rw [hs,hs2]) (by rw [hs2];rfl)))
 obtain ⟨l1,l2,c1,c2,xs,ys,ee,k1,k2,q⟩:=q1
 subst ee
 obtain ⟨u1,u2,rfl,e1,e2⟩:=r1.two
 cases e1
 cases e2
 obtain ⟨its1,v1,o1⟩:=I1.seqOf k1
 obtain ⟨its2,v2,o2⟩:=I1.seqOf k2
 have lt1:(l1:Nat) < (s1.heap.objs.size:Nat):=o1.lt
 have lt2:(l2:Nat) < (s1.heap.objs.size:Nat):=o2.lt
 refine pS o1 o2 fun h' Z sz old=>?_
 refine wpAny_pure ?_
 refine sE Z.zip fun h2 he2 old2=>?_
 refine wpAny_pyIter_enum he2 ?_
 have D:ZipApart (s1.heap.objs.size + 4) (s1.heap.objs.size + 2) (s1.heap.objs.size + 3) s1.heap.objs.size (s1.heap.objs.size + 1) l1 l2:=PySem.W.ktu_apart _ _ _ o1.lt o2.lt
 have J:Inv X pins σ H1 { s1 with heap:=h2 }:=I1.kept (t':=s1.toks) fun b o q=>old2 b o (old b o q)
 have eh:({ s1 with heap:=h' }:Shared).heap.objs.size=s1.heap.objs.size + 5:=sz
 rw [eh] at he2
 refine ⟨s1.heap.objs.size + 5,_,_,_,H1,by rw [eh],J,turn_ez (s1.heap.objs.size + 5) (s1.heap.objs.size + 4) (s1.heap.objs.size + 2) (s1.heap.objs.size + 3) s1.heap.objs.size (s1.heap.objs.size + 1) l1 l2 c1 c2 xs ys D (by simp),⟨⟨_,he2⟩,⟨_,_,old2 _ _ Z.zip,.inl rfl⟩,old2 _ _ Z.ti,?_,xR (yP Z.s1) fun o q=>old2 _ o q,xR (yP Z.s2) fun o q=>old2 _ o q⟩,fun b hb=>?_,q⟩
 ·obtain ⟨x,y,q⟩:=Z.to
  exact ⟨x,y,old2 _ _ q⟩
 ·have hb':s1.heap.objs.size ≤ b:=by
   simp only [A2,Bh,or_false] at hb
   rcases hb with rfl | rfl | rfl | rfl | rfl | rfl <;> first | exact BC _ _ | exact Ad _
  exact I1.fpOk hb' (I1.hok.fresh hb')
theorem cl_ez {c1 c2:String}{a b:Addr}{xs ys:List V}{g:TG}{tc:TT}{tb:TB}{D:St→Hp→Prop}{σ:St}{H:Hp}(Pv:Nat→St→Hp→Prop)(h0:Pv 0 σ H)(hl:∀ i σ H,Pv i σ H→dN H c1 a xs∧dN H c2 b ys)
  (hs:∀ (i:Nat) u v (T1 T2:Addr) σ H H',xs[i]? = some u→ys[i]? = some v→Pv i σ H→Same H H'→H' T1=some (.tup [u,v])→H' T2=some (.tup [.int (i:Int),.ref T1])→g (.ref T2) σ H' fun σ2 H2=>tc σ2 H2 fun b H3=>if b=true then tb σ2 H3 (Pv (i + 1)) else Pv (i + 1) σ2 H3)
  (hd:∀ σ H,Pv (min xs.length ys.length) σ H→D σ H):nZ (Itez c1 c2 a b xs ys) g tc tb D σ H:=by
 refine ⟨fun i m σ H=>m=min xs.length ys.length - i∧i ≤ min xs.length ys.length∧Pv i σ H,⟨min xs.length ys.length,by simp,Bb _,h0⟩,?_⟩
 rintro i m σ H ⟨rfl,hi,p⟩
 obtain ⟨q1,q2⟩:=hl i σ H p
 by_cases hlt:i < min xs.length ys.length
 ·refine .inr ⟨⟨q1,q2,by omega,by omega⟩,Pv (i + 1),fun σ' H' p'=>⟨min xs.length ys.length - (i + 1),by omega,rfl,hlt,p'⟩,fun x H' y=>?_⟩
  obtain ⟨T1,T2,u,v,rfl,n1,n2,nn,rfl,e1,e2⟩:=y
  have n2':upd H T1 (.tup [u,v]) T2=none:=by rw [qQ nn];exact n2
  exact hs i u v T1 T2 σ H _ e1 e2 p ((kI n1).trans (kI n2')) (by rw [qQ nn.symm,qG]) qG
 ·have e:i=min xs.length ys.length:=by omega
  subst e
  exact .inl ⟨⟨q1,q2,by omega⟩,hd σ H p⟩
theorem a_iEz {ta:TA}{σ:St}{H:Hp}{R:It→Hp→Prop}:iEz ta σ H R=ta σ H fun vs H1=>∃ a b c1 c2 xs ys,vs=[.ref a,.ref b]∧dN H1 c1 a xs∧dN H1 c2 b ys∧R (Itez c1 c2 a b xs ys) H1:=rfl
end
end L2
end
section
namespace L2
open PySem
section
variable {D:Ends}{σ:St}{H:Hp}{Q:VK}{QB:Bool→Hp→Prop}{QA:List V→Hp→Prop}
end
end L2
namespace L2
theorem us0 {P:List PySem.Value→Prop}(h:P []):∀ us:List PySem.Value,us.length=0→P us:=fun us e=>by
 cases us with
 | nil=>exact h
 | cons _ _=>cases e
theorem us1 {P:List PySem.Value→Prop}(h:∀ a,P [a]):∀ us:List PySem.Value,us.length=1→P us:=fun us e=>by
 cases us with
 | nil=>cases e
 | cons a t=>exact us0 (P:=fun t=>P (a :: t)) (h a) t (Cy e)
theorem us2 {P:List PySem.Value→Prop}(h:∀ a b,P [a,b]):∀ us:List PySem.Value,us.length=2→P us:=fun us e=>by
 cases us with
 | nil=>cases e
 | cons a t=>exact us1 (P:=fun t=>P (a :: t)) (h a) t (Cy e)
theorem us3 {P:List PySem.Value→Prop}(h:∀ a b c,P [a,b,c]):∀ us:List PySem.Value,us.length=3→P us:=fun us e=>by
 cases us with
 | nil=>cases e
 | cons a t=>exact us2 (P:=fun t=>P (a :: t)) (h a) t (Cy e)
theorem us4 {P:List PySem.Value→Prop}(h:∀ a b c d,P [a,b,c,d]):∀ us:List PySem.Value,us.length=4→P us:=fun us e=>by
 cases us with
 | nil=>cases e
 | cons a t=>exact us3 (P:=fun t=>P (a :: t)) (h a) t (Cy e)
theorem us5 {P:List PySem.Value→Prop}(h:∀ a b c d f,P [a,b,c,d,f]):∀ us:List PySem.Value,us.length=5→P us:=fun us e=>by
 cases us with
 | nil=>cases e
 | cons a t=>exact us4 (P:=fun t=>P (a :: t)) (h a) t (Cy e)
end L2
end
section
namespace L2
open PySem
theorem a_tNever {D:Ends}{σ:St}{H:Hp}:iA D σ H=False:=rfl
theorem jW {X:Cx}{es:List Expr}{t:TA}{x1}{pos:Pos}(h:QA X es t):QE X (.Tuple es x1 pos) (eY t):=⟨kQ h.get⟩
section
variable {D:Ends}{σ:St}{H:Hp}{Q:VK}{QB:Bool→Hp→Prop}{QA:List V→Hp→Prop}{QG:St→Hp→Prop}
theorem vI {i:Nat}{v:V}(h:σ[i]? = some (some v)):gC i σ H Q=Q v H:=propext ⟨fun ⟨_,e,q⟩=>by cases h.symm.trans e;exact q,fun q=>⟨v,h,q⟩⟩
theorem e_var0 {v:V}:gC 0 (some v :: σ) H Q=Q v H:=vI rfl
theorem e_var1 {v:V}{b0:Option V}:gC 1 (b0 :: some v :: σ) H Q=Q v H:=vI rfl
theorem e_var2 {v:V}{b0 b1:Option V}:gC 2 (b0 :: b1 :: some v :: σ) H Q=Q v H:=vI rfl
theorem e_var3 {v:V}{b0 b1 b2:Option V}:gC 3 (b0 :: b1 :: b2 :: some v :: σ) H Q=Q v H:=vI rfl
theorem e_var4 {v:V}{b0 b1 b2 b3:Option V}:gC 4 (b0 :: b1 :: b2 :: b3 :: some v :: σ) H Q=Q v H:=vI rfl
theorem e_var5 {v:V}{b0 b1 b2 b3 b4:Option V}:gC 5 (b0 :: b1 :: b2 :: b3 :: b4 :: some v :: σ) H Q=Q v H:=vI rfl
theorem e_var6 {v:V}{b0 b1 b2 b3 b4 b5:Option V}:gC 6 (b0 :: b1 :: b2 :: b3 :: b4 :: b5 :: some v :: σ) H Q=Q v H:=vI rfl
theorem e_var7 {v:V}{b0 b1 b2 b3 b4 b5 b6:Option V}:gC 7 (b0 :: b1 :: b2 :: b3 :: b4 :: b5 :: b6 :: some v :: σ) H Q=Q v H:=vI rfl
theorem e_var8 {v:V}{b0 b1 b2 b3 b4 b5 b6 b7:Option V}:gC 8 (b0 :: b1 :: b2 :: b3 :: b4 :: b5 :: b6 :: b7 :: some v :: σ) H Q=Q v H:=vI rfl
theorem e_var9 {v:V}{b0 b1 b2 b3 b4 b5 b6 b7 b8:Option V}:gC 9 (b0 :: b1 :: b2 :: b3 :: b4 :: b5 :: b6 :: b7 :: b8 :: some v :: σ) H Q=Q v H:=vI rfl
theorem e_var10 {v:V}{b0 b1 b2 b3 b4 b5 b6 b7 b8 b9:Option V}:gC 10 (b0 :: b1 :: b2 :: b3 :: b4 :: b5 :: b6 :: b7 :: b8 :: b9 :: some v :: σ) H Q=Q v H:=vI rfl
theorem e_nam0 {v:V}{b0:Option V}:j8 0 v (b0 :: σ) H QG=QG (some v :: σ) H:=rfl
theorem e_nam1 {v:V}{b0 b1:Option V}:j8 1 v (b0 :: b1 :: σ) H QG=QG (b0 :: some v :: σ) H:=rfl
theorem e_nam2 {v:V}{b0 b1 b2:Option V}:j8 2 v (b0 :: b1 :: b2 :: σ) H QG=QG (b0 :: b1 :: some v :: σ) H:=rfl
theorem e_nam3 {v:V}{b0 b1 b2 b3:Option V}:j8 3 v (b0 :: b1 :: b2 :: b3 :: σ) H QG=QG (b0 :: b1 :: b2 :: some v :: σ) H:=rfl
theorem e_nam4 {v:V}{b0 b1 b2 b3 b4:Option V}:j8 4 v (b0 :: b1 :: b2 :: b3 :: b4 :: σ) H QG=QG (b0 :: b1 :: b2 :: b3 :: some v :: σ) H:=rfl
theorem e_nam5 {v:V}{b0 b1 b2 b3 b4 b5:Option V}:j8 5 v (b0 :: b1 :: b2 :: b3 :: b4 :: b5 :: σ) H QG=QG (b0 :: b1 :: b2 :: b3 :: b4 :: some v :: σ) H:=rfl
theorem e_nam6 {v:V}{b0 b1 b2 b3 b4 b5 b6:Option V}:j8 6 v (b0 :: b1 :: b2 :: b3 :: b4 :: b5 :: b6 :: σ) H QG=QG (b0 :: b1 :: b2 :: b3 :: b4 :: b5 :: some v :: σ) H:=rfl
theorem e_nam7 {v:V}{b0 b1 b2 b3 b4 b5 b6 b7:Option V}:j8 7 v (b0 :: b1 :: b2 :: b3 :: b4 :: b5 :: b6 :: b7 :: σ) H QG=QG (b0 :: b1 :: b2 :: b3 :: b4 :: b5 :: b6 :: some v :: σ) H:=rfl
theorem e_nam8 {v:V}{b0 b1 b2 b3 b4 b5 b6 b7 b8:Option V}:j8 8 v (b0 :: b1 :: b2 :: b3 :: b4 :: b5 :: b6 :: b7 :: b8 :: σ) H QG=QG (b0 :: b1 :: b2 :: b3 :: b4 :: b5 :: b6 :: b7 :: some v :: σ) H:=rfl
theorem e_nam9 {v:V}{b0 b1 b2 b3 b4 b5 b6 b7 b8 b9:Option V}:j8 9 v (b0 :: b1 :: b2 :: b3 :: b4 :: b5 :: b6 :: b7 :: b8 :: b9 :: σ) H QG=QG (b0 :: b1 :: b2 :: b3 :: b4 :: b5 :: b6 :: b7 :: b8 :: some v :: σ) H:=rfl
theorem e_nam10 {v:V}{b0 b1 b2 b3 b4 b5 b6 b7 b8 b9 b10:Option V}:j8 10 v (b0 :: b1 :: b2 :: b3 :: b4 :: b5 :: b6 :: b7 :: b8 :: b9 :: b10 :: σ) H QG=QG (b0 :: b1 :: b2 :: b3 :: b4 :: b5 :: b6 :: b7 :: b8 :: b9 :: some v :: σ) H:=rfl
theorem e_par {i j:Nat}{ta:TA}:tPar i j ta D σ H=ta σ H fun vs H1=>∃ v w,vs=[v,w]∧j8 i v σ H1 fun σ1 H2=>j8 j w σ1 H2 D.nx:=rfl
theorem e_ex2 {x y:V}{P:V→V→Prop}:(∃ v w,[x,y] = [v,w]∧P v w)=P x y:=propext ⟨fun ⟨_,_,e,q⟩=>by cases e;exact q,fun q=>⟨_,_,rfl,q⟩⟩
theorem e_gN:gNil [] σ H QG=QG σ H:=propext ⟨fun h=>h.2,fun h=>⟨rfl,h⟩⟩
theorem e_gC {t:TG}{u:TGs}{v:V}{r:List V}:gCons t u (v :: r) σ H QG=t v σ H fun σ' H'=>u r σ' H' QG:=propext ⟨fun ⟨_,_,e,q⟩=>by cases e;exact q,fun q=>⟨_,_,rfl,q⟩⟩
theorem e_rI0 {g:Int→Int→V}{i j:Int}:eF g (.int i) (.int j) H Q=Q (g i j) H:=propext ⟨fun ⟨_,_,e,e',q⟩=>by cases e;cases e';exact q,fun q=>⟨_,_,rfl,rfl,q⟩⟩
theorem e_rI {C:Int→Int→Prop}{g:Int→Int→V}{i j:Int}:rI C g (.int i) (.int j) H Q=(C i j∧Q (g i j) H):=propext ⟨fun ⟨_,_,e,e',q⟩=>by cases e;cases e';exact q,fun q=>⟨_,_,rfl,rfl,q⟩⟩
theorem e_rU {g:Int→V}{i:Int}:rU g (.int i) H Q=Q (g i) H:=propext ⟨fun ⟨_,e,q⟩=>by cases e;exact q,fun q=>⟨_,rfl,q⟩⟩
theorem e_xB {b:Bool}{P:Bool→Prop}:(∃ k,V.bl b=V.bl k∧P k)=P b:=propext ⟨fun ⟨_,e,q⟩=>by cases e;exact q,fun q=>⟨_,rfl,q⟩⟩
theorem e_xI {b:Int}{P:Int→Prop}:(∃ k,V.int b=V.int k∧P k)=P b:=propext ⟨fun ⟨_,e,q⟩=>by cases e;exact q,fun q=>⟨_,rfl,q⟩⟩
theorem e_xJ {b:Int}{P:Int→Prop}:(∃ k,[V.int b] = [V.int k]∧P k)=P b:=propext ⟨fun ⟨_,e,q⟩=>by cases e;exact q,fun q=>⟨_,rfl,q⟩⟩
theorem e_xJ2 {a b:Int}{P:Int→Int→Prop}:(∃ j k,[V.int a,V.int b] = [V.int j,V.int k]∧P j k)=P a b:=propext ⟨fun ⟨_,_,e,q⟩=>by cases e;exact q,fun q=>⟨_,_,rfl,q⟩⟩
theorem e_rEq {a b:Int}:rEq (.int a) (.int b) H Q=Q (.bl (decide (a=b))) H:=by
 show (z9 (.int a) (.int b)=true∧_)=_
 rw [show (decide (V.int a=V.int b))=decide (a=b) from decide_eq_decide.mpr ⟨fun e=>V.int.inj e,fun e=>by rw [e]⟩]
 exact propext ⟨fun h=>h.2,fun h=>⟨rfl,h⟩⟩
theorem e_rNe {a b:Int}:rNe (.int a) (.int b) H Q=Q (.bl (!decide (a=b))) H:=by
 show (z9 (.int a) (.int b)=true∧_)=_
 rw [show (decide (V.int a=V.int b))=decide (a=b) from decide_eq_decide.mpr ⟨fun e=>V.int.inj e,fun e=>by rw [e]⟩]
 exact propext ⟨fun h=>h.2,fun h=>⟨rfl,h⟩⟩
theorem e_itT {a b:Prop}:(if true=true then a else b)=a:=rfl
theorem e_itF {a b:Prop}:(if false=true then a else b)=b:=rfl
theorem e_itD {p:Prop}[Decidable p]{a b:Prop}:(if decide p=true then a else b)=if p then a else b:=by by_cases h:p <;> simp [h]
end
class CtP (α:Type) where
 p:α→Prop
def OS {α:Type}(o:Option α)[c:CtP α] : Prop:=∃ x,o=some x∧c.p x
def OL (o:Option HO)[c:CtP (List V)] : Prop:=∃ x,o=some (.lst x)∧c.p x
def OT (o:Option HO)[c:CtP (List V)] : Prop:=∃ x,o=some (.tup x)∧c.p x
theorem e_os {α:Type}{x:α}{P:α→Prop} : @OS α (some x) ⟨P⟩=P x:=propext ⟨fun ⟨_,e,q⟩=>by cases e;exact q,fun q=>⟨x,rfl,q⟩⟩
theorem e_ol {x:List V}{P:List V→Prop} : @OL (some (.lst x)) ⟨P⟩=P x:=propext ⟨fun ⟨_,e,q⟩=>by cases e;exact q,fun q=>⟨x,rfl,q⟩⟩
theorem e_ot {x:List V}{P:List V→Prop} : @OT (some (.tup x)) ⟨P⟩=P x:=propext ⟨fun ⟨_,e,q⟩=>by cases e;exact q,fun q=>⟨x,rfl,q⟩⟩
theorem u_os {α:Type}{o:Option α}{P:α→Prop} : @OS α o ⟨P⟩ = ∃ x,o=some x∧P x:=rfl
theorem u_ol {o:Option HO}{P:List V→Prop} : @OL o ⟨P⟩ = ∃ x,o=some (.lst x)∧P x:=rfl
theorem u_ot {o:Option HO}{P:List V→Prop} : @OT o ⟨P⟩ = ∃ x,o=some (.tup x)∧P x:=rfl
section
variable {D:Ends}{σ:St}{H:Hp}{Q:VK}{QG:St→Hp→Prop}{a:Addr}{n k:Int}
theorem e_ix:rIx0 (.ref a) (.int n) H Q = @OS _ (sq H a) ⟨fun xs=>@OS _ (dM xs n) ⟨fun v=>Q v H⟩⟩:=propext ⟨fun ⟨_,xs,_,v,e,e',h,h',q⟩=>by cases e;cases e';exact ⟨xs,h,v,h',q⟩,fun ⟨xs,h,v,h',q⟩=>⟨_,xs,_,v,rfl,rfl,h,h',q⟩⟩
theorem e_setL {v:V}{q:Hp→Prop}:iS (.ref a) (.int k) v H q = @OL (H a) ⟨fun xs=>@OS _ (pD xs.length k) ⟨fun j=>q (upd H a (.lst (xs.set j v)))⟩⟩:=propext ⟨fun ⟨_,xs,_,v,e,e',h,h',q⟩=>by cases e;cases e';exact ⟨xs,h,v,h',q⟩,fun ⟨xs,h,v,h',q⟩=>⟨_,xs,_,v,rfl,rfl,h,h',q⟩⟩
theorem e_emit {p:Addr}{te:TE}:xF p te σ H QG=te σ H fun y H1=>@OL (H1 p) ⟨fun ys=>ys.length < sizeLine∧QG σ (upd H1 p (.lst (ys ++ [y])))⟩:=rfl
theorem e_f1 {α:Type}{f:Addr→Option α}{P:Addr→α→Prop}:(∃ p ys,[V.ref a] = [V.ref p]∧f p=some ys∧P p ys) = @OS _ (f a) ⟨fun ys=>P a ys⟩:=propext ⟨fun ⟨_,y,e,h,q⟩=>by cases e;exact ⟨y,h,q⟩,fun ⟨y,h,q⟩=>⟨_,y,rfl,h,q⟩⟩
theorem e_f2 {P:Addr→List V→Prop}:(∃ p ys,[V.ref a] = [V.ref p]∧H p=some (.lst ys)∧P p ys) = @OL (H a) ⟨fun ys=>P a ys⟩:=propext ⟨fun ⟨_,y,e,h,q⟩=>by cases e;exact ⟨y,h,q⟩,fun ⟨y,h,q⟩=>⟨_,y,rfl,h,q⟩⟩
theorem e_f3 {P:Addr→List V→Prop}:(∃ p ys,V.ref a=V.ref p∧H p=some (.lst ys)∧P p ys) = @OL (H a) ⟨fun ys=>P a ys⟩:=propext ⟨fun ⟨_,y,e,h,q⟩=>by cases e;exact ⟨y,h,q⟩,fun ⟨y,h,q⟩=>⟨_,y,rfl,h,q⟩⟩
theorem e_f4 {P:Addr→List V→Prop}:(∃ p ys,V.ref a=V.ref p∧H p=some (.tup ys)∧P p ys) = @OT (H a) ⟨fun ys=>P a ys⟩:=propext ⟨fun ⟨_,y,e,h,q⟩=>by cases e;exact ⟨y,h,q⟩,fun ⟨y,h,q⟩=>⟨_,y,rfl,h,q⟩⟩
theorem e_f5 {z:V}{P:List V→V→Prop}:(∃ ys y,[z] = [y]∧H a=some (.lst ys)∧P ys y) = @OL (H a) ⟨fun ys=>P ys z⟩:=propext ⟨fun ⟨y,_,e,h,q⟩=>by cases e;exact ⟨y,h,q⟩,fun ⟨y,h,q⟩=>⟨y,_,rfl,h,q⟩⟩
end
theorem e_g1 {a:Addr}{P:Addr→Prop}:(∃ p,[V.ref a] = [V.ref p]∧P p)=P a:=propext ⟨fun ⟨_,e,q⟩=>by cases e;exact q,fun q=>⟨_,rfl,q⟩⟩
theorem e_g2 {a:Addr}{P:Addr→Prop}:(∃ p,V.ref a=V.ref p∧P p)=P a:=propext ⟨fun ⟨_,e,q⟩=>by cases e;exact q,fun q=>⟨_,rfl,q⟩⟩
theorem e_g3 {H:Hp}{a:Addr}{P:List V→Prop}:(∃ x,sq H a=some x∧P x) = @OS _ (sq H a) ⟨P⟩:=rfl
theorem e_g4 {H:Hp}{a:Addr}{P:List V→Prop}:(∃ x,H a=some (.lst x)∧P x) = @OL (H a) ⟨P⟩:=rfl
theorem e_g5 {H:Hp}{a:Addr}{P:List V→Prop}:(∃ x,H a=some (.tup x)∧P x) = @OT (H a) ⟨P⟩:=rfl
theorem e_g7 {xs:List V}{n:Int}{P:V→Prop}:(∃ x,dM xs n=some x∧P x) = @OS _ (dM xs n) ⟨P⟩:=rfl
class CtS where
 f:St→Hp→Prop
def fA [c:CtS] : St→Hp→Prop:=c.f
theorem qL {f:St→Hp→Prop}{σ:St}{H:Hp} : @fA ⟨f⟩ σ H=f σ H:=rfl
theorem sA {t u:TS}{D:Ends}{σ:St}{H:Hp}:eZ t u D σ H=t { D with nx:=@fA ⟨u D⟩ } σ H:=rfl
theorem sc_ii {a b:Int}:z9 (.int a) (.int b)=true:=rfl
theorem sc_bb {a b:Bool}:z9 (.bl a) (.bl b)=true:=rfl
theorem sc_ss {a b:Str}:z9 (.str a) (.str b)=true:=rfl
theorem sc_nn:z9 .non .non=true:=rfl
theorem sc_in {a:Int}:z9 (.int a) .non=true:=rfl
theorem sc_ni {a:Int}:z9 .non (.int a)=true:=rfl
theorem sc_bn {a:Bool}:z9 (.bl a) .non=true:=rfl
theorem sc_nb {a:Bool}:z9 .non (.bl a)=true:=rfl
theorem sc_sn {a:Str}:z9 (.str a) .non=true:=rfl
theorem sc_ns {a:Str}:z9 .non (.str a)=true:=rfl
theorem sc_is {a:Int}{b:Str}:z9 (.int a) (.str b)=true:=rfl
theorem sc_si {a:Int}{b:Str}:z9 (.str b) (.int a)=true:=rfl
theorem sc_bs {a:Bool}{b:Str}:z9 (.bl a) (.str b)=true:=rfl
theorem sc_sb {a:Bool}{b:Str}:z9 (.str b) (.bl a)=true:=rfl
end L2
end
section
namespace L2
open PySem PySem.Spec
open PyProof.Rows hiding Fr News
section
variable {X:Cx}
theorem aR {ns ms:List Int}(h:ns.length=ms.length):((List.range ns.length).all fun j=>decide (ns.getD j 0=ms.getD j 0))=decide (ns=ms):=by
 have e:=bD ns ms
 rw [h,Nat.min_self,Ck,Bool.and_true] at e
 rw [h]
 exact e
theorem eqAt_li {pins:List (Addr × Obj)}{σ:St}{H:Hp}{s:Shared}{A:Around}{a b:Addr}{ns ms:List Int}(I:Inv X pins σ H s)(ha:H a=some (.lst (ns.map V.int)))(hb:H b=some (.lst (ms.map V.int)))(hu:A.units < cLine):SeqAt.EqAt A s (.ref a) (.ref b) (decide (ns=ms)):=by
 by_cases hab:a=b
 ·subst hab
  rw [ha] at hb
  have e:ns.map V.int=ms.map V.int:=by injection hb with h;injection h
  have:ns=ms:=BF (fun _ _ h=>by injection h) |>.mp e
  rw [A0 this]
  exact Ca _
 ·refine Cb hab ?_
  obtain ⟨its,r1,p1,_⟩:=I.list (SqL.of ha)
  obtain ⟨its2,r2,p2,_⟩:=I.list (SqL.of hb)
  have l1:=r1.length
  have l2:=r2.length
  rw [Aa] at l1 l2
  by_cases c:ns.length=ms.length
  ·have r:=SeqAt.RcAt.lists (A:=A) (s:=s) (e:=fun j=>decide (ns.getD j 0=ms.getD j 0)) p1.isList p2.isList (by simp;omega) hu (fun j h1 h2=>by
    have h1':j < its.length:=by simpa using h1
    have h2':j < its2.length:=by simpa using h2
    obtain ⟨t,e1⟩:=jM r1 (i:=j) (v:=its[j]) (by simp [h1'])
    obtain ⟨u,e2⟩:=jM r2 (i:=j) (v:=its2[j]) (by simp [h2'])
    have key:SeqAt.EqAt A.in1 s its[j] its2[j] (pI (.int (ns.getD j 0)) (.int (ms.getD j 0))):=gJ ⟨t,e1⟩ ⟨u,e2⟩ rfl rfl
    have e:pI (.int (ns.getD j 0)) (.int (ms.getD j 0))=decide (ns.getD j 0=ms.getD j 0):=by
     show (ns.getD j 0 == ms.getD j 0)=_
     rfl
    rw [e] at key
    simpa using key)
   rw [Ah,← l1,aR c] at r
   exact r
  ·rw [Al (fun z=>c (AW List.length z))]
   exact SeqAt.RcAt.lists_lengths p1.isList p2.isList (by simp;omega) hu
theorem iQ {xs:List (Addr × List Int)}{its:List Value}(vi:Vals (xs.map fun x=>V.ref x.1) its):its=xs.map fun x=>Value.ref x.1:=by
 have hlen:xs.length=its.length:=by simpa using vi.length
 refine BS (by simpa using hlen.symm) fun i h1 h2=>?_
 obtain ⟨u,hu,ru⟩:=vi.get (i:=i) (x:=V.ref (xs[i]'(by omega)).1) (by simp [show i < xs.length by omega])
 rw [Ae h1] at hu
 rw [A8 hu,Cj]
 exact ru
theorem iN {xs ys:List (List Int)}(h:xs.length=ys.length):((List.range xs.length).all fun j=>decide (xs.getD j [] = ys.getD j []))=decide (xs=ys):=by
 rw [Bl,B3,AU]
 simp only [AZ,AU]
 constructor
 ·intro k
  refine BS h fun i h1 h2=>?_
  have:=k i h1
  rwa [Ab,Ab,Ae h1,Ae h2] at this
 ·rintro rfl j _
  rfl
theorem eqAt_lt {pins:List (Addr × Obj)}{σ:St}{H:Hp}{s:Shared}{A:Around}{a b:Addr}{xs ys:List (Addr × List Int)}(I:Inv X pins σ H s)(ha:H a=some (.lst (xs.map fun x=>V.ref x.1)))(hb:H b=some (.lst (ys.map fun x=>V.ref x.1)))(tx:∀ x ∈ xs,H x.1=some (.tup (x.2.map V.int)))(ty:∀ x ∈ ys,H x.1=some (.tup (x.2.map V.int)))(hu:A.units + 1 < cLine):SeqAt.EqAt A s (.ref a) (.ref b) (decide (xs.map (·.2)=ys.map (·.2))):=by
 by_cases hab:a=b
 ·subst hab
  rw [ha] at hb
  have e:(xs.map fun x=>V.ref x.1)=ys.map fun x=>V.ref x.1:=by injection hb with h;injection h
  have hl:xs.length=ys.length:=by have:=AW List.length e;simpa using this
  have:xs.map (·.2)=ys.map (·.2):=by
   refine BS (by simpa using hl) fun i h1 h2=>?_
   have j1:i < xs.length:=by simpa using h1
   have j2:i < ys.length:=by simpa using h2
   have q:=AW (fun l=>l[i]?) e
   simp only [Ag,Ae j1,Ae j2,BJ,Option.some.injEq,V.ref.injEq] at q
   have a1:=tx _ (AH j1)
   have a2:=ty _ (AH j2)
   rw [q,a2] at a1
   injection a1 with h
   injection h with h
   rw [Cj,Cj]
   exact (BF (fun _ _ h=>by injection h) |>.mp h).symm
  rw [A0 this]
  exact Ca _
 ·refine Cb hab ?_
  obtain ⟨its,r1,p1,_⟩:=I.list (SqL.of ha)
  obtain ⟨its2,r2,p2,_⟩:=I.list (SqL.of hb)
  have e1:=iQ r1
  have e2:=iQ r2
  subst e1 e2
  by_cases c:xs.length=ys.length
  ·have r:=SeqAt.RcAt.lists (A:=A) (s:=s) (e:=fun j=>decide ((xs.map (·.2)).getD j [] = (ys.map (·.2)).getD j [])) p1.isList p2.isList (by simpa using c) (by omega) (fun j h1 h2=>by
    have j1:j < xs.length:=by simpa using h1
    have j2:j < ys.length:=by simpa using h2
    have g1:(xs.map (·.2)).getD j [] = xs[j].2:=by rw [Ab,Ag,Ae j1];rfl
    have g2:(ys.map (·.2)).getD j [] = ys[j].2:=by rw [Ab,Ag,Ae j2];rfl
    rw [g1,g2]
    simp only [List.getElem_toArray,Cj]
    exact dD I (tx _ (AH j1)) (ty _ (AH j2)) (by show A.units + 1 < cLine;omega))
   have e:=iN (xs:=xs.map (·.2)) (ys:=ys.map (·.2)) (by simpa using c)
   rw [Ah,Aa] at r
   rw [Aa] at e
   rw [e] at r
   exact r
  ·rw [Al (fun z=>c (by have:=AW List.length z;simpa using this))]
   exact SeqAt.RcAt.lists_lengths p1.isList p2.isList (by simpa using c) (by omega)
def rNeGr:R2:=fun x y H Q=>∃ (a b a1 a2 b1 b2:Addr) (n1 m1:List Int) (n2 m2:List (Addr × List Int)),x = .ref a∧y = .ref b∧H a=some (.tup [.ref a1,.ref a2])∧H b=some (.tup [.ref b1,.ref b2])∧H a1=some (.lst (n1.map V.int))∧H a2=some (.lst (n2.map fun x=>V.ref x.1))∧H b1=some (.lst (m1.map V.int))∧H b2=some (.lst (m2.map fun x=>V.ref x.1))∧(∀ x ∈ n2,H x.1=some (.tup (x.2.map V.int)))∧(∀ x ∈ m2,H x.1=some (.tup (x.2.map V.int)))∧Q (.bl (!(decide (n1=m1) && decide (n2.map (·.2)=m2.map (·.2))))) H
theorem a_rNeGr {x y:V}{H:Hp}{Q:VK}:rNeGr x y H Q = ∃ (a b a1 a2 b1 b2:Addr) (n1 m1:List Int) (n2 m2:List (Addr × List Int)),x = .ref a∧y = .ref b∧H a=some (.tup [.ref a1,.ref a2])∧H b=some (.tup [.ref b1,.ref b2])∧H a1=some (.lst (n1.map V.int))∧H a2=some (.lst (n2.map fun x=>V.ref x.1))∧H b1=some (.lst (m1.map V.int))∧H b2=some (.lst (m2.map fun x=>V.ref x.1))∧(∀ x ∈ n2,H x.1=some (.tup (x.2.map V.int)))∧(∀ x ∈ m2,H x.1=some (.tup (x.2.map V.int)))∧Q (.bl (!(decide (n1=m1) && decide (n2.map (·.2)=m2.map (·.2))))) H:=rfl
theorem neGr0 (hu:X.A.units + 64 < cLine):xD X (compareOp .NotEq) rNeGr:=by
 intro pins s σ H x y v u Q I rx ry h
 obtain ⟨a,b,a1,a2,b1,b2,n1,m1,n2,m2,rfl,rfl,ha,hb,ha1,ha2,hb1,hb2,t1,t2,q⟩:=h
 cases rx
 cases ry
 obtain ⟨its,r1,p1,_⟩:=I.tuple (SqT.of ha)
 obtain ⟨its2,r2,p2,_⟩:=I.tuple (SqT.of hb)
 obtain ⟨u1,u2,rfl,e1,e2⟩:=r1.two
 obtain ⟨v1,v2,rfl,f1,f2⟩:=r2.two
 cases e1
 cases e2
 cases f1
 cases f2
 obtain ⟨⟨c1,d1,da1,sl1⟩,o1,k1,n1',g1⟩:=id p1
 obtain ⟨⟨c2,d2,da2,sl2⟩,o2,k2,n2',g2⟩:=id p2
 simp only at k1 g1 k2 g2
 subst k1 g1 k2 g2
 refine richCompare_meets_room (op:=.NotEq) ⟨_,o1,rfl⟩ ⟨_,o2,rfl⟩ F.slot_tuple_ne F.entry_tuple_ne (F.args_tuple_ne_2 _ _) (tuple_neAt a b _ _ n1' n2' d1 d2 sl1 sl2 fun j=>if j=0 then decide (n1=m1) else decide (n2.map (·.2)=m2.map (·.2))) ⟨o1,o2,fun j h1 h2=>?_,?_⟩ (by omega)
 ·have hj:j=0∨j=1:=by
   have:j < 2:=by simpa using h1
   omega
  rcases hj with rfl | rfl
  ·refine eqAt_li I ha1 hb1 ?_
   simp only [Bu]
   omega
  ·refine eqAt_lt I ha2 hb2 t1 t2 ?_
   simp only [Bu]
   omega
 ·refine ⟨(fun z=>nomatch z),⟨.bl (!(decide (n1=m1) && decide (n2.map (·.2)=m2.map (·.2)))),H,I,?_,q⟩⟩
  simp [Bm]
  rfl
def iT:R2:=fun x y H Q=>∃ (a b a1 a2 b1 b2:Addr) (n1 n2 m1 m2:List Int),x = .ref a∧y = .ref b∧H a=some (.tup [.ref a1,.ref a2])∧H b=some (.tup [.ref b1,.ref b2])∧H a1=some (.tup (n1.map V.int))∧H a2=some (.tup (n2.map V.int))∧H b1=some (.tup (m1.map V.int))∧H b2=some (.tup (m2.map V.int))∧Q (.bl (decide (n1=m1) && decide (n2=m2))) H
theorem a_rEqPP {x y:V}{H:Hp}{Q:VK}:iT x y H Q = ∃ (a b a1 a2 b1 b2:Addr) (n1 n2 m1 m2:List Int),x = .ref a∧y = .ref b∧H a=some (.tup [.ref a1,.ref a2])∧H b=some (.tup [.ref b1,.ref b2])∧H a1=some (.tup (n1.map V.int))∧H a2=some (.tup (n2.map V.int))∧H b1=some (.tup (m1.map V.int))∧H b2=some (.tup (m2.map V.int))∧Q (.bl (decide (n1=m1) && decide (n2=m2))) H:=rfl
theorem eqPP0 (hu:X.A.units + 64 < cLine):xD X (compareOp .Eq) iT:=by
 intro pins s σ H x y v u Q I rx ry h
 obtain ⟨a,b,a1,a2,b1,b2,n1,n2,m1,m2,rfl,rfl,ha,hb,ha1,ha2,hb1,hb2,q⟩:=h
 cases rx
 cases ry
 obtain ⟨its,r1,p1,_⟩:=I.tuple (SqT.of ha)
 obtain ⟨its2,r2,p2,_⟩:=I.tuple (SqT.of hb)
 obtain ⟨u1,u2,rfl,e1,e2⟩:=r1.two
 obtain ⟨v1,v2,rfl,f1,f2⟩:=r2.two
 cases e1
 cases e2
 cases f1
 cases f2
 refine SeqAt.eq_tupleAt (e:=fun j=>if j=0 then decide (n1=m1) else decide (n2=m2)) (show s.heap.IsTuple a _ from p1) (show s.heap.IsTuple b _ from p2) (by omega) (fun j h1 h2=>?_) ⟨.bl (decide (n1=m1) && decide (n2=m2)),H,I,?_,q⟩
 ·have hj:j=0∨j=1:=by
   have:j < 2:=by simpa using h1
   omega
  rcases hj with rfl | rfl
  ·refine dD I ha1 hb1 ?_
   simp only [Bu]
   omega
  ·refine dD I ha2 hb2 ?_
   simp only [Bu]
   omega
 ·simp [Bm]
  rfl
end
end L2
end
section
namespace L2
open PySem PySem.Spec PyProof.Rows PySem.SeqAt
abbrev dObj (es:Array DictEntry)(ep:Nat)(dd:Option Addr)(sl:Array (Option Value)):Obj:={ cls:=.type "dict",dict:=dd,data:=.dict es ep,slots:=sl }
abbrev tObj (xs:Array Value)(n:Nat)(dd:Option Addr)(sl:Array (Option Value)):Obj:={ cls:=.type "tuple",dict:=dd,data:=.seq xs n,slots:=sl }
section
variable {l b:Addr}{es:Array DictEntry}{ep n:Nat}{xs:Array Value}{dd d2:Option Addr}{sl s2:Array (Option Value)}
theorem dt_eq:Meets (Builtin.«dict.__eq__» ⟨[.ref l,.ref b],[]⟩) (fun _ R s=>s.heap.get? l=some (dObj es ep dd sl)∧s.heap.get? b=some (tObj xs n d2 s2)∧R (.ok (.ret .notImplemented)) s) :=
 .of_wp fun _ _ _ _ s h=>by
  obtain ⟨_,_,_,_,_⟩:=s
  obtain ⟨h1,h2,h3⟩:=h
  have f:=Ci
  wp_walk using wpAny_loadPart' h1,wpAny_loadPart' h2
  exact ⟨_,rfl,h3⟩
theorem td_eq:Meets (Builtin.«tuple.__eq__» ⟨[.ref b,.ref l],[]⟩) (fun _ R s=>s.heap.get? l=some (dObj es ep dd sl)∧s.heap.get? b=some (tObj xs n d2 s2)∧R (.ok (.ret .notImplemented)) s) :=
 .of_wp fun _ _ _ _ s h=>by
  obtain ⟨_,_,_,_,_⟩:=s
  obtain ⟨h1,h2,h3⟩:=h
  have f:=F.sub_dict_tuple
  wp_walk using wpAny_loadPart' h2,wpAny_loadPart' h1
  exact ⟨_,rfl,h3⟩
theorem dt_ne:Meets (Builtin.«dict.__ne__» ⟨[.ref l,.ref b],[]⟩) (fun _ R s=>s.heap.get? l=some (dObj es ep dd sl)∧s.heap.get? b=some (tObj xs n d2 s2)∧R (.ok (.ret .notImplemented)) s) :=
 .of_wp fun _ _ _ _ s h=>by
  obtain ⟨_,_,_,_,_⟩:=s
  obtain ⟨h1,h2,h3⟩:=h
  have f:=Ci
  wp_walk using wpAny_loadPart' h1,wpAny_loadPart' h2
  exact ⟨_,rfl,h3⟩
theorem td_ne:Meets (Builtin.«tuple.__ne__» ⟨[.ref b,.ref l],[]⟩) (fun _ R s=>s.heap.get? l=some (dObj es ep dd sl)∧s.heap.get? b=some (tObj xs n d2 s2)∧R (.ok (.ret .notImplemented)) s) :=
 .of_wp fun _ _ _ _ s h=>by
  obtain ⟨_,_,_,_,_⟩:=s
  obtain ⟨h1,h2,h3⟩:=h
  have f:=F.sub_dict_tuple
  wp_walk using wpAny_loadPart' h2,wpAny_loadPart' h1
  exact ⟨_,rfl,h3⟩
theorem di_eq (i:Int)(u:Tok):Meets (Builtin.«dict.__eq__» ⟨[.ref l,.int i u],[]⟩) (fun _ R s=>s.heap.get? l=some (dObj es ep dd sl)∧R (.ok (.ret .notImplemented)) s) :=
 .of_wp fun _ _ _ _ s h=>by
  obtain ⟨_,_,_,_,_⟩:=s
  obtain ⟨h1,h3⟩:=h
  have f:=F.sub_int_dict
  wp_walk using wpAny_loadPart' h1
  exact ⟨_,rfl,h3⟩
theorem id_eq (i:Int)(u:Tok):Meets (Builtin.«int.__eq__» ⟨[.int i u,.ref l],[]⟩) (fun _ R s=>s.heap.get? l=some (dObj es ep dd sl)∧R (.ok (.ret .notImplemented)) s) :=
 .of_wp fun _ _ _ _ s h=>by
  obtain ⟨_,_,_,_,_⟩:=s
  obtain ⟨h1,h3⟩:=h
  have f:=F.sub_dict_int
  wp_walk using wpAny_loadPart' h1,wpAny_load h1
  exact ⟨_,rfl,h3⟩
variable {s:Shared}{A:Around}
theorem rc_dt (h1:s.heap.get? l=some (dObj es ep dd sl))(h2:s.heap.get? b=some (tObj xs n d2 s2))(hu:A.units < cLine):RcAt A s (.ref l) (.ref b) false:=fun _ _ _ _ h=>by
 have ne:l ≠ b:=fun z=>by rw [z,h2] at h1;simp [dObj,tObj] at h1
 exact rc_eq_decline_or ⟨_,h1,rfl⟩ ⟨_,h2,rfl⟩ (by decide) Ci C2 F.slot_tuple_eq_refl
  (fun _ g=>call_meets C2 ⟨_,h1,rfl⟩ F.entry_dict_eq (F.args_dict_eq_2 _ _) dt_eq ⟨h1,h2,g⟩)
  (fun _ g=>call_meets F.slot_tuple_eq_refl ⟨_,h2,rfl⟩ F.entry_tuple_eq (F.args_tuple_eq_2 _ _) td_eq ⟨h1,h2,g⟩)
  (fun _ g=>wpAny_isSame_ref_other ne h1 h2 (by simp) g) (.inr hu) h
theorem rn_dt (h1:s.heap.get? l=some (dObj es ep dd sl))(h2:s.heap.get? b=some (tObj xs n d2 s2))(hu:A.units < cLine):RcNeAt A s (.ref l) (.ref b) true:=fun _ _ _ _ h=>by
 have ne:l ≠ b:=fun z=>by rw [z,h2] at h1;simp [dObj,tObj] at h1
 exact rc_ne_decline_or (k:=false) ⟨_,h1,rfl⟩ ⟨_,h2,rfl⟩ (by decide) Ci F.slot_dict_ne F.slot_tuple_ne_refl
  (fun _ g=>call_meets F.slot_dict_ne ⟨_,h1,rfl⟩ F.entry_dict_ne (F.args_dict_ne_2 _ _) dt_ne ⟨h1,h2,g⟩)
  (fun _ g=>call_meets F.slot_tuple_ne_refl ⟨_,h2,rfl⟩ F.entry_tuple_ne (F.args_tuple_ne_2 _ _) td_ne ⟨h1,h2,g⟩)
  (fun _ g=>wpAny_isSame_ref_other ne h1 h2 (by simp) g) (.inr hu) h
theorem rc_di (i:Int)(u:Tok)(h1:s.heap.get? l=some (dObj es ep dd sl))(hu:A.units < cLine):RcAt A s (.ref l) (.int i u) false:=fun _ _ _ _ h=>by
 exact rc_eq_decline_or ⟨_,h1,rfl⟩ (typeIs_int s i u) (by decide) F.sub_int_dict C2 F.slot_int_eq_refl
  (fun _ g=>call_meets C2 ⟨_,h1,rfl⟩ F.entry_dict_eq (F.args_dict_eq_2 _ _) (di_eq i u) ⟨h1,g⟩)
  (fun _ g=>call_meets F.slot_int_eq_refl (typeIs_int s i u) F.entry_int_eq (F.args_int_eq_2 _ _) (id_eq i u) ⟨h1,g⟩)
  (fun _ g=>wpAny_of_eq (rfl:isSame (.ref l) (.int i u)=pure false) g) (.inr hu) h
theorem ea_di (i:Int)(u:Tok)(h1:s.heap.get? l=some (dObj es ep dd sl))(hu:A.units < cLine):EqAt A s (.ref l) (.int i u) false:=fun prog w E Q h=>by
 unfold eqBool
 refine wpAny_holding (wpAny_ite_split (fun z=>absurd (eq_of_beq z) nofun) fun _=>?_)
 exact wpAny_bind (rc_di i u h1 hu prog w E _ (wpAny_truthy_bool h))
end
def sJ (H:Hp)(x:V):Prop:=zT x=true∨∃ a,x = .ref a∧((∃ xs,H a=some (.lst xs))∨∃ k,H a=some (.dK k))
def EqD:Nat→Hp→V→V→Bool→Prop
 | 0,H,x,y,v=>∃ i:Int,y = .int i∧((zT x=true∧v=pI x y)∨(v=false∧∃ a,x = .ref a∧((∃ xs,H a=some (.tup xs))∨(∃ xs,H a=some (.lst xs))∨∃ k,H a=some (.dK k))))
 | n + 1,H,x,y,v=>∃ b ys,y = .ref b∧H b=some (.tup ys)∧((v=false∧sJ H x)∨(x = .ref b∧v=true)∨∃ a xs,∃ e:Nat→Bool,x = .ref a∧a ≠ b∧H a=some (.tup xs)∧(∀ (i:Nat) u w,xs[i]? = some u→ys[i]? = some w→EqD n H u w (e i))∧v=((List.range (min xs.length ys.length)).all e && xs.length == ys.length))
section
variable {X:Cx}{pins:List (Addr × Obj)}{σ:St}{H:Hp}{s:Shared}
theorem sC {a:Addr}{k:List (Key × V)}(I:Inv X pins σ H s)(h:H a=some (.dK k)):∃ es ep,s.heap.get? a=some (dObj es ep none #[]):=by
 obtain ⟨_,_,vs,_,p⟩:=(show ObjOk X.prog X.w H s.heap a (.dK k) from I.hok a _ h)
 obtain ⟨⟨c,d,da,sl⟩,es,ep,h1,⟨h2,h3,h4⟩,h5,_⟩:=p
 simp only at h2 h3 h4 h5
 subst h2 h3 h4 h5
 exact ⟨es,ep,h1⟩
theorem sP {a:Addr}{xs:Array Value}(h:IsTup s.heap a xs):∃ n dd sl,s.heap.get? a=some (tObj xs n dd sl):=by
 obtain ⟨⟨c,d,da,sl⟩,o,k,n,g⟩:=id h
 simp only at k g
 subst k g
 exact ⟨n,d,sl,o⟩
theorem cX {A:Around}{a b:Addr}{xs ys:List V}{e:Nat→Bool}(ha:H a=some (.tup xs))(hb:H b=some (.tup ys))(I:Inv X pins σ H s)(h:∀ (i:Nat) (u v:V) (u' v':Value),xs[i]? = some u→ys[i]? = some v→RelV u u'→RelV v v'→SeqAt.EqAt A s u' v' (e i)) :
  ∃ its its2:List Value,IsTup s.heap a its.toArray∧IsTup s.heap b its2.toArray∧its.length=xs.length∧its2.length=ys.length∧∀ (j:Nat) (h1:j < its.toArray.size) (h2:j < its2.toArray.size),SeqAt.EqAt A s its.toArray[j] its2.toArray[j] (e j):=by
 obtain ⟨its,r1,p1,_⟩:=I.tuple (SqT.of ha)
 obtain ⟨its2,r2,p2,_⟩:=I.tuple (SqT.of hb)
 have l1:=r1.length
 have l2:=r2.length
 refine ⟨its,its2,p1,p2,l1.symm,l2.symm,fun j h1 h2=>?_⟩
 have h1':j < its.length:=by simpa using h1
 have h2':j < its2.length:=by simpa using h2
 obtain ⟨u,hu',ru⟩:=r1.get (i:=j) (x:=xs[j]'(by omega)) (Ae _)
 obtain ⟨v,hv',rv⟩:=r2.get (i:=j) (x:=ys[j]'(by omega)) (Ae _)
 have e1:its.toArray[j] = u:=by
  have:=Ae h1'
  rw [hu'] at this
  simpa using (A8 this).symm
 have e2:its2.toArray[j] = v:=by
  have:=Ae h2'
  rw [hv'] at this
  simpa using (A8 this).symm
 rw [e1,e2]
 exact h j _ _ u v (Ae _) (Ae _) ru rv
theorem pJ (I:Inv X pins σ H s):∀ (n:Nat) (A:Around) (x y:V) (u v:Value) (k:Bool),A.units + n < cLine→EqD n H x y k→RelV x u→RelV y v→SeqAt.EqAt A s u v k
 | 0,A,x,y,u,v,k,hu,h,ru,rv=>by
  obtain ⟨i,rfl,h⟩:=h
  rcases h with ⟨fx,rfl⟩ | ⟨rfl,a,rfl,h⟩
  ·exact gJ ru rv fx rfl
  ·cases ru
   obtain ⟨t,rfl⟩:=rv
   rcases h with ⟨xs,h⟩ | ⟨xs,h⟩ | ⟨d,h⟩
   ·obtain ⟨its,_,p,_⟩:=I.tuple (SqT.of h)
    exact .tuple_int i t p (by omega)
   ·obtain ⟨its,_,p,_⟩:=I.list (SqL.of h)
    exact .list_int i t p.isList (by omega)
   ·obtain ⟨es,ep,o⟩:=sC I h
    exact ea_di i t o (by omega)
 | n + 1,A,x,y,u,v,k,hu,h,ru,rv=>by
  obtain ⟨b,ys,rfl,hb,h⟩:=h
  cases rv
  obtain ⟨its2,_,p2,_⟩:=I.tuple (SqT.of hb)
  rcases h with ⟨rfl,fx | ⟨a,rfl,h⟩⟩ | ⟨rfl,rfl⟩ | ⟨a,xs,e,rfl,ne,ha,hh,rfl⟩
  ·cases x with
   | non=>cases ru;exact .none_tuple p2 (by omega)
   | bl c=>cases ru;exact .bool_tuple c p2 (by omega)
   | int c=>obtain ⟨t,rfl⟩:=ru;exact .int_tuple c t p2 (by omega)
   | str c=>obtain ⟨t,rfl⟩:=ru;exact .str_tuple c t p2 (by omega)
   | _=>exact absurd (show false=true from fx) Ao
  ·cases ru
   rcases h with ⟨xs,h⟩ | ⟨d,h⟩
   ·obtain ⟨its,_,p,_⟩:=I.list (SqL.of h)
    exact .list_tuple p.isList p2 (by omega)
   ·obtain ⟨es,ep,o⟩:=sC I h
    obtain ⟨m,dd,sl,o2⟩:=sP p2
    exact .of_refs (fun z=>by rw [z,o2] at o;simp [dObj,tObj] at o) (rc_dt o o2 (by omega))
  ·cases ru
   exact Ca _
  ·cases ru
   obtain ⟨its,its2,q1,q2,l1,l2,he⟩:=cX (A:=A.in1) ha hb I fun i u v u' v' hu1 hv1 ru rv=>pJ I n A.in1 u v u' v' (e i) (by simp only [Bu];omega) (hh i u v hu1 hv1) ru rv
   have r:=SeqAt.RcAt.tuples (A:=A) (s:=s) (e:=e) (show s.heap.IsTuple a its.toArray from q1) (show s.heap.IsTuple b its2.toArray from q2) (by omega) he
   rw [Ah,Ah,l1,l2] at r
   exact Cb ne r
def rNeD (d:Nat):R2:=fun x y H Q=>∃ b ys,y = .ref b∧H b=some (.tup ys)∧((sJ H x∧Q (.bl true) H)∨∃ a xs,∃ e:Nat→Bool,x = .ref a∧H a=some (.tup xs)∧(∀ (i:Nat) u w,xs[i]? = some u→ys[i]? = some w→EqD d H u w (e i))∧Q (.bl (!((List.range (min xs.length ys.length)).all e && xs.length == ys.length))) H)
end
section
variable {X:Cx}
theorem neD0 (d:Nat)(d5:d ≤ 30)(hu:X.A.units + 64 < cLine):xD X (compareOp .NotEq) (rNeD d):=by
 intro pins s σ H x y v u Q I rx ry h
 obtain ⟨b,ys,rfl,hb,h⟩:=h
 cases ry
 obtain ⟨its2,_,p2,_⟩:=I.tuple (SqT.of hb)
 rcases h with ⟨fx | ⟨a,rfl,h⟩,q⟩ | ⟨a,xs,e,rfl,ha,hh,q⟩
 ·cases x with
  | non=>cases rx;exact SeqAt.RcNeAt.none_tuple p2 (by omega) X.prog X.w X.xe _ ⟨.bl true,H,I,rfl,q⟩
  | bl c=>cases rx;exact SeqAt.RcNeAt.bool_tuple c p2 (by omega) X.prog X.w X.xe _ ⟨.bl true,H,I,rfl,q⟩
  | int c=>obtain ⟨t,rfl⟩:=rx;exact SeqAt.RcNeAt.int_tuple c t p2 (by omega) X.prog X.w X.xe _ ⟨.bl true,H,I,rfl,q⟩
  | str c=>obtain ⟨t,rfl⟩:=rx;exact SeqAt.RcNeAt.str_tuple c t p2 (by omega) X.prog X.w X.xe _ ⟨.bl true,H,I,rfl,q⟩
  | _=>exact absurd (show false=true from fx) Ao
 ·cases rx
  rcases h with ⟨xs,h⟩ | ⟨d,h⟩
  ·obtain ⟨its,_,p,_⟩:=I.list (SqL.of h)
   exact SeqAt.RcNeAt.list_tuple p.isList p2 (by omega) X.prog X.w X.xe _ ⟨.bl true,H,I,rfl,q⟩
  ·obtain ⟨es,ep,o⟩:=sC I h
   obtain ⟨m,dd,sl,o2⟩:=sP p2
   exact rn_dt o o2 (by omega) X.prog X.w X.xe _ ⟨.bl true,H,I,rfl,q⟩
 ·cases rx
  obtain ⟨its,its2,q1,q2,l1,l2,he⟩:=cX (A:=X.A.in1) ha hb I fun i u v u' v' hu1 hv1 ru rv=>pJ I d X.A.in1 u v u' v' (e i) (by simp only [Bu];omega) (hh i u v hu1 hv1) ru rv
  have r:=SeqAt.RcNeAt.tuples (A:=X.A) (s:=s) (e:=e) (show s.heap.IsTuple a its.toArray from q1) (show s.heap.IsTuple b its2.toArray from q2) (by omega) he
  rw [Ah,Ah,l1,l2] at r
  exact r X.prog X.w X.xe _ ⟨.bl _,H,I,rfl,q⟩
end
end L2
end
section
set_option maxRecDepth 1000000
set_option maxHeartbeats 8000000
section
open PySem L2
set_option hygiene false in
local macro_rules | `(tactic| push_cast [$as,*]) => `(tactic| (try simp only [↓e_var0, ↓e_var1, ↓e_var2, ↓e_var3, ↓e_var4, ↓e_var5, ↓e_var6, ↓e_var7, ↓e_var8, ↓e_var9, ↓e_var10, ↓e_nam0, ↓e_nam1, ↓e_nam2, ↓e_nam3, ↓e_nam4, ↓e_nam5, ↓e_nam6, ↓e_nam7, ↓e_nam8, ↓e_nam9, ↓e_nam10, ↓e_par, ↓e_ex2, ↓e_gN, ↓e_gC, ↓e_rI0, ↓e_rI, ↓e_rU, ↓e_xB, ↓e_xI, ↓e_xJ, ↓e_xJ2, ↓e_rEq, ↓e_rNe, ↓e_itT, ↓e_itF, ↓e_itD, ↓e_ix, ↓e_setL, ↓e_emit, ↓e_f1, ↓e_f2, ↓e_f3, ↓e_f4, ↓e_f5, ↓sA, ↓e_g1, ↓e_g2, e_os, e_ol, e_ot, HO.dT.injEq, ↓a_tNever, ↓a_iEz, V.str.injEq, HO.dK.injEq, ↓a_rEqNil, ↓a_tTruL, ↓a_tRevL, ↓a_iS0, ↓a_tPop0, ↓a_tCalK, g3r_is, g2r_is, g2_is, g1_is, ↓a_rNePP, ↓a_iEnum, ↓a_tChain, ↓a_tDict, ↓a_tLstA, ↓a_rMulT, ↓a_rEqT, ↓a_tLC2, ↓a_tLC3, ↓a_tInner, ↓a_tIns, ↓a_tRev, ↓a_rSlA, ↓a_rCatA, ↓a_rCatL, ↓a_tSeq, ↓a_tFor, ↓a_rIxL, ↓a_iZip, ↓a_tSortR, ↓a_tSl, ↓a_rSlL0, ↓eE, ↓a_tPart, ↓a_tApp, ↓a_tRet, ↓a_tRetN, ↓a_tNext, ↓a_tDrop, ↓a_tAsg, ↓a_gSub, a_gName, a_gNil, a_gCons, ↓a_gTup0, a_rSetL, ↓a_tIfS, ↓a_tAnd, ↓a_tOr, ↓a_tNot, ↓a_tTest, ↓a_tB, ↓a_tTrue, ↓a_tIf, ↓a_tAndV, ↓a_tOrV, ↓a_tNotV, ↓a_tOp, ↓a_tUn, a_rU, a_tVar, ↓a_tC, a_rI0, a_rI, a_rEq, a_rNe, a_rIx0, ↓a_rIn0, ↓a_tCB, ↓a_tCal, ↓a_tCons, ↓a_tNil, ↓a_tTupA, ↓a_tLst, a_tPar, ↓a_tBits, ↓a_tLC, ↓a_iRng1, ↓a_iRng2, ↓a_iT0, ↓a_iL0, a_tEmit, pY, sc_ii, sc_bb, sc_ss, sc_nn, sc_in, sc_ni, sc_bn, sc_nb, sc_sn, sc_ns, sc_is, sc_si, sc_bs, sc_sb, V.ty.injEq, jR, subN, String.reduceEq, String.reduceBEq, Bool.true_or, Bool.false_or, Bool.or_false, Bool.true_and, Bool.false_and, Bool.and_false, or_true, true_or, beq_self_eq_true, decide_true, decide_false, List.map_cons, List.map_nil, List.length_cons, List.length_nil, List.getElem?_cons_zero, List.getElem?_cons_succ, List.getElem?_nil, List.set_cons_zero, List.set_cons_succ, Option.some.injEq, Option.bind_some, Option.bind_none, id, exists_eq_left', exists_eq_left, exists_and_left, exists_eq_right, V.int.injEq, V.bl.injEq, V.ref.injEq, List.cons.injEq, and_true, true_and, and_assoc, exists_const, atI0, atI1, atI2, ixN30, ixN31, ixN32, qG, upd_upd, sq_updL, sq_updT, Nat.zero_add, Nat.reduceAdd, reduceCtorEq, false_and, and_false, exists_false, false_or, or_false, List.length_map, HO.lst.injEq, HO.tup.injEq, Bool.false_eq_true, if_false, if_true, decide_eq_true_eq, ite_true, ite_false, reduceIte, Int.reduceLT, Int.reduceLE, Nat.reduceLT, Int.zero_add, Bool.not_true, Bool.not_false, $as,*]))
set_option hygiene false in
local macro_rules | `(tactic| push_cast only [$as,*]) => `(tactic| ((push_cast [↓e_g3, ↓e_g4, ↓e_g5, ↓e_g7, $as,*]); (push_cast [u_os, u_ol, u_ot, $as,*])))
set_option hygiene false in
local macro_rules | `(tactic| omega) => `(tactic| first | (with_reducible first | assumption | (refine Nat.lt_of_lt_of_le ?_ (show 2 ^ _ ≤ 32 from p32); assumption) | (refine Nat.lt_of_lt_of_le ?_ p32.1; assumption) | (refine Nat.lt_of_lt_of_le ?_ m5; assumption) | (refine Nat.lt_of_lt_of_le ?_ p5; assumption)) | lia)
section
set_option maxHeartbeats 4000000
namespace K62
open PySem L2
def top (i:Nat):Stmt:=PySem.Challenge.pw_wantprices_k62_steps_of_any_kind.main.body.getD i (.Pass ⟨0,0,0,0⟩)
abbrev s_has:Stmt:=top 4
abbrev s_put_in:Stmt:=top 5
abbrev s_heap_of:Stmt:=top 6
abbrev s_heap_of_side:Stmt:=top 7
abbrev s_turned:Stmt:=top 9
abbrev s_breaking:Stmt:=top 10
abbrev s_first_pair:Stmt:=top 11
abbrev s_first_three:Stmt:=top 12
abbrev s_things_beside:Stmt:=top 13
abbrev s_pairs_beside:Stmt:=top 14
abbrev s_pair_breaks:Stmt:=top 15
abbrev s_three_break:Stmt:=top 16
abbrev s_parted:Stmt:=top 17
abbrev s_first_strange:Stmt:=top 18
abbrev s_refuse_strange:Stmt:=top 19
abbrev s_stepped:Stmt:=top 21
abbrev s_step_of:Stmt:=top 22
abbrev s_heaps_that_may:Stmt:=top 23
abbrev s_other_way:Stmt:=top 24
abbrev s_other_sides:Stmt:=top 25
abbrev s_is_whole:Stmt:=top 27
abbrev s_are_wholes:Stmt:=top 28
abbrev s_costs:Stmt:=top 30
abbrev s_gains:Stmt:=top 31
abbrev s_greatest_gain:Stmt:=top 32
abbrev s_best_heaps:Stmt:=top 33
abbrev s_in_parts:Stmt:=top 35
abbrev s_surplus:Stmt:=top 36
abbrev s_rising:Stmt:=top 38
abbrev s_falling:Stmt:=top 39
abbrev s_steps_of:Stmt:=top 40
abbrev s_first_prices:Stmt:=top 41
abbrev s_steps_on:Stmt:=top 42
abbrev s_ground_of:Stmt:=top 43
abbrev s_next_step:Stmt:=top 44
abbrev s_shows_rising:Stmt:=top 46
abbrev s_shows_falling:Stmt:=top 47
abbrev s_is_way:Stmt:=top 48
abbrev s_is_way_below:Stmt:=top 49
abbrev s_led_by:Stmt:=top 50
abbrev s__law_stirred:Stmt:=top 52
abbrev s__law_pot:Stmt:=top 53
abbrev s__law_draw:Stmt:=top 54
abbrev s__law_costs:Stmt:=top 55
abbrev s__law_bits:Stmt:=top 56
abbrev s__law_sides:Stmt:=top 57
abbrev s__law_some:Stmt:=top 58
abbrev s__law_paired:Stmt:=top 59
abbrev s__law_joined:Stmt:=top 60
abbrev s__law_kind_want:Stmt:=top 61
abbrev s__law_kind_town:Stmt:=top 62
abbrev s__law_things:Stmt:=top 63
abbrev s_law:Stmt:=top 64
structure Txt (mg:Str→Option Value):Prop where
 len_:mg "len" = none
 sum_:mg "sum" = none
 isinstance_:mg "isinstance" = none
 abs_:mg "abs" = none
 max_:mg "max" = none
 range_:mg "range" = none
 tuple_:mg "tuple" = none
 list_:mg "list" = none
 sorted_:mg "sorted" = none
 int_:mg "int" = none
 bool_:mg "bool" = none
 zip_:mg "zip" = none
 min_:mg "min" = none
 all_:mg "all" = none
 enumerate_:mg "enumerate" = none
section
variable {P:Program}{w:World}{K:PySem.W.Frag}{mg:Str→Option Value}{base:Heap}{f:Addr}{fd:FuncData}
theorem kZ {l:Addr}{H H1:Hp}(s:Same H H1)(n:H1 l=none):H l=none:=by
 cases e:H l with
 | none=>rfl
 | some o=>rw [s _ _ e] at n;cases n
theorem tW:pD 4 1=some 1:=rfl
theorem ixN42:pD 4 2=some 2:=rfl
theorem ixN43:pD 4 3=some 3:=rfl
theorem atI3 {α:Type}(a b c d:α)(l:List α):dM (a :: b :: c :: d :: l) 3=some d:=xC (j:=3) (xs:=a :: b :: c :: d :: l) rfl
def Pot (H:Hp)(p q:Addr):Prop:=p ≠ q∧∃ (cs:List Int) (a b c:Int),H p=some (.lst [.ref q,.int a,.int b,.int c])∧H q=some (.lst (cs.map V.int))
def But2 (p q:Addr)(H H':Hp):Prop:=∀ b,b ≠ p→b ≠ q→H' b=H b
def SameY (p q:Addr)(H H':Hp):Prop:=∀ b o,b ≠ p→b ≠ q→H b=some o→H' b=some o
theorem SameY.refl {p q:Addr}{H:Hp}:SameY p q H H:=fun _ _ _ _ e=>e
theorem SameY.trans {p q:Addr}{H H1 H2:Hp}(a:SameY p q H H1)(b:SameY p q H1 H2):SameY p q H H2:=fun c o n1 n2 e=>b c o n1 n2 (a c o n1 n2 e)
theorem But2.y {p q:Addr}{H H':Hp}(h:But2 p q H H'):SameY p q H H':=fun b o n1 n2 e=>by rw [h b n1 n2];exact e
theorem jV {p q:Addr}{H H':Hp}(h:Same H H'):SameY p q H H':=fun b o _ _ e=>h b o e
theorem Pot.same {H H':Hp}{p q:Addr}(h:Pot H p q)(s:Same H H'):Pot H' p q:=by
 obtain ⟨n,cs,a,b,c,e1,e2⟩:=h
 exact ⟨n,cs,a,b,c,s _ _ e1,s _ _ e2⟩
theorem Pot.ne {H:Hp}{p q c:Addr}(h:Pot H p q)(n:H c=none):p ≠ c∧q ≠ c:=by
 obtain ⟨_,cs,a,b,c',e1,e2⟩:=h
 exact ⟨qF e1 n,qF e2 n⟩
theorem Pot.upd {H:Hp}{p q c:Addr}{o:HO}(h:Pot H p q)(n1:p ≠ c)(n2:q ≠ c):Pot (L2.upd H c o) p q:=by
 obtain ⟨n,cs,a,b,c',e1,e2⟩:=h
 exact ⟨n,cs,a,b,c',by rw [qQ n1];exact e1,by rw [qQ n2];exact e2⟩
theorem Pot.net {H:Hp}{p q t:Addr}{xs:List V}(h:Pot H p q)(e:H t=some (.tup xs)):t ≠ p∧t ≠ q:=by
 obtain ⟨_,cs,a,b,c',e1,e2⟩:=h
 constructor
 ·rintro rfl
  rw [e1] at e
  cases e
 ·rintro rfl
  rw [e2] at e
  cases e
theorem none_y {p q l:Addr}{H H1:Hp}(s:SameY p q H H1)(n:H1 l=none)(n1:l ≠ p)(n2:l ≠ q):H l=none:=by
 cases e:H l with
 | none=>rfl
 | some o=>rw [s _ _ n1 n2 e] at n;cases n
def sX:Sp:=fun vs H Q _=>∃ n t:Int,vs=[.int n,.int t]∧∀ z:Int,Q (.int z) H
theorem xN:FnScope ["_law_number", "_law_turn", "_law_once"] ["_law_number", "_law_turn"] (qE s__law_stirred):=⟨rfl,rfl,rfl,by decide +kernel,rfl,by decide +kernel,by decide +kernel⟩
theorem ok_stir (F:Fun K "_law_stirred" "_law_stirred" s__law_stirred f fd) (hm:mg "_law_stirred" = some (.ref f)) (hb:Binds K fd ["_law_number", "_law_turn"] []) (T:Txt mg):Cal P w K mg base "_law_stirred" ["_law_number", "_law_turn"] 1 sX:=by
 refine q0 F hm hb xN (fun vs H Q E h=>?_) (fun cdv A outer s H vs Q E hr h=>?_)
 ·obtain ⟨_,_,rfl,_⟩:=h;rfl
 ·obtain ⟨n,t,rfl,q⟩:=h
  have sc:=xN
  refine ⟨_,kE (qY (i:=2) sc.nd rfl (Or.inl rfl) (qV yO (qV gG (qV kR (qV kR (qV yO (pv 0) qH) (qV gG qH (pv 1))) qH) qH) qH))
   (qI (qS (qV yO (qV gG (qV kR (qV kR (qV gG (pv 2) (pv 2)) (qV gG qH (pv 1))) (qV vP (pv 2) qH)) qH) qH))),?_⟩
  rw [show L2.start ["_law_number", "_law_turn", "_law_once"] [.int n,.int t] = [some (.int n),some (.int t),none] from rfl]
  (push_cast only [])
  have cm:∀ a:Int,CMul (a % 2147483647) (a % 2147483647):=fun a=>.inl ⟨by have:=Int.emod_nonneg a (show (2147483647:Int) ≠ 0 by decide);omega,by have:=Int.emod_lt_of_pos a (show (0:Int) < 2147483647 by decide);omega⟩
  exact ⟨.inl ⟨by decide,by decide⟩,.inr ⟨by decide,by decide⟩,cm _,.inl ⟨by decide,by decide⟩,⟨by decide,by decide⟩,.inr ⟨by decide,by decide⟩,q _⟩
def iG (K:PySem.W.Frag):Sp:=fun vs H Q _=>∃ (a:Addr) (ns:List Int),vs=[.ref a]∧Scr K a ns H∧∀ (p q:Addr) (H':Hp),H p=none→H q=none→Same H H'→Pot H' p q→Q (.ref p) H'
theorem fM:FnScope ["_law_script"] ["_law_script"] (qE s__law_pot):=⟨rfl,rfl,rfl,by decide +kernel,rfl,by decide +kernel,by decide +kernel⟩
theorem ok_pot (F:Fun K "_law_pot" "_law_pot" s__law_pot f fd) (hm:mg "_law_pot" = some (.ref f)) (hb:Binds K fd ["_law_script"] []) (T:Txt mg):Cal P w K mg base "_law_pot" ["_law_script"] 1 (iG K):=by
 refine q0 F hm hb fM (fun vs H Q E h=>?_) (fun cdv A outer s H vs Q E hr h=>?_)
 ·obtain ⟨_,_,rfl,_⟩:=h;rfl
 ·obtain ⟨a,ns,rfl,hq,q⟩:=h
  have sc:=fM
  refine ⟨_,qI (qS (jC (qA (kM listS0 rfl T.list_ uH (tL (pv 0) qD)) (qA qH (qA qH (qA qH qD)))))),?_⟩
  rw [show L2.start ["_law_script"] [.ref a] = [some (.ref a)] from rfl]
  (push_cast only [])
  refine ⟨_,hq,fun l H1 n1 s1 e1=>⟨by decide,fun p H2 n2 s2 e2=>?_⟩⟩
  have nlp:p ≠ l:=fun q=>by rw [q,e1] at n2;cases n2
  exact q p l H2 (kZ s1 n2) n1 (s1.trans s2) ⟨nlp,ns,0,7,0,e2,s2 _ _ e1⟩
def wB:Sp:=fun vs H Q _=>∃ (p q:Addr) (many:Int),vs=[.ref p,.int many]∧Pot H p q∧0 < many∧many < 1073741824∧∀ (r:Int) (H':Hp),0 ≤ r→r < many→Pot H' p q→But2 p q H H'→Q (.int r) H'
theorem gW:FnScope ["_law_pot_here", "_law_many", "_law_cell", "_law_digit"] ["_law_pot_here", "_law_many"] (qE s__law_draw):=⟨rfl,rfl,rfl,by decide +kernel,rfl,by decide +kernel,by decide +kernel⟩
theorem ok_draw (F:Fun K "_law_draw" "_law_draw" s__law_draw f fd) (hm:mg "_law_draw" = some (.ref f)) (hb:Binds K fd ["_law_pot_here", "_law_many"] []) (T:Txt mg) (c__law_stirred:Cal P w K mg base "_law_stirred" ["_law_number", "_law_turn"] 1 sX):Cal P w K mg base "_law_draw" ["_law_pot_here", "_law_many"] 2 wB:=by
 refine q0 F hm hb gW (fun vs H Q E h=>?_) (fun cdv A outer s H vs Q E hr h=>?_)
 ·obtain ⟨_,_,_,rfl,_⟩:=h;rfl
 ·obtain ⟨p,q',many,rfl,⟨npq,cs,ga,gb,gc,hp,hq'⟩,h1,h2,q⟩:=h
  have sc:=gW
  refine ⟨_,qK (zY (qV kR (kH yJ (pv 0) qH (fun _ _=>rfl)) qH) (mX (pv 0) qH set_list))
   (qK (zD (PW.pt (zX (q5 j0 (kH yJ (pv 0) qH (fun _ _=>rfl)) qH (qZ _)) (zQ (q5 lO (qR len0 rfl T.len_ kY (qA (kH yJ (pv 0) qH (fun _ _=>rfl)) qD)) qH (qZ _))))) (qK (qY (i:=2) sc.nd rfl (Or.inl rfl) (pe_pop0 (kH yJ (pv 0) qH (fun _ _=>rfl)) (qA qH qD)))
   (qK (zY (qJ c__law_stirred hr (qA (qV kR (kH yJ (pv 0) qH (fun _ _=>rfl)) (pv 2)) (qA (qR len0 rfl T.len_ kY (qA (kH yJ (pv 0) qH (fun _ _=>rfl)) qD)) qD))) (mX (pv 0) qH set_list))
   (qI (zD (q5 op_ge (qR pT rfl T.abs_ bt_abs (qA (pv 2) qD)) (qV mZ qH qH) (qZ _)) (qI (zY (qV yO (qR pT rfl T.abs_ bt_abs (qA (pv 2) qD)) (qV mZ qH qH)) (mX (pv 0) qH set_list))) jB)))) jB)
   (qK (zD (q5 lO (kH yJ (pv 0) qH (fun _ _=>rfl)) qH (qZ _)) (qK (qY (i:=3) sc.nd rfl (Or.inl rfl) (qV yO (kH yJ (pv 0) qH (fun _ _=>rfl)) (pv 1)))
   (qK (zY (qV vP (kH yJ (pv 0) qH (fun _ _=>rfl)) (pv 1)) (mX (pv 0) qH set_list))
   (qI (qS (pv 3))))) jB)
   (qI (qS (qV yO (qV vP (qJ c__law_stirred hr (qA (kH yJ (pv 0) qH (fun _ _=>rfl)) (qA (kH yJ (pv 0) qH (fun _ _=>rfl)) qD))) qH) (pv 1)))))),?_⟩
  have hs:=kL hp
  rw [show L2.start ["_law_pot_here", "_law_many", "_law_cell", "_law_digit"] [.ref p,.int many] = [some (.ref p),some (.int many),none,none] from rfl]
  (push_cast only [hs,hp,ixN43,atI3])
  have e1:upd H p (.lst [.ref q',.int ga,.int gb,.int (gc + 1)]) p=some (.lst [.ref q',.int ga,.int gb,.int (gc + 1)]):=qG
  have k1:upd H p (.lst [.ref q',.int ga,.int gb,.int (gc + 1)]) q'=some (.lst (cs.map V.int)):=by rw [qQ npq.symm];exact hq'
  have b1:But2 p q' H (upd H p (.lst [.ref q',.int ga,.int gb,.int (gc + 1)])):=fun b n1 _=>qQ n1
  revert e1 k1 b1
  generalize upd H p (.lst [.ref q',.int ga,.int gb,.int (gc + 1)])=H1
  generalize gc + 1=gd
  intro e1 k1 b1
  have s1:=kL e1
  (simp only [qL])
  rw [sA]
  generalize hct:(CtS.mk _)=ct
  have tail:∀ (v2:Option V) (ga gb:Int) (cs:List Int) (G:Hp),But2 p q' H G→G p=some (.lst [.ref q',.int ga,.int gb,.int gd])→G q'=some (.lst (cs.map V.int))→@fA ct [some (.ref p),some (.int many),v2,none] G:=fun v2 ga gb cs G bt ep eq=>by
   subst hct
   have sp:=kL ep
   (simp only [qL])
   (push_cast only [sp,tW,atI1])
   have ret:∀ (x:Int) (G2:Hp),But2 p q' H G2→(∃ ga gb,G2 p=some (.lst [.ref q',.int ga,.int gb,.int gd]))→G2 q'=some (.lst (cs.map V.int))→Q (V.int (x % many)) G2:=fun x G2 bt ⟨a,b,e1⟩ e2=>q _ _ (Int.emod_nonneg _ (by omega)) (Int.emod_lt_of_pos _ h1) ⟨npq,cs,a,b,gd,e1,e2⟩ bt
   split
   ·refine ⟨h1,?_⟩
    (simp only [qL])
    (push_cast only [sp,tW,atI1,ep])
    refine ⟨⟨h1,h2⟩,?_⟩
    (simp only [qL])
    (push_cast only [])
    exact ret _ _ (fun b n1 n2=>by rw [qQ n1];exact bt b n1 n2) ⟨_,_,qG⟩ (by rw [qQ npq.symm];exact eq)
   ·(simp only [qL])
    (push_cast only [sp,ixN42,ixN43,atI2,atI3])
    exact ⟨gb,gd,rfl,fun z=>⟨z,rfl,⟨by decide,by decide⟩,h1,ret _ _ bt ⟨_,_,ep⟩ eq⟩⟩
  (push_cast only [s1,tW,atI1])
  by_cases g0:ga=0
  ·rw [As g0]
   refine ⟨_,kL k1,?_⟩
   cases cs with
   | nil=>rw [Au (by simp)];exact tail none ga gb [] H1 b1 e1 k1
   | cons c0 cs' =>
    rw [As (by simp)]
    refine ⟨_,k1,_,_,k1,?_⟩
    have e2:upd H1 q' (.lst (cs'.map V.int)) p=some (.lst [.ref q',.int ga,.int gb,.int gd]):=by rw [qQ npq];exact e1
    have k2:upd H1 q' (.lst (cs'.map V.int)) q'=some (.lst (cs'.map V.int)):=qG
    have b2:But2 p q' H (upd H1 q' (.lst (cs'.map V.int))):=fun b n1 n2=>by rw [qQ n2];exact b1 b n1 n2
    revert e2 k2 b2
    generalize upd H1 q' (.lst (cs'.map V.int))=H2
    intro e2 k2 b2
    have s2:=kL e2
    have t2:=kL k2
    (simp only [qL])
    (push_cast only [s2,t2,ixN42,atI2])
    refine ⟨gb + c0,_,rfl,fun z=>⟨_,e2,2,rfl,?_⟩⟩
    have e3:upd H2 p (.lst [.ref q',.int ga,.int z,.int gd]) p=some (.lst [.ref q',.int ga,.int z,.int gd]):=qG
    have k3:upd H2 p (.lst [.ref q',.int ga,.int z,.int gd]) q'=some (.lst (cs'.map V.int)):=by rw [qQ npq.symm];exact k2
    have b3:But2 p q' H (upd H2 p (.lst [.ref q',.int ga,.int z,.int gd])):=fun b n1 n2=>by rw [qQ n1];exact b2 b n1 n2
    rw [show ([.ref q',.int ga,.int gb,.int gd] : List V).set 2 (V.int z)=[.ref q',.int ga,.int z,.int gd] from rfl]
    revert e3 k3 b3
    generalize upd H2 p (.lst [.ref q',.int ga,.int z,.int gd])=H3
    intro e3 k3 b3
    have s3:=kL e3
    (simp only [qL])
    (push_cast only [s3,e3,tW,atI1])
    generalize (if c0 < 0 then -c0 else c0)=ab
    refine ⟨⟨by decide,by decide,by decide⟩,?_⟩
    split
    ·exact ⟨⟨by decide,by decide,by decide⟩,by decide,tail _ _ _ cs' _ (fun b n1 n2=>by rw [qQ n1];exact b3 b n1 n2) qG (by rw [qQ npq.symm];exact k3)⟩
    ·exact tail _ _ _ cs' _ b3 e3 k3
  ·rw [Au g0]
   exact tail none ga gb cs H1 b1 e1 k1
end
end K62
end
section
set_option maxHeartbeats 4000000
namespace K62
open PySem L2
section
variable {P:Program}{w:World}{K:PySem.W.Frag}{mg:Str→Option Value}{base:Heap}{f:Addr}{fd:FuncData}
def q9 (ns:List Int):List Int:=ns.foldl (fun t p=>t ++ t.map (fun h=>h + p)) [0]
theorem y0 (ns:List Int)(p:Int):q9 (ns ++ [p])=q9 ns ++ (q9 ns).map (fun h=>h + p):=by unfold q9;rw [List.foldl_append];rfl
theorem fold_len (ns:List Int):∀ t:List Int,(ns.foldl (fun t p=>t ++ t.map (fun h=>h + p)) t).length=t.length * 2 ^ ns.length:=by
 induction ns with
 | nil=>intro t;simp
 | cons p ns ih=>intro t;rw [List.foldl_cons,ih,Ax,Aa,Ba,CB,← Nat.two_mul,C9 2 t.length,Nat.mul_assoc,C9 2]
theorem jI (ns:List Int):(q9 ns).length=2 ^ ns.length:=by unfold q9;rw [fold_len];simp
theorem kW {m:Nat}(h:m ≤ 5):2 ^ m ≤ 32∧0 < 2 ^ m:=⟨AB (Ay (by decide) h) (by decide),AE m⟩
def IsT (H:Hp)(a:Addr)(ns:List Int):Prop:=H a=some (.tup (ns.map V.int))∨H a=some (.lst (ns.map V.int))
theorem IsT.o {H:Hp}{a:Addr}{ns:List Int}(h:IsT H a ns):∃ o,(o=HO.tup (ns.map V.int)∨o=HO.lst (ns.map V.int))∧H a=some o:=by
 rcases h with h | h
 ·exact ⟨_,.inl rfl,h⟩
 ·exact ⟨_,.inr rfl,h⟩
theorem IsT.same {H H':Hp}{a:Addr}{ns:List Int}(h:IsT H a ns)(s:Same H H'):IsT H' a ns:=h.imp (fun h=>s _ _ h) fun h=>s _ _ h
def z7:Sp:=fun vs H Q _=>∃ (a:Addr) (ns:List Int),vs=[.ref a]∧IsT H a ns∧ns.length ≤ 5∧∀ (t:Addr) (H':Hp),H t=none→Same H H'→H' t=some (.lst ((q9 ns).map V.int))→Q (.ref t) H'
def CI (a:Addr)(ns:List Int)(G:Hp)(i:Nat)(σ:St)(H:Hp):Prop:=∃ (v:Option V) (t:Addr),σ=[some (.ref a),some (.ref t),v]∧G t=none∧Same G H∧H t=some (.lst ((q9 (ns.take i)).map V.int))
def CJ (c:Addr)(ts:List Int)(p:Int)(G:Hp)(i:Nat)(σ:St)(H:Hp):Prop:=∃ v:Option V,σ=[v,some (.int p)]∧SameX c G H∧H c=some (.lst (((ts.map fun h=>h + p).take i).map V.int))
theorem vX:FnScope ["_law_prices", "_law_costs_here", "_law_price"] ["_law_prices"] (qE s__law_costs):=⟨rfl,rfl,rfl,by decide +kernel,rfl,by decide +kernel,by decide +kernel⟩
theorem bP (F:Fun K "_law_costs" "_law_costs" s__law_costs f fd) (hm:mg "_law_costs" = some (.ref f)) (hb:Binds K fd ["_law_prices"] []) (T:Txt mg):Cal P w K mg base "_law_costs" ["_law_prices"] 1 z7:=by
 refine q0 F hm hb vX (fun vs H Q E h=>?_) (fun cdv A outer s H vs Q E hr h=>?_)
 ·obtain ⟨_,_,rfl,_⟩:=h;rfl
 ·obtain ⟨a,ns,rfl,ha,h5,q⟩:=h
  have sc:=vX
  refine ⟨_,kE (qY (i:=1) sc.nd rfl (Or.inl rfl) (jC (qA qH qD)))
   (kE (jO AA rfl (pi_s0 (pv 0)) (qM (i:=2) sc.nd rfl (Or.inr rfl))
    (qI (qY (i:=1) sc.nd rfl (Or.inl rfl) (qV pQ (pv 1) (jQ (N:=["_law_cost", "_law_price"]) (fr:=[none,some 2]) rfl (xO (pv 1)) (CScope.of rfl rfl rfl) rfl (fun _ _ _=>⟨qM (i:=0) (show List.Nodup (α:=Str) ["_law_cost", "_law_price"] by decide +kernel) rfl (Or.inl rfl),kP,qV kR (pv 0) (pv 1)⟩))))))
   (qI (qS (pv 1)))),?_⟩
  rw [show L2.start ["_law_prices", "_law_costs_here", "_law_price"] [.ref a] = [some (.ref a),none,none] from rfl]
  (push_cast only [])
  refine ⟨by decide,fun t0 H1 n1 s1 e1=>?_⟩
  obtain ⟨o,ho,hao⟩:=ha.o
  refine ⟨_,o,ho,s1 _ _ hao,yZ (CI a ns H) ⟨_,t0,rfl,n1,s1,e1⟩ (fun j σ H' _ ⟨_,_,_,_,s,_⟩=>s _ _ hao) ?_ ?_⟩
  ·rintro i x σ H2 hx ⟨v,t,rfl,nt,s2,e2⟩
   rw [Ag] at hx
   obtain ⟨p,hp,rfl⟩:=Aj.mp hx
   have hi:i < ns.length:=(Af.mp hp).1
   (push_cast only [e2])
   intro c nc
   have ntc:t ≠ c:=qF e2 nc
   have p32:=kW (m:=(ns.take i).length) (by rw [Av];omega)
   refine jY (CJ c (q9 (ns.take i)) p H2) ⟨none,rfl,SameX.upd,qG⟩ (fun j σ H' _ ⟨_,_,s,_⟩=>s _ _ ntc e2) ?_ ?_
   ·rintro j y σ H3 hy ⟨v3,rfl,s3,e3⟩
    rw [Ag] at hy
    obtain ⟨z,hz,rfl⟩:=Aj.mp hy
    have hj:j < (q9 (ns.take i)).length:=(Af.mp hz).1
    rw [jI] at hj
    (push_cast only [e3])
    refine ⟨qP (by rw [Av];omega),⟨_,rfl,s3.trans SameX.upd,?_⟩⟩
    rw [qG,A6,Ag,hz]
    simp
   ·rintro σ H3 ⟨v3,rfl,s3,e3⟩
    rw [Aa,AG (by simp)] at e3
    have S3:=s3.same nc
    have e23:=S3 _ _ e2
    (push_cast only [e23,e3])
    refine ⟨?_,fun t' H4 nt' s4 e4=>⟨_,t',rfl,kZ (s2.trans S3) nt',(s2.trans S3).trans s4,?_⟩⟩
    ·rw [jI]
     exact Bp (qP (by omega))
    ·rw [e4,A6,hp]
     show some (HO.lst _)=some (HO.lst ((q9 (ns.take i ++ [p])).map V.int))
     rw [y0,A7]
  ·rintro σ H2 ⟨v,t,rfl,nt,s2,e2⟩
   rw [Aa,AL] at e2
   (push_cast only [])
   exact q t H2 nt s2 e2
theorem lJ:FnScope ["prices", "told", "price"] ["prices"] (qE s_costs):=⟨rfl,rfl,rfl,by decide +kernel,rfl,by decide +kernel,by decide +kernel⟩
theorem oN (F:Fun K "costs" "costs" s_costs f fd) (hm:mg "costs" = some (.ref f)) (hb:Binds K fd ["prices"] []) (T:Txt mg):Cal P w K mg base "costs" ["prices"] 1 z7:=by
 refine q0 F hm hb lJ (fun vs H Q E h=>?_) (fun cdv A outer s H vs Q E hr h=>?_)
 ·obtain ⟨_,_,rfl,_⟩:=h;rfl
 ·obtain ⟨a,ns,rfl,ha,h5,q⟩:=h
  have sc:=lJ
  refine ⟨_,kE (qY (i:=1) sc.nd rfl (Or.inl rfl) (jC (qA qH qD)))
   (kE (jO AA rfl (pi_s0 (pv 0)) (qM (i:=2) sc.nd rfl (Or.inr rfl))
    (qI (qY (i:=1) sc.nd rfl (Or.inl rfl) (qV pQ (pv 1) (jQ (N:=["here", "price"]) (fr:=[none,some 2]) rfl (xO (pv 1)) (CScope.of rfl rfl rfl) rfl (fun _ _ _=>⟨qM (i:=0) (show List.Nodup (α:=Str) ["here", "price"] by decide +kernel) rfl (Or.inl rfl),kP,qV kR (pv 0) (pv 1)⟩))))))
   (qI (qS (pv 1)))),?_⟩
  rw [show L2.start ["prices", "told", "price"] [.ref a] = [some (.ref a),none,none] from rfl]
  (push_cast only [])
  refine ⟨by decide,fun t0 H1 n1 s1 e1=>?_⟩
  obtain ⟨o,ho,hao⟩:=ha.o
  refine ⟨_,o,ho,s1 _ _ hao,yZ (CI a ns H) ⟨_,t0,rfl,n1,s1,e1⟩ (fun j σ H' _ ⟨_,_,_,_,s,_⟩=>s _ _ hao) ?_ ?_⟩
  ·rintro i x σ H2 hx ⟨v,t,rfl,nt,s2,e2⟩
   rw [Ag] at hx
   obtain ⟨p,hp,rfl⟩:=Aj.mp hx
   have hi:i < ns.length:=(Af.mp hp).1
   (push_cast only [e2])
   intro c nc
   have ntc:t ≠ c:=qF e2 nc
   have p32:=kW (m:=(ns.take i).length) (by rw [Av];omega)
   refine jY (CJ c (q9 (ns.take i)) p H2) ⟨none,rfl,SameX.upd,qG⟩ (fun j σ H' _ ⟨_,_,s,_⟩=>s _ _ ntc e2) ?_ ?_
   ·rintro j y σ H3 hy ⟨v3,rfl,s3,e3⟩
    rw [Ag] at hy
    obtain ⟨z,hz,rfl⟩:=Aj.mp hy
    have hj:j < (q9 (ns.take i)).length:=(Af.mp hz).1
    rw [jI] at hj
    (push_cast only [e3])
    refine ⟨qP (by rw [Av];omega),⟨_,rfl,s3.trans SameX.upd,?_⟩⟩
    rw [qG,A6,Ag,hz]
    simp
   ·rintro σ H3 ⟨v3,rfl,s3,e3⟩
    rw [Aa,AG (by simp)] at e3
    have S3:=s3.same nc
    have e23:=S3 _ _ e2
    (push_cast only [e23,e3])
    refine ⟨?_,fun t' H4 nt' s4 e4=>⟨_,t',rfl,kZ (s2.trans S3) nt',(s2.trans S3).trans s4,?_⟩⟩
    ·rw [jI]
     exact Bp (qP (by omega))
    ·rw [e4,A6,hp]
     show some (HO.lst _)=some (HO.lst ((q9 (ns.take i ++ [p])).map V.int))
     rw [y0,A7]
  ·rintro σ H2 ⟨v,t,rfl,nt,s2,e2⟩
   rw [Aa,AL] at e2
   (push_cast only [])
   exact q t H2 nt s2 e2
def bitsL (m:Nat):List Int:=([1,2,4,8,16] : List Int).take m
def mT:Sp:=fun vs H Q _=>∃ m:Nat,vs=[.int (m:Int)]∧m ≤ 5∧∀ (t:Addr) (H':Hp),H t=none→Same H H'→H' t=some (.lst ((bitsL m).map V.int))→Q (.ref t) H'
theorem gX:FnScope ["_law_many"] ["_law_many"] (qE s__law_bits):=⟨rfl,rfl,rfl,by decide +kernel,rfl,by decide +kernel,by decide +kernel⟩
theorem ok_bits (F:Fun K "_law_bits" "_law_bits" s__law_bits f fd) (hm:mg "_law_bits" = some (.ref f)) (hb:Binds K fd ["_law_many"] []) (T:Txt mg):Cal P w K mg base "_law_bits" ["_law_many"] 1 mT:=by
 refine q0 F hm hb gX (fun vs H Q E h=>?_) (fun cdv A outer s H vs Q E hr h=>?_)
 ·obtain ⟨_,rfl,_⟩:=h;rfl
 ·obtain ⟨m,rfl,h5,q⟩:=h
  have sc:=gX
  refine ⟨_,qI (qS (yE slL0 (jC (qA qH (qA qH (qA qH (qA qH (qA qH qD)))))) vN (vM (pv 0)))),?_⟩
  rw [show L2.start ["_law_many"] [.int (m:Int)] = [some (.int (m:Int))] from rfl]
  (push_cast only [])
  refine ⟨by decide,fun l H1 n1 s1 e1=>?_⟩
  (push_cast only [e1])
  intro l2 n2
  refine q l2 _ (kZ s1 n2) (s1.trans (kI n2)) ?_
  rw [qG]
  have key:∀ k:_root_.Fin 6,zL [V.int 1,V.int 2,V.int 4,V.int 8,V.int 16] none (some (k.val:Int))=(bitsL k.val).map V.int:=by
   intro k
   unfold zL bitsL
   rw [HT.sIx_none,HT.sIx_nat]
   match k with
   | ⟨0,_⟩=>rfl
   | ⟨1,_⟩=>rfl
   | ⟨2,_⟩=>rfl
   | ⟨3,_⟩=>rfl
   | ⟨4,_⟩=>rfl
   | ⟨5,_⟩=>rfl
  rw [key ⟨m,by omega⟩]
theorem bits_len {m:Nat}(hm:m ≤ 5):(bitsL m).length=m:=by unfold bitsL;rw [Av];simp;omega
theorem hpow (m:Nat):(1:Int) * 2 ^ (m:Int).toNat=((2 ^ m:Nat):Int):=by rw [Ar];norm_cast;omega
def gI (g:List Int)(m:Int)(k:Nat):List Int:=((List.range k).filter fun i=>decide (g.getD i 0=m)).map fun i:Nat=>(i:Int)
theorem cY (g:List Int)(m:Int)(k:Nat):gI g m (k + 1)=gI g m k ++ if g.getD k 0=m then [(k:Int)] else []:=by
 unfold gI
 rw [Bm,B5,A7]
 congr 1
 by_cases h:g.getD k 0=m
 ·rw [As h];simp only [List.filter,A0 h,List.map]
 ·rw [Au h];simp only [List.filter,Al h,List.map]
theorem o5 (g:List Int)(m:Int)(k:Nat):(gI g m k).length ≤ k:=by
 unfold gI
 rw [Aa]
 exact AB (Bt _ _) (by simp)
def d6 (ds:List Int)(s:Int):Nat→Nat
 | 0=>0
 | k + 1=>d6 ds s k + if ds.getD k 0=s then 2 ^ k else 0
theorem nH (ds:List Int)(s:Int):∀ k,d6 ds s k < 2 ^ k
 | 0=>by simp [d6]
 | k + 1=>by
  have:=nH ds s k
  show d6 ds s k + _ < _
  rw [CB]
  split <;> omega
def zw (g:Int→Int→Int)(ns ms:List Int):List Int:=(ns.zip ms).map fun q=>g q.1 q.2
theorem zw_at {g:Int→Int→Int}{ns ms:List Int}{i:Nat}{x y:Int}(hx:ns[i]? = some x)(hy:ms[i]? = some y):(zw g ns ms)[i]? = some (g x y):=by
 have hz:(ns.zip ms)[i]? = some (x,y):=by rw [List.getElem?_zip_eq_some];exact ⟨hx,hy⟩
 unfold zw
 rw [Ag,hz]
 rfl
theorem eI {g:Int→Int→Int}{ns ms:List Int}(h:ns.length=ms.length):(zw g ns ms).length=ns.length:=by
 unfold zw
 rw [Aa,List.length_zip]
 omega
def ZW (c:Addr)(g:Int→Int→Int)(ns ms:List Int)(τ:List (Option V))(G:Hp)(i:Nat)(σ:St)(H:Hp):Prop:=∃ v1 v2:Option V,σ=v1 :: v2 :: τ∧SameX c G H∧H c=some (.lst (((zw g ns ms).take i).map V.int))
def kC (ws ns:List Int):List Int:=zw (fun x y=>x - y) ws (q9 ns)
theorem yY {ws ns:List Int}(h:ws.length=2 ^ ns.length):(kC ws ns).length=2 ^ ns.length:=by unfold kC;rw [eI (by rw [jI];exact h)];exact h
def hV:Sp:=fun vs H Q _=>∃ (d a:Addr) (ws ns:List Int),vs=[.ref d,.ref a]∧H d=some (.tup (ws.map V.int))∧H a=some (.tup (ns.map V.int))∧ns.length ≤ 5∧ws.length=2 ^ ns.length∧∀ (t:Addr) (H':Hp),H t=none→Same H H'→H' t=some (.lst ((kC ws ns).map V.int))→Q (.ref t) H'
theorem lI:FnScope ["want", "prices"] ["want", "prices"] (qE s_gains):=⟨rfl,rfl,rfl,by decide +kernel,rfl,by decide +kernel,by decide +kernel⟩
theorem oM (F:Fun K "gains" "gains" s_gains f fd) (hm:mg "gains" = some (.ref f)) (hb:Binds K fd ["want", "prices"] []) (T:Txt mg) (c_costs:Cal P w K mg base "costs" ["prices"] 1 z7):Cal P w K mg base "gains" ["want", "prices"] 2 hV:=by
 refine q0 F hm hb lI (fun vs H Q E h=>?_) (fun cdv A outer s H vs Q E hr h=>?_)
 ·obtain ⟨_,_,_,_,rfl,_⟩:=h;rfl
 ·obtain ⟨d,a,ws,ns,rfl,hd,ha,h5,hl,q⟩:=h
  have sc:=lI
  refine ⟨_,qI (qS (jQ (N:=["worth", "paid"]) (fr:=[none,none]) rfl (pi_zip rfl T.zip_ (qA (pv 0) (qA (qJ c_costs hr (qA (pv 1) qD)) qD))) (CScope.of rfl rfl rfl) rfl (fun _ _ _=>⟨kU (n:=2) rfl (qU (qM (i:=0) (show List.Nodup (α:=Str) ["worth", "paid"] by decide +kernel) rfl (Or.inl rfl)) (qU (qM (i:=1) (show List.Nodup (α:=Str) ["worth", "paid"] by decide +kernel) rfl (Or.inl rfl)) kT)),kP,qV dY (pv 0) (pv 1)⟩))),?_⟩
  rw [show L2.start ["want", "prices"] [.ref d,.ref a] = [some (.ref d),some (.ref a)] from rfl]
  (push_cast only [])
  refine ⟨a,ns,rfl,.inl ha,h5,fun t H1 n1 s1 e1=>?_⟩
  have hd1:=s1 _ _ hd
  (push_cast only [])
  refine ⟨_,_,_,.inr ⟨rfl,hd1⟩,_,.inl ⟨rfl,e1⟩,fun c nc=>?_⟩
  have ncd:d ≠ c:=qF hd1 nc
  have nct:t ≠ c:=qF e1 nc
  have p32:=kW h5
  refine cl_zip (ZW c (fun x y=>x - y) ws (q9 ns) [] H1) ⟨none,none,rfl,SameX.upd,qG⟩ (fun i σ H2 ⟨_,_,_,s,_⟩=>⟨.inr ⟨rfl,s _ _ ncd hd1⟩,.inl ⟨rfl,s _ _ nct e1⟩⟩) ?_ ?_
  ·rintro i u v t' σ H2 H3 hu hv ⟨v1,v2,rfl,s2,e2⟩ nt s3 e3
   rw [Ag] at hu hv
   obtain ⟨x,hx,rfl⟩:=Aj.mp hu
   obtain ⟨y,hy,rfl⟩:=Aj.mp hv
   have ec:=s3 _ _ e2
   (push_cast only [e3,ec])
   have hi:i < ws.length:=(Af.mp hx).1
   refine ⟨qP (by rw [Av];omega),⟨_,_,rfl,(s2.trans s3.x).trans SameX.upd,?_⟩⟩
   rw [qG,A6,zw_at hx hy]
   simp
  ·rintro σ H2 ⟨v1,v2,rfl,s2,e2⟩
   rw [Aa,Aa,AG (by rw [eI (by rw [jI];exact hl),jI];omega)] at e2
   have S2:=s1.trans (s2.same nc)
   exact q c H2 (kZ s1 nc) S2 e2
theorem pG {ws ns:List Int}(h5:ns.length ≤ 5)(h:ws.length=2 ^ ns.length):kC ws ns ≠ []:=by
 intro e
 have:=yY h
 rw [e] at this
 have p:=kW h5
 simp at this
 omega
def tF:Sp:=fun vs H Q _=>∃ (d a:Addr) (ws ns:List Int) (m:Int),vs=[.ref d,.ref a]∧H d=some (.tup (ws.map V.int))∧H a=some (.tup (ns.map V.int))∧ns.length ≤ 5∧ws.length=2 ^ ns.length∧m ∈ kC ws ns∧(∀ x ∈ kC ws ns,x ≤ m)∧∀ (t:Addr) (H':Hp),H t=none→Same H H'→H' t=some (.tup ((gI (kC ws ns) m (kC ws ns).length).map V.int))→Q (.ref t) H'
def BI (c:Addr)(g:List Int)(m:Int)(G:Hp)(i:Nat)(σ:St)(H:Hp):Prop:=∃ v1 v2:Option V,σ=[v1,v2,some (.int m)]∧SameX c G H∧H c=some (.lst ((gI g m i).map V.int))
theorem vV:FnScope ["want", "prices", "told", "most"] ["want", "prices"] (qE s_best_heaps):=⟨rfl,rfl,rfl,by decide +kernel,rfl,by decide +kernel,by decide +kernel⟩
theorem ok_best (F:Fun K "best_heaps" "best_heaps" s_best_heaps f fd) (T:Txt mg) (c_gains:Cal P w K mg base "gains" ["want", "prices"] 2 hV):FnOk P w K mg base CX0 3 f fd ["want", "prices"] tF:=by
 refine F.ok vV (fun vs H Q E h=>?_) (fun cdv A outer s H vs Q E hr h=>?_)
 ·obtain ⟨_,_,_,_,_,rfl,_⟩:=h;rfl
 ·obtain ⟨d,a,ws,ns,m,rfl,hd,ha,h5,hl,hm1,hm2,q⟩:=h
  have sc:=vV
  refine ⟨_,kE (qY (i:=2) sc.nd rfl (Or.inl rfl) (qJ c_gains hr (qA (pv 0) (qA (pv 1) qD))))
   (kE (qY (i:=3) sc.nd rfl (Or.inr rfl) (qR (max0 rfl) rfl T.max_ d8 (qA (pv 2) qD)))
   (qI (qS (kM z6 rfl T.tuple_ kN (qA (jQ (N:=["heap", "here", "most"]) (fr:=[none,none,some 3]) rfl (g7 rfl T.enumerate_ (qA (pv 2) qD)) (CScope.of rfl rfl rfl) rfl (fun _ _ _=>⟨kU (n:=2) rfl (qU (qM (i:=0) (show List.Nodup (α:=Str) ["heap", "here", "most"] by decide +kernel) rfl (Or.inl rfl)) (qU (qM (i:=1) (show List.Nodup (α:=Str) ["heap", "here", "most"] by decide +kernel) rfl (Or.inl rfl)) kT)),zR (q5 j0 (pv 1) (pv 2) (qZ _)),pv 0⟩)) qD))))),?_⟩
  rw [show L2.start ["want", "prices", "told", "most"] [.ref d,.ref a] = [some (.ref d),some (.ref a),none,none] from rfl]
  (push_cast only [])
  refine ⟨d,a,ws,ns,rfl,hd,ha,h5,hl,fun t H1 n1 s1 e1=>?_⟩
  have hs:=kL e1
  (push_cast only [hs])
  refine ⟨_,rfl,pG h5 hl,fun mx mx1 mx2=>?_⟩
  have em:mx=m:=Int.le_antisymm (hm2 mx mx1) (mx2 m hm1)
  subst em
  (push_cast only [])
  refine ⟨_,_,.inl ⟨rfl,e1⟩,fun c nc=>?_⟩
  have ntc:t ≠ c:=qF e1 nc
  have p32:=kW h5
  have gl:=yY hl
  refine uF (BI c (kC ws ns) mx H1) ⟨none,none,rfl,SameX.upd,qG⟩ (fun i σ H2 ⟨_,_,_,s,_⟩=>.inl ⟨rfl,s _ _ ntc e1⟩) ?_ ?_
  ·rintro i v T' σ H2 H3 hv ⟨v1,v2,rfl,s2,e2⟩ nT s3 e3
   rw [Ag] at hv
   obtain ⟨x,hx,rfl⟩:=Aj.mp hv
   have hi:i < (kC ws ns).length:=(Af.mp hx).1
   have hg:(kC ws ns).getD i 0=x:=by rw [Ab,hx];rfl
   have ec:=s3 _ _ e2
   have il:=o5 (kC ws ns) mx i
   (push_cast only [e3])
   by_cases hxm:x=mx
   ·rw [As (by simpa using hxm)]
    (push_cast only [ec])
    refine ⟨qP (by omega),⟨_,_,rfl,(s2.trans s3.x).trans SameX.upd,?_⟩⟩
    rw [qG,cY,As (by rw [hg];exact hxm)]
    simp
   ·rw [Au (by simpa using hxm)]
    refine ⟨_,_,rfl,s2.trans s3.x,?_⟩
    rw [ec,cY,Au (by rw [hg];exact hxm),Bx]
  ·rintro σ H2 ⟨v1,v2,rfl,s2,e2⟩
   rw [Aa] at e2
   refine ⟨_,e2,fun l H3 nl s3 e3=>?_⟩
   have S2:=s1.trans (s2.same nc)
   exact q l H3 (kZ S2 nl) (S2.trans s3) e3
def lH:Sp:=fun vs H Q _=>∃ (d a:Addr) (ws ns:List Int),vs=[.ref d,.ref a]∧H d=some (.tup (ws.map V.int))∧H a=some (.tup (ns.map V.int))∧ns.length ≤ 5∧ws.length=2 ^ ns.length∧∀ (m:Int) (H':Hp),Same H H'→m ∈ kC ws ns→(∀ x ∈ kC ws ns,x ≤ m)→Q (.int m) H'
theorem yC:FnScope ["want", "prices"] ["want", "prices"] (qE s_greatest_gain):=⟨rfl,rfl,rfl,by decide +kernel,rfl,by decide +kernel,by decide +kernel⟩
theorem oK (F:Fun K "greatest_gain" "greatest_gain" s_greatest_gain f fd) (T:Txt mg) (c_gains:Cal P w K mg base "gains" ["want", "prices"] 2 hV):FnOk P w K mg base CX0 3 f fd ["want", "prices"] lH:=by
 refine F.ok yC (fun vs H Q E h=>?_) (fun cdv A outer s H vs Q E hr h=>?_)
 ·obtain ⟨_,_,_,_,rfl,_⟩:=h;rfl
 ·obtain ⟨d,a,ws,ns,rfl,hd,ha,h5,hl,q⟩:=h
  have sc:=yC
  refine ⟨_,qI (qS (qR (max0 rfl) rfl T.max_ d8 (qA (qJ c_gains hr (qA (pv 0) (qA (pv 1) qD))) qD))),?_⟩
  rw [show L2.start ["want", "prices"] [.ref d,.ref a] = [some (.ref d),some (.ref a)] from rfl]
  (push_cast only [])
  refine ⟨d,a,ws,ns,rfl,hd,ha,h5,hl,fun t H1 n1 s1 e1=>?_⟩
  have hs:=kL e1
  (push_cast only [hs])
  exact ⟨_,rfl,pG h5 hl,fun m hm hmx=>q m H1 s1 hm hmx⟩
def bit (h:Int)(t:Nat):Int:=Builtin.bitAnd (h / 2 ^ (t:Int).toNat) 1
def gM (ws:List Int)(h:Int)(m:Nat):Int:=((List.range m).map fun t:Nat=>ws.getD t 0 * bit h t).sum
theorem zU (ws:List Int)(h:Int)(m:Nat):gM ws h (m + 1)=gM ws h m + ws.getD m 0 * bit h m:=by
 unfold gM
 rw [Bm,A7,BX]
 simp
theorem y6 (ws ws':List Int)(h h':Int):∀ m,(∀ t,t < m→ws.getD t 0 * bit h t=ws'.getD t 0 * bit h' t)→gM ws h m=gM ws' h' m
 | 0,_=>rfl
 | m + 1,hh=>by rw [zU,zU,y6 ws ws' h h' m fun t ht=>hh t (by omega),hh m (by omega)]
theorem bit_low {n h:Nat}(hn:n < 5)(hh:h < 2 ^ n):bit (h:Int) n=0:=by
 have key:∀ (a:_root_.Fin 5) (b:_root_.Fin 32),b.val < 2 ^ a.val→bit (b.val:Int) a.val=0:=by decide +kernel
 have:=kW (show n ≤ 5 by omega)
 exact key ⟨n,hn⟩ ⟨h,by omega⟩ hh
theorem bit_high {n h:Nat}(hn:n < 5)(h1:2 ^ n ≤ h)(h2:h < 2 ^ (n + 1)):bit (h:Int) n=1∧∀ t,t < n→bit (h:Int) t=bit ((h - 2 ^ n:Nat):Int) t:=by
 have key:∀ (a:_root_.Fin 5) (b:_root_.Fin 32),2 ^ a.val ≤ b.val→b.val < 2 ^ (a.val + 1)→bit (b.val:Int) a.val=1∧∀ t:_root_.Fin 5,t.val < a.val→bit (b.val:Int) t.val=bit ((b.val - 2 ^ a.val:Nat):Int) t.val:=by decide +kernel
 have:=kW (show n + 1 ≤ 5 by omega)
 obtain ⟨k1,k2⟩:=key ⟨n,hn⟩ ⟨h,by omega⟩ h1 h2
 exact ⟨k1,fun t ht=>k2 ⟨t,by omega⟩ ht⟩
theorem gK:∀ (n:Nat) (ns:List Int),ns.length=n→n ≤ 5→∀ h:Nat,h < 2 ^ n→(q9 ns)[h]? = some (gM ns (h:Int) n)
 | 0,ns,hl,_,h,hh=>by
  have:ns=[]:=BE hl
  subst this
  have:h=0:=by simpa using hh
  subst this
  rfl
 | n + 1,ns,hl,h5,h,hh=>by
  obtain ⟨ms,p,rfl⟩:∃ ms p,ns=ms ++ [p]:=by
   have hne:ns ≠ []:=by rintro rfl;simp at hl
   exact ⟨ns.dropLast,ns.getLast hne,(BH hne).symm⟩
  have hml:ms.length=n:=by simpa using hl
  have ih:=gK n ms hml (by omega)
  have cl:(q9 ms).length=2 ^ n:=by rw [jI,hml]
  have gl:∀ t,t < n→(ms ++ [p]).getD t 0=ms.getD t 0:=fun t ht=>by simp only [Ab];rw [B7 (by omega)]
  have gp:(ms ++ [p]).getD n 0=p:=by simp only [Ab];rw [B6 (by omega),hml];simp
  rw [y0,zU,gp]
  rcases AY h (2 ^ n) with q | q
  ·rw [B7 (by omega),ih h q,bit_low (by omega) q,y6 (ms ++ [p]) ms (h:Int) (h:Int) n fun t ht=>by rw [gl t ht]]
   simp
  ·obtain ⟨b1,b2⟩:=bit_high (by omega) q hh
   have q2:h - 2 ^ n < 2 ^ n:=by rw [CB] at hh;omega
   rw [B6 (by omega),cl,Ag,ih (h - 2 ^ n) q2,b1,y6 (ms ++ [p]) ms (h:Int) ((h - 2 ^ n:Nat):Int) n fun t ht=>by rw [gl t ht,b2 t ht]]
   simp
def qC (h t:Nat):Bool:=decide (h / 2 ^ t % 2=1)
abbrev Edge:=Nat × Nat × Int
def minus (A:Nat→Prop)(i:Nat):Nat→Prop:=fun v=>A v∧v ≠ i
def plus (A:Nat→Prop)(i:Nat):Nat→Prop:=fun v=>A v∨v=i
def gB (M:List Edge):Int:=(M.map fun e=>e.2.2).sum
theorem kO (e:Edge)(M:List Edge):gB (e :: M)=e.2.2 + gB M:=by unfold gB;rw [AK,Bz]
theorem eO (M N:List Edge):gB (M ++ N)=gB M + gB N:=by unfold gB;rw [A7,BX]
theorem fQ {M N:List Edge}(h:M.Perm N):gB M=gB N:=by
 induction h with
 | nil=>rfl
 | cons x _ ih=>rw [kO,kO,ih]
 | swap x y l=>rw [kO,kO,kO,kO];omega
 | trans _ _ h1 h2=>exact h1.trans h2
structure Mat (Ed:Edge→Prop)(p q:Edge→Nat)(A:Nat→Prop)(M:List Edge):Prop where
 ed:∀ e ∈ M,Ed e
 np:(M.map p).Nodup
 nq:(M.map q).Nodup
 ap:∀ e ∈ M,A (p e)
 aq:∀ e ∈ M,A (q e)
section
variable {Ed:Edge→Prop}{p q:Edge→Nat}
theorem Mat.nil {A:Nat→Prop}:Mat Ed p q A []:=⟨(fun _ z=>by cases z),List.nodup_nil,List.nodup_nil,(fun _ z=>by cases z),(fun _ z=>by cases z)⟩
theorem Mat.flip {A:Nat→Prop}{M:List Edge}(h:Mat Ed p q A M):Mat Ed q p A M:=⟨h.ed,h.nq,h.np,h.aq,h.ap⟩
theorem Mat.imp {A B:Nat→Prop}{M:List Edge}(h:Mat Ed p q A M)(k:∀ v,A v→B v):Mat Ed p q B M:=⟨h.ed,h.np,h.nq,fun e he=>k _ (h.ap e he),fun e he=>k _ (h.aq e he)⟩
theorem Mat.cons {A B:Nat→Prop}{M:List Edge}{e:Edge}(h:Mat Ed p q A M)(he:Ed e)(n1:¬ A (p e))(n2:¬ A (q e))(k:∀ v,A v→B v)(b1:B (p e))(b2:B (q e)):Mat Ed p q B (e :: M):=by
 refine ⟨fun x hx=>?_,?_,?_,fun x hx=>?_,fun x hx=>?_⟩
 ·rcases A2.mp hx with rfl | z
  ·exact he
  ·exact h.ed x z
 ·rw [AK,Bs]
  refine ⟨fun z=>?_,h.np⟩
  obtain ⟨x,hx,ex⟩:=Am.mp z
  exact n1 (ex ▸ h.ap x hx)
 ·rw [AK,Bs]
  refine ⟨fun z=>?_,h.nq⟩
  obtain ⟨x,hx,ex⟩:=Am.mp z
  exact n2 (ex ▸ h.aq x hx)
 ·rcases A2.mp hx with rfl | z
  ·exact b1
  ·exact k _ (h.ap x z)
 ·rcases A2.mp hx with rfl | z
  ·exact b2
  ·exact k _ (h.aq x z)
theorem Mat.take {S:Nat→Bool}(hS:∀ e,Ed e→S (p e)=true∧S (q e)=false){A:Nat→Prop}{M:List Edge}{e:Edge}(h:Mat Ed p q A M)(he:e ∈ M):∃ M1,M.Perm (e :: M1)∧M1.length + 1=M.length∧Mat Ed p q (minus (minus A (p e)) (q e)) M1:=by
 have pm:=List.perm_cons_erase he
 refine ⟨M.erase e,pm,?_,?_⟩
 ·have:=pm.length_eq
  rw [Ba] at this
  omega
 have n1:=(pm.map p).nodup_iff.mp h.np
 have n2:=(pm.map q).nodup_iff.mp h.nq
 rw [AK,Bs] at n1 n2
 have mm:∀ x ∈ M.erase e,x ∈ M:=fun x hx=>List.mem_of_mem_erase hx
 have se:=hS e (h.ed e he)
 refine ⟨fun x hx=>h.ed x (mm x hx),n1.2,n2.2,fun x hx=>?_,fun x hx=>?_⟩
 ·refine ⟨⟨h.ap x (mm x hx),fun z=>n1.1 (z ▸ Bi hx)⟩,fun z=>?_⟩
  have:=(hS x (h.ed x (mm x hx))).1
  rw [z,se.2] at this
  cases this
 ·refine ⟨⟨h.aq x (mm x hx),fun z=>?_⟩,fun z=>n2.1 (z ▸ Bi hx)⟩
  have:=(hS x (h.ed x (mm x hx))).2
  rw [z,se.1] at this
  cases this
def Swap (Ed : Edge → Prop)(p q : Edge → Nat)(S : Nat → Bool)(A B : Nat → Prop)(i : Nat)(W : Int) : Prop := ∃ M N : List Edge, gB M + gB N = W ∧
  ((Mat Ed p q (minus A i) M ∧ Mat Ed p q (plus B i) N) ∨
   (∃ j, S j = false ∧ A j ∧ ¬ B j ∧ Mat Ed p q (minus (minus A i) j) M ∧ Mat Ed p q (plus (plus B i) j) N) ∨
   (∃ j, S j = true ∧ B j ∧ ¬ A j ∧ Mat Ed p q (plus (minus A i) j) M ∧ Mat Ed p q (minus (plus B i) j) N))
theorem swap_it {S:Nat→Bool}(hS:∀ e,Ed e→S (p e)=true∧S (q e)=false):∀ (n:Nat) (M N:List Edge) (A B:Nat→Prop) (i:Nat),M.length ≤ n→Mat Ed p q A M→Mat Ed p q B N→A i→¬ B i→S i=true→Swap Ed p q S A B i (gB M + gB N):=by
 intro n
 induction n with
 | zero =>
  intro M N A B i hl hM hN ai bi si
  have:M=[]:=BE (by omega)
  subst this
  exact ⟨[],N,rfl,.inl ⟨Mat.nil,hN.imp fun v h=>.inl h⟩⟩
 | succ n ih =>
  intro M N A B i hl hM hN ai bi si
  have sep:∀ {u v:Nat},S u=true→S v=false→u ≠ v:=fun h1 h2 z=>by rw [z,h2] at h1;cases h1
  by_cases hi:∃ e ∈ M,p e=i
  ·obtain ⟨e,he,rfl⟩:=hi
   have ee:=hM.ed e he
   obtain ⟨s1,s2⟩:=hS e ee
   obtain ⟨M1,pm,l1,hM1⟩:=hM.take hS he
   have av:=hM.aq e he
   by_cases hv:∃ e' ∈ N,q e'=q e
   ·obtain ⟨e',he',ev⟩:=hv
    have ee':=hN.ed e' he'
    obtain ⟨t1,t2⟩:=hS e' ee'
    obtain ⟨N1,pn,l2,hN1⟩:=hN.take hS he'
    have bu:=hN.ap e' he'
    have bv:=hN.aq e' he'
    rw [ev] at hN1 bv t2
    have ui:p e' ≠ p e:=fun z=>bi (z ▸ bu)
    have uv:p e' ≠ q e:=sep t1 s2
    have iv:p e ≠ q e:=sep s1 s2
    have hW:gB M + gB N=e.2.2 + e'.2.2 + (gB M1 + gB N1):=by
     rw [fQ pm,fQ pn,kO,kO]
     omega
    rw [hW]
    by_cases au:A (p e')
    ·obtain ⟨M2,N2,w2,alt⟩:=ih M1 N1 (minus (minus A (p e)) (q e)) (minus (minus B (p e')) (q e)) (p e') (by omega) hM1 hN1 ⟨⟨au,ui⟩,uv⟩ (fun z=>z.1.2 rfl) t1
     refine ⟨e' :: M2,e :: N2,by rw [kO,kO];omega,?_⟩
     rcases alt with ⟨m1,m2⟩ | ⟨j,sj,aj,bj,m1,m2⟩ | ⟨j,sj,bj,aj,m1,m2⟩
     ·refine .inl ⟨?_,?_⟩
      ·refine m1.cons ee' (fun z=>z.2 rfl) (fun z=>z.1.2 ev) (fun v z=>z.1.1) ⟨au,ui⟩ ?_
       rw [ev]
       exact ⟨av,fun z=>iv z.symm⟩
      ·refine m2.cons ee (fun z=>?_) (fun z=>?_) (fun v z=>?_) (.inr rfl) (.inl bv)
       ·rcases z with z | z
        ·exact bi z.1.1
        ·exact ui z.symm
       ·rcases z with z | z
        ·exact z.2 rfl
        ·exact uv z.symm
       ·rcases z with z | z
        ·exact .inl z.1.1
        ·exact .inl (z ▸ bu)
     ·have ju:p e' ≠ j:=sep t1 sj
      have ji:p e ≠ j:=sep s1 sj
      have jv:j ≠ q e:=aj.2
      have bj':¬ B j:=fun z=>bj ⟨⟨z,fun y=>ju y.symm⟩,jv⟩
      refine .inr (.inl ⟨j,sj,aj.1.1,bj',?_,?_⟩)
      ·refine m1.cons ee' (fun z=>z.1.2 rfl) (fun z=>z.1.1.2 ev) (fun v z=>⟨z.1.1.1,z.2⟩) ⟨⟨au,ui⟩,ju⟩ ?_
       rw [ev]
       exact ⟨⟨av,fun z=>iv z.symm⟩,fun z=>jv z.symm⟩
      ·refine m2.cons ee (fun z=>?_) (fun z=>?_) (fun v z=>?_) (.inl (.inr rfl)) (.inl (.inl bv))
       ·rcases z with (z | z) | z
        ·exact bi z.1.1
        ·exact ui z.symm
        ·exact ji z
       ·rcases z with (z | z) | z
        ·exact z.2 rfl
        ·exact uv z.symm
        ·exact jv z.symm
       ·rcases z with (z | z) | z
        ·exact .inl (.inl z.1.1)
        ·exact .inl (.inl (z ▸ bu))
        ·exact .inr z
     ·have jv:j ≠ q e:=bj.2
      have ju:j ≠ p e':=bj.1.2
      have ji:j ≠ p e:=fun z=>bi (z ▸ bj.1.1)
      have aj':¬ A j:=fun z=>aj ⟨⟨z,ji⟩,jv⟩
      refine .inr (.inr ⟨j,sj,bj.1.1,aj',?_,?_⟩)
      ·refine m1.cons ee' (fun z=>?_) (fun z=>?_) (fun v z=>?_) (.inl ⟨au,ui⟩) (.inl ?_)
       ·rcases z with z | z
        ·exact z.2 rfl
        ·exact ju z.symm
       ·rw [ev] at z
        rcases z with z | z
        ·exact z.1.2 rfl
        ·exact jv z.symm
       ·rcases z with z | z
        ·exact .inl z.1.1
        ·exact .inr z
       ·rw [ev]
        exact ⟨av,fun z=>iv z.symm⟩
      ·refine m2.cons ee (fun z=>?_) (fun z=>?_) (fun v z=>?_) ⟨.inr rfl,fun z=>ji z.symm⟩ ⟨.inl bv,fun z=>jv z.symm⟩
       ·rcases z.1 with y | y
        ·exact bi y.1.1
        ·exact ui y.symm
       ·rcases z.1 with y | y
        ·exact y.2 rfl
        ·exact uv y.symm
       ·refine ⟨?_,z.2⟩
        rcases z.1 with y | y
        ·exact .inl y.1.1
        ·exact .inl (y ▸ bu)
    ·refine ⟨e' :: M1,e :: N1,by rw [kO,kO];omega,.inr (.inr ⟨p e',t1,bu,au,?_,?_⟩)⟩
     ·refine hM1.cons ee' (fun z=>au z.1.1) (fun z=>z.2 ev) (fun v z=>.inl z.1) (.inr rfl) (.inl ?_)
      rw [ev]
      exact ⟨av,fun z=>iv z.symm⟩
     ·exact hN1.cons ee (fun z=>bi z.1.1) (fun z=>z.2 rfl) (fun v z=>⟨.inl z.1.1,z.1.2⟩) ⟨.inr rfl,fun z=>ui z.symm⟩ ⟨.inl bv,fun z=>uv z.symm⟩
   ·have hW:gB M + gB N=gB M1 + gB (e :: N):=by
     rw [fQ pm,kO,kO]
     omega
    rw [hW]
    have fresh:Mat Ed p q (minus B (q e)) N:=⟨hN.ed,hN.np,hN.nq,fun x hx=>⟨hN.ap x hx,sep (hS x (hN.ed x hx)).1 s2⟩,fun x hx=>⟨hN.aq x hx,fun z=>hv ⟨x,hx,z⟩⟩⟩
    by_cases bv:B (q e)
    ·exact ⟨M1,e :: N,rfl,.inl ⟨hM1.imp fun v z=>z.1,fresh.cons ee (fun z=>bi z.1) (fun z=>z.2 rfl) (fun v z=>.inl z.1) (.inr rfl) (.inl bv)⟩⟩
    ·exact ⟨M1,e :: N,rfl,.inr (.inl ⟨q e,s2,av,bv,hM1,fresh.cons ee (fun z=>bi z.1) (fun z=>z.2 rfl) (fun v z=>.inl (.inl z.1)) (.inl (.inr rfl)) (.inr rfl)⟩)⟩
  ·refine ⟨M,N,rfl,.inl ⟨⟨hM.ed,hM.np,hM.nq,fun x hx=>⟨hM.ap x hx,fun z=>hi ⟨x,hx,z⟩⟩,fun x hx=>⟨hM.aq x hx,fun z=>?_⟩⟩,hN.imp fun v h=>.inl h⟩⟩
   exact sep si (hS x (hM.ed x hx)).2 z.symm
end
theorem kG {h i v:Nat}(hh:h < 32)(hi:i < 5)(hv:v < 5):qC (h ^^^ 2 ^ i) v=(qC h v != decide (v=i))∧h ^^^ 2 ^ i < 32:=by
 have key:∀ (h:_root_.Fin 32) (i v:_root_.Fin 5),qC (h.val ^^^ 2 ^ i.val) v.val=(qC h.val v.val != decide (v.val=i.val))∧h.val ^^^ 2 ^ i.val < 32:=by decide +kernel
 exact key ⟨h,hh⟩ ⟨i,hi⟩ ⟨v,hv⟩
def jF (sl:Nat→Prop)(h:Nat):Nat→Prop:=fun v=>(10 ≤ v∧sl v)∨(v < 5∧qC h v=true)
theorem j6 {sl:Nat→Prop}{h i:Nat}(hh:h < 32)(hi:i < 5)(b:qC h i=true):∀ v,minus (jF sl h) i v→jF sl (h ^^^ 2 ^ i) v:=fun v ⟨a,n⟩=>by
 rcases a with a | ⟨v5,bv⟩
 ·exact .inl a
 ·refine .inr ⟨v5,?_⟩
  rw [(kG hh hi v5).1,bv,Al n]
  rfl
theorem dH {sl:Nat→Prop}{h i:Nat}(hh:h < 32)(hi:i < 5)(b:qC h i=false):∀ v,plus (jF sl h) i v→jF sl (h ^^^ 2 ^ i) v:=fun v a=>by
 rcases a with (a | ⟨v5,bv⟩) | rfl
 ·exact .inl a
 ·refine .inr ⟨v5,?_⟩
  have n:v ≠ i:=fun z=>by rw [z,b] at bv;cases bv
  rw [(kG hh hi v5).1,bv,Al n]
  rfl
 ·refine .inr ⟨hi,?_⟩
  rw [(kG hh hi hi).1,b,A0 rfl]
  rfl
theorem gH {A B:Nat→Prop}(k:∀ v,A v→B v)(i:Nat):∀ v,minus A i v→minus B i v:=fun v z=>⟨k v z.1,z.2⟩
theorem cP {A B:Nat→Prop}(k:∀ v,A v→B v)(i:Nat):∀ v,plus A i v→plus B i v:=fun v z=>z.elim (fun y=>.inl (k v y)) .inr
def pL (e:Edge):Nat:=e.1
def pR (e:Edge):Nat:=e.2.1
structure Val (Ed:Edge→Prop)(sl:Nat→Prop)(m:Nat)(ws:List Int):Prop where
 at':∀ h,h < 2 ^ m→∃ M,Mat Ed pL pR (jF sl h) M∧gB M=ws.getD h 0
 ge:∀ h,h < 2 ^ m→∀ M,Mat Ed pL pR (jF sl h) M→gB M ≤ ws.getD h 0
def xG (F v:Nat):Bool:=if v < 10 then !qC F v else qC F (v % 10)
def tG (F v:Nat):Bool:=!xG F v
def gA (F:Nat)(Ed:Edge→Prop):Prop:=∀ e,Ed e→xG F (pL e)=true∧xG F (pR e)=false
theorem oW {m h j:Nat}(m5:m ≤ 5)(hh:h < 2 ^ m)(j5:j < 5)(b:qC h j=true):j < m:=by
 have key:∀ (m:_root_.Fin 6) (h:_root_.Fin 32) (j:_root_.Fin 5),h.val < 2 ^ m.val→qC h.val j.val=true→j.val < m.val:=by decide +kernel
 have:2 ^ m ≤ 2 ^ 5:=Ay (by decide) m5
 exact key ⟨m,by omega⟩ ⟨h,by omega⟩ ⟨j,j5⟩ hh b
theorem kK {m h j:Nat}(m5:m ≤ 5)(hh:h < 2 ^ m)(hj:j < m):h ^^^ 2 ^ j < 2 ^ m:=BG hh (Nat.pow_lt_pow_right (by decide) hj)
theorem nU {Ed:Edge→Prop}{sl:Nat→Prop}{m:Nat}{ws:List Int}{F:Nat}(m5:m ≤ 5)(V:Val Ed sl m ws)(sd:gA F Ed){X Y i:Nat}(hX:X < 2 ^ m)(hY:Y < 2 ^ m)(hi:i < m)(ai:qC X i=true)(bi:qC Y i=false)(p q:Edge→Nat)(S:Nat→Bool)(fl:∀ {A:Nat→Prop} {M:List Edge},Mat Ed pL pR A M ↔ Mat Ed p q A M)(hS:∀ e,Ed e→S (p e)=true∧S (q e)=false)(si:S i=true) :
  ws.getD X 0 + ws.getD Y 0 ≤ ws.getD (X ^^^ 2 ^ i) 0 + ws.getD (Y ^^^ 2 ^ i) 0∨∃ j,j < m∧((S j=false∧qC X j=true∧qC Y j=false)∨(S j=true∧qC X j=false∧qC Y j=true))∧ws.getD X 0 + ws.getD Y 0 ≤ ws.getD (X ^^^ 2 ^ i ^^^ 2 ^ j) 0 + ws.getD (Y ^^^ 2 ^ i ^^^ 2 ^ j) 0:=by
 have p32:2 ^ m ≤ 2 ^ 5:=Ay (by decide) m5
 obtain ⟨M,hM,eM⟩:=V.at' X hX
 obtain ⟨N,hN,eN⟩:=V.at' Y hY
 have i5:i < 5:=by omega
 have x1:=kG (show X < 32 by omega) i5 i5
 have y1:=kG (show Y < 32 by omega) i5 i5
 have hX1:=kK m5 hX hi
 have hY1:=kK m5 hY hi
 obtain ⟨M',N',e,alt⟩:=swap_it hS M.length M N (jF sl X) (jF sl Y) i (Ad _) (fl.mp hM) (fl.mp hN) (.inr ⟨i5,ai⟩) (fun z=>by
  rcases z with z | z
  ·omega
  ·rw [bi] at z;cases z.2) si
 have thing:∀ {Z Z' j:Nat},jF sl Z j→¬ jF sl Z' j→j < 5∧qC Z j=true∧qC Z' j=false:=fun {Z Z' j} a n=>by
  rcases a with a | ⟨j5,b⟩
  ·exact absurd (.inl a) n
  ·refine ⟨j5,b,?_⟩
   cases c:qC Z' j with
   | false=>rfl
   | true=>exact absurd (.inr ⟨j5,c⟩) n
 rcases alt with ⟨m1,m2⟩ | ⟨j,sj,aj,bj,m1,m2⟩ | ⟨j,sj,bj,aj,m1,m2⟩
 ·have g1:=V.ge _ hX1 M' (fl.mpr (m1.imp (j6 (by omega) i5 ai)))
  have g2:=V.ge _ hY1 N' (fl.mpr (m2.imp (dH (by omega) i5 bi)))
  exact .inl (by omega)
 ·obtain ⟨j5,b1,b2⟩:=thing aj bj
  have jm:=oW m5 hX j5 b1
  have ne:j ≠ i:=fun z=>by rw [z,si] at sj;cases sj
  have f1:qC (X ^^^ 2 ^ i) j=true:=by rw [(kG (show X < 32 by omega) i5 j5).1,b1,Al ne];rfl
  have f2:qC (Y ^^^ 2 ^ i) j=false:=by rw [(kG (show Y < 32 by omega) i5 j5).1,b2,Al ne];rfl
  have g1:=V.ge _ (kK m5 hX1 jm) M' (fl.mpr (m1.imp fun v z=>j6 (by omega) j5 f1 v (gH (j6 (by omega) i5 ai) j v z)))
  have g2:=V.ge _ (kK m5 hY1 jm) N' (fl.mpr (m2.imp fun v z=>dH (by omega) j5 f2 v (cP (dH (by omega) i5 bi) j v z)))
  exact .inr ⟨j,jm,.inl ⟨sj,b1,b2⟩,by omega⟩
 ·obtain ⟨j5,b2,b1⟩:=thing bj aj
  have jm:=oW m5 hY j5 b2
  have ne:j ≠ i:=fun z=>by rw [z,bi] at b2;cases b2
  have f1:qC (X ^^^ 2 ^ i) j=false:=by rw [(kG (show X < 32 by omega) i5 j5).1,b1,Al ne];rfl
  have f2:qC (Y ^^^ 2 ^ i) j=true:=by rw [(kG (show Y < 32 by omega) i5 j5).1,b2,Al ne];rfl
  have g1:=V.ge _ (kK m5 hX1 jm) M' (fl.mpr (m1.imp fun v z=>dH (by omega) j5 f1 v (cP (j6 (by omega) i5 ai) j v z)))
  have g2:=V.ge _ (kK m5 hY1 jm) N' (fl.mpr (m2.imp fun v z=>j6 (by omega) j5 f2 v (gH (dH (by omega) i5 bi) j v z)))
  exact .inr ⟨j,jm,.inr ⟨sj,b1,b2⟩,by omega⟩
theorem Mat.tail {Ed:Edge→Prop}{F:Nat}(sd:gA F Ed){A:Nat→Prop}{e:Edge}{M:List Edge}(h:Mat Ed pL pR A (e :: M)):Mat Ed pL pR (minus (minus A (pL e)) (pR e)) M:=by
 have n1:=h.np
 have n2:=h.nq
 rw [AK,Bs] at n1 n2
 have mm:∀ x ∈ M,x ∈ e :: M:=fun x hx=>Aw _ hx
 have se:=sd e (h.ed e Aq)
 refine ⟨fun x hx=>h.ed x (mm x hx),n1.2,n2.2,fun x hx=>?_,fun x hx=>?_⟩
 ·refine ⟨⟨h.ap x (mm x hx),fun z=>n1.1 (z ▸ Bi hx)⟩,fun z=>?_⟩
  have:=(sd x (h.ed x (mm x hx))).1
  rw [z,se.2] at this
  cases this
 ·refine ⟨⟨h.aq x (mm x hx),fun z=>?_⟩,fun z=>n2.1 (z ▸ Bi hx)⟩
  have:=(sd x (h.ed x (mm x hx))).2
  rw [z,se.1] at this
  cases this
theorem bG {Ed:Edge→Prop}{sl:Nat→Prop}{F m:Nat}{f:Nat→Int}(sd:gA F Ed)(h0:∀ h,h < 2 ^ m→0 ≤ f h)(step:∀ e h,Ed e→h < 2 ^ m→jF sl h (pL e)→jF sl h (pR e)→∃ h',h' < 2 ^ m∧e.2.2 + f h' ≤ f h∧∀ v,minus (minus (jF sl h) (pL e)) (pR e) v→jF sl h' v):∀ (M:List Edge) (h:Nat),h < 2 ^ m→Mat Ed pL pR (jF sl h) M→gB M ≤ f h
 | [],h,hh,_=>h0 h hh
 | e :: M,h,hh,hM=>by
  have ee:=hM.ed e Aq
  obtain ⟨h',l,le,k⟩:=step e h ee hh (hM.ap e Aq) (hM.aq e Aq)
  have:=bG sd h0 step M h' l ((hM.tail sd).imp k)
  rw [kO]
  omega
theorem a_bit {h m:Nat}(m5:m ≤ 5)(hh:h < 2 ^ m)(n:h ≠ 0):∃ t,t < m∧qC h t=true:=by
 have key:∀ (m:_root_.Fin 6) (h:_root_.Fin 32),h.val < 2 ^ m.val→h.val ≠ 0→∃ t:_root_.Fin 5,t.val < m.val∧qC h.val t.val=true:=by decide +kernel
 have:2 ^ m ≤ 2 ^ 5:=Ay (by decide) m5
 obtain ⟨t,h1,h2⟩:=key ⟨m,by omega⟩ ⟨h,by omega⟩ hh n
 exact ⟨t.val,h1,h2⟩
structure MatTab (rows:List Edge)(F m:Nat)(ns:List Int):Prop where
 rw':∀ e ∈ rows,e.1 < m∧e.2.1 < m∧qC F e.1=false∧qC F e.2.1=true
 z:ns.getD 0 0=0
 up:∀ h t,h < 2 ^ m→t < m→qC h t=true→ns.getD (h ^^^ 2 ^ t) 0 ≤ ns.getD h 0
 row:∀ h,h < 2 ^ m→∀ e ∈ rows,qC h e.1=true→qC h e.2.1=true→ns.getD (h ^^^ 2 ^ e.1 ^^^ 2 ^ e.2.1) 0 + e.2.2 ≤ ns.getD h 0
 att:∀ h,h < 2 ^ m→h ≠ 0→(∃ t,t < m∧qC h t=true∧ns.getD h 0=ns.getD (h ^^^ 2 ^ t) 0)∨∃ e ∈ rows,qC h e.1=true∧qC h e.2.1=true∧ns.getD h 0=ns.getD (h ^^^ 2 ^ e.1 ^^^ 2 ^ e.2.1) 0 + e.2.2
theorem mM {h i j:Nat}(hh:h < 32)(hi:i < 5)(hj:j < 5)(ij:i ≠ j)(bi:qC h i=true)(bj:qC h j=true):qC (h ^^^ 2 ^ i) j=true∧h ^^^ 2 ^ i ^^^ 2 ^ j < h∧h - (2 ^ i ||| 2 ^ j)=h ^^^ 2 ^ i ^^^ 2 ^ j:=by
 have key:∀ (h:_root_.Fin 32) (i j:_root_.Fin 5),i.val ≠ j.val→qC h.val i.val=true→qC h.val j.val=true→qC (h.val ^^^ 2 ^ i.val) j.val=true∧h.val ^^^ 2 ^ i.val ^^^ 2 ^ j.val < h.val∧h.val - (2 ^ i.val ||| 2 ^ j.val)=h.val ^^^ 2 ^ i.val ^^^ 2 ^ j.val:=by decide +kernel
 exact key ⟨h,hh⟩ ⟨i,hi⟩ ⟨j,hj⟩ ij bi bj
theorem uK {sl:Nat→Prop}{h t:Nat}(hh:h < 32)(ht:t < 5)(b:qC h t=true){v:Nat}(a:jF sl (h ^^^ 2 ^ t) v):minus (jF sl h) t v:=by
 rcases a with a | ⟨v5,bv⟩
 ·exact ⟨.inl a,by omega⟩
 ·rw [(kG hh ht v5).1] at bv
  refine ⟨.inr ⟨v5,?_⟩,fun z=>?_⟩
  ·cases c:qC h v with
   | true=>rfl
   | false =>
    rw [c] at bv
    have:v=t:=by simpa using bv
    rw [this,b] at c
    cases c
  ·rw [z,b,A0 rfl] at bv
   cases bv
def kJ (ws:List Int)(h:Nat):Nat→Int
 | 0=>0
 | n + 1=>kJ ws h n + if qC h n=true then ws.getD n 0 else 0
def edAdd (o F:Nat)(ws:List Int)(m:Nat)(e:Edge):Prop:=∃ t,t < m∧((qC F t=false∧e=(t,o + t,ws.getD t 0))∨(qC F t=true∧e=(o + t,t,ws.getD t 0)))
def fG (o:Nat)(v:Nat):Prop:=o ≤ v∧v < o + 10
theorem mI {o F m:Nat}{ws:List Int}(m5:m ≤ 5)(ho:o=10∨o=30):gA F (edAdd o F ws m):=fun e ⟨t,tm,h⟩=>by
 have om:(o + t) % 10=t:=by rcases ho with rfl | rfl <;> omega
 rcases h with ⟨b,rfl⟩ | ⟨b,rfl⟩
 ·unfold xG pL pR
  show (if t < 10 then !qC F t else qC F (t % 10))=true∧(if o + t < 10 then !qC F (o + t) else qC F ((o + t) % 10))=false
  rw [As (by omega),Au (by omega),om,b]
  exact ⟨rfl,rfl⟩
 ·unfold xG pL pR
  show (if o + t < 10 then !qC F (o + t) else qC F ((o + t) % 10))=true∧(if t < 10 then !qC F t else qC F (t % 10))=false
  rw [Au (by omega),As (by omega),om,b]
  exact ⟨rfl,rfl⟩
theorem fU {ws:List Int}{h t:Nat}(hh:h < 32)(ht:t < 5)(b:qC h t=true):∀ n,n ≤ 5→kJ ws (h ^^^ 2 ^ t) n=kJ ws h n - if t < n then ws.getD t 0 else 0
 | 0,_=>by simp [kJ]
 | n + 1,hn=>by
  have ih:=fU (ws:=ws) hh ht b n (by omega)
  have x:=(kG hh ht (show n < 5 by omega)).1
  show kJ ws (h ^^^ 2 ^ t) n + (if qC (h ^^^ 2 ^ t) n=true then ws.getD n 0 else 0)=kJ ws h n + (if qC h n=true then ws.getD n 0 else 0) - if t < n + 1 then ws.getD t 0 else 0
  by_cases e:n=t
  ·subst e
   rw [Au (AJ n)] at ih
   rw [ih,x,b,A0 rfl]
   simp only [AS,BO,bne_self_eq_false,AQ,BK]
   omega
  ·rw [Al e,show (qC h n != false)=qC h n by cases qC h n <;> rfl] at x
   rw [ih,x]
   have c:(if t < n + 1 then ws.getD t 0 else 0)=if t < n then ws.getD t 0 else 0:=by
    by_cases z:t < n
    ·rw [As z,As (by omega)]
    ·rw [Au z,Au (by omega)]
   rw [c]
   omega
theorem add_nn {ws:List Int}(w0:∀ t,0 ≤ ws.getD t 0)(h:Nat):∀ n,0 ≤ kJ ws h n
 | 0=>AV _
 | n + 1=>by
  have:=add_nn w0 h n
  have:=w0 n
  show 0 ≤ kJ ws h n + if qC h n=true then ws.getD n 0 else 0
  split <;> omega
theorem add_val {o F m:Nat}{ws ns:List Int}(m5:m ≤ 5)(ho:o=10∨o=30)(w0:∀ t,0 ≤ ws.getD t 0)(hn:∀ h,h < 2 ^ m→ns.getD h 0=kJ ws h m):Val (edAdd o F ws m) (fG o) m ns:=by
 have p32:2 ^ m ≤ 2 ^ 5:=Ay (by decide) m5
 refine ⟨fun h hh=>?_,fun h hh M hM=>?_⟩
 ·rw [hn h hh]
  have go:∀ n,n ≤ m→∃ M,Mat (edAdd o F ws m) pL pR (fun v=>(v < n∧qC h v=true)∨(o ≤ v∧v < o + n)) M∧gB M=kJ ws h n:=by
   intro n
   induction n with
   | zero=>exact fun _=>⟨[],Mat.nil,rfl⟩
   | succ n ih =>
    intro hnm
    have on:n < o:=by omega
    obtain ⟨M,hM,w⟩:=ih (by omega)
    have mono:∀ v,((v < n∧qC h v=true)∨(o ≤ v∧v < o + n))→((v < n + 1∧qC h v=true)∨(o ≤ v∧v < o + (n + 1))):=fun v z=>z.elim (fun y=>.inl ⟨by omega,y.2⟩) (fun y=>.inr ⟨y.1,by omega⟩)
    show ∃ M,Mat _ pL pR _ M∧gB M=kJ ws h n + if qC h n=true then ws.getD n 0 else 0
    cases b:qC h n with
    | false=>exact ⟨M,hM.imp mono,by rw [w,Au (by decide)];omega⟩
    | true =>
     cases c:qC F n with
     | false =>
      refine ⟨(n,o + n,ws.getD n 0) :: M,hM.cons ⟨n,by omega,.inl ⟨c,rfl⟩⟩ (fun z=>?_) (fun z=>?_) mono (.inl ⟨AS n,b⟩) (.inr ⟨BC o n,AS _⟩),by rw [kO,w,As rfl];show ws.getD n 0 + kJ ws h n=kJ ws h n + ws.getD n 0;omega⟩
      ·have z':(n < n∧qC h n=true)∨(o ≤ n∧n < o + n):=z
       exact z'.elim (fun y=>AJ _ y.1) (fun y=>absurd y.1 (Nat.not_le.mpr on))
      ·have z':(o + n < n∧qC h (o + n)=true)∨(o ≤ o + n∧o + n < o + n):=z
       exact z'.elim (fun y=>Nat.not_lt.mpr (Nat.le_add_left n o) y.1) (fun y=>AJ _ y.2)
     | true =>
      refine ⟨(o + n,n,ws.getD n 0) :: M,hM.cons ⟨n,by omega,.inr ⟨c,rfl⟩⟩ (fun z=>?_) (fun z=>?_) mono (.inr ⟨BC o n,AS _⟩) (.inl ⟨AS n,b⟩),by rw [kO,w,As rfl];show ws.getD n 0 + kJ ws h n=kJ ws h n + ws.getD n 0;omega⟩
      ·have z':(o + n < n∧qC h (o + n)=true)∨(o ≤ o + n∧o + n < o + n):=z
       exact z'.elim (fun y=>Nat.not_lt.mpr (Nat.le_add_left n o) y.1) (fun y=>AJ _ y.2)
      ·have z':(n < n∧qC h n=true)∨(o ≤ n∧n < o + n):=z
       exact z'.elim (fun y=>AJ _ y.1) (fun y=>absurd y.1 (Nat.not_le.mpr on))
  obtain ⟨M,hM,w⟩:=go m (Ad _)
  exact ⟨M,hM.imp fun v z=>z.elim (fun y=>.inr ⟨by omega,y.2⟩) (fun y=>.inl ⟨by omega,y.1,by omega⟩),w⟩
 ·rw [hn h hh]
  refine bG (F:=F) (f:=fun h=>kJ ws h m) (mI m5 ho) (fun h _=>add_nn w0 h m) (fun e h he hh a1 a2=>?_) M h hh hM
  obtain ⟨t,tm,he⟩:=he
  have b:qC h t=true:=by
   rcases he with ⟨_,rfl⟩ | ⟨_,rfl⟩
   ·rcases a1 with z | z
    ·have:10 ≤ t:=z.1
     omega
    ·exact z.2
   ·rcases a2 with z | z
    ·have:10 ≤ t:=z.1
     omega
    ·exact z.2
  have ao:=fU (ws:=ws) (show h < 32 by omega) (show t < 5 by omega) b m m5
  rw [As tm] at ao
  refine ⟨h ^^^ 2 ^ t,kK m5 hh tm,?_,fun v z=>j6 (by omega) (by omega) b v ⟨z.1.1,?_⟩⟩
  ·rcases he with ⟨_,rfl⟩ | ⟨_,rfl⟩
   ·show ws.getD t 0 + kJ ws (h ^^^ 2 ^ t) m ≤ kJ ws h m
    omega
   ·show ws.getD t 0 + kJ ws (h ^^^ 2 ^ t) m ≤ kJ ws h m
    omega
  ·rcases he with ⟨_,rfl⟩ | ⟨_,rfl⟩
   ·exact z.1.2
   ·exact z.2
def kA:Nat→List Int→Int
 | _,[]=>0
 | 0,_ :: _=>0
 | k + 1,y :: l=>max (kA (k + 1) l) (y + kA k l)
theorem xE (l:List Int):kA 0 l=0:=by cases l <;> rfl
theorem rA (x:Int)(h:0 ≤ x):∀ (k:Nat) (A B:List Int),kA k (A ++ B) ≤ kA k (A ++ x :: B)
 | 0,A,B=>by rw [xE,xE];exact AV _
 | k + 1,[],B=>by
  show kA (k + 1) B ≤ max (kA (k + 1) B) (x + kA k B)
  exact Int.le_max_left _ _
 | k + 1,a :: A,B=>by
  have h1:=rA x h (k + 1) A B
  have h2:=rA x h k A B
  show max (kA (k + 1) (A ++ B)) (a + kA k (A ++ B)) ≤ max (kA (k + 1) (A ++ x :: B)) (a + kA k (A ++ x :: B))
  omega
theorem pV (x a b:Int):x + max a b=max (x + a) (x + b):=by
 rcases Int.le_total a b with h | h
 ·rw [Int.max_eq_right h,Int.max_eq_right (Int.add_le_add_left h x)]
 ·rw [Int.max_eq_left h,Int.max_eq_left (Int.add_le_add_left h x)]
theorem max4 (a b c d:Int):max (max a b) (max c d)=max (max a c) (max b d):=by rw [BV,BV,← BV b c d,Int.max_comm b c,BV c b d]
theorem fX {l l':List Int}(p:l.Perm l'):∀ k,kA k l=kA k l':=by
 induction p with
 | nil=>exact fun _=>rfl
 | cons x _ ih =>
  intro k
  cases k with
  | zero=>rw [xE,xE]
  | succ k=>show max _ _=max _ _;rw [ih,ih]
 | swap x y l =>
  intro k
  match k with
  | 0=>rw [xE,xE]
  | 1 =>
   show max (max (kA 1 l) (x + kA 0 l)) (y + kA 0 (x :: l))=max (max (kA 1 l) (y + kA 0 l)) (x + kA 0 (y :: l))
   rw [xE,xE,xE,BV,Int.max_comm (x + 0),← BV]
  | k + 2 =>
   show max (max (kA (k + 2) l) (x + kA (k + 1) l)) (y + max (kA (k + 1) l) (x + kA k l))=max (max (kA (k + 2) l) (y + kA (k + 1) l)) (x + max (kA (k + 1) l) (y + kA k l))
   rw [pV,pV,max4,show y + (x + kA k l)=x + (y + kA k l) by omega]
 | trans _ _ ih1 ih2=>exact fun k=>(ih1 k).trans (ih2 k)
theorem nY {d:Int}(d0:0 ≤ d):∀ (l:List Int),(∀ x ∈ l,x ≤ d∧0 ≤ x)→∀ k,kA (k + 1) l ≤ d + kA k l
 | [],_,k=>by
  have:kA k [] = 0:=by cases k <;> rfl
  show (0:Int) ≤ d + kA k []
  omega
 | e :: l,h,k=>by
  have he:=h e Aq
  have ih:=nY d0 l fun x hx=>h x (Aw _ hx)
  have up:=rA e he.2 k [] l
  have i1:=ih k
  show max (kA (k + 1) l) (e + kA k l) ≤ d + kA k (e :: l)
  have up':kA k l ≤ kA k (e :: l):=up
  omega
theorem nX:∀ (l:List Int),l.Pairwise (fun a b=>b ≤ a)→(∀ x ∈ l,0 ≤ x)→∀ k,(l.take k).sum=kA k l
 | [],_,_,k=>by rw [List.take_nil];cases k <;> rfl
 | d :: l,hp,h0,0=>by rw [List.take_zero];rfl
 | d :: l,hp,h0,k + 1=>by
  rw [List.pairwise_cons] at hp
  rw [List.take_succ_cons,Bz,nX l hp.2 (fun x hx=>h0 x (Aw _ hx)) k]
  have:=nY (h0 d Aq) l (fun x hx=>⟨hp.1 x hx,h0 x (Aw _ hx)⟩) k
  show d + kA k l=max (kA (k + 1) l) (d + kA k l)
  omega
def xZ (ws:List Int)(h n:Nat):List Int:=((List.range n).filter (qC h)).map fun t=>ws.getD t 0
theorem jT (ws:List Int)(h k:Nat):xZ ws h (k + 1)=xZ ws h k ++ if qC h k=true then [ws.getD k 0] else []:=by
 unfold xZ
 rw [Bm,B5,A7]
 congr 1
 cases e:qC h k <;> simp [List.filter,e]
theorem tX {ws:List Int}{h t:Nat}(hh:h < 32)(ht:t < 5):∀ k,k ≤ t→xZ ws (h ^^^ 2 ^ t) k=xZ ws h k
 | 0,_=>rfl
 | k + 1,hk=>by
  have b:=(kG hh ht (show k < 5 by omega)).1
  rw [Al (show ¬ k=t by omega),show (qC h k != false)=qC h k by cases qC h k <;> rfl] at b
  rw [jT,jT,tX hh ht k (by omega),b]
theorem tY {ws:List Int}{h t:Nat}(hh:h < 32)(ht:t < 5)(e:qC h t=true):∀ n,t < n→n ≤ 5→∃ B,xZ ws h n=xZ ws h t ++ ws.getD t 0 :: B∧xZ ws (h ^^^ 2 ^ t) n=xZ ws h t ++ B
 | 0,h0,_=>absurd h0 (BY _)
 | n + 1,hn,h5=>by
  have b:=(kG hh ht (show n < 5 by omega)).1
  rcases AY t n with z | z
  ·obtain ⟨B,e1,e2⟩:=tY hh ht e n z (by omega)
   rw [Al (show ¬ n=t by omega),show (qC h n != false)=qC h n by cases qC h n <;> rfl] at b
   rw [jT,jT,e1,e2,b]
   exact ⟨B ++ if qC h n=true then [ws.getD n 0] else [],by simp,by simp⟩
  ·have:n=t:=by omega
   subst this
   rw [jT,jT,As e,b,e,A0 rfl,tX hh ht n (Ad _)]
   exact ⟨[],rfl,by simp⟩
def uA (o k:Nat)(ws:List Int)(m:Nat)(e:Edge):Prop:=∃ t s,t < m∧s < k∧e=(t,o + s,ws.getD t 0)
theorem bW {o k m:Nat}{ws:List Int}(m5:m ≤ 5)(ho:o=10∨o=30):gA 0 (uA o k ws m):=fun e ⟨t,s,tm,sk,h⟩=>by
 subst h
 have z:∀ v,qC 0 v=false:=fun v=>by unfold qC;simp
 unfold xG pL pR
 show (if t < 10 then !qC 0 t else qC 0 (t % 10))=true∧(if o + s < 10 then !qC 0 (o + s) else qC 0 ((o + s) % 10))=false
 rw [As (by omega),Au (by omega),z,z]
 exact ⟨rfl,rfl⟩
theorem vK:∀ (l:List Int) (k:Nat),kA k l ≤ kA (k + 1) l
 | [],k=>by cases k <;> exact AV _
 | y :: l,0=>by
  have h1:kA 0 l ≤ kA 1 l:=vK l 0
  rw [xE] at h1 ⊢
  show 0 ≤ max (kA 1 l) (y + kA 0 l)
  omega
 | y :: l,k + 1=>by
  have h1:kA (k + 1) l ≤ kA (k + 2) l:=vK l (k + 1)
  have h2:=vK l k
  show max (kA (k + 1) l) (y + kA k l) ≤ max (kA (k + 2) l) (y + kA (k + 1) l)
  omega
theorem sR (l:List Int){j:Nat}:∀ {k:Nat},j ≤ k→kA j l ≤ kA k l
 | 0,h=>by rw [show j=0 by omega];exact AV _
 | k + 1,h=>by
  rcases AY j (k + 1) with z | z
  ·exact Int.le_trans (sR l (show j ≤ k by omega)) (vK l k)
  ·rw [show j=k + 1 by omega];exact AV _
theorem dZ {o:Nat}:∀ (k:Nat) (l:List Nat),l.Nodup→(∀ x ∈ l,o ≤ x∧x < o + k)→l.length ≤ k
 | 0,l,_,h=>by
  cases l with
  | nil=>exact Ad _
  | cons a r=>have:=h a Aq;omega
 | k + 1,l,nd,h=>by
  by_cases c:o + k ∈ l
  ·have pm:=List.perm_cons_erase c
   have n2:=pm.nodup_iff.mp nd
   rw [Bs] at n2
   have:=dZ (o:=o) k (l.erase (o + k)) n2.2 fun x hx=>by
    have a:=h x (List.mem_of_mem_erase hx)
    have:x ≠ o + k:=fun z=>n2.1 (z ▸ hx)
    omega
   have:=pm.length_eq
   rw [Ba] at this
   omega
  ·have:=dZ (o:=o) k l nd fun x hx=>by
    have a:=h x hx
    have:x ≠ o + k:=fun z=>c (z ▸ hx)
    omega
   omega
theorem top_val {o k m:Nat}{ws ns:List Int}(m5:m ≤ 5)(k5:k ≤ 5)(ho:o=10∨o=30)(hn:∀ h,h < 2 ^ m→ns.getD h 0=kA k (xZ ws h m)):Val (uA o k ws m) (fG o) m ns:=by
 have p32:2 ^ m ≤ 2 ^ 5:=Ay (by decide) m5
 refine ⟨fun h hh=>?_,fun h hh M hM=>?_⟩
 ·rw [hn h hh]
  have go:∀ n,n ≤ m→∀ j,j ≤ k→∃ M,Mat (uA o k ws m) pL pR (fun v=>(v < n∧qC h v=true)∨(o ≤ v∧v < o + j)) M∧gB M=kA j (xZ ws h n):=by
   intro n
   induction n with
   | zero=>exact fun _ j _=>⟨[],Mat.nil,by show (0:Int)=kA j [];cases j <;> rfl⟩
   | succ n ih =>
    intro hnm j hj
    have on:n < o:=by omega
    have mono:∀ j',j' ≤ j→∀ v,((v < n∧qC h v=true)∨(o ≤ v∧v < o + j'))→((v < n + 1∧qC h v=true)∨(o ≤ v∧v < o + j)):=fun j' hj' v z=>z.elim (fun y=>.inl ⟨by omega,y.2⟩) (fun y=>.inr ⟨y.1,by omega⟩)
    cases b:qC h n with
    | false =>
     obtain ⟨M,hM,w⟩:=ih (by omega) j hj
     refine ⟨M,hM.imp (mono j (Ad _)),?_⟩
     rw [w,jT,b]
     simp
    | true =>
     have e:kA j (xZ ws h (n + 1))=kA j (ws.getD n 0 :: xZ ws h n):=by
      rw [jT,b,As rfl]
      exact fX List.perm_append_comm j
     rw [e]
     cases j with
     | zero=>exact ⟨[],Mat.nil,by rw [xE];rfl⟩
     | succ j =>
      obtain ⟨M,hM,w⟩:=ih (by omega) (j + 1) hj
      obtain ⟨M',hM',w'⟩:=ih (by omega) j (by omega)
      show ∃ M,Mat _ pL pR _ M∧gB M=max (kA (j + 1) (xZ ws h n)) (ws.getD n 0 + kA j (xZ ws h n))
      rcases Int.le_total (ws.getD n 0 + kA j (xZ ws h n)) (kA (j + 1) (xZ ws h n)) with c | c
      ·exact ⟨M,hM.imp (mono (j + 1) (Ad _)),by rw [w];omega⟩
      ·refine ⟨(n,o + j,ws.getD n 0) :: M',hM'.cons ⟨n,j,by omega,by omega,rfl⟩ (fun z=>?_) (fun z=>?_) (mono j (by omega)) (.inl ⟨AS n,b⟩) (.inr ⟨BC o j,AS _⟩),by rw [kO,w'];show ws.getD n 0 + kA j (xZ ws h n)=_;omega⟩
       ·have z':(n < n∧qC h n=true)∨(o ≤ n∧n < o + j):=z
        exact z'.elim (fun y=>AJ _ y.1) (fun y=>absurd y.1 (Nat.not_le.mpr on))
       ·have z':(o + j < n∧qC h (o + j)=true)∨(o ≤ o + j∧o + j < o + j):=z
        exact z'.elim (fun y=>absurd (C4 (BC o j) y.1) (Nat.not_lt.mpr (Bp on))) (fun y=>AJ _ y.2)
  obtain ⟨M,hM,w⟩:=go m (Ad _) k (Ad _)
  exact ⟨M,hM.imp fun v z=>z.elim (fun y=>.inr ⟨by omega,y.2⟩) (fun y=>.inl ⟨by omega,y.1,by omega⟩),w⟩
 ·rw [hn h hh]
  have few:M.length ≤ k:=by
   have:=dZ (o:=o) k (M.map pR) hM.nq fun x hx=>by
    obtain ⟨e,he,rfl⟩:=Am.mp hx
    obtain ⟨t,s,_,sk,rfl⟩:=hM.ed e he
    exact ⟨BC o s,Nat.add_lt_add_left sk o⟩
   rwa [Aa] at this
  refine Int.le_trans ?_ (sR _ few)
  have go:∀ (M:List Edge) (h:Nat),h < 2 ^ m→Mat (uA o k ws m) pL pR (jF (fG o) h) M→gB M ≤ kA M.length (xZ ws h m):=by
   intro M
   induction M with
   | nil=>intro h _ _;rw [show ([] : List Edge).length=0 from rfl,xE];exact AV _
   | cons e M ih =>
    intro h hh hM
    obtain ⟨t,s,tm,sk,rfl⟩:=hM.ed e Aq
    have b:qC h t=true:=by
     rcases hM.ap _ Aq with z | z
     ·have:10 ≤ t:=z.1
      omega
     ·exact z.2
    have ih':=ih (h ^^^ 2 ^ t) (kK m5 hh tm) ((hM.tail (bW m5 ho)).imp fun v z=>j6 (by omega) (by omega) b v z.1)
    obtain ⟨B,e1,e2⟩:=tY (ws:=ws) (show h < 32 by omega) (show t < 5 by omega) b m tm m5
    rw [e2] at ih'
    rw [kO,e1,fX List.perm_middle]
    show ws.getD t 0 + gB M ≤ max (kA (M.length + 1) (xZ ws h t ++ B)) (ws.getD t 0 + kA M.length (xZ ws h t ++ B))
    omega
  exact go M h hh hM
def cU (a b c d e:Bool):Nat:=(if a then 1 else 0) + (if b then 2 else 0) + (if c then 4 else 0) + (if d then 8 else 0) + (if e then 16 else 0)
theorem rX (a b c d e:Bool):cU a b c d e < 32∧qC (cU a b c d e) 0=a∧qC (cU a b c d e) 1=b∧qC (cU a b c d e) 2=c∧qC (cU a b c d e) 3=d∧qC (cU a b c d e) 4=e:=by
 revert a b c d e
 decide +kernel
theorem mask_ex (P:Nat→Bool):∃ a,a < 32∧∀ t,t < 5→qC a t=P t:=by
 obtain ⟨h0,h1,h2,h3,h4,h5⟩:=rX (P 0) (P 1) (P 2) (P 3) (P 4)
 refine ⟨_,h0,fun t ht=>?_⟩
 have:=(show ∀ t,t < 5→t=0∨t=1∨t=2∨t=3∨t=4 by decide) t ht
 rcases this with rfl | rfl | rfl | rfl | rfl <;> assumption
theorem uU {a h:Nat}(ha:a < 32)(hh:h < 32)(k:∀ t,t < 5→qC a t=true→qC h t=true):a ≤ h∧a &&& h=a:=by
 have key:∀ a h:_root_.Fin 32,(∀ t:_root_.Fin 5,qC a.val t.val=true→qC h.val t.val=true)→a.val ≤ h.val∧a.val &&& h.val=a.val:=by decide +kernel
 exact key ⟨a,ha⟩ ⟨h,hh⟩ fun t=>k t.val t.isLt
theorem wL {a h t:Nat}(hh:h < 32)(al:a ≤ h)(s:a &&& h=a)(ht:t < 5):qC (h - a) t=(qC h t && !qC a t)∧(qC a t=true→qC h t=true):=by
 have key:∀ (a h:_root_.Fin 32) (t:_root_.Fin 5),a.val ≤ h.val→a.val &&& h.val=a.val→qC (h.val - a.val) t.val=(qC h.val t.val && !qC a.val t.val)∧(qC a.val t.val=true→qC h.val t.val=true):=by decide +kernel
 exact key ⟨a,by omega⟩ ⟨h,hh⟩ ⟨t,ht⟩ al s
def Own (Ed:Edge→Prop)(sl:Nat→Prop):Prop:=∀ e,Ed e→(pL e < 5∨(10 ≤ pL e∧sl (pL e)))∧(pR e < 5∨(10 ≤ pR e∧sl (pR e)))
structure JoinTab (m:Nat)(f g ns:List Int):Prop where
 ge:∀ h a,h < 2 ^ m→a ≤ h→a &&& h=a→f.getD a 0 + g.getD (h - a) 0 ≤ ns.getD h 0
 att:∀ h,h < 2 ^ m→∃ a,a ≤ h∧a &&& h=a∧ns.getD h 0=f.getD a 0 + g.getD (h - a) 0
theorem oZ {E1 E2:Edge→Prop}{s1 s2:Nat→Prop}{m F:Nat}{f g ns:List Int}(m5:m ≤ 5)(V1:Val E1 s1 m f)(V2:Val E2 s2 m g)(o1:Own E1 s1)(o2:Own E2 s2)(dj:∀ v,s1 v→¬ s2 v)(sd1:gA F E1)(sd2:gA F E2)(J:JoinTab m f g ns):Val (fun e=>E1 e∨E2 e) (fun v=>s1 v∨s2 v) m ns:=by
 have p32:2 ^ m ≤ 2 ^ 5:=Ay (by decide) m5
 refine ⟨fun h hh=>?_,fun h hh M hM=>?_⟩
 ·obtain ⟨a,al,as,e⟩:=J.att h hh
  obtain ⟨M,hM,w⟩:=V1.at' a (by omega)
  obtain ⟨N,hN,w'⟩:=V2.at' (h - a) (by omega)
  have rf:=fun t ht=>wL (t:=t) (show h < 32 by omega) al as ht
  have apart:∀ v,jF s1 a v→jF s2 (h - a) v→False:=fun v z1 z2=>by
   rcases z1 with ⟨v10,y1⟩ | ⟨v5,b1⟩
   ·rcases z2 with ⟨_,y2⟩ | ⟨v5,_⟩
    ·exact dj v y1 y2
    ·omega
   ·rcases z2 with ⟨v10,_⟩ | ⟨_,b2⟩
    ·omega
    ·rw [(rf v v5).1,b1] at b2
     simp at b2
  have in1:∀ v,jF s1 a v→jF (fun v=>s1 v∨s2 v) h v:=fun v z=>by
   rcases z with ⟨v10,y1⟩ | ⟨v5,b1⟩
   ·exact .inl ⟨v10,.inl y1⟩
   ·exact .inr ⟨v5,(rf v v5).2 b1⟩
  have in2:∀ v,jF s2 (h - a) v→jF (fun v=>s1 v∨s2 v) h v:=fun v z=>by
   rcases z with ⟨v10,y1⟩ | ⟨v5,b1⟩
   ·exact .inl ⟨v10,.inr y1⟩
   ·refine .inr ⟨v5,?_⟩
    rw [(rf v v5).1,AF] at b1
    exact b1.1
  refine ⟨M ++ N,⟨fun x hx=>?_,?_,?_,fun x hx=>?_,fun x hx=>?_⟩,by rw [eO,w,w',e]⟩
  ·rcases A4.mp hx with z | z
   ·exact .inl (hM.ed x z)
   ·exact .inr (hN.ed x z)
  ·rw [A7,C6]
   refine ⟨hM.np,hN.np,fun u hu v hv z=>?_⟩
   obtain ⟨x,hx,rfl⟩:=Am.mp hu
   obtain ⟨y,hy,rfl⟩:=Am.mp hv
   exact apart _ (hM.ap x hx) (z ▸ hN.ap y hy)
  ·rw [A7,C6]
   refine ⟨hM.nq,hN.nq,fun u hu v hv z=>?_⟩
   obtain ⟨x,hx,rfl⟩:=Am.mp hu
   obtain ⟨y,hy,rfl⟩:=Am.mp hv
   exact apart _ (hM.aq x hx) (z ▸ hN.aq y hy)
  ·rcases A4.mp hx with z | z
   ·exact in1 _ (hM.ap x z)
   ·exact in2 _ (hN.ap x z)
  ·rcases A4.mp hx with z | z
   ·exact in1 _ (hM.aq x z)
   ·exact in2 _ (hN.aq x z)
 ·have split:∀ M:List Edge,(∀ e ∈ M,E1 e∨E2 e)→∃ M1 M2,M.Perm (M1 ++ M2)∧(∀ e ∈ M1,E1 e)∧∀ e ∈ M2,E2 e:=by
   intro M
   induction M with
   | nil=>exact fun _=>⟨[],[],List.Perm.nil,(fun _ z=>by cases z),(fun _ z=>by cases z)⟩
   | cons e M ih =>
    intro hE
    obtain ⟨M1,M2,pm,h1,h2⟩:=ih fun x hx=>hE x (Aw _ hx)
    rcases hE e Aq with z | z
    ·refine ⟨e :: M1,M2,pm.cons e,fun x hx=>?_,h2⟩
     rcases A2.mp hx with rfl | y
     ·exact z
     ·exact h1 x y
    ·refine ⟨M1,e :: M2,(pm.cons e).trans List.perm_middle.symm,h1,fun x hx=>?_⟩
     rcases A2.mp hx with rfl | y
     ·exact z
     ·exact h2 x y
  obtain ⟨M1,M2,pm,h1,h2⟩:=split M hM.ed
  have n1:=(pm.map pL).nodup_iff.mp hM.np
  have n2:=(pm.map pR).nodup_iff.mp hM.nq
  rw [A7,C6] at n1 n2
  have mem1:∀ e ∈ M1,e ∈ M:=fun e he=>pm.mem_iff.mpr (Bn _ he)
  have mem2:∀ e ∈ M2,e ∈ M:=fun e he=>pm.mem_iff.mpr (A9 _ he)
  obtain ⟨a,a32,ab⟩:=mask_ex fun t=>M1.any fun e=>decide (pL e=t) || decide (pR e=t)
  have abit:∀ t,t < 5→(qC a t=true ↔ ∃ e ∈ M1,pL e=t∨pR e=t):=fun t ht=>by
   rw [ab t ht,List.any_eq_true]
   simp
  have thing:∀ {v:Nat},jF (fun v=>s1 v∨s2 v) h v→v < 5→qC h v=true:=fun {v} z v5=>by
   rcases z with z | z
   ·omega
   ·exact z.2
  have sub:=uU a32 (show h < 32 by omega) fun t ht b=>by
   obtain ⟨e,he,z⟩:=(abit t ht).mp b
   rcases z with rfl | rfl
   ·exact thing (hM.ap e (mem1 e he)) ht
   ·exact thing (hM.aq e (mem1 e he)) ht
  have rf:=fun t ht=>wL (t:=t) (show h < 32 by omega) sub.1 sub.2 ht
  have g1:=V1.ge a (by omega) M1 ⟨h1,n1.1,n2.1,fun e he=>by
   rcases (o1 e (h1 e he)).1 with z | z
   ·exact .inr ⟨z,(abit _ z).mpr ⟨e,he,.inl rfl⟩⟩
   ·exact .inl z,fun e he=>by
   rcases (o1 e (h1 e he)).2 with z | z
   ·exact .inr ⟨z,(abit _ z).mpr ⟨e,he,.inr rfl⟩⟩
   ·exact .inl z⟩
  have cross:∀ e ∈ M1,∀ e' ∈ M2,pL e ≠ pR e'∧pR e ≠ pL e':=fun e he e' he'=>by
   have a1:=sd1 e (h1 e he)
   have a2:=sd2 e' (h2 e' he')
   refine ⟨fun z=>?_,fun z=>?_⟩
   ·rw [z,a2.2] at a1
    cases a1.1
   ·rw [z,a2.1] at a1
    cases a1.2
  have g2:=V2.ge (h - a) (by omega) M2 ⟨h2,n1.2.1,n2.2.1,fun e he=>by
   rcases (o2 e (h2 e he)).1 with z | z
   ·refine .inr ⟨z,?_⟩
    rw [(rf _ z).1,thing (hM.ap e (mem2 e he)) z]
    cases c:qC a (pL e) with
    | false=>rfl
    | true =>
     obtain ⟨e',he',y⟩:=(abit _ z).mp c
     rcases y with y | y
     ·exact absurd y (n1.2.2 _ (Bi he') _ (Bi he))
     ·exact absurd y (cross e' he' e he).2
   ·exact .inl z,fun e he=>by
   rcases (o2 e (h2 e he)).2 with z | z
   ·refine .inr ⟨z,?_⟩
    rw [(rf _ z).1,thing (hM.aq e (mem2 e he)) z]
    cases c:qC a (pR e) with
    | false=>rfl
    | true =>
     obtain ⟨e',he',y⟩:=(abit _ z).mp c
     rcases y with y | y
     ·exact absurd y (cross e' he' e he).1
     ·exact absurd y (n2.2.2 _ (Bi he') _ (Bi he))
   ·exact .inl z⟩
  have:=J.ge h a hh sub.1 sub.2
  rw [fQ pm,eO]
  omega
def fV (g:Nat→Int)(m F:Nat):Prop:=∀ X Y i,X < 2 ^ m→Y < 2 ^ m→i < m→qC (X ^^^ F) i=true→qC (Y ^^^ F) i=false→g X + g Y ≤ g (X ^^^ 2 ^ i) + g (Y ^^^ 2 ^ i)∨∃ j,j < m∧qC (Y ^^^ F) j=true∧qC (X ^^^ F) j=false∧g X + g Y ≤ g (X ^^^ 2 ^ i ^^^ 2 ^ j) + g (Y ^^^ 2 ^ i ^^^ 2 ^ j)
theorem jK (a b c:Nat):a ^^^ b ^^^ c=a ^^^ c ^^^ b:=by rw [C7,Nat.xor_comm b c,← C7]
theorem dO (a b:Nat):a ^^^ b ^^^ b=a:=by rw [C7,Nat.xor_self,Cz]
theorem mN {h F i t:Nat}(hh:h < 32)(hF:F < 32)(hi:i < 5)(ht:t < 5):qC (h ^^^ 2 ^ i ^^^ F) t=(qC (h ^^^ F) t != decide (t=i)):=by
 have hx:h ^^^ F < 2 ^ 5:=BG hh hF
 rw [jK]
 exact (kG hx hi ht).1
structure Gd (g:Nat→Int)(m F h:Nat)(row:List Int):Prop where
 lt:h < 2 ^ m
 on:∀ t:Nat,t < m→((t:Int) ∈ row ↔ qC (h ^^^ F) t=true)
 sw:∀ i j:Nat,i < m→j < m→(i:Int) ∉ row→(j:Int) ∈ row→g (h ^^^ 2 ^ j ^^^ 2 ^ i) ≤ g h
 ou:∀ j:Nat,j < m→(j:Int) ∈ row→g (h ^^^ 2 ^ j) ≤ g h
section
variable {g:Nat→Int}{m F:Nat}
theorem Gd.step (m5:m ≤ 5)(hF:F < 2 ^ m)(ex:fV g m F){h t:Nat}{row:List Int}(G:Gd g m F h row)(ht:t < m)(tr:(t:Int) ∉ row)(up:g h < g (h ^^^ 2 ^ t))(top:∀ i,i < m→(i:Int) ∉ row→g (h ^^^ 2 ^ i) ≤ g (h ^^^ 2 ^ t)):Gd g m F (h ^^^ 2 ^ t) (row ++ [(t:Int)]):=by
 have p32:2 ^ m ≤ 2 ^ 5:=Ay (by decide) m5
 have h32:h < 32:=by have:=G.lt;omega
 have F32:F < 32:=by omega
 have off:∀ i,i < m→(i:Int) ∉ row→qC (h ^^^ F) i=false:=fun i hi n=>by
  cases c:qC (h ^^^ F) i with
  | false=>rfl
  | true=>exact absurd ((G.on i hi).mpr c) n
 have mem:∀ i:Nat,(i:Int) ∈ row ++ [(t:Int)] ↔ (i:Int) ∈ row∨i=t:=fun i=>by
  rw [A4,A5]
  constructor
  ·rintro (z | z)
   ·exact .inl z
   ·exact .inr (by omega)
  ·rintro (z | z)
   ·exact .inl z
   ·exact .inr (by omega)
 refine ⟨kK m5 G.lt ht,fun i hi=>?_,fun i j hi hj ir jr=>?_,fun j hj jr=>?_⟩
 ·rw [mem,mN h32 F32 (by omega) (by omega),G.on i hi]
  by_cases e:i=t
  ·subst e
   rw [off i hi tr,A0 rfl]
   simp
  ·rw [Al e]
   simp [e]
 ·rw [mem] at ir jr
  have ir':(i:Int) ∉ row:=fun z=>ir (.inl z)
  have it:i ≠ t:=fun z=>ir (.inr z)
  rcases jr with jr | rfl
  ·have jt:j ≠ t:=fun z=>tr (z ▸ jr)
   have ji:j ≠ i:=fun z=>ir' (z ▸ jr)
   have s1:=G.sw t j ht hj tr jr
   have s2:=G.sw i j hi hj ir' jr
   have a32:h ^^^ 2 ^ t < 2 ^ m:=kK m5 G.lt ht
   have b32:h ^^^ 2 ^ t ^^^ 2 ^ j < 2 ^ m:=kK m5 a32 hj
   have bi:qC (h ^^^ 2 ^ t ^^^ 2 ^ j ^^^ 2 ^ i ^^^ F) i=true:=by
    rw [mN (by omega) F32 (by omega) (by omega),mN (by omega) F32 (by omega) (by omega),mN h32 F32 (by omega) (by omega),off i hi ir',A0 rfl,Al it,Al (fun z=>ji z.symm)]
    rfl
   rcases ex (h ^^^ 2 ^ t ^^^ 2 ^ j ^^^ 2 ^ i) h i (kK m5 b32 hi) G.lt hi bi (off i hi ir') with le | ⟨k,hk,k1,k2,le⟩
   ·rw [dO,jK h (2 ^ t) (2 ^ j)] at le
    have:=top i hi ir'
    rw [jK h (2 ^ t) (2 ^ j)] at *
    omega
   ·have kr:=(G.on k hk).mpr k1
    rw [mN (by omega) F32 (by omega) (by omega),mN (by omega) F32 (by omega) (by omega),mN h32 F32 (by omega) (by omega),k1,Al (fun z:k=t=>tr (z ▸ kr)),Al (fun z:k=i=>ir' (z ▸ kr))] at k2
    have kj:k=j:=by simpa using k2
    subst kj
    rw [dO,dO,jK h (2 ^ i) (2 ^ k)] at le
    omega
  ·rw [dO]
   exact top i hi ir'
 ·rw [mem] at jr
  rcases jr with jr | rfl
  ·have s1:=G.sw t j ht hj tr jr
   rw [jK] at s1
   omega
  ·rw [dO]
   omega
end
theorem dP {h F t:Nat}(hh:h < 32)(hF:F < 32)(ht:t < 5):qC (h ^^^ F) t=(qC h t != qC F t):=by
 have key:∀ (a b:_root_.Fin 32) (t:_root_.Fin 5),qC (a.val ^^^ b.val) t.val=(qC a.val t.val != qC b.val t.val):=by decide +kernel
 exact key ⟨h,hh⟩ ⟨F,hF⟩ ⟨t,ht⟩
theorem tZ {ws:List Int}{F m:Nat}{Ed:Edge→Prop}{sl:Nat→Prop}(m5:m ≤ 5)(hF:F < 2 ^ m)(V:Val Ed sl m ws)(sd:gA F Ed):fV (fun h=>ws.getD h 0) m F:=by
 intro X Y i hX hY hi xi yi
 have p32:2 ^ m ≤ 2 ^ 5:=Ay (by decide) m5
 have i5:i < 5:=by omega
 have bX:=fun t (ht:t < 5)=>dP (h:=X) (F:=F) (t:=t) (by omega) (by omega) ht
 have bY:=fun t (ht:t < 5)=>dP (h:=Y) (F:=F) (t:=t) (by omega) (by omega) ht
 rw [bX i i5] at xi
 rw [bY i i5] at yi
 cases fi:qC F i with
 | false =>
  rw [fi] at xi yi
  have x1:qC X i=true:=by cases c:qC X i;(· rw [c] at xi;cases xi);rfl
  have y1:qC Y i=false:=by cases c:qC Y i;(· rfl);rw [c] at yi;cases yi
  rcases nU (F:=F) m5 V sd hX hY hi x1 y1 pL pR (xG F) Iff.rfl sd (by unfold xG;rw [As (by omega),fi];rfl) with le | ⟨j,hj,sj,le⟩
  ·exact .inl le
  ·unfold xG at sj
   rw [As (show j < 10 by omega)] at sj
   refine .inr ⟨j,hj,?_,?_,le⟩
   ·rw [bY j (by omega)]
    rcases sj with ⟨s1,s2,s3⟩ | ⟨s1,s2,s3⟩
    ·rw [s3,show qC F j=true by simpa using s1];rfl
    ·rw [s3,show qC F j=false by simpa using s1];rfl
   ·rw [bX j (by omega)]
    rcases sj with ⟨s1,s2,s3⟩ | ⟨s1,s2,s3⟩
    ·rw [s2,show qC F j=true by simpa using s1];rfl
    ·rw [s2,show qC F j=false by simpa using s1];rfl
 | true =>
  rw [fi] at xi yi
  have x1:qC X i=false:=by cases c:qC X i;(· rfl);rw [c] at xi;cases xi
  have y1:qC Y i=true:=by cases c:qC Y i;(· rw [c] at yi;cases yi);rfl
  rcases nU (F:=F) m5 V sd hY hX hi y1 x1 pR pL (tG F) ⟨Mat.flip,Mat.flip⟩ (fun e he=>by unfold tG;rw [(sd e he).1,(sd e he).2];exact ⟨rfl,rfl⟩) (by unfold tG xG;rw [As (by omega),fi];rfl) with le | ⟨j,hj,sj,le⟩
  ·exact .inl (by show ws.getD X 0 + ws.getD Y 0 ≤ ws.getD (X ^^^ 2 ^ i) 0 + ws.getD (Y ^^^ 2 ^ i) 0;omega)
  ·unfold tG xG at sj
   rw [As (show j < 10 by omega)] at sj
   refine .inr ⟨j,hj,?_,?_,by show ws.getD X 0 + ws.getD Y 0 ≤ ws.getD (X ^^^ 2 ^ i ^^^ 2 ^ j) 0 + ws.getD (Y ^^^ 2 ^ i ^^^ 2 ^ j) 0;omega⟩
   ·rw [bY j (by omega)]
    rcases sj with ⟨s1,s2,s3⟩ | ⟨s1,s2,s3⟩
    ·rw [s2,show qC F j=false by simpa using s1];rfl
    ·rw [s2,show qC F j=true by simpa using s1];rfl
   ·rw [bX j (by omega)]
    rcases sj with ⟨s1,s2,s3⟩ | ⟨s1,s2,s3⟩
    ·rw [s3,show qC F j=false by simpa using s1];rfl
    ·rw [s3,show qC F j=true by simpa using s1];rfl
theorem ext_all {g:Nat→Int}{m F:Nat}(m5:m ≤ 5)(hF:F < 2 ^ m)(fa:∀ t,t < m→qC F t=true)(ex:fV g m 0):fV g m F:=by
 intro X Y i hX hY hi xi yi
 have p32:2 ^ m ≤ 2 ^ 5:=Ay (by decide) m5
 have bX:=fun t (ht:t < m)=>dP (h:=X) (F:=F) (t:=t) (by omega) (by omega) (by omega)
 have bY:=fun t (ht:t < m)=>dP (h:=Y) (F:=F) (t:=t) (by omega) (by omega) (by omega)
 rw [bX i hi,fa i hi] at xi
 rw [bY i hi,fa i hi] at yi
 have x1:qC (X ^^^ 0) i=false:=by rw [Cz];cases c:qC X i;(· rfl);rw [c] at xi;cases xi
 have y1:qC (Y ^^^ 0) i=true:=by rw [Cz];cases c:qC Y i;(· rw [c] at yi;cases yi);rfl
 rcases ex Y X i hY hX hi y1 x1 with le | ⟨j,hj,j1,j2,le⟩
 ·exact .inl (by omega)
 ·rw [Cz] at j1 j2
  exact .inr ⟨j,hj,by rw [bY j hj,fa j hj,j2];rfl,by rw [bX j hj,fa j hj,j1];rfl,by omega⟩
theorem uN {ws:List Int}{h t:Nat}(hh:h < 32)(ht:t < 5):∀ n,n ≤ 5→kJ ws (h ^^^ 2 ^ t) n=kJ ws h n + if t < n then (if qC h t=true then -ws.getD t 0 else ws.getD t 0) else 0:=by
 intro n hn
 cases b:qC h t with
 | true =>
  rw [fU hh ht b n hn]
  split
  ·rw [As rfl];omega
  ·omega
 | false =>
  have x:=(kG hh ht ht).2
  have b2:qC (h ^^^ 2 ^ t) t=true:=by rw [(kG hh ht ht).1,b,A0 rfl];rfl
  have:=fU (ws:=ws) x ht b2 n hn
  rw [dO] at this
  rw [Au (show ¬ (false=true) by decide)]
  split
  ·rename_i z;rw [As z] at this;omega
  ·rename_i z;rw [Au z] at this;omega
theorem ext_less {f:Nat→Int}{ps:List Int}{m F:Nat}(m5:m ≤ 5)(hF:F < 2 ^ m)(ex:fV f m F):fV (fun h=>f h - kJ ps h m) m F:=by
 intro X Y i hX hY hi xi yi
 have p32:2 ^ m ≤ 2 ^ 5:=Ay (by decide) m5
 have tog:∀ A B t,A < 2 ^ m→B < 2 ^ m→t < m→qC A t ≠ qC B t→kJ ps A m + kJ ps B m=kJ ps (A ^^^ 2 ^ t) m + kJ ps (B ^^^ 2 ^ t) m:=fun A B t hA hB ht n=>by
  rw [uN (show A < 32 by omega) (show t < 5 by omega) m m5,uN (show B < 32 by omega) (show t < 5 by omega) m m5,As ht,As ht]
  cases c:qC A t <;> cases d:qC B t <;> rw [c,d] at n <;> simp at n ⊢ <;> omega
 have dif:∀ A B t,A < 2 ^ m→B < 2 ^ m→t < m→qC (A ^^^ F) t ≠ qC (B ^^^ F) t→qC A t ≠ qC B t:=fun A B t hA hB ht n z=>n (by rw [dP (by omega) (by omega) (by omega),dP (by omega) (by omega) (by omega),z])
 have t1:=tog X Y i hX hY hi (dif X Y i hX hY hi (by rw [xi,yi];decide))
 rcases ex X Y i hX hY hi xi yi with le | ⟨j,hj,j1,j2,le⟩
 ·exact .inl (by show f X - kJ ps X m + (f Y - kJ ps Y m) ≤ f (X ^^^ 2 ^ i) - kJ ps (X ^^^ 2 ^ i) m + (f (Y ^^^ 2 ^ i) - kJ ps (Y ^^^ 2 ^ i) m);omega)
 ·have ji:j ≠ i:=fun z=>by rw [z,yi] at j1;cases j1
  have lX:=kK m5 hX hi
  have lY:=kK m5 hY hi
  have t2:=tog (X ^^^ 2 ^ i) (Y ^^^ 2 ^ i) j lX lY hj (by
   rw [(kG (show X < 32 by omega) (show i < 5 by omega) (show j < 5 by omega)).1,(kG (show Y < 32 by omega) (show i < 5 by omega) (show j < 5 by omega)).1,Al ji]
   have:=dif X Y j hX hY hj (by rw [j1,j2];decide)
   cases c:qC X j <;> cases d:qC Y j <;> rw [c,d] at this <;> simp at this ⊢)
  exact .inr ⟨j,hj,j1,j2,by show f X - kJ ps X m + (f Y - kJ ps Y m) ≤ f (X ^^^ 2 ^ i ^^^ 2 ^ j) - kJ ps (X ^^^ 2 ^ i ^^^ 2 ^ j) m + (f (Y ^^^ 2 ^ i ^^^ 2 ^ j) - kJ ps (Y ^^^ 2 ^ i ^^^ 2 ^ j) m);omega⟩
structure PairTab (rows:List Edge)(F m:Nat)(ns:List Int):Prop where
 rw':∀ e ∈ rows,e.1 < m∧e.2.1 < m∧qC F e.1=false∧qC F e.2.1=true
 nn:∀ h,h < 2 ^ m→0 ≤ ns.getD h 0
 row:∀ h,h < 2 ^ m→∀ e ∈ rows,qC h e.1=true→qC h e.2.1=true→ns.getD (h ^^^ 2 ^ e.1 ^^^ 2 ^ e.2.1) 0 + e.2.2 ≤ ns.getD h 0
 att:∀ h,h < 2 ^ m→ns.getD h 0=0∨∃ e ∈ rows,qC h e.1=true∧qC h e.2.1=true∧ns.getD h 0=ns.getD (h ^^^ 2 ^ e.1 ^^^ 2 ^ e.2.1) 0 + e.2.2
theorem wV {rows:List Edge}{F m:Nat}{ns:List Int}(m5:m ≤ 5)(R:PairTab rows F m ns):gA F (· ∈ rows):=fun e he=>by
 obtain ⟨h1,h2,h3,h4⟩:=R.rw' e he
 unfold xG pL pR
 rw [As (by omega),As (by omega),h3,h4]
 exact ⟨rfl,rfl⟩
theorem i7 {rows:List Edge}{F m:Nat}{ns:List Int}{sl:Nat→Prop}(m5:m ≤ 5)(R:PairTab rows F m ns):Val (· ∈ rows) sl m ns:=by
 have p32:2 ^ m ≤ 2 ^ 5:=Ay (by decide) m5
 have ne:∀ e ∈ rows,e.1 ≠ e.2.1:=fun e he z=>by
  obtain ⟨_,_,h3,h4⟩:=R.rw' e he
  rw [z,h4] at h3
  cases h3
 refine ⟨?_,?_⟩
 ·have go:∀ n h,h ≤ n→h < 2 ^ m→∃ M,Mat (· ∈ rows) pL pR (jF sl h) M∧gB M=ns.getD h 0:=by
   intro n
   induction n with
   | zero =>
    intro h hn hh
    rcases R.att h hh with z | ⟨e,he,b1,b2,ee⟩
    ·rw [z];exact ⟨[],Mat.nil,rfl⟩
    ·rw [show h=0 by omega] at b1
     unfold qC at b1
     simp at b1
   | succ n ih =>
    intro h hn hh
    rcases R.att h hh with z | ⟨e,he,b1,b2,ee⟩
    ·rw [z];exact ⟨[],Mat.nil,rfl⟩
    ·obtain ⟨r1,r2,_,_⟩:=R.rw' e he
     obtain ⟨o1,o2,_⟩:=mM (by omega) (show e.1 < 5 by omega) (show e.2.1 < 5 by omega) (ne e he) b1 b2
     obtain ⟨M,hM,w⟩:=ih (h ^^^ 2 ^ e.1 ^^^ 2 ^ e.2.1) (by omega) (by omega)
     have x1:=kG (show h < 32 by omega) (show e.1 < 5 by omega) (show e.1 < 5 by omega)
     have back:∀ v,jF sl (h ^^^ 2 ^ e.1 ^^^ 2 ^ e.2.1) v→minus (minus (jF sl h) e.1) e.2.1 v:=fun v a=>by
      have a1:=uK x1.2 (by omega) o1 a
      exact ⟨uK (by omega) (by omega) b1 a1.1,a1.2⟩
     refine ⟨e :: M,(hM.imp back).cons he (fun z=>z.1.2 rfl) (fun z=>z.2 rfl) (fun v z=>z.1.1) (.inr ⟨by unfold pL;omega,b1⟩) (.inr ⟨by unfold pR;omega,b2⟩),?_⟩
     rw [kO,w,ee]
     omega
  exact fun h hh=>go h h (Ad _) hh
 ·intro h hh M hM
  refine bG (F:=F) (f:=fun h=>ns.getD h 0) (wV m5 R) R.nn (fun e h he hh a1 a2=>?_) M h hh hM
  obtain ⟨r1,r2,_,_⟩:=R.rw' e he
  have b1:qC h e.1=true:=by
   rcases a1 with z | z
   ·have:10 ≤ e.1:=z.1
    omega
   ·exact z.2
  have b2:qC h e.2.1=true:=by
   rcases a2 with z | z
   ·have:10 ≤ e.2.1:=z.1
    omega
   ·exact z.2
  obtain ⟨o1,o2,_⟩:=mM (by omega) (show e.1 < 5 by omega) (show e.2.1 < 5 by omega) (ne e he) b1 b2
  have x1:=kG (show h < 32 by omega) (show e.1 < 5 by omega) (show e.1 < 5 by omega)
  refine ⟨h ^^^ 2 ^ e.1 ^^^ 2 ^ e.2.1,by omega,?_,fun v z=>j6 x1.2 (by omega) o1 v (gH (j6 (by omega) (by omega) b1) _ v z)⟩
  have:=R.row h hh e he b1 b2
  show e.2.2 + ns.getD (h ^^^ 2 ^ e.1 ^^^ 2 ^ e.2.1) 0 ≤ ns.getD h 0
  omega
def One (o F m:Nat)(ns:List Int):Prop:=∃ Ed,Val Ed (fG o) m ns∧gA F Ed∧Own Ed (fG o)
theorem wC (o:Nat)(ho:o=10∨o=30){s:Nat}(hs:s < 10):10 ≤ o + s∧fG o (o + s):=by
 unfold fG
 omega
theorem one_top {o m k:Nat}{ws ns:List Int}(m5:m ≤ 5)(k5:k ≤ 5)(ho:o=10∨o=30)(hn:∀ h,h < 2 ^ m→ns.getD h 0=kA k (xZ ws h m)):One o 0 m ns :=
 ⟨_,top_val m5 k5 ho hn,bW m5 ho,fun e ⟨t,s,tm,sk,h⟩=>by subst h;exact ⟨.inl (show t < 5 by omega),.inr (wC o ho (show s < 10 by omega))⟩⟩
theorem nG (ws:List Int)(h m:Nat):(xZ ws h m).length ≤ m:=by
 unfold xZ
 rw [Aa]
 exact AB (Bt _ _) (by simp)
theorem oD {o F m:Nat}{ns:List Int}{es:List Edge}(m5:m ≤ 5)(R:PairTab es F m ns):One o F m ns :=
 ⟨_,i7 m5 R,wV m5 R,fun e he=>⟨.inl (by have:=(R.rw' e he).1;show e.1 < 5;omega),.inl (by have:=(R.rw' e he).2.1;show e.2.1 < 5;omega)⟩⟩
theorem lP {o F m:Nat}{ws ns:List Int}(m5:m ≤ 5)(ho:o=10∨o=30)(w0:∀ t,0 ≤ ws.getD t 0)(hn:∀ h,h < 2 ^ m→ns.getD h 0=kJ ws h m):One o F m ns :=
 ⟨_,add_val (F:=F) m5 ho w0 hn,mI m5 ho,fun e ⟨t,tm,h⟩=>by
  rcases h with ⟨_,rfl⟩ | ⟨_,rfl⟩
  ·exact ⟨.inl (show t < 5 by omega),.inr (wC o ho (show t < 10 by omega))⟩
  ·exact ⟨.inr (wC o ho (show t < 10 by omega)),.inl (show t < 5 by omega)⟩⟩
theorem One.ext {o F m:Nat}{ns:List Int}(m5:m ≤ 5)(hF:F < 2 ^ m)(a:One o F m ns):fV (fun h=>ns.getD h 0) m F:=let ⟨_,V,s,_⟩:=a;tZ m5 hF V s
theorem pC {F m:Nat}{f g ns:List Int}(m5:m ≤ 5)(hF:F < 2 ^ m)(a:One 10 F m f)(b:One 30 F m g)(J:JoinTab m f g ns):fV (fun h=>ns.getD h 0) m F:=by
 obtain ⟨E1,V1,s1,o1⟩:=a
 obtain ⟨E2,V2,s2,o2⟩:=b
 refine tZ m5 hF (oZ m5 V1 V2 o1 o2 (fun v h1 h2=>?_) s1 s2 J) fun e he=>he.elim (s1 e) (s2 e)
 unfold fG at h1 h2
 omega
theorem bE (ss:List Int):∀ k,k ≤ 5→∀ t,t < 5→qC (d6 ss 1 k) t=(decide (t < k) && decide (ss.getD t 0=1))
 | 0,_,t,ht=>by
  show qC 0 t=_
  unfold qC
  simp
 | k + 1,hk,t,ht=>by
  have ih:=bE ss k (by omega) t ht
  have lt:=nH ss 1 k
  have p:2 ^ k ≤ 2 ^ 4:=Ay (by decide) (by omega)
  have key:∀ (x:_root_.Fin 32) (k t:_root_.Fin 5),x.val < 2 ^ k.val→qC (x.val + 2 ^ k.val) t.val=(if t.val=k.val then true else qC x.val t.val)∧qC x.val k.val=false:=by decide +kernel
  have kk:=key ⟨d6 ss 1 k,by omega⟩ ⟨k,by omega⟩ ⟨t,ht⟩ lt
  show qC (d6 ss 1 k + (if ss.getD k 0=1 then 2 ^ k else 0)) t=_
  by_cases e:ss.getD k 0=1
  ·rw [As e,kk.1,ih]
   by_cases z:t=k
   ·rw [As z,z,e]
    simp
   ·rw [Au z]
    have:decide (t < k + 1)=decide (t < k):=by
     rw [decide_eq_decide]
     omega
    rw [this]
  ·rw [Au e,Nat.add_zero,ih]
   by_cases z:t=k
   ·rw [z,Al e]
    simp
   ·have:decide (t < k + 1)=decide (t < k):=by
     rw [decide_eq_decide]
     omega
    rw [this]
theorem bit_nat {h t:Nat}(hh:h < 32)(ht:t < 5):bit (h:Int) t=if qC h t=true then 1 else 0:=by
 have key:∀ (a:_root_.Fin 32) (b:_root_.Fin 5),bit (a.val:Int) b.val=if qC a.val b.val=true then 1 else 0:=by decide +kernel
 exact key ⟨h,hh⟩ ⟨t,ht⟩
theorem sF {ws:List Int}{h:Nat}(hh:h < 32):∀ n,n ≤ 5→gM ws (h:Int) n=kJ ws h n
 | 0,_=>rfl
 | n + 1,hn=>by
  rw [zU,sF hh n (by omega),bit_nat hh (by omega)]
  show kJ ws h n + _=kJ ws h n + _
  cases qC h n <;> simp
theorem zF {ns:List Int}{n:Nat}(h:n < ns.length):dM (ns.map V.int) (n:Int)=some (V.int (ns.getD n 0)):=xC (by simp [h,Ab])
theorem bF {ws:List Int}{r:Int}{i:Nat}(h:i < ws.length):(ws ++ [r]).getD i 0=ws.getD i 0:=by
 rw [Ab,Ab,B7 h]
theorem r6 {ws:List Int}{r:Int}:(ws ++ [r]).getD ws.length 0=r:=by
 rw [Ab,B6 (Ad _),Nat.sub_self]
 rfl
theorem nP {a h:Nat}(ha:a < 32)(hh:h < 32):Builtin.bitAnd (a:Int) (h:Int)=((a &&& h:Nat):Int):=by
 have key:∀ a h:_root_.Fin 32,Builtin.bitAnd (a.val:Int) (h.val:Int)=((a.val &&& h.val:Nat):Int):=by decide +kernel
 exact key ⟨a,ha⟩ ⟨h,hh⟩
def JoinAt (f g ns:List Int)(h:Nat):Prop:=(∀ a,a ≤ h→a &&& h=a→f.getD a 0 + g.getD (h - a) 0 ≤ ns.getD h 0)∧∃ a,a ≤ h∧a &&& h=a∧ns.getD h 0=f.getD a 0 + g.getD (h - a) 0
def fE:Sp:=fun vs H Q _=>∃ (a b:Addr) (one other:List Int) (m:Nat),vs=[.ref a,.ref b]∧H a=some (.tup (one.map V.int))∧H b=some (.tup (other.map V.int))∧one.length=2 ^ m∧other.length=2 ^ m∧m ≤ 5∧∀ (t:Addr) (ns:List Int) (H':Hp),ns.length=2 ^ m→JoinTab m one other ns→Same H H'→H' t=some (.tup (ns.map V.int))→Q (.ref t) H'
def LT1 (a b c:Addr)(f g:List Int)(G:Hp)(i:Nat)(σ:St)(H:Hp):Prop:=∃ (v3:Option V) (ns:List Int),σ=[some (.ref a),some (.ref b),some (.ref c),v3]∧ns.length=i∧(∀ h,h < i→JoinAt f g ns h)∧SameX c G H∧H c=some (.lst (ns.map V.int))
def LT2 (a b d:Addr)(f g:List Int)(h:Nat)(G:Hp)(i:Nat)(σ:St)(H:Hp):Prop:=∃ (v:Option V) (ns:List Int),σ=[v,some (.ref a),some (.ref b),some (.int (h:Int))]∧ns.length ≤ i∧(0 < i→ns ≠ [])∧((∀ x ∈ ns,∃ a,a ≤ h∧a &&& h=a∧x=f.getD a 0 + g.getD (h - a) 0)∧∀ a,a < i→a &&& h=a→f.getD a 0 + g.getD (h - a) 0 ∈ ns)∧SameX d G H∧H d=some (.lst (ns.map V.int))
theorem and_zero {h:Nat}(hh:h < 32):Builtin.bitAnd (0:Int) (h:Int)=0:=by
 have key:∀ a:_root_.Fin 32,Builtin.bitAnd (0:Int) (a.val:Int)=0:=by decide +kernel
 exact key ⟨h,hh⟩
theorem vE:FnScope ["_law_one", "_law_other", "_law_table", "_law_heap"] ["_law_one", "_law_other"] (qE s__law_joined):=⟨rfl,rfl,rfl,by decide +kernel,rfl,by decide +kernel,by decide +kernel⟩
theorem lQ (F:Fun K "_law_joined" "_law_joined" s__law_joined f fd) (hm:mg "_law_joined" = some (.ref f)) (hb:Binds K fd ["_law_one", "_law_other"] []) (T:Txt mg):Cal P w K mg base "_law_joined" ["_law_one", "_law_other"] 1 fE:=by
 refine q0 F hm hb vE (fun vs H Q E h=>?_) (fun cdv A outer s H vs Q E hr h=>?_)
 ·obtain ⟨_,_,_,_,_,rfl,_⟩:=h;rfl
 ·obtain ⟨a,b,one,other,m,rfl,ha,hb',ol,tl,m5,q⟩:=h
  have h32:one.length ≤ 32:=by rw [ol];exact (kW m5).1
  have hl:one.length=other.length:=by omega
  have sc:=vE
  refine ⟨_,kE (qY (i:=2) sc.nd rfl (Or.inl rfl) (pe_lst qD))
   (kE (jO AA rfl (kX rfl T.range_ (qA (qR len0 rfl T.len_ kY (qA (pv 0) qD)) qD)) (qM (i:=3) sc.nd rfl (Or.inr rfl))
    (qI (zH (zB (pv 2) (qA (qR (max0 rfl) rfl T.max_ d8 (qA (jQ (N:=["_law_part", "_law_one", "_law_other", "_law_heap"]) (fr:=[none,some 0,some 1,some 3]) rfl (kX rfl T.range_ (qA (qV kR (pv 3) qH) qD)) (CScope.of rfl rfl rfl) rfl (fun _ _ _=>⟨qM (i:=0) (show List.Nodup (α:=Str) ["_law_part", "_law_one", "_law_other", "_law_heap"] by decide +kernel) rfl (Or.inl rfl),zR (q5 j0 (qV nB (pv 0) (pv 3)) (pv 0) (qZ _)),qV kR (kH yJ (pv 1) (pv 0) (fun _ _=>rfl)) (kH yJ (pv 2) (qV dY (pv 3) (pv 0)) (fun _ _=>rfl))⟩)) qD)) qD)))))
   (qI (qS (kM z6 rfl T.tuple_ kN (qA (pv 2) qD))))),?_⟩
  rw [show L2.start ["_law_one", "_law_other", "_law_table", "_law_heap"] [.ref a,.ref b] = [some (.ref a),some (.ref b),none,none] from rfl]
  (push_cast only [])
  refine ⟨by decide,fun c nc=>?_⟩
  have nac:a ≠ c:=qF ha nc
  have nbc:b ≠ c:=qF hb' nc
  have hsa:=q8 (show upd H c (.lst []) a=_ by rw [qQ nac];exact ha)
  (push_cast only [hsa])
  refine ⟨by omega,by omega,yI (LT1 a b c one other H) ⟨none,[],rfl,rfl,(fun h hh=>absurd hh (BY _)),SameX.upd,qG⟩ ?_ ?_⟩
  ·rintro h σ H1 hh ⟨v3,ns,rfl,hlen,jn,s1,e1⟩
   rw [Ar] at hh
   have hh32:h < 32:=Az hh h32
   have ha1:=s1 _ _ nac ha
   have hb1:=s1 _ _ nbc hb'
   (push_cast only [e1])
   refine ⟨by omega,by omega,fun d nd=>?_⟩
   have nad:a ≠ d:=qF ha1 nd
   have nbd:b ≠ d:=qF hb1 nd
   have ncd:c ≠ d:=qF e1 nd
   refine zK (LT2 a b d one other h H1) ⟨none,[],rfl,by simp,fun z=>absurd z (by omega),⟨(fun _ z=>by cases z),fun a ha=>absurd ha (BY _)⟩,SameX.upd,qG⟩ ?_ ?_
   ·rintro i σ H2 hi ⟨v,ms,rfl,ml,mne,mv,s2,e2⟩
    have hi':i ≤ h:=by omega
    have hi32:i < 32:=C4 hi' hh32
    have ml32:ms.length ≤ 1000:=AB ml (AB (Bp hi32) (by decide))
    have ml1:ms.length ≤ i + 1:=Nat.le_succ_of_le ml
    have ml2:ms.length + 1 ≤ i + 1:=Nat.succ_le_succ ml
    have hsa2:=q8 (s2 _ _ nad ha1)
    have hsb2:=q8 (s2 _ _ nbd hb1)
    have hat1:=zF (ns:=one) (n:=i) (by omega)
    have hat2:=zF (ns:=other) (n:=h - i) (by omega)
    rw [show ((h - i:Nat):Int)=(h:Int) - (i:Int) by omega] at hat2
    (push_cast only [])
    split
    ·rename_i hy
     have sub:i &&& h=i:=by
      have y:Builtin.bitAnd (i:Int) (h:Int)=(i:Int):=by simpa using hy
      rw [nP (by omega) (by omega)] at y
      exact_mod_cast y
     (push_cast only [hsa2,hsb2,hat1,hat2,e2])
     refine ⟨qP (by omega),⟨_,ms ++ [one.getD i 0 + other.getD (h - i) 0],rfl,by rw [Ax,Bc];omega,fun _=>by simp,⟨fun x hx=>?_,fun a ha s=>?_⟩,s2.trans SameX.upd,by rw [qG];simp⟩⟩
     ·rcases A4.mp hx with z | z
      ·exact mv.1 x z
      ·exact ⟨i,hi',sub,A5.mp z⟩
     ·rcases AY a i with z | z
      ·exact Bn _ (mv.2 a z s)
      ·rw [show a=i by omega]
       exact A9 _ Aq
    ·rename_i hn
     refine ⟨_,ms,rfl,by omega,fun _=>?_,⟨mv.1,fun a ha s=>?_⟩,s2,e2⟩
     rotate_left
     ·rcases AY a i with z | z
      ·exact mv.2 a z s
      ·have ea:a=i:=by omega
       subst ea
       refine absurd ?_ hn
       have y:Builtin.bitAnd (a:Int) (h:Int)=(a:Int):=by rw [nP (by omega) (by omega),s]
       simpa using y
     by_cases h0:i=0
     ·subst h0
      exact absurd (by simpa using and_zero (h:=h) (by omega)) hn
     ·exact mne (by omega)
   ·rintro σ H2 ⟨v,ms,rfl,ml,mne,mv,s2,e2⟩
    refine ⟨_,kL e2,mne (by omega),fun mx mxm mxl=>?_⟩
    have e2c:=s2 _ _ ncd e1
    (push_cast only [e2c])
    refine ⟨qP (by omega),⟨_,ns ++ [mx],rfl,by rw [Ax,Bc,hlen],fun h' hh'=>?_,?_,by rw [qG,A7];rfl⟩⟩
    ·unfold JoinAt
     rcases AY h' ns.length with z | z
     ·rw [bF z]
      exact jn h' (by omega)
     ·have eh:h'=h:=by omega
      have g:(ns ++ [mx]).getD h' 0=mx:=by
       rw [show h'=ns.length by omega]
       exact r6
      rw [g,eh]
      exact ⟨fun a al s=>mxl _ (mv.2 a (by omega) s),mv.1 mx mxm⟩
    exact (s1.trans (s2.same nd).x).trans SameX.upd
  ·rintro σ H1 ⟨v3,ns,rfl,hlen,jn,s1,e1⟩
   rw [Ar] at hlen jn
   (push_cast only [])
   refine ⟨_,e1,fun l H2 nl s2 e2=>?_⟩
   exact q l ns H2 (by omega) ⟨fun h a hh=>(jn h (by omega)).1 a,fun h hh=>(jn h (by omega)).2⟩ ((s1.same nc).trans s2) e2
theorem nF {h t:Nat}:decide ((h:Int) / ((2 ^ t:Nat):Int) % 2=1)=qC h t:=by
 unfold qC
 rw [decide_eq_decide]
 constructor
 ·intro z
  have:((h / 2 ^ t % 2:Nat):Int)=1:=by push_cast;exact_mod_cast z
  exact_mod_cast this
 ·intro z
  have:((h / 2 ^ t % 2:Nat):Int)=1:=by exact_mod_cast z
  exact_mod_cast this
theorem bN {m t:Nat}(m5:m ≤ 5)(ht:t < m):(bitsL m)[t]? = some ((2 ^ t:Nat):Int):=by
 have key:∀ (m:_root_.Fin 6) (t:_root_.Fin 5),t.val < m.val→(bitsL m.val)[t.val]? = some ((2 ^ t.val:Nat):Int):=by decide +kernel
 exact key ⟨m,by omega⟩ ⟨t,by omega⟩ ht
theorem mD {m:Nat}(m5:m ≤ 5):(bitsL m).length=m:=by
 have key:∀ m:_root_.Fin 6,(bitsL m.val).length=m.val:=by decide +kernel
 exact key ⟨m,by omega⟩
theorem cutI (ns:List Int)(k:Nat):zL (ns.map V.int) none (some (k:Int))=(ns.take k).map V.int:=by
 unfold zL
 rw [HT.sIx_none,HT.sIx_nat,Aa,BP,Nat.sub_zero,← List.map_take]
 congr 1
 rcases Nat.le_total k ns.length with h | h
 ·rw [Nat.min_eq_left h]
 ·rw [Nat.min_eq_right h,AG (Ad _),AG h]
def sY:Sp:=fun vs H Q _=>∃ (a:Addr) (ws:List Int) (k:Nat),vs=[.ref a,.int (k:Int)]∧H a=some (.lst (ws.map V.int))∧1 ≤ ws.length∧ws.length ≤ 5∧(∀ x ∈ ws,0 ≤ x∧x ≤ 1000)∧∀ (t:Addr) (ns:List Int) (H':Hp),H t=none→ns.length=2 ^ ws.length→(∀ h,h < 2 ^ ws.length→ns.getD h 0=kA k (xZ ws h ws.length))→Same H H'→H' t=some (.tup (ns.map V.int))→Q (.ref t) H'
def SM1 (a c:Addr)(ws:List Int)(k:Nat)(G:Hp)(i:Nat)(σ:St)(H:Hp):Prop:=∃ (v3 v4:Option V) (ns:List Int),σ=[some (.ref a),some (.int (k:Int)),some (.ref c),v3,v4]∧ns.length=i∧(∀ h,h < i→ns.getD h 0=kA k (xZ ws h ws.length))∧SameX c G H∧H c=some (.lst (ns.map V.int))
def SM2 (a d:Addr)(ws:List Int)(h:Nat)(G:Hp)(i:Nat)(σ:St)(H:Hp):Prop:=∃ (v1 v2:Option V),σ=[v1,v2,some (.ref a),some (.int (h:Int))]∧SameX d G H∧H d=some (.lst ((xZ ws h i).map V.int))
theorem gU:FnScope ["_law_worths", "_law_many", "_law_table", "_law_heap", "_law_here"] ["_law_worths", "_law_many"] (qE s__law_some):=⟨rfl,rfl,rfl,by decide +kernel,rfl,by decide +kernel,by decide +kernel⟩
theorem ok_some (F:Fun K "_law_some" "_law_some" s__law_some f fd) (hm:mg "_law_some" = some (.ref f)) (hb:Binds K fd ["_law_worths", "_law_many"] []) (T:Txt mg) (c__law_costs:Cal P w K mg base "_law_costs" ["_law_prices"] 1 z7) (c__law_bits:Cal P w K mg base "_law_bits" ["_law_many"] 1 mT):Cal P w K mg base "_law_some" ["_law_worths", "_law_many"] 2 sY:=by
 refine q0 F hm hb gU (fun vs H Q E h=>?_) (fun cdv A outer s H vs Q E hr h=>?_)
 ·obtain ⟨_,_,_,rfl,_⟩:=h;rfl
 ·obtain ⟨a,ws,k,rfl,ha,w1,w5,wb,q⟩:=h
  have sc:=gU
  have hp:=kW w5
  refine ⟨_,qK (qY (i:=2) sc.nd rfl (Or.inl rfl) (jC qD))
   (qK (jO AA rfl (kX rfl T.range_ (qA (qR len0 rfl T.len_ kY (qA (qJ c__law_costs hr (qA (pv 0) qD)) qD)) qD)) (qM (i:=3) sc.nd rfl (Or.inr rfl))
    (qK (lL (i:=4) sc.nd rfl (Or.inl rfl) (N:=["_law_k", "_law_bit", "_law_worths", "_law_heap"]) (fr:=[none,none,some 0,some 3]) rfl (g7 rfl T.enumerate_ (qA (qJ c__law_bits hr (qA (qR len0 rfl T.len_ kY (qA (pv 0) qD)) qD)) qD)) (CScope.of rfl rfl rfl) rfl (fun _ _ _=>⟨kU (n:=2) rfl (qU (qM (i:=0) (show List.Nodup (α:=Str) ["_law_k", "_law_bit", "_law_worths", "_law_heap"] by decide +kernel) rfl (Or.inl rfl)) (qU (qM (i:=1) (show List.Nodup (α:=Str) ["_law_k", "_law_bit", "_law_worths", "_law_heap"] by decide +kernel) rfl (Or.inl rfl)) kT)),zR (q5 j0 (qV yO (qV vP (pv 3) (pv 1)) qH) qH (qZ _)),kH yJ (pv 2) (pv 0) (fun _ _=>rfl)⟩))
   (qI (zH (zB (pv 2) (qA (qR (iD rfl) rfl T.sum_ bM (qA (yE slL0 (pe_revL (qR sorted0 rfl T.sorted_ eD (qA (pv 4) qD)) (tJ mL qH) (fun _ _ _ h=>⟨_,rfl,h⟩)) vN (vM (pv 1))) qD)) qD))))))
   (qI (qS (kM z6 rfl T.tuple_ kN (qA (pv 2) qD))))),?_⟩
  rw [show L2.start ["_law_worths", "_law_many", "_law_table", "_law_heap", "_law_here"] [.ref a,.int (k:Int)] = [some (.ref a),some (.int (k:Int)),none,none,none] from rfl]
  (push_cast only [])
  refine ⟨by decide,fun c H1 nc s1 e1=>?_⟩
  have nac:a ≠ c:=qF ha nc
  (simp only [qL])
  (push_cast only [])
  refine ⟨a,ws,rfl,.inr (s1 _ _ ha),w5,fun ct H2 n2 s2 e2=>?_⟩
  have hs2:=kL e2
  (push_cast only [hs2])
  rw [jI]
  refine ⟨by omega,by omega,yI (SM1 a c ws k H) ⟨_,_,[],rfl,rfl,(fun h hh=>absurd hh (BY _)),(s1.trans s2).x,s2 _ _ e1⟩ ?_ ?_⟩
  ·rintro h σ H3 hh ⟨v3,v4,ns,rfl,hlen,tp,s3,e3⟩
   rw [Ar] at hh
   have ha3:=s3 _ _ nac ha
   have hsa3:=kL ha3
   (push_cast only [hsa3])
   refine ⟨ws.length,rfl,w5,fun bl H4 n4 s4 e4=>?_⟩
   (push_cast only [])
   refine ⟨_,_,.inl ⟨rfl,e4⟩,fun d nd=>?_⟩
   have ha4:=s4 _ _ ha3
   have e34:=s4 _ _ e3
   have nad:a ≠ d:=qF ha4 nd
   have nbd:bl ≠ d:=qF e4 nd
   have ncd:c ≠ d:=qF e34 nd
   refine uF (SM2 a d ws h H4) ⟨none,none,rfl,SameX.upd,qG⟩ (fun i σ H' ⟨_,_,_,s,_⟩=>.inl ⟨rfl,s _ _ nbd e4⟩) ?_ ?_
   ·rintro i v T' σ H5 H6 hv ⟨v1,v2,rfl,s5,e5⟩ nT s6 e6
    have il:i < (bitsL ws.length).length:=by
     have:=(Af.mp hv).1
     rwa [Aa] at this
    rw [mD w5] at il
    have hv':V.int ((2 ^ i:Nat):Int)=v:=by
     rw [Ag,bN w5 il] at hv
     exact A8 hv
    subst hv'
    have e56:=s6 _ _ e5
    have hsa6:=kL (s6 _ _ (s5 _ _ nad ha4))
    have hat:=zF (ns:=ws) (n:=i) il
    have len:(xZ ws h i).length ≤ 5:=AB (nG ws h i) (by omega)
    (push_cast only [e6])
    have p16:2 ^ i ≤ 2 ^ 4:=Ay (by decide) (by omega)
    have pp:=AE i
    refine ⟨⟨by omega,by omega⟩,?_⟩
    have ib:=nF (h:=h) (t:=i)
    cases b:qC h i with
    | true =>
     rw [b] at ib
     rw [As (Bj ib)]
     refine ⟨_,hsa6,_,hat,_,e56,qP (by rw [Aa];omega),⟨_,_,rfl,(s5.trans s6.x).trans SameX.upd,?_⟩⟩
     rw [qG,jT,b,As rfl,A7]
     rfl
    | false =>
     rw [b] at ib
     rw [Au (of_decide_eq_false ib)]
     refine ⟨_,_,rfl,s5.trans s6.x,?_⟩
     rw [e56,jT,b]
     simp
   ·rintro σ H5 ⟨v1,v2,rfl,s5,e5⟩
    rw [Aa,mD w5] at e5
    have hs5:=kL e5
    have len:(xZ ws h ws.length).length ≤ 5:=AB (nG ws h ws.length) w5
    have hw0:∀ t,0 ≤ ws.getD t 0∧ws.getD t 0 ≤ 1000:=fun t=>by
     rw [Ab]
     cases e:ws[t]? with
     | none=>exact ⟨AV _,by decide⟩
     | some x=>exact wb x (Ap e)
    have ibd:∀ x ∈ xZ ws h ws.length,0 ≤ x∧x ≤ 1000:=fun x hx=>by
     unfold xZ at hx
     obtain ⟨t,_,rfl⟩:=Am.mp hx
     exact hw0 t
    have e35:=s5 _ _ ncd e34
    (simp only [qL])
    (push_cast only [e35,hs5])
    refine ⟨_,rfl,by omega,fun y ms H6 ny s6 pm so e6=>⟨_,e6,fun z H7 nz s7 e7=>⟨_,e7,fun u nu=>?_⟩⟩⟩
    rw [← List.map_reverse,cutI]
    have sub:∀ x ∈ ms.reverse.take k,0 ≤ x∧x ≤ 1000:=fun x hx=>ibd x (pm.mem_iff.mp (List.mem_reverse.mp (BQ hx)))
    have pml:=pm.length_eq
    have e37:=s7 _ _ (s6 _ _ e35)
    have ncu:c ≠ u:=qF e37 nu
    refine ⟨_,rfl,gD (fun x hx=>by have:=sub x hx;omega) (by rw [Av,List.length_reverse];omega),_,by rw [qQ ncu];exact e37,qP (by rw [Aa];omega),⟨_,_,ns ++ [(ms.reverse.take k).sum],rfl,by simp [hlen],fun h' hh'=>?_,fun b o n e=>?_,by rw [qG,A7];rfl⟩⟩
    ·rcases AY h' ns.length with y1 | y1
     ·rw [bF y1]
      exact tp h' (by omega)
     ·rw [show h'=ns.length by omega,r6,hlen,nX ms.reverse (List.pairwise_reverse.mpr so) (fun x hx=>(ibd x (pm.mem_iff.mp (List.mem_reverse.mp hx))).1),fX ((List.reverse_perm ms).trans pm)]
    ·have y4:=s4 _ _ (s3 b o n e)
     have y7:=s7 _ _ (s6 _ _ (s5 _ _ (qF y4 nd) y4))
     rw [qQ n,qQ (qF y7 nu)]
     exact y7
  ·rintro σ H3 ⟨v3,v4,ns,rfl,hlen,tp,s3,e3⟩
   rw [Ar] at hlen tp
   (simp only [qL])
   (push_cast only [e3])
   intro l H4 n4 s4 e4
   exact q l ns H4 (kZ (s3.same nc) n4) hlen tp ((s3.same nc).trans s4) e4
def PAt (es:List Edge)(ns:List Int)(h:Nat)(x:Int):Prop:=0 ≤ x∧(∀ e ∈ es,qC h e.1=true→qC h e.2.1=true→ns.getD (h ^^^ 2 ^ e.1 ^^^ 2 ^ e.2.1) 0 + e.2.2 ≤ x)∧(x=0∨∃ e ∈ es,qC h e.1=true∧qC h e.2.1=true∧x=ns.getD (h ^^^ 2 ^ e.1 ^^^ 2 ^ e.2.1) 0 + e.2.2)
def EOk (m:Nat)(e:Edge):Prop:=e.1 < m∧e.2.1 < m∧e.1 ≠ e.2.1
theorem PAt.ext {es:List Edge}{m:Nat}{ns ns':List Int}{h:Nat}{x:Int}(m5:m ≤ 5)(hh:h < 32)(ok:∀ e ∈ es,EOk m e)(eq:∀ k,k < h→ns'.getD k 0=ns.getD k 0)(M:PAt es ns h x):PAt es ns' h x:=by
 have e2:∀ e ∈ es,qC h e.1=true→qC h e.2.1=true→ns'.getD (h ^^^ 2 ^ e.1 ^^^ 2 ^ e.2.1) 0=ns.getD (h ^^^ 2 ^ e.1 ^^^ 2 ^ e.2.1) 0:=fun e he b1 b2=>by
  obtain ⟨h1,h2,h3⟩:=ok e he
  exact eq _ (mM hh (by omega) (by omega) h3 b1 b2).2.1
 refine ⟨M.1,fun e he b1 b2=>by rw [e2 e he b1 b2];exact M.2.1 e he b1 b2,?_⟩
 rcases M.2.2 with z | ⟨e,he,b1,b2,y⟩
 ·exact .inl z
 ·exact .inr ⟨e,he,b1,b2,by rw [e2 e he b1 b2];exact y⟩
def PPre (es:List Edge)(ns:List Int):Prop:=∀ h,h < ns.length→PAt es ns h (ns.getD h 0)
theorem PPre.snoc {es:List Edge}{m:Nat}{ns:List Int}{x:Int}(m5:m ≤ 5)(hh:ns.length < 32)(ok:∀ e ∈ es,EOk m e)(P:PPre es ns)(M:PAt es ns ns.length x):PPre es (ns ++ [x]):=fun h hl=>by
 rw [Ax,Bc] at hl
 rcases AY h ns.length with z | z
 ·rw [bF z]
  exact (P h z).ext m5 (by omega) ok fun k hk=>bF (by omega)
 ·have:h=ns.length:=by omega
  subst this
  rw [r6]
  exact M.ext m5 hh ok fun k hk=>bF hk
theorem sO {h i j:Nat}(hh:h < 32)(hi:i < 5)(hj:j < 5)(ij:i ≠ j)(bi:qC h i=true)(bj:qC h j=true):2 ^ i + 2 ^ j ≤ h∧h - 2 ^ i - 2 ^ j=h ^^^ 2 ^ i ^^^ 2 ^ j:=by
 have key:∀ (h:_root_.Fin 32) (i j:_root_.Fin 5),i.val ≠ j.val→qC h.val i.val=true→qC h.val j.val=true→2 ^ i.val + 2 ^ j.val ≤ h.val∧h.val - 2 ^ i.val - 2 ^ j.val=h.val ^^^ 2 ^ i.val ^^^ 2 ^ j.val:=by decide +kernel
 exact key ⟨h,hh⟩ ⟨i,hi⟩ ⟨j,hj⟩ ij bi bj
def R3 (H:Hp)(m:Nat)(rs:List (Addr × Edge)):Prop:=∀ x ∈ rs,H x.1=some (.tup [.int (x.2.1:Int),.int (x.2.2.1:Int),.int x.2.2.2])∧EOk m x.2
theorem flat0:∀ n:Nat,(List.replicate n [V.int 0]).flatten=(List.replicate n (0:Int)).map V.int
 | 0=>rfl
 | n + 1=>by rw [Bq,Bv,flat0 n,Bq,AK];rfl
def cG:Sp:=fun vs H Q _=>∃ (r:Addr) (m:Nat) (rs:List (Addr × Edge)),vs=[.int (m:Int),.ref r]∧H r=some (.lst (rs.map fun x=>V.ref x.1))∧R3 H m rs∧1 ≤ m∧m ≤ 5∧∀ (t:Addr) (ns:List Int) (H':Hp),H t=none→ns.length=2 ^ m→PPre (rs.map fun x=>x.2) ns→Same H H'→H' t=some (.tup (ns.map V.int))→Q (.ref t) H'
def PI1 (r b c:Addr)(m:Nat)(es:List Edge)(G:Hp)(i:Nat)(σ:St)(H:Hp):Prop:=∃ (v4 v5 v6 v7 v8:Option V) (ns:List Int),σ=[some (.int (m:Int)),some (.ref r),some (.ref b),some (.ref c),v4,v5,v6,v7,v8]∧ns.length=i∧PPre es ns∧SameX c G H∧H c=some (.lst (ns.map V.int))
def PI2 (r b c:Addr)(m h:Nat)(ns:List Int)(es:List Edge)(G:Hp)(i:Nat)(σ:St)(H:Hp):Prop:=∃ (v6 v7 v8:Option V) (x:Int),σ=[some (.int (m:Int)),some (.ref r),some (.ref b),some (.ref c),some (.int (h:Int)),some (.int x),v6,v7,v8]∧PAt (es.take i) ns h x∧Same G H
theorem vD:FnScope ["_law_many", "_law_rows", "_law_bits_here", "_law_table", "_law_heap", "_law_best", "_law_i", "_law_j", "_law_worth"] ["_law_many", "_law_rows"] (qE s__law_paired):=⟨rfl,rfl,rfl,by decide +kernel,rfl,by decide +kernel,by decide +kernel⟩
theorem aE (F:Fun K "_law_paired" "_law_paired" s__law_paired f fd) (hm:mg "_law_paired" = some (.ref f)) (hb:Binds K fd ["_law_many", "_law_rows"] []) (T:Txt mg) (c__law_costs:Cal P w K mg base "_law_costs" ["_law_prices"] 1 z7) (c__law_bits:Cal P w K mg base "_law_bits" ["_law_many"] 1 mT):Cal P w K mg base "_law_paired" ["_law_many", "_law_rows"] 2 cG:=by
 refine q0 F hm hb vD (fun vs H Q E h=>?_) (fun cdv A outer s H vs Q E hr h=>?_)
 ·obtain ⟨_,_,_,rfl,_⟩:=h;rfl
 ·obtain ⟨r,m,rs,rfl,er,r3,m1,m5,q⟩:=h
  have sc:=vD
  have hp:=kW m5
  refine ⟨_,qK (qY (i:=2) sc.nd rfl (Or.inl rfl) (qJ c__law_bits hr (qA (pv 0) qD)))
   (qK (qY (i:=3) sc.nd rfl (Or.inl rfl) (jC qD))
   (qK (jO AA rfl (kX rfl T.range_ (qA (qR len0 rfl T.len_ kY (qA (qJ c__law_costs hr (qA (qV mulT0 (kQ (qA qH qD)) (pv 0)) qD)) qD)) qD)) (qM (i:=4) sc.nd rfl (Or.inl rfl))
    (qK (qY (i:=5) sc.nd rfl (Or.inl rfl) qH)
   (qK (jO AA rfl (xO (pv 1)) (kU (n:=3) rfl (qU (qM (i:=6) sc.nd rfl (Or.inl rfl)) (qU (qM (i:=7) sc.nd rfl (Or.inl rfl)) (qU (qM (i:=8) sc.nd rfl (Or.inl rfl)) kT))))
    (qI (zD (PW.pt (zX (q5 j0 (qV yO (qV vP (pv 4) (kH yJ (pv 2) (pv 6) (fun _ _=>rfl))) qH) qH (qZ _)) (zQ (q5 j0 (qV yO (qV vP (pv 4) (kH yJ (pv 2) (pv 7) (fun _ _=>rfl))) qH) qH (qZ _))))) (qI (qY (i:=5) sc.nd rfl (Or.inl rfl) (qR (mC rfl) rfl T.max_ d8 (qA (pv 5) (qA (qV kR (kH yJ (pv 3) (qV dY (qV dY (pv 4) (kH yJ (pv 2) (pv 6) (fun _ _=>rfl))) (kH yJ (pv 2) (pv 7) (fun _ _=>rfl))) (fun _ _=>rfl)) (pv 8)) qD))))) jB)))
   (qI (zH (zB (pv 3) (qA (pv 5) qD)))))))
   (qI (qS (kM z6 rfl T.tuple_ kN (qA (pv 3) qD)))))),?_⟩
  rw [show L2.start ["_law_many", "_law_rows", "_law_bits_here", "_law_table", "_law_heap", "_law_best", "_law_i", "_law_j", "_law_worth"] [.int (m:Int),.ref r] = [some (.int (m:Int)),some (.ref r),none,none,none,none,none,none,none] from rfl]
  (push_cast only [])
  refine ⟨m,rfl,m5,fun bl H1 n1 s1 e1=>?_⟩
  (push_cast only [])
  (simp only [qL])
  (push_cast only [])
  refine ⟨by decide,fun c H2 nc s2 e2=>?_⟩
  (simp only [qL])
  (push_cast only [])
  refine ⟨by decide,fun z1 H3 n3 s3 e3=>?_⟩
  refine ⟨m,rfl,_,e3,by show 1 * m ≤ 1000;omega,by omega,fun z2 H4 s4 e4=>?_⟩
  rw [show (List.replicate m [V.int 0]).flatten=(List.replicate m (0:Int)).map V.int from flat0 m] at e4
  refine ⟨z2,List.replicate m 0,rfl,.inl e4,by rw [Cf];exact m5,fun ct H5 n5 s5 e5=>?_⟩
  have hs5:=kL e5
  have S5:Same H H5:=(((s1.trans s2).trans s3).trans s4).trans s5
  have S15:Same H1 H5:=((s2.trans s3).trans s4).trans s5
  have e25:=s5 _ _ (s4 _ _ (s3 _ _ e2))
  have nrc:r ≠ c:=qF (s1 _ _ er) nc
  have nbc:bl ≠ c:=qF e1 nc
  (push_cast only [hs5])
  rw [jI,Cf]
  have er5:=S5 _ _ er
  have eb5:=S15 _ _ e1
  refine ⟨by omega,by omega,yI (PI1 r bl c m (rs.map fun x=>x.2) H5) ⟨_,_,_,_,_,[],rfl,rfl,(fun h hh=>absurd hh (BY _)),SameX.refl,e25⟩ ?_ ?_⟩
  ·rintro h σ H6 hh ⟨v4,v5,v6,v7,v8,ns,rfl,hlen,pp,s6,e6⟩
   rw [Ar] at hh
   have er6:=s6 _ _ nrc er5
   have eb6:=s6 _ _ nbc eb5
   (push_cast only [])
   (simp only [qL])
   (push_cast only [er6])
   refine yZ (PI2 r bl c m h ns (rs.map fun x=>x.2) H6) ⟨_,_,_,0,rfl,⟨AV _,(fun _ z=>by cases z),.inl rfl⟩,Same.refl _⟩ (fun j σ H' _ ⟨_,_,_,_,_,_,s⟩=>s _ _ er6) ?_ ?_
   ·rintro k x σ H7 hx ⟨w6,w7,w8,bst,rfl,pa,s7⟩
    rw [Ag] at hx
    obtain ⟨rr,hrr,rfl⟩:=Aj.mp hx
    obtain ⟨err,ok⟩:=r3 rr (Ap hrr)
    have nrr:rr.1 ≠ c:=fun z=>by
     have e:=S5 _ _ err
     rw [z,e25] at e
     cases e
    have err7:=s7 _ _ (s6 _ _ nrr (S5 _ _ err))
    have hsb7:=kL (s7 _ _ eb6)
    have hsc7:=kL (s7 _ _ e6)
    obtain ⟨k1,k2,k3⟩:=ok
    have at1:dM ((bitsL m).map V.int) (rr.2.1:Int)=some (V.int ((2 ^ rr.2.1:Nat):Int)):=xC (by rw [Ag,bN m5 k1];rfl)
    have at2:dM ((bitsL m).map V.int) (rr.2.2.1:Int)=some (V.int ((2 ^ rr.2.2.1:Nat):Int)):=xC (by rw [Ag,bN m5 k2];rfl)
    have pq1:2 ^ rr.2.1 ≤ 2 ^ 4:=Ay (by decide) (by omega)
    have pq2:2 ^ rr.2.2.1 ≤ 2 ^ 4:=Ay (by decide) (by omega)
    have pr1:=AE rr.2.1
    have pr2:=AE rr.2.2.1
    have tk:(rs.map fun x=>x.2).take (k + 1)=(rs.map fun x=>x.2).take k ++ [rr.2]:=by rw [A6,Ag,hrr];rfl
    have no:¬ (qC h rr.2.1=true∧qC h rr.2.2.1=true)→PAt ((rs.map fun x=>x.2).take (k + 1)) ns h bst:=fun n=>by
     rw [tk]
     refine ⟨pa.1,fun e he b1 b2=>?_,?_⟩
     ·rcases A4.mp he with z | z
      ·exact pa.2.1 e z b1 b2
      ·rw [A5.mp z] at b1 b2
       exact absurd ⟨b1,b2⟩ n
     ·rcases pa.2.2 with z | ⟨e,he,y⟩
      ·exact .inl z
      ·exact .inr ⟨e,Bn _ he,y⟩
    have ib1:=nF (h:=h) (t:=rr.2.1)
    have ib2:=nF (h:=h) (t:=rr.2.2.1)
    (push_cast only [err7])
    refine ⟨_,hsb7,_,at1,_,rfl,⟨by omega,by omega⟩,?_⟩
    cases b1:qC h rr.2.1 with
    | false =>
     rw [b1] at ib1
     rw [Au (of_decide_eq_false ib1)]
     exact ⟨_,_,_,bst,rfl,no (by rw [b1];simp),s7⟩
    | true =>
     rw [b1] at ib1
     rw [As (Bj ib1)]
     refine ⟨_,hsb7,_,at2,_,rfl,⟨by omega,by omega⟩,?_⟩
     cases b2:qC h rr.2.2.1 with
     | false =>
      rw [b2] at ib2
      rw [Au (of_decide_eq_false ib2)]
      exact ⟨_,_,_,bst,rfl,no (by rw [b2];simp),s7⟩
     | true =>
      rw [b2] at ib2
      rw [As (Bj ib2)]
      obtain ⟨t1,t2⟩:=sO (show h < 32 by omega) (show rr.2.1 < 5 by omega) (show rr.2.2.1 < 5 by omega) k3 b1 b2
      have at3:=zF (ns:=ns) (n:=h ^^^ 2 ^ rr.2.1 ^^^ 2 ^ rr.2.2.1) (by omega)
      rw [← t2,show ((h - 2 ^ rr.2.1 - 2 ^ rr.2.2.1:Nat):Int)=(h:Int) - ((2 ^ rr.2.1:Nat):Int) - ((2 ^ rr.2.2.1:Nat):Int) by omega] at at3
      refine ⟨_,hsb7,_,at1,_,rfl,_,hsb7,_,at2,_,rfl,_,hsc7,_,at3,_,rfl,?_⟩
      rw [t2]
      refine ⟨_,_,_,_,rfl,?_,s7⟩
      rw [tk]
      generalize hv:ns.getD (h ^^^ 2 ^ rr.2.1 ^^^ 2 ^ rr.2.2.1) 0 + rr.2.2.2=nv
      refine ⟨?_,fun e he c1 c2=>?_,?_⟩
      ·have:=pa.1
       split <;> omega
      ·rcases A4.mp he with z | z
       ·have:=pa.2.1 e z c1 c2
        split <;> omega
       ·rw [A5.mp z,hv]
        split <;> omega
      ·split
       ·exact .inr ⟨rr.2,A9 _ Aq,b1,b2,hv.symm⟩
       ·rcases pa.2.2 with z | ⟨e,he,y⟩
        ·exact .inl z
        ·exact .inr ⟨e,Bn _ he,y⟩
   ·rintro σ H7 ⟨w6,w7,w8,bst,rfl,pa,s7⟩
    rw [Aa,show rs.length=(rs.map fun x=>x.2).length by rw [Aa],AL] at pa
    have e67:=s7 _ _ e6
    (simp only [qL])
    (push_cast only [e67])
    refine ⟨qP (by omega),⟨_,_,_,_,_,ns ++ [bst],rfl,by simp [hlen],pp.snoc m5 (by omega) (fun e he=>by obtain ⟨x,hx,rfl⟩:=Am.mp he;exact (r3 x hx).2) (by rw [hlen];exact pa),(s6.trans s7.x).trans SameX.upd,by rw [qG,A7];rfl⟩⟩
  ·rintro σ H6 ⟨v4,v5,v6,v7,v8,ns,rfl,hlen,pp,s6,e6⟩
   rw [Ar] at hlen
   (simp only [qL])
   (push_cast only [e6])
   intro l H7 n7 s7 e7
   have S6:Same H H6:=fun b o e=>s6 _ _ (qF (s1 _ _ e) nc) (S5 _ _ e)
   exact q l ns H7 (kZ S6 n7) hlen pp (S6.trans s7) e7
theorem rW {ws:List Int}{r:Int}{Pr:Int→Prop}(h:∀ x ∈ ws,Pr x)(hr:Pr r):∀ x ∈ ws ++ [r],Pr x:=fun x hx=>by
 rcases A4.mp hx with z | z
 ·exact h x z
 ·rw [A5.mp z]
  exact hr
def lD:Sp:=fun vs H Q _=>∃ (p q:Addr) (m:Nat),vs=[.ref p,.int (m:Int)]∧Pot H p q∧m ≤ 5∧∀ (t:Addr) (ss:List Int) (H':Hp),H t=none→ss.length=m→(∀ x ∈ ss,x=0∨x=1)→Pot H' p q→SameY p q H H'→H' t=some (.tup (ss.map V.int))→Q (.ref t) H'
theorem ints4 {r:Int}(r0:0 ≤ r)(r1:r < 4):r=0∨r=1∨r=2∨r=3:=by
 obtain ⟨k,rfl⟩:=AR r0
 match k,Int.ofNat_lt.mp r1 with
 | 0,_=>exact .inl rfl
 | 1,_=>exact .inr (.inl rfl)
 | 2,_=>exact .inr (.inr (.inl rfl))
 | 3,_=>exact .inr (.inr (.inr rfl))
theorem rO {Pd:Int→Prop}{r a b c d:Int}(r0:0 ≤ r)(r1:r < 4)(ha:Pd a)(hb:Pd b)(hc:Pd c)(hd:Pd d):∃ x,dM [V.int a,V.int b,V.int c,V.int d] r=some (V.int x)∧Pd x:=by
 have h4:=ints4 r0 r1
 rcases h4 with rfl | rfl | rfl | rfl
 ·exact ⟨a,rfl,ha⟩
 ·exact ⟨b,rfl,hb⟩
 ·exact ⟨c,rfl,hc⟩
 ·exact ⟨d,rfl,hd⟩
def SDI (p q c:Addr)(way:Int)(G:Hp)(i:Nat)(σ:St)(H:Hp):Prop:=∃ (v:Option V) (ss:List Int),σ=[v,some (.ref p),some (.int way)]∧ss.length=i∧(∀ x ∈ ss,x=0∨x=1)∧Pot H p q∧(∀ b o,b ≠ p→b ≠ q→b ≠ c→G b=some o→H b=some o)∧H c=some (.lst (ss.map V.int))
theorem vW:FnScope ["_law_pot_here", "_law_many", "_law_way"] ["_law_pot_here", "_law_many"] (qE s__law_sides):=⟨rfl,rfl,rfl,by decide +kernel,rfl,by decide +kernel,by decide +kernel⟩
theorem oF (F:Fun K "_law_sides" "_law_sides" s__law_sides f fd) (hm:mg "_law_sides" = some (.ref f)) (hb:Binds K fd ["_law_pot_here", "_law_many"] []) (T:Txt mg) (c__law_draw:Cal P w K mg base "_law_draw" ["_law_pot_here", "_law_many"] 2 wB):Cal P w K mg base "_law_sides" ["_law_pot_here", "_law_many"] 3 lD:=by
 refine q0 F hm hb vW (fun vs H Q E h=>?_) (fun cdv A outer s H vs Q E hr h=>?_)
 ·obtain ⟨_,_,_,rfl,_⟩:=h;rfl
 ·obtain ⟨p,q',m,rfl,pt,m5,q⟩:=h
  have sc:=vW
  refine ⟨_,qK (qY (i:=2) sc.nd rfl (Or.inr rfl) (qJ c__law_draw hr (qA (pv 0) (qA qH qD))))
   (qI (qS (kM z6 rfl T.tuple_ kN (qA (jQ (N:=["_law_thing", "_law_pot_here", "_law_way"]) (fr:=[none,some 0,some 2]) rfl (kX rfl T.range_ (qA (pv 1) qD)) (CScope.of rfl rfl rfl) rfl (fun _ _ _=>⟨qM (i:=0) (show List.Nodup (α:=Str) ["_law_thing", "_law_pot_here", "_law_way"] by decide +kernel) rfl (Or.inl rfl),kP,kH yJ (jC (qA qH (qA qH (qA (qJ c__law_draw hr (qA (pv 1) (qA qH qD))) (qA (qJ c__law_draw hr (qA (pv 1) (qA qH qD))) qD))))) (pv 2) (fun _ _=>rfl)⟩)) qD)))),?_⟩
  rw [show L2.start ["_law_pot_here", "_law_many", "_law_way"] [.ref p,.int (m:Int)] = [some (.ref p),some (.int (m:Int)),none] from rfl]
  (push_cast only [])
  refine ⟨p,q',4,rfl,pt,by decide,by decide,fun way H1 w0 w1 pt1 bt1=>?_⟩
  (push_cast only [])
  (simp only [qL])
  (push_cast only [])
  refine ⟨by omega,by omega,fun c nc=>?_⟩
  have ncp:=pt1.ne nc
  refine zK (SDI p q' c way H1) ⟨none,[],rfl,rfl,(fun _ z=>by cases z),pt1.upd ncp.1 ncp.2,fun b o _ _ n e=>by rw [qQ n];exact e,qG⟩ ?_ ?_
  ·rintro i σ H2 hi ⟨v,ss,rfl,sl,s01,pt2,k2,e2⟩
   rw [Ar] at hi
   (push_cast only [])
   refine ⟨p,q',2,rfl,pt2,by decide,by decide,fun r1 H3 a0 a1 pt3 bt3=>?_⟩
   refine ⟨p,q',2,rfl,pt3,by decide,by decide,fun r2 H4 b0 b1 pt4 bt4=>?_⟩
   refine ⟨by decide,fun L H5 n5 s5 e5=>?_⟩
   obtain ⟨x,hx,hx01⟩:=rO (Pd:=fun x=>x=0∨x=1) w0 w1 (a:=0) (b:=1) (c:=r1) (d:=r2) (.inl rfl) (.inr rfl) (by omega) (by omega)
   have y4:SameY p q' H2 H4:=bt3.y.trans bt4.y
   have e25:=s5 _ _ (y4 _ _ ncp.1.symm ncp.2.symm e2)
   refine ⟨_,kL e5,_,hx,_,e25,qP (by rw [Aa];omega),⟨_,ss ++ [x],rfl,by rw [Ax,sl];rfl,rW s01 hx01,(pt4.same s5).upd ncp.1 ncp.2,fun b o n1 n2 n3 e=>by rw [qQ n3];exact s5 _ _ (y4 _ _ n1 n2 (k2 b o n1 n2 n3 e)),by rw [qG];simp⟩⟩
  ·rintro σ H2 ⟨v,ss,rfl,sl,s01,pt2,k2,e2⟩
   rw [Ar] at sl
   refine ⟨_,e2,fun t H3 nt s3 e3=>?_⟩
   have y2:SameY p q' H H2:=fun b o n1 n2 e=>by
    have e1:=bt1.y b o n1 n2 e
    exact k2 b o n1 n2 (qF e1 nc) e1
   have npt:=pt2.ne nt
   exact q t ss H3 (none_y y2 nt npt.1.symm npt.2.symm) sl s01 (pt2.same s3) (y2.trans (jV s3)) e3
theorem sum01:∀ (ss:List Int),(∀ x ∈ ss,x=0∨x=1)→0 ≤ ss.sum∧ss.sum ≤ (ss.length:Int)∧(ss.sum=0→∀ x ∈ ss,x=0)∧(ss.sum=(ss.length:Int)→∀ x ∈ ss,x=1)
 | [],_=>⟨by simp,by simp,(fun _ _ z=>by cases z),(fun _ _ z=>by cases z)⟩
 | y :: l,h=>by
  obtain ⟨a,b,c,d⟩:=sum01 l fun x hx=>h x (Aw _ hx)
  have hy:=h y Aq
  rw [Bz,Ba,Int.natCast_succ]
  refine ⟨by omega,by omega,fun e x hx=>?_,fun e x hx=>?_⟩
  ·rcases A2.mp hx with rfl | z
   ·omega
   ·exact c (by omega) x z
  ·rcases A2.mp hx with rfl | z
   ·omega
   ·exact d (by omega) x z
def Bd (m:Nat)(B:Int)(ns:List Int):Prop:=ns.getD 0 0=0∧∀ h,h < 2 ^ m→0 ≤ ns.getD h 0∧ns.getD h 0 ≤ B
def kB (most:Int)(m:Nat):Int:=(if m ≤ 3 then 2 else 4) * most
theorem Bd.le {m:Nat}{B B':Int}{ns:List Int}(b:Bd m B ns)(h:B ≤ B'):Bd m B' ns:=⟨b.1,fun k hk=>by have:=b.2 k hk;omega⟩
theorem add_bd {us:List Int}{c:Int}(c0:0 ≤ c)(hu:∀ t,0 ≤ us.getD t 0∧us.getD t 0 ≤ c)(h:Nat):∀ n,0 ≤ kJ us h n∧kJ us h n ≤ (n:Int) * c
 | 0=>by show (0:Int) ≤ 0∧(0:Int) ≤ _;simp
 | n + 1=>by
  have ih:=add_bd c0 hu h n
  have:=hu n
  have e:((n + 1:Nat):Int) * c=(n:Int) * c + c:=by push_cast;rw [Int.add_mul,Co]
  rw [e]
  show 0 ≤ kJ us h n + _∧kJ us h n + _ ≤ _
  split <;> omega
theorem add_no (us:List Int):∀ n,kJ us 0 n=0
 | 0=>rfl
 | n + 1=>by
  show kJ us 0 n + (if qC 0 n=true then us.getD n 0 else 0)=0
  rw [add_no us n,Au (by unfold qC;simp)]
  rfl
theorem rB {c:Int}(c0:0 ≤ c):∀ (l:List Int) (k:Nat),(∀ x ∈ l,0 ≤ x∧x ≤ c)→0 ≤ kA k l∧kA k l ≤ (k:Int) * c
 | [],k,_=>by
  have e:kA k [] = 0:=by cases k <;> rfl
  rw [e]
  exact ⟨AV _,Cd (by omega) c0⟩
 | y :: l,0,_=>by show (0:Int) ≤ 0∧(0:Int) ≤ _;simp
 | y :: l,k + 1,h=>by
  have a:=rB c0 l (k + 1) fun x hx=>h x (Aw _ hx)
  have b:=rB c0 l k fun x hx=>h x (Aw _ hx)
  have z:=h y Aq
  have e:((k + 1:Nat):Int) * c=(k:Int) * c + c:=by push_cast;rw [Int.add_mul,Co]
  show 0 ≤ max (kA (k + 1) l) (y + kA k l)∧max (kA (k + 1) l) (y + kA k l) ≤ _
  omega
def tK (h:Nat):Nat:=(h % 2 + h / 2 % 2 + h / 4 % 2 + h / 8 % 2 + h / 16 % 2) / 2
theorem pc_off {h i j:Nat}(hh:h < 32)(hi:i < 5)(hj:j < 5)(ij:i ≠ j)(bi:qC h i=true)(bj:qC h j=true):tK (h ^^^ 2 ^ i ^^^ 2 ^ j) + 1=tK h:=by
 have key:∀ (h:_root_.Fin 32) (i j:_root_.Fin 5),i.val ≠ j.val→qC h.val i.val=true→qC h.val j.val=true→tK (h.val ^^^ 2 ^ i.val ^^^ 2 ^ j.val) + 1=tK h.val:=by decide +kernel
 exact key ⟨h,hh⟩ ⟨i,hi⟩ ⟨j,hj⟩ ij bi bj
theorem pc_le {m h:Nat}(m5:m ≤ 5)(hh:h < 2 ^ m):tK h ≤ if m ≤ 3 then 1 else 2:=by
 have key:∀ (m:_root_.Fin 6) (h:_root_.Fin 32),h.val < 2 ^ m.val→tK h.val ≤ if m.val ≤ 3 then 1 else 2:=by decide +kernel
 have:=kW m5
 exact key ⟨m,by omega⟩ ⟨h,by omega⟩ hh
theorem pair_bd {es:List Edge}{m:Nat}{ns:List Int}{c:Int}(c0:0 ≤ c)(m5:m ≤ 5)(hl:ns.length=2 ^ m)(P:PPre es ns)(ok:∀ e ∈ es,EOk m e∧e.2.2 ≤ c):∀ n h,h ≤ n→h < 2 ^ m→0 ≤ ns.getD h 0∧ns.getD h 0 ≤ (tK h:Int) * c:=by
 have p32:=kW m5
 intro n
 induction n with
 | zero =>
  intro h hn hh
  obtain ⟨p1,p2,p3⟩:=P h (by omega)
  have h0:h=0:=by omega
  subst h0
  rcases p3 with z | ⟨e,_,b,_⟩
  ·rw [z]
   show (0:Int) ≤ 0∧(0:Int) ≤ ((tK 0:Nat):Int) * c
   have:tK 0=0:=by decide
   rw [this]
   simp
  ·unfold qC at b
   simp at b
 | succ n ih =>
  intro h hn hh
  obtain ⟨p1,p2,p3⟩:=P h (by omega)
  refine ⟨p1,?_⟩
  rcases p3 with z | ⟨e,he,b1,b2,x⟩
  ·rw [z]
   exact Cd (by omega) c0
  ·obtain ⟨⟨o1,o2,o3⟩,o4⟩:=ok e he
   have po:=pc_off (show h < 32 by omega) (show e.1 < 5 by omega) (show e.2.1 < 5 by omega) o3 b1 b2
   have tw:=sO (show h < 32 by omega) (show e.1 < 5 by omega) (show e.2.1 < 5 by omega) o3 b1 b2
   have pp:=AE e.1
   have pp2:=AE e.2.1
   have:=ih (h ^^^ 2 ^ e.1 ^^^ 2 ^ e.2.1) (by omega) (by omega)
   rw [x,← po]
   push_cast
   rw [Int.add_mul,Co]
   omega
theorem join_bd {m:Nat}{f g ns:List Int}{a b:Int}(m5:m ≤ 5)(fb:Bd m a f)(gb:Bd m b g)(J:JoinTab m f g ns):Bd m (a + b) ns:=by
 refine ⟨?_,fun h hh=>?_⟩
 ·obtain ⟨x,x1,_,x3⟩:=J.att 0 (AE m)
  have:x=0:=by omega
  subst this
  rw [x3,fb.1]
  show (0:Int) + g.getD 0 0=0
  rw [gb.1]
  rfl
 ·obtain ⟨x,x1,_,x3⟩:=J.att h hh
  have p:=fb.2 x (by omega)
  have q:=gb.2 (h - x) (by omega)
  omega
def lF:Sp:=fun vs H Q _=>∃ (p q sa:Addr) (ss:List Int) (most:Int),vs=[.ref p,.ref sa,.int most]∧Pot H p q∧H sa=some (.tup (ss.map V.int))∧1 ≤ ss.length∧ss.length ≤ 5∧(∀ x ∈ ss,x=0∨x=1)∧1 ≤ most∧most ≤ 9∧∀ (t:Addr) (ns:List Int) (H':Hp),ns.length=2 ^ ss.length→fV (fun h=>ns.getD h 0) ss.length (d6 ss 1 ss.length)→Bd ss.length ((ss.length:Int) * most + kB most ss.length) ns→Pot H' p q→SameY p q H H'→H' t=some (.tup (ns.map V.int))→Q (.ref t) H'
def KD (p q c:Addr)(most:Int)(G:Hp)(i:Nat)(σ:St)(H:Hp):Prop:=∃ (v:Option V) (ws:List Int),σ=[v,some (.ref p),some (.int most)]∧ws.length=i∧(∀ x ∈ ws,0 ≤ x∧x ≤ most)∧Pot H p q∧(∀ b o,b ≠ p→b ≠ q→b ≠ c→G b=some o→H b=some o)∧H c=some (.lst (ws.map V.int))
structure KR (most:Int)(p q r:Addr)(ss:List Int)(n:Nat)(G:Hp)(rs:List (Addr × Edge))(H:Hp):Prop where
 len:rs.length ≤ n
 row:R3 H ss.length rs
 sd:∀ x ∈ rs,ss.getD x.2.1 0=0∧ss.getD x.2.2.1 0=1
 wb:∀ x ∈ rs,x.2.2.2 ≤ 2 * most
 pot:Pot H p q
 kp:∀ b o,b ≠ p→b ≠ q→b ≠ r→G b=some o→H b=some o
 at':H r=some (.lst (rs.map fun x=>V.ref x.1))
theorem KR.y {most:Int}{p q r:Addr}{ss:List Int}{n:Nat}{G H H':Hp}{rs:List (Addr × Edge)}(k:KR most p q r ss n G rs H)(n1:r ≠ p)(n2:r ≠ q)(s:SameY p q H H')(pt:Pot H' p q):KR most p q r ss n G rs H' :=
 ⟨k.len,fun x hx=>⟨s _ _ (k.pot.net (k.row x hx).1).1 (k.pot.net (k.row x hx).1).2 (k.row x hx).1,(k.row x hx).2⟩,k.sd,k.wb,pt,fun b o a1 a2 a3 e=>s _ _ a1 a2 (k.kp b o a1 a2 a3 e),s _ _ n1 n2 k.at'⟩
theorem KR.le {most:Int}{p q r:Addr}{ss:List Int}{n n':Nat}{G H:Hp}{rs:List (Addr × Edge)}(k:KR most p q r ss n G rs H)(h:n ≤ n'):KR most p q r ss n' G rs H:=⟨AB k.len h,k.row,k.sd,k.wb,k.pot,k.kp,k.at'⟩
theorem KR.more {most:Int}{p q r y:Addr}{ss:List Int}{n:Nat}{G H:Hp}{rs:List (Addr × Edge)}{e:Edge}(k:KR most p q r ss n G rs H)(n1:p ≠ r)(n2:q ≠ r)(ey:H y=some (.tup [.int (e.1:Int),.int (e.2.1:Int),.int e.2.2]))(ok:EOk ss.length e)(sd:ss.getD e.1 0=0∧ss.getD e.2.1 0=1)(wb:e.2.2 ≤ 2 * most):KR most p q r ss (n + 1) G (rs ++ [(y,e)]) (upd H r (.lst ((rs.map fun x=>V.ref x.1) ++ [V.ref y]))):=by
 have nr:∀ {x:Addr} {L:List V},H x=some (.tup L)→x ≠ r:=fun h z=>by rw [z,k.at'] at h;cases h
 refine ⟨by have:=k.len;rw [Ax,Bc];omega,fun x hx=>?_,fun x hx=>?_,fun x hx=>?_,k.pot.upd n1 n2,fun b o a1 a2 a3 e=>by rw [qQ a3];exact k.kp b o a1 a2 a3 e,by rw [qG,A7];rfl⟩
 ·rcases A4.mp hx with z | z
  ·have h:=k.row x z
   exact ⟨by rw [qQ (nr h.1)];exact h.1,h.2⟩
  ·rw [A5.mp z]
   exact ⟨by rw [qQ (nr ey)];exact ey,ok⟩
 ·rcases A4.mp hx with z | z
  ·exact k.sd x z
  ·rw [A5.mp z]
   exact sd
 ·rcases A4.mp hx with z | z
  ·exact k.wb x z
  ·rw [A5.mp z]
   exact wb
def KE1 (p q sa c r:Addr)(ss:List Int)(most:Int)(G:Hp)(i:Nat)(σ:St)(H:Hp):Prop:=∃ (v5 v6 v7 v8 v9 v10:Option V) (rs:List (Addr × Edge)),σ=[some (.ref p),some (.ref sa),some (.int most),some (.ref c),some (.ref r),v5,v6,v7,v8,v9,v10]∧KR most p q r ss (5 * i) G rs H
def KE2 (p q sa c r:Addr)(ss:List Int)(most:Int)(a:Nat)(G:Hp)(j:Nat)(σ:St)(H:Hp):Prop:=∃ (v7 v8 v9 v10:Option V) (rs:List (Addr × Edge)),σ=[some (.ref p),some (.ref sa),some (.int most),some (.ref c),some (.ref r),some (.int (a:Int)),some (.int (ss.getD a 0)),v7,v8,v9,v10]∧KR most p q r ss (5 * a + j) G rs H
theorem zO:FnScope ["_law_pot_here", "_law_sides_here", "_law_most", "_law_worths", "_law_rows", "_law_i", "_law_side", "_law_j", "_law_other", "_law_single", "_law_second"] ["_law_pot_here", "_law_sides_here", "_law_most"] (qE s__law_kind_want):=⟨rfl,rfl,rfl,by decide +kernel,rfl,by decide +kernel,by decide +kernel⟩
theorem oH (F:Fun K "_law_kind_want" "_law_kind_want" s__law_kind_want f fd) (hm:mg "_law_kind_want" = some (.ref f)) (hb:Binds K fd ["_law_pot_here", "_law_sides_here", "_law_most"] []) (T:Txt mg) (c__law_draw:Cal P w K mg base "_law_draw" ["_law_pot_here", "_law_many"] 2 wB) (c__law_costs:Cal P w K mg base "_law_costs" ["_law_prices"] 1 z7) (c__law_paired:Cal P w K mg base "_law_paired" ["_law_many", "_law_rows"] 2 cG) (c__law_some:Cal P w K mg base "_law_some" ["_law_worths", "_law_many"] 2 sY) (c__law_joined:Cal P w K mg base "_law_joined" ["_law_one", "_law_other"] 1 fE):Cal P w K mg base "_law_kind_want" ["_law_pot_here", "_law_sides_here", "_law_most"] 3 lF:=by
 refine q0 F hm hb zO (fun vs H Q E h=>?_) (fun cdv A outer s H vs Q E hr h=>?_)
 ·obtain ⟨_,_,_,_,_,rfl,_⟩:=h;rfl
 ·obtain ⟨p,q',sa,ss,most,rfl,pt,esa,m1,m5,s01,mo1,mo9,q⟩:=h
  have sc:=zO
  have hp:=kW m5
  refine ⟨_,qK (lL (i:=3) sc.nd rfl (Or.inl rfl) (N:=["_law_side", "_law_pot_here", "_law_most"]) (fr:=[none,some 0,some 2]) rfl (vF (pv 1)) (CScope.of rfl rfl rfl) rfl (fun _ _ _=>⟨qM (i:=0) (show List.Nodup (α:=Str) ["_law_side", "_law_pot_here", "_law_most"] by decide +kernel) rfl (Or.inl rfl),kP,qJ c__law_draw hr (qA (pv 1) (qA (qV kR (pv 2) qH) qD))⟩))
   (qK (qY (i:=4) sc.nd rfl (Or.inl rfl) (jC qD))
   (qK (jO AA rfl (g7 rfl T.enumerate_ (qA (pv 1) qD)) (kU (n:=2) rfl (qU (qM (i:=5) sc.nd rfl (Or.inl rfl)) (qU (qM (i:=6) sc.nd rfl (Or.inl rfl)) kT)))
    (qI (jO AA rfl (g7 rfl T.enumerate_ (qA (pv 1) qD)) (kU (n:=2) rfl (qU (qM (i:=7) sc.nd rfl (Or.inl rfl)) (qU (qM (i:=8) sc.nd rfl (Or.inl rfl)) kT)))
    (qI (zD (PW.pt (zX (q5 j0 (pv 6) qH (qZ _)) (zX (q5 j0 (pv 8) qH (qZ _)) (zQ (q5 lO (qJ c__law_draw hr (qA (pv 0) (qA qH qD))) qH (qZ _)))))) (qI (zH (zB (pv 4) (qA (kQ (qA (pv 5) (qA (pv 7) (qA (qV kR qH (qJ c__law_draw hr (qA (pv 0) (qA (qV gG qH (pv 2)) qD)))) qD)))) qD)))) jB)))))
   (qK (qY (i:=9) sc.nd rfl (Or.inl rfl) (kM z6 rfl T.tuple_ kN (qA (qJ c__law_costs hr (qA (jQ (N:=["_law_side", "_law_pot_here", "_law_most"]) (fr:=[none,some 0,some 2]) rfl (vF (pv 1)) (CScope.of rfl rfl rfl) rfl (fun _ _ _=>⟨qM (i:=0) (show List.Nodup (α:=Str) ["_law_side", "_law_pot_here", "_law_most"] by decide +kernel) rfl (Or.inl rfl),kP,qJ c__law_draw hr (qA (pv 1) (qA (qV kR (pv 2) qH) qD))⟩)) qD)) qD)))
   (qK (qY (i:=10) sc.nd rfl (Or.inl rfl) (qJ c__law_paired hr (qA (qR len0 rfl T.len_ kY (qA (pv 1) qD)) (qA (pv 4) qD))))
   (qK (zD (PW.pt (zX (q5 (eqNil0 hr.units0) (pv 4) (jC qD) (qZ _)) (zQ (q5 in0 (qR (iD rfl) rfl T.sum_ bM (qA (pv 1) qD)) (kQ (qA qH (qA (qR len0 rfl T.len_ kY (qA (pv 1) qD)) qD))) rfl)))) (qI (qY (i:=10) sc.nd rfl (Or.inl rfl) (qJ c__law_some hr (qA (pv 3) (qA (qV kR qH (qJ c__law_draw hr (qA (pv 0) (qA qH qD)))) qD))))) jB)
   (qI (qS (kH yJ (jC (qA (pv 9) (qA (pv 10) (qA (pv 10) (qA (qJ c__law_joined hr (qA (pv 9) (qA (pv 10) qD))) qD))))) (qJ c__law_draw hr (qA (pv 0) (qA qH qD))) (fun _ _=>rfl))))))))),?_⟩
  rw [show L2.start ["_law_pot_here", "_law_sides_here", "_law_most", "_law_worths", "_law_rows", "_law_i", "_law_side", "_law_j", "_law_other", "_law_single", "_law_second"] [.ref p,.ref sa,.int most] = [some (.ref p),some (.ref sa),some (.int most),none,none,none,none,none,none,none,none] from rfl]
  have nsp:=pt.net esa
  (push_cast only [esa])
  intro c nc
  have ncp:=pt.ne nc
  have nsc:sa ≠ c:=qF esa nc
  refine jY (KD p q' c most H) ⟨none,[],rfl,rfl,(fun _ z=>by cases z),pt.upd ncp.1 ncp.2,fun b o _ _ n e=>by rw [qQ n];exact e,qG⟩ (fun j σ H' _ ⟨_,_,_,_,_,_,k,_⟩=>k _ _ nsp.1 nsp.2 nsc esa) ?_ ?_
  ·rintro i x σ H2 hx ⟨v,ws,rfl,wl,wb,pt2,k2,e2⟩
   have hi:i < ss.length:=by have:=(Af.mp hx).1;rwa [Aa] at this
   (push_cast only [])
   refine ⟨p,q',most + 1,rfl,pt2,by omega,by omega,fun r H3 r0 r1 pt3 bt3=>?_⟩
   have e3:=bt3.y _ _ ncp.1.symm ncp.2.symm e2
   (push_cast only [e3])
   exact ⟨qP (by omega),⟨_,ws ++ [r],rfl,by simp [wl],rW wb ⟨r0,by omega⟩,pt3.upd ncp.1 ncp.2,fun b o n1 n2 n3 e=>by rw [qQ n3];exact bt3.y _ _ n1 n2 (k2 b o n1 n2 n3 e),by rw [qG];simp⟩⟩
  ·rintro σ H2 ⟨v,ws,rfl,wl,wb,pt2,k2,e2⟩
   rw [Aa] at wl
   have y2:SameY p q' H H2:=fun b o n1 n2 e=>k2 b o n1 n2 (qF e nc) e
   have esa2:=y2 _ _ nsp.1 nsp.2 esa
   (simp only [qL])
   (push_cast only [])
   refine ⟨by decide,fun rw0 H3 n3 s3 e3=>?_⟩
   (simp only [qL])
   (push_cast only [])
   have nrp:=pt2.ne n3
   have esa3:=s3 _ _ esa2
   have pt3:=pt2.same s3
   have nsr:sa ≠ rw0:=qF esa2 n3
   have nsp3:=pt3.net esa3
   have gat:∀ {k:Nat} {v:V},(ss.map V.int)[k]? = some v→k < ss.length∧v=V.int (ss.getD k 0):=fun {k v} h=>by
    have hk:=(Af.mp h).1
    rw [Aa] at hk
    refine ⟨hk,?_⟩
    rw [Ag,Ae hk] at h
    rw [Ab,Ae hk]
    exact (A8 h).symm
   refine ⟨_,_,.inr ⟨rfl,esa3⟩,nK (KE1 p q' sa c rw0 ss most H3) ⟨_,_,_,_,_,_,[],rfl,⟨Bb _,(fun _ z=>by cases z),(fun _ z=>by cases z),(fun _ z=>by cases z),pt3,fun b o _ _ _ e=>e,e3⟩⟩ (fun i σ H' ⟨_,_,_,_,_,_,_,_,k⟩=>.inr ⟨rfl,k.kp _ _ nsp3.1 nsp3.2 nsr esa3⟩) ?_ ?_⟩
   ·rintro i v T' σ H4 H5 hv ⟨v5,v6,v7,v8,v9,v10,rs,rfl,k4⟩ nT s5 e5
    obtain ⟨hi,rfl⟩:=gat hv
    have k5:=k4.y nrp.1.symm nrp.2.symm (jV s5) (k4.pot.same s5)
    have esa5:=k5.kp _ _ nsp3.1 nsp3.2 nsr esa3
    (push_cast only [e5])
    refine ⟨_,_,.inr ⟨rfl,esa5⟩,nK (KE2 p q' sa c rw0 ss most i H3) ⟨_,_,_,_,rs,rfl,k5.le (by omega)⟩ (fun j σ H' ⟨_,_,_,_,_,_,k⟩=>.inr ⟨rfl,k.kp _ _ nsp3.1 nsp3.2 nsr esa3⟩) ?_ ?_⟩
    ·rintro j v2 T2 σ H6 H7 hv2 ⟨w7,w8,w9,w10,rs2,rfl,k6⟩ nT2 s7 e7
     obtain ⟨hj,rfl⟩:=gat hv2
     have k7:=k6.y nrp.1.symm nrp.2.symm (jV s7) (k6.pot.same s7)
     have stay:∀ {H':Hp},KR most p q' rw0 ss (5 * i + j) H3 rs2 H'→KE2 p q' sa c rw0 ss most i H3 (j + 1) [some (.ref p),some (.ref sa),some (.int most),some (.ref c),some (.ref rw0),some (.int (i:Int)),some (.int (ss.getD i 0)),some (.int (j:Int)),some (.int (ss.getD j 0)),w9,w10] H':=fun k=>⟨_,_,_,_,rs2,rfl,k.le (by omega)⟩
     (push_cast only [e7])
     split
     ·rename_i c1
      split
      ·rename_i c2
       refine ⟨p,q',3,rfl,k7.pot,by decide,by decide,fun r8 H8 a8 b8 pt8 bt8=>?_⟩
       have k8:=k7.y nrp.1.symm nrp.2.symm bt8.y pt8
       refine ⟨r8,rfl,?_⟩
       split
       ·have er8:=k8.at'
        have kl:=k8.len
        (push_cast only [er8])
        refine ⟨.inl ⟨by omega,by omega⟩,p,q',2 * most,rfl,k8.pot,by omega,by omega,fun r9 H9 a9 b9 pt9 bt9=>⟨_,rfl,by decide,fun y H10 n10 s10 e10=>?_⟩⟩
        have k10:=(k8.y nrp.1.symm nrp.2.symm bt9.y pt9).y nrp.1.symm nrp.2.symm (jV s10) (pt9.same s10)
        have g1:ss.getD i 0=0:=by simpa using c1
        have g2:ss.getD j 0=1:=by simpa using c2
        exact ⟨_,k10.at',qP (by rw [Aa];omega),⟨_,_,_,_,rs2 ++ [(y,(i,j,1 + r9))],rfl,k10.more nrp.1 nrp.2 e10 ⟨hi,hj,fun z=>by rw [show i=j from z,g2] at g1;cases g1⟩ ⟨g1,g2⟩ (by show 1 + r9 ≤ 2 * most;omega)⟩⟩
       ·exact stay k8
      ·exact stay k7
     ·exact stay k7
    ·rintro σ H6 ⟨w7,w8,w9,w10,rs2,rfl,k6⟩
     rw [Aa] at k6
     exact ⟨_,_,_,_,_,_,rs2,rfl,k6.le (by omega)⟩
   ·rintro σ H4 ⟨v5,v6,v7,v8,v9,v10,rs,rfl,k4⟩
    rw [Aa] at k4
    have esa4:=k4.kp _ _ nsp3.1 nsp3.2 nsr esa3
    (simp only [qL])
    (push_cast only [esa4])
    intro d nd
    have ndp:=k4.pot.ne nd
    have nsd:sa ≠ d:=qF esa4 nd
    have nsp4:=k4.pot.net esa4
    have nrd:rw0 ≠ d:=qF k4.at' nd
    refine jY (KD p q' d most H4) ⟨none,[],rfl,rfl,(fun _ z=>by cases z),k4.pot.upd ndp.1 ndp.2,fun b o _ _ n e=>by rw [qQ n];exact e,qG⟩ (fun j σ H' _ ⟨_,_,_,_,_,_,k,_⟩=>k _ _ nsp4.1 nsp4.2 nsd esa4) ?_ ?_
    ·rintro i x σ H5 hx ⟨v,us,rfl,ul,ub,pt5,k5,e5⟩
     have hi:i < ss.length:=by have:=(Af.mp hx).1;rwa [Aa] at this
     (push_cast only [])
     refine ⟨p,q',most + 1,rfl,pt5,by omega,by omega,fun r H6 r0 r1 pt6 bt6=>?_⟩
     have e6:=bt6.y _ _ ndp.1.symm ndp.2.symm e5
     (push_cast only [e6])
     exact ⟨qP (by omega),⟨_,us ++ [r],rfl,by simp [ul],rW ub ⟨r0,by omega⟩,pt6.upd ndp.1 ndp.2,fun b o n1 n2 n3 e=>by rw [qQ n3];exact bt6.y _ _ n1 n2 (k5 b o n1 n2 n3 e),by rw [qG];simp⟩⟩
    ·rintro σ H5 ⟨v,us,rfl,ul,ub,pt5,k5,e5⟩
     rw [Aa] at ul
     have y5:SameY p q' H4 H5:=fun b o n1 n2 e=>k5 b o n1 n2 (qF e nd) e
     refine ⟨d,us,rfl,.inr e5,by omega,fun ct H6 n6 s6 e6=>⟨_,rfl,_,e6,fun sg H7 n7 s7 e7=>?_⟩⟩
     have y7:SameY p q' H4 H7:=(y5.trans (jV s6)).trans (jV s7)
     have pt7:=(pt5.same s6).same s7
     have k7:=k4.y nrp.1.symm nrp.2.symm y7 pt7
     have esa7:=y7 _ _ nsp4.1 nsp4.2 esa4
     have hss7:=q8 esa7
     (simp only [qL])
     (push_cast only [hss7])
     refine ⟨rw0,ss.length,rs,rfl,k7.at',k7.row,m1,m5,fun se ps H8 n8 pl8 pp8 s8 e8=>?_⟩
     have k8:=k7.y nrp.1.symm nrp.2.symm (jV s8) (pt7.same s8)
     have esa8:=s8 _ _ esa7
     have esg8:=s8 _ _ e7
     have hss8:=q8 esa8
     have er8:=k8.at'
     have ncr:c ≠ rw0:=qF e2 n3
     have ec8:H8 c=some (.lst (ws.map V.int)):=s8 _ _ (y7 _ _ ncp.1.symm ncp.2.symm (k4.kp _ _ ncp.1.symm ncp.2.symm ncr (s3 _ _ e2)))
     (simp only [qL])
     (push_cast only [er8,hss8])
     have y08:SameY p q' H H8:=fun b o n1 n2 e=>s8 _ _ (y7 _ _ n1 n2 (k4.kp b o n1 n2 (qF (y2 b o n1 n2 e) n3) (s3 _ _ (y2 b o n1 n2 e))))
     have hF:=nH ss 1 ss.length
     have hbit:=fun t (ht:t < ss.length)=>bE ss ss.length m5 t (by omega)
     have gl:(q9 us).length=2 ^ ss.length:=by rw [jI,ul]
     have u1:∀ t,0 ≤ us.getD t 0∧us.getD t 0 ≤ most:=fun t=>by
      rw [Ab]
      cases e:us[t]? with
      | none=>exact ⟨AV _,show (0:Int) ≤ most by omega⟩
      | some x=>exact ub x (Ap e)
     have u0:=fun t=>(u1 t).1
     have cad:∀ h,h < 2 ^ ss.length→(q9 us).getD h 0=kJ us h ss.length:=fun h hh=>by
      rw [Ab,gK ss.length us ul m5 h hh]
      exact sF (by omega) _ m5
     have extA:∀ ns,(ns=q9 us∨ns=ps∨JoinTab ss.length (q9 us) ps ns)→fV (fun h=>ns.getD h 0) ss.length (d6 ss 1 ss.length):=fun ns hn=>by
      have oneS:One 10 (d6 ss 1 ss.length) ss.length (q9 us):=lP m5 (.inl rfl) u0 cad
      have oneP:One 30 (d6 ss 1 ss.length) ss.length ps:=by
       refine oD (es:=rs.map fun x=>x.2) m5 ⟨fun e he=>?_,fun h hh=>(pp8 h (by omega)).1,fun h hh e he b1 b2=>(pp8 h (by omega)).2.1 e he b1 b2,fun h hh=>(pp8 h (by omega)).2.2⟩
       obtain ⟨x,hx,rfl⟩:=Am.mp he
       obtain ⟨g1,g2⟩:=k8.sd x hx
       obtain ⟨o1,o2,_⟩:=(k8.row x hx).2
       rw [hbit _ o1,hbit _ o2,g1,g2,A0 o1,A0 o2]
       exact ⟨o1,o2,rfl,rfl⟩
      rcases hn with rfl | rfl | jt
      ·exact oneS.ext m5 hF
      ·exact oneP.ext m5 hF
      ·exact pC m5 hF oneS oneP jt
     have hm0:(0:Int) ≤ (ss.length:Int) * most:=Cd (by omega) (by omega)
     have hk0:0 ≤ kB most ss.length∧2 * most ≤ kB most ss.length:=by unfold kB;split <;> omega
     have bS:Bd ss.length ((ss.length:Int) * most) (q9 us):=⟨by rw [cad 0 (AE _)];exact add_no us _,fun h hh=>by rw [cad h hh];exact add_bd (by omega) u1 h _⟩
     have mix:∀ qs,Bd ss.length (kB most ss.length) qs→∀ ns,(ns=q9 us∨ns=qs∨JoinTab ss.length (q9 us) qs ns)→Bd ss.length ((ss.length:Int) * most + kB most ss.length) ns:=fun qs bq ns hn=>by
      rcases hn with rfl | rfl | jt
      ·exact bS.le (by omega)
      ·exact bq.le (by omega)
      ·exact join_bd m5 bS bq jt
     have pB:Bd ss.length (kB most ss.length) ps:=by
      have pb:=pair_bd (c:=2 * most) (by omega) m5 pl8 pp8 (fun e he=>by
       obtain ⟨x,hx,rfl⟩:=Am.mp he
       exact ⟨(k8.row x hx).2,k8.wb x hx⟩)
      refine ⟨?_,fun h hh=>?_⟩
      ·have:=pb 0 0 (Ad _) (AE _)
       rw [show tK 0=0 by decide] at this
       omega
      ·have:=pb h h (Ad _) hh
       have q:=pc_le m5 hh
       have e:(tK h:Int) * (2 * most) ≤ kB most ss.length:=by
        unfold kB
        have z:tK h=0∨tK h=1∨tK h=2:=by revert q;split <;> omega
        rcases z with z | z | z <;> rw [z] at q ⊢ <;> revert q <;> split <;> omega
       omega
     refine ⟨by decide,fun el H9 n9 s9 e9=>⟨_,s9 _ _ er8,e9,?_⟩⟩
     generalize hct:(CtS.mk _)=ct
     have tail:∀ (se:Addr) (ps:List Int) (H9:Hp),ps.length=2 ^ ss.length→(∀ ns,(ns=q9 us∨ns=ps∨JoinTab ss.length (q9 us) ps ns)→fV (fun h=>ns.getD h 0) ss.length (d6 ss 1 ss.length))→(∀ ns,(ns=q9 us∨ns=ps∨JoinTab ss.length (q9 us) ps ns)→Bd ss.length ((ss.length:Int) * most + kB most ss.length) ns)→Pot H9 p q'→SameY p q' H H9→H9 sg=some (.tup ((q9 us).map V.int))→H9 se=some (.tup (ps.map V.int))→@fA ct [some (.ref p),some (.ref sa),some (.int most),some (.ref c),some (.ref rw0),v5,v6,v7,v8,some (.ref sg),some (.ref se)] H9:=by
      intro se ps H9 ql9 ext9 bnd9 pt9 y9 eg9 ex9
      subst hct
      (simp only [qL])
      (push_cast only [])
      refine ⟨sg,se,q9 us,ps,ss.length,rfl,eg9,ex9,gl,ql9,m5,fun jn js H10 jl jt s10 e10=>?_⟩
      refine ⟨by decide,fun L H11 n11 s11 e11=>?_⟩
      have pt10:=pt9.same s10
      have nL:=pt10.ne n11
      have pt11:=pt10.same s11
      refine ⟨p,q',4,rfl,pt11,by decide,by decide,fun r H12 r0 r1 pt12 bt12=>?_⟩
      have hs12:=kL (bt12.y _ _ nL.1.symm nL.2.symm e11)
      have y12:SameY p q' H H12:=(y9.trans (jV (s10.trans s11))).trans bt12.y
      have up:∀ {x:Addr} {l:List V},H9 x=some (.tup l)→H12 x=some (.tup l):=fun {x l} e=>by
       have e':=s11 _ _ (s10 _ _ e)
       exact bt12.y _ _ (pt11.net e').1 (pt11.net e').2 e'
      have upj:H12 jn=some (.tup (js.map V.int)):=by
       have e':=s11 _ _ e10
       exact bt12.y _ _ (pt11.net e').1 (pt11.net e').2 e'
      rcases ints4 (r:=r) (by assumption) (by assumption) with rfl | rfl | rfl | rfl
      ·exact ⟨_,_,rfl,hs12,_,rfl,q sg _ H12 gl (ext9 _ (.inl rfl)) (bnd9 _ (.inl rfl)) pt12 y12 (up eg9)⟩
      ·exact ⟨_,_,rfl,hs12,_,rfl,q se _ H12 ql9 (ext9 _ (.inr (.inl rfl))) (bnd9 _ (.inr (.inl rfl))) pt12 y12 (up ex9)⟩
      ·exact ⟨_,_,rfl,hs12,_,rfl,q se _ H12 ql9 (ext9 _ (.inr (.inl rfl))) (bnd9 _ (.inr (.inl rfl))) pt12 y12 (up ex9)⟩
      ·exact ⟨_,_,rfl,hs12,_,rfl,q jn _ H12 jl (ext9 _ (.inr (.inr jt))) (bnd9 _ (.inr (.inr jt))) pt12 y12 upj⟩
     by_cases emp:(List.map (fun x=>V.ref x.1) rs).isEmpty=true
     ·rw [As emp]
      have hss9:=q8 (s9 _ _ esa8)
      refine ⟨ss,hss9,gD (fun x hx=>by have:=s01 x hx;omega) (by omega),_,hss9,by decide,fun tz H10 n10 s10 e10=>⟨_,q8 e10,rfl,rfl,?_⟩⟩
      have s910:=s9.trans s10
      by_cases inn:inV (V.int ss.sum) [V.int 0,V.int ((ss.map V.int).length:Int)] = true
      ·rw [As inn]
       obtain ⟨z1,z2,z3,z4⟩:=sum01 ss s01
       have uni:ss.sum=0∨ss.sum=(ss.length:Int):=by
        unfold inV at inn
        simp [pI] at inn
        omega
       have pt10':=k8.pot.same s910
       refine ⟨p,q',2,rfl,pt10',by decide,by decide,fun r11 H11 a11 b11 pt11' bt11=>⟨_,rfl,?_⟩⟩
       obtain ⟨kk,rfl⟩:=AR a11
       have ec11:=bt11.y _ _ ncp.1.symm ncp.2.symm (s910 _ _ ec8)
       refine ⟨c,ws,1 + kk,by simp,ec11,by omega,by omega,(fun x hx=>by have:=wb x hx;omega),fun st qs H9' n9' ql9 tp9 s9' ex9=>?_⟩
       rw [wl] at ql9 tp9
       have pt9:=pt11'.same s9'
       have y9:SameY p q' H H9':=((y08.trans (jV s910)).trans bt11.y).trans (jV s9')
       have eg9:H9' sg=some (.tup ((q9 us).map V.int)):=s9' _ _ (bt11.y _ _ (pt10'.net (s910 _ _ esg8)).1 (pt10'.net (s910 _ _ esg8)).2 (s910 _ _ esg8))
       have qB:Bd ss.length (kB most ss.length) qs:=by
        have w1:∀ h,∀ x ∈ xZ ws h ss.length,0 ≤ x∧x ≤ most:=fun h x hx=>by
         unfold xZ at hx
         obtain ⟨t,_,rfl⟩:=Am.mp hx
         show 0 ≤ ws.getD t 0∧ws.getD t 0 ≤ most
         rw [Ab]
         cases e:ws[t]? with
         | none=>exact ⟨AV _,show (0:Int) ≤ most by omega⟩
         | some x=>exact wb x (Ap e)
        refine ⟨?_,fun h hh=>?_⟩
        ·rw [tp9 0 (AE _)]
         have:xZ ws 0 ss.length=[]:=by
          have:=nG ws 0 ss.length
          unfold xZ
          rw [List.map_eq_nil_iff,List.filter_eq_nil_iff]
          intro t _
          unfold qC
          simp
         rw [this]
         cases (1 + kk) <;> rfl
        ·rw [tp9 h hh]
         have a:=rB (c:=most) (by omega) (xZ ws h ss.length) (1 + kk) (w1 h)
         have b:((1 + kk:Nat):Int) * most ≤ 2 * most:=Int.mul_le_mul_of_nonneg_right (by omega) (by omega)
         omega
       have extB:∀ ns,(ns=q9 us∨ns=qs∨JoinTab ss.length (q9 us) qs ns)→fV (fun h=>ns.getD h 0) ss.length 0:=fun ns hn=>by
        have oneS:One 10 0 ss.length (q9 us):=lP m5 (.inl rfl) u0 cad
        have oneT:One 30 0 ss.length qs:=one_top m5 (by omega) (.inr rfl) tp9
        have h0:0 < 2 ^ ss.length:=hp.2
        rcases hn with rfl | rfl | jt
        ·exact oneS.ext m5 h0
        ·exact oneT.ext m5 h0
        ·exact pC m5 h0 oneS oneT jt
       have bnd9:=mix qs qB
       have ext9:∀ ns,(ns=q9 us∨ns=qs∨JoinTab ss.length (q9 us) qs ns)→fV (fun h=>ns.getD h 0) ss.length (d6 ss 1 ss.length):=fun ns hn=>by
        have gm:∀ t,t < ss.length→ss.getD t 0 ∈ ss:=fun t ht=>by
         rw [Ab,Ae ht]
         exact AH _
        rcases uni with u | u
        ·have e0:d6 ss 1 ss.length=0:=by
          rcases Nat.eq_zero_or_pos (d6 ss 1 ss.length) with z | z
          ·exact z
          ·obtain ⟨t,ht,b⟩:=a_bit m5 hF (by omega)
           rw [hbit t ht,z3 u _ (gm t ht)] at b
           simp at b
         rw [e0]
         exact extB ns hn
        ·refine ext_all m5 hF (fun t ht=>?_) (extB ns hn)
         rw [hbit t ht,z4 u _ (gm t ht),A0 ht]
         rfl
       exact tail st qs H9' ql9 ext9 bnd9 pt9 y9 eg9 ex9
      ·rw [Au inn]
       have pt9:=k8.pot.same s910
       have y9:SameY p q' H H10:=y08.trans (jV s910)
       have eg9:=s910 _ _ esg8
       have ex9:=s910 _ _ e8
       exact tail se ps H10 pl8 extA (mix ps pB) pt9 y9 eg9 ex9
     ·rw [Au emp]
      have pt9:=k8.pot.same s9
      have y9:SameY p q' H H9:=y08.trans (jV s9)
      have eg9:=s9 _ _ esg8
      have ex9:=s9 _ _ e8
      exact tail se ps H9 pl8 extA (mix ps pB) pt9 y9 eg9 ex9
theorem lim45 {x:Int}(h:x=4∨x=5){y:Nat}(hy:y < 2):(((4:Nat):Int) * 2 + kB 2 4) * (((1 + y:Nat):Int) + ((4:Nat):Int)) ≤ 399∧(((5:Nat):Int) * 1 + kB 1 5) * (((1 + y:Nat):Int) + ((5:Nat):Int)) ≤ 399:=by
 have c:y=0∨y=1:=by omega
 rcases c with rfl | rfl <;> decide
theorem lim5 {m n:Nat}(hm:m ≤ 3)(hn:n ≤ 5):((m:Int) * 5 + kB 5 m) * ((n:Int) + (m:Int)) ≤ 399:=by
 have key:∀ (m:_root_.Fin 4) (n:_root_.Fin 6),((m.val:Int) * 5 + kB 5 m.val) * ((n.val:Int) + (m.val:Int)) ≤ 399:=by decide +kernel
 exact key ⟨m,by omega⟩ ⟨n,by omega⟩
def TabE (H:Hp)(ss:List Int)(B:Int)(ts:List (Addr × List Int)):Prop:=∀ t ∈ ts,H t.1=some (.tup (t.2.map V.int))∧t.2.length=2 ^ ss.length∧fV (fun h=>t.2.getD h 0) ss.length (d6 ss 1 ss.length)∧Bd ss.length B t.2
def lG:Sp:=fun vs H Q _=>∃ (p q:Addr),vs=[.ref p,.int 5]∧Pot H p q∧∀ (t sa wt:Addr) (ss:List Int) (B:Int) (ts:List (Addr × List Int)) (H':Hp),1 ≤ ss.length→ss.length ≤ 5→1 ≤ ts.length→ts.length ≤ 5→(∀ x ∈ ss,x=0∨x=1)→TabE H' ss B ts→0 ≤ B→B * ((ts.length:Int) + (ss.length:Int)) ≤ 399→Pot H' p q→H' t=some (.tup [.ref sa,.ref wt])→H' sa=some (.tup (ss.map V.int))→H' wt=some (.tup (ts.map fun t=>V.ref t.1))→Q (.ref t) H'
def KTI (p q sa c:Addr)(ss:List Int)(most:Int)(G:Hp)(i:Nat)(σ:St)(H:Hp):Prop:=∃ (v:Option V) (ts:List (Addr × List Int)),σ=[v,some (.ref p),some (.ref sa),some (.int most)]∧ts.length=i∧TabE H ss ((ss.length:Int) * most + kB most ss.length) ts∧Pot H p q∧(∀ b o,b ≠ p→b ≠ q→b ≠ c→G b=some o→H b=some o)∧H c=some (.lst (ts.map fun t=>V.ref t.1))
theorem zP:FnScope ["_law_pot_here", "_law_most", "_law_many", "_law_hands", "_law_sides_here"] ["_law_pot_here", "_law_most"] (qE s__law_kind_town):=⟨rfl,rfl,rfl,by decide +kernel,rfl,by decide +kernel,by decide +kernel⟩
theorem oI (F:Fun K "_law_kind_town" "_law_kind_town" s__law_kind_town f fd) (hm:mg "_law_kind_town" = some (.ref f)) (hb:Binds K fd ["_law_pot_here", "_law_most"] []) (T:Txt mg) (c__law_draw:Cal P w K mg base "_law_draw" ["_law_pot_here", "_law_many"] 2 wB) (c__law_sides:Cal P w K mg base "_law_sides" ["_law_pot_here", "_law_many"] 3 lD) (c__law_kind_want:Cal P w K mg base "_law_kind_want" ["_law_pot_here", "_law_sides_here", "_law_most"] 3 lF):Cal P w K mg base "_law_kind_town" ["_law_pot_here", "_law_most"] 4 lG:=by
 refine q0 F hm hb zP (fun vs H Q E h=>?_) (fun cdv A outer s H vs Q E hr h=>?_)
 ·obtain ⟨_,_,rfl,_⟩:=h;rfl
 ·obtain ⟨p,q',rfl,pt,q⟩:=h
  have sc:=zP
  refine ⟨_,qK (rL (i:=2) (j:=3) rfl sc.nd rfl rfl (by decide) rfl rfl (qA (qV kR qH (qJ c__law_draw hr (qA (pv 0) (qA qH qD)))) (qA (qV kR qH (qJ c__law_draw hr (qA (pv 0) (qA (kH yJ (jC (qA qH (qA qH (qA qH (qA qH qD))))) (qJ c__law_draw hr (qA (pv 0) (qA qH qD))) (fun _ _=>rfl)) qD)))) qD)) rfl)
   (qK (zD (q5 j0 (qJ c__law_draw hr (qA (pv 0) (qA qH qD))) qH (qZ _)) (qK (rL (i:=2) (j:=3) rfl sc.nd rfl rfl (by decide) rfl rfl (qA (kH yJ (jC (qA qH (qA qH (qA qH (qA qH qD))))) (qJ c__law_draw hr (qA (pv 0) (qA qH qD))) (fun _ _=>rfl)) (qA (qV kR qH (qJ c__law_draw hr (qA (pv 0) (qA qH qD)))) qD)) rfl)
   (qI (qY (i:=1) sc.nd rfl (Or.inr rfl) (qV dY qH (pv 2))))) jB)
   (qK (qY (i:=4) sc.nd rfl (Or.inr rfl) (qJ c__law_sides hr (qA (pv 0) (qA (pv 2) qD))))
   (qI (qS (kQ (qA (pv 4) (qA (kM z6 rfl T.tuple_ kN (qA (jQ (N:=["_law_hand", "_law_pot_here", "_law_sides_here", "_law_most"]) (fr:=[none,some 0,some 4,some 1]) rfl (kX rfl T.range_ (qA (pv 3) qD)) (CScope.of rfl rfl rfl) rfl (fun _ _ _=>⟨qM (i:=0) (show List.Nodup (α:=Str) ["_law_hand", "_law_pot_here", "_law_sides_here", "_law_most"] by decide +kernel) rfl (Or.inl rfl),kP,qJ c__law_kind_want hr (qA (pv 1) (qA (pv 2) (qA (pv 3) qD)))⟩)) qD)) qD))))))),?_⟩
  rw [show L2.start ["_law_pot_here", "_law_most", "_law_many", "_law_hands", "_law_sides_here"] [.ref p,.int 5] = [some (.ref p),some (.int 5),none,none,none] from rfl]
  (push_cast only [])
  refine ⟨p,q',3,rfl,pt,by decide,by decide,fun x1 H1 a1 b1 pt1 bt1=>⟨_,rfl,by decide,fun L1 H2 n2 s2 e2=>?_⟩⟩
  have nL1:=pt1.ne n2
  refine ⟨p,q',4,rfl,pt1.same s2,by decide,by decide,fun x3 H3 a3 b3 pt3 bt3=>?_⟩
  have hs3:=kL (bt3.y _ _ nL1.1.symm nL1.2.symm e2)
  obtain ⟨mm,hmm,m3⟩:=rO (Pd:=fun x=>x=3∨x=5) a3 b3 (a:=3) (b:=3) (c:=3) (d:=5) (.inl rfl) (.inl rfl) (.inl rfl) (.inr rfl)
  refine ⟨_,_,rfl,hs3,_,hmm,p,q',mm,rfl,pt3,by omega,by omega,fun x4 H4 a4 b4 pt4 bt4=>⟨_,rfl,?_⟩⟩
  obtain ⟨y1,rfl⟩:=AR a1
  obtain ⟨y4,rfl⟩:=AR a4
  (simp only [qL])
  rw [sA]
  generalize hct:(CtS.mk _)=ct
  have tail:∀ (m hn:Nat) (most:Int) (G:Hp),Pot G p q'→1 ≤ m→m ≤ 5→1 ≤ hn→hn ≤ 5→1 ≤ most→most ≤ 9→((m:Int) * most + kB most m) * ((hn:Int) + (m:Int)) ≤ 399→@fA ct [some (.ref p),some (.int most),some (.int (m:Int)),some (.int (hn:Int)),none] G:=fun m hn most G pt9 m1 m5 h1 h5 mo1 mo9 lim=>by
   subst hct
   (simp only [qL])
   (push_cast only [])
   refine ⟨p,q',m,rfl,pt9,by omega,fun sa ss H10 n10 sl s01 pt10 y10 e10=>?_⟩
   (simp only [qL])
   (push_cast only [])
   refine ⟨by omega,by omega,fun c nc=>?_⟩
   have ncp:=pt10.ne nc
   have nsc:sa ≠ c:=qF e10 nc
   have nsp:=pt10.net e10
   refine zK (KTI p q' sa c ss most H10) ⟨none,[],rfl,rfl,(fun _ z=>by cases z),pt10.upd ncp.1 ncp.2,fun b o _ _ n e=>by rw [qQ n];exact e,qG⟩ ?_ ?_
   ·rintro i σ H11 hi ⟨v,ts,rfl,tl,tb,pt11,k11,e11⟩
    have esa11:=k11 _ _ nsp.1 nsp.2 nsc e10
    (push_cast only [])
    refine ⟨p,q',sa,ss,most,rfl,pt11,esa11,by omega,by omega,s01,by omega,by omega,fun t ns H12 nl ext bd pt12 y12 e12=>?_⟩
    have e11':=y12 _ _ ncp.1.symm ncp.2.symm e11
    (push_cast only [e11'])
    refine ⟨qP (by omega),⟨_,ts ++ [(t,ns)],rfl,by simp [tl],fun x hx=>?_,pt12.upd ncp.1 ncp.2,fun b o n1 n2 n3 e=>by rw [qQ n3];exact y12 _ _ n1 n2 (k11 b o n1 n2 n3 e),by rw [qG];simp⟩⟩
    rcases A4.mp hx with z | z
    ·obtain ⟨g1,g2⟩:=tb x z
     have g3:=y12 _ _ (pt11.net g1).1 (pt11.net g1).2 g1
     exact ⟨by rw [qQ (fun y=>by rw [y,e11'] at g3;cases g3)];exact g3,g2⟩
    ·rw [A5.mp z]
     have ntc:t ≠ c:=fun y=>by rw [y,e11'] at e12;cases e12
     exact ⟨by show upd H12 c _ t=_;rw [qQ ntc];exact e12,nl,ext,bd⟩
   ·rintro σ H11 ⟨v,ts,rfl,tl,tb,pt11,k11,e11⟩
    have esa11:=k11 _ _ nsp.1 nsp.2 nsc e10
    refine ⟨_,e11,fun wt H12 n12 s12 e12=>?_⟩
    (push_cast only [])
    refine ⟨by decide,fun t H13 n13 s13 e13=>?_⟩
    have S:=s12.trans s13
    subst sl
    exact q t sa wt ss _ ts H13 (by omega) (by omega) (by omega) (by omega) s01 (fun x hx=>⟨S _ _ (tb x hx).1,(tb x hx).2⟩) (Int.add_nonneg (Cd (by omega) (by omega)) (by unfold kB;split <;> omega)) (by rw [tl,Ar];exact lim) (pt11.same S) e13 (S _ _ esa11) (s13 _ _ e12)
  (push_cast only [])
  refine ⟨p,q',8,rfl,pt4,by decide,by decide,fun x5 H5 a5 b5 pt5 bt5=>?_⟩
  refine ⟨rfl,?_⟩
  split
  ·refine ⟨by decide,fun L2 H6 n6 s6 e6=>?_⟩
   have nL2:=pt5.ne n6
   refine ⟨p,q',4,rfl,pt5.same s6,by decide,by decide,fun x7 H7 a7 b7 pt7 bt7=>?_⟩
   have hs7:=kL (bt7.y _ _ nL2.1.symm nL2.2.symm e6)
   obtain ⟨m7,hm7,m45⟩:=rO (Pd:=fun x=>x=4∨x=5) a7 b7 (a:=4) (b:=4) (c:=4) (d:=5) (.inl rfl) (.inl rfl) (.inl rfl) (.inr rfl)
   refine ⟨_,_,rfl,hs7,_,hm7,p,q',2,rfl,pt7,by decide,by decide,fun x8 H8 a8 b8 pt8 bt8=>⟨_,rfl,?_⟩⟩
   obtain ⟨y8,rfl⟩:=AR a8
   (simp only [qL])
   (push_cast only [])
   have l:=lim45 m45 (show y8 < 2 by omega)
   rcases m45 with rfl | rfl
   ·exact tail 4 (1 + y8) 2 H8 pt8 (by decide) (by decide) (by omega) (by omega) (by decide) (by decide) l.1
   ·exact tail 5 (1 + y8) 1 H8 pt8 (by decide) (by decide) (by omega) (by omega) (by decide) (by decide) l.2
  ·exact tail (1 + y1) (1 + y4) 5 H5 pt5 (by omega) (by omega) (by omega) (by omega) (by decide) (by decide) (lim5 (by omega) (by omega))
end
end K62
end
section
namespace K62
namespace S
open PySem L2
section
variable {P:Program}{w:World}{K:PySem.W.Frag}{mg:Str→Option Value}{base:Heap}{f:Addr}{fd:FuncData}
def out (h t:Nat):Nat:=if h / 2 ^ t % 2=1 then h - 2 ^ t else h
theorem bit_on {h t:Nat}(hh:h < 32)(ht:t < 5):decide (Builtin.bitAnd ((h:Int) / 2 ^ (t:Int).toNat) 1=1)=qC h t∧(qC h t=true→(h:Int) - 1 * 2 ^ (t:Int).toNat=(out h t:Int)∧out h t < h)∧(qC h t=false→out h t=h):=by
 have key:∀ (a:_root_.Fin 32) (b:_root_.Fin 5),decide (Builtin.bitAnd ((a.val:Int) / 2 ^ (b.val:Int).toNat) 1=1)=qC a.val b.val∧(qC a.val b.val=true→(a.val:Int) - 1 * 2 ^ (b.val:Int).toNat=(out a.val b.val:Int)∧out a.val b.val < a.val)∧(qC a.val b.val=false→out a.val b.val=a.val):=by decide +kernel
 exact key ⟨h,hh⟩ ⟨t,ht⟩
def natI (ps:List Nat):List V:=ps.map fun p:Nat=>V.int (p:Int)
def bitsL (F m:Nat):List Int:=(List.range m).map fun t=>if qC F t=true then 1 else 0
theorem bits_len (F m:Nat):(bitsL F m).length=m:=by unfold bitsL;simp
theorem bits_at {F m t:Nat}(ht:t < m):(bitsL F m).getD t 0=if qC F t=true then 1 else 0:=by
 unfold bitsL
 simp [Ab,ht]
def vZ (F n:Nat):List Nat:=(List.range n).filter (qC F)
theorem cR (F i:Nat):vZ F (i + 1)=vZ F i ++ if qC F i=true then [i] else []:=by
 unfold vZ
 rw [Bm,B5]
 congr 1
 cases e:qC F i <;> simp [List.filter,e]
theorem oC {F m:Nat}(hm:m ≤ 5)(hF:F < 2 ^ m):((vZ F m).map fun t:Nat=>(2:Int) ^ t).sum=(F:Int):=by
 have key:∀ (a:_root_.Fin 6) (b:_root_.Fin 32),b.val < 2 ^ a.val→((vZ b.val a.val).map fun t:Nat=>(2:Int) ^ t).sum=(b.val:Int):=by decide +kernel
 have:=kW hm
 exact key ⟨m,by omega⟩ ⟨F,by omega⟩ hF
def mS:Sp:=fun vs H Q _=>∃ (a:Addr) (ts:List Nat),vs=[.ref a]∧H a=some (.lst (natI ts))∧ts.length ≤ 5∧(∀ t ∈ ts,t < 5)∧∀ H',Same H H'→Q (.int ((ts.map fun t:Nat=>(2:Int) ^ t).sum)) H'
def LH (c:Addr)(ts:List Nat)(G:Hp)(i:Nat)(σ:St)(H:Hp):Prop:=∃ v,σ=[v]∧SameX c G H∧H c=some (.lst (((ts.take i).map fun t:Nat=>(2:Int) ^ t).map V.int))
theorem two_le {t:Nat}(h:t < 5):(0:Int) ≤ 2 ^ t∧(2:Int) ^ t ≤ 16:=(show ∀ t,t < 5→(0:Int) ≤ 2 ^ t∧(2:Int) ^ t ≤ 16 by decide) t h
theorem wJ:FnScope ["things"] ["things"] (qE s_heap_of):=⟨rfl,rfl,rfl,by decide +kernel,rfl,by decide +kernel,by decide +kernel⟩
theorem ok_heap (F:Fun K "heap_of" "heap_of" s_heap_of f fd) (hm:mg "heap_of" = some (.ref f)) (hb:Binds K fd ["things"] []) (T:Txt mg):Cal P w K mg base "heap_of" ["things"] 1 mS:=by
 refine q0 F hm hb wJ (fun vs H Q E h=>?_) (fun cdv A outer s H vs Q E hr h=>?_)
 ·obtain ⟨_,_,rfl,_⟩:=h;rfl
 ·obtain ⟨a,ts,rfl,ha,hlen,hlt,q⟩:=h
  have sc:=wJ
  refine ⟨_,qI (qS (qR (iD rfl) rfl T.sum_ bM (qA (jQ (N:=["thing"]) (fr:=[none]) rfl (xO (pv 0)) (CScope.of rfl rfl rfl) rfl (fun _ _ _=>⟨qM (i:=0) (show List.Nodup (α:=Str) ["thing"] by decide +kernel) rfl (Or.inl rfl),kP,qV rP qH (pv 0)⟩)) qD))),?_⟩
  rw [show L2.start ["things"] [.ref a] = [some (.ref a)] from rfl]
  (push_cast only [ha])
  intro c nc
  have nac:a ≠ c:=qF ha nc
  refine jY (LH c ts H) ⟨none,rfl,SameX.upd,qG⟩ (fun j σ H' _ ⟨_,_,s,_⟩=>s _ _ nac ha) ?_ ?_
  ·rintro i x σ H1 hx ⟨v,rfl,s1,e1⟩
   unfold natI at hx
   rw [Ag] at hx
   obtain ⟨t,ht,rfl⟩:=Aj.mp hx
   have hi:i < ts.length:=(Af.mp ht).1
   have t5:=hlt t (Ap ht)
   (push_cast only [e1])
   refine ⟨⟨by omega,by omega,by decide⟩,qP (by rw [Av];omega),⟨_,rfl,s1.trans SameX.upd,?_⟩⟩
   rw [qG,A6,ht]
   simp
  ·rintro σ H1 ⟨v,rfl,s1,e1⟩
   rw [show (natI ts).length=ts.length by unfold natI;rw [Aa],AL] at e1
   refine ⟨_,kL e1,gD (fun n hn=>?_) (by rw [Aa];omega),q H1 (s1.same nc)⟩
   obtain ⟨t,ht,rfl⟩:=Am.mp hn
   have:=two_le (hlt t ht)
   omega
def sZ:Sp:=fun vs H Q _=>∃ (a:Addr) (F m:Nat),vs=[.ref a,.int 1]∧H a=some (.tup ((bitsL F m).map V.int))∧m ≤ 5∧F < 2 ^ m∧∀ H',Same H H'→Q (.int (F:Int)) H'
def LS2 (a c:Addr)(F:Nat)(G:Hp)(i:Nat)(σ:St)(H:Hp):Prop:=∃ v,σ=[v,some (.ref a),some (.int 1)]∧SameX c G H∧H c=some (.lst (natI (vZ F i)))
theorem xK:FnScope ["sides", "side"] ["sides", "side"] (qE s_heap_of_side):=⟨rfl,rfl,rfl,by decide +kernel,rfl,by decide +kernel,by decide +kernel⟩
theorem ok_side (F:Fun K "heap_of_side" "heap_of_side" s_heap_of_side f fd) (hm:mg "heap_of_side" = some (.ref f)) (hb:Binds K fd ["sides", "side"] []) (T:Txt mg) (c_heap_of:Cal P w K mg base "heap_of" ["things"] 1 mS):Cal P w K mg base "heap_of_side" ["sides", "side"] 2 sZ:=by
 refine q0 F hm hb xK (fun vs H Q E h=>?_) (fun cdv A outer s H vs Q E hr h=>?_)
 ·obtain ⟨_,_,_,rfl,_⟩:=h;rfl
 ·obtain ⟨a,F0,m,rfl,ha,m5,hF,q⟩:=h
  have sc:=xK
  refine ⟨_,qI (qS (qJ c_heap_of hr (qA (jQ (N:=["thing", "sides", "side"]) (fr:=[none,some 0,some 1]) rfl (kX rfl T.range_ (qA (qR len0 rfl T.len_ kY (qA (pv 0) qD)) qD)) (CScope.of rfl rfl rfl) rfl (fun _ _ _=>⟨qM (i:=0) (show List.Nodup (α:=Str) ["thing", "sides", "side"] by decide +kernel) rfl (Or.inl rfl),zR (q5 j0 (kH yJ (pv 1) (pv 0) (fun _ _=>rfl)) (pv 2) (qZ _)),pv 0⟩)) qD))),?_⟩
  rw [show L2.start ["sides", "side"] [.ref a,.int 1] = [some (.ref a),some (.int 1)] from rfl]
  have hsa:=q8 ha
  (push_cast only [hsa])
  rw [bits_len]
  refine ⟨by omega,by omega,fun c nc=>?_⟩
  have nac:a ≠ c:=qF ha nc
  have ol:∀ n,(vZ F0 n).length ≤ n:=fun n=>by unfold vZ;exact AB (Bt _ _) (by simp)
  refine zK (LS2 a c F0 H) ⟨none,rfl,SameX.upd,qG⟩ ?_ ?_
  ·rintro i σ H1 hi ⟨v,rfl,s1,e1⟩
   rw [Ar] at hi
   have hsa1:=q8 (s1 _ _ nac ha)
   have hat:=zF (ns:=bitsL F0 m) (n:=i) (by rw [bits_len];exact hi)
   rw [bits_at hi] at hat
   have oli:=ol i
   (push_cast only [hsa1,hat])
   cases hb:qC F0 i with
   | true =>
    rw [As (by simp [hb])]
    refine ⟨_,e1,qP (by unfold natI;rw [Aa];omega),⟨_,rfl,s1.trans SameX.upd,?_⟩⟩
    rw [qG,cR,As hb]
    unfold natI
    simp
   | false =>
    rw [Au (by simp [hb])]
    refine ⟨_,rfl,s1,?_⟩
    rw [e1,cR,Au (by rw [hb];decide),Bx]
  ·rintro σ H1 ⟨v,rfl,s1,e1⟩
   rw [Ar] at e1
   have olm:=ol m
   refine ⟨c,vZ F0 m,rfl,e1,by omega,fun t ht=>?_,fun H2 s2=>?_⟩
   ·unfold vZ at ht
    have:=AZ.mp (By.mp ht).1
    omega
   ·rw [oC m5 hF]
    exact q H2 ((s1.same nc).trans s2)
theorem xor_int {h F m:Nat}(hm:m ≤ 5)(hh:h < 2 ^ m)(hF:F < 2 ^ m):Builtin.bitXor (h:Int) (F:Int)=((h ^^^ F:Nat):Int)∧h ^^^ F < 2 ^ m∧(h ^^^ F) ^^^ F=h:=by
 have key:∀ (a:_root_.Fin 6) (b c:_root_.Fin 32),b.val < 2 ^ a.val→c.val < 2 ^ a.val→Builtin.bitXor (b.val:Int) (c.val:Int)=((b.val ^^^ c.val:Nat):Int)∧b.val ^^^ c.val < 2 ^ a.val∧(b.val ^^^ c.val) ^^^ c.val=b.val:=by decide +kernel
 have:=kW hm
 exact key ⟨m,by omega⟩ ⟨h,by omega⟩ ⟨F,by omega⟩ hh hF
def jP (ns:List Int)(F:Nat):List Int:=(List.range ns.length).map fun h=>ns.getD (h ^^^ F) 0
theorem eU (ns:List Int)(F:Nat):(jP ns F).length=ns.length:=by unfold jP;simp
theorem turn_at {ns:List Int}{F h:Nat}(hh:h < ns.length):(jP ns F).getD h 0=ns.getD (h ^^^ F) 0:=by
 unfold jP
 simp [Ab,hh]
theorem getD_ext {l m:List Int}(hl:l.length=m.length)(h:∀ i,i < l.length→l.getD i 0=m.getD i 0):l=m:=by
 apply BS hl
 intro i q1 q2
 have:=h i q1
 simpa [Ab,q1,q2] using this
def cC:Sp:=fun vs H Q _=>∃ (a b:Addr) (ns:List Int) (F m:Nat),vs=[.ref a,.ref b]∧H a=some (.tup (ns.map V.int))∧H b=some (.tup ((bitsL F m).map V.int))∧m ≤ 5∧F < 2 ^ m∧ns.length=2 ^ m∧∀ (l:Addr) (H':Hp),Same H H'→H' l=some (.tup ((jP ns F).map V.int))→Q (.ref l) H'
def LX1 (a c:Addr)(ns:List Int)(F:Nat)(G:Hp)(i:Nat)(σ:St)(H:Hp):Prop:=∃ v,σ=[v,some (.ref a),some (.int (F:Int))]∧SameX c G H∧H c=some (.lst (((List.range i).map fun h=>ns.getD (h ^^^ F) 0).map V.int))
theorem cJ:FnScope ["want", "sides", "flips"] ["want", "sides"] (qE s_turned):=⟨rfl,rfl,rfl,by decide +kernel,rfl,by decide +kernel,by decide +kernel⟩
theorem ok_turned (F:Fun K "turned" "turned" s_turned f fd) (hm:mg "turned" = some (.ref f)) (hb:Binds K fd ["want", "sides"] []) (T:Txt mg) (c_heap_of_side:Cal P w K mg base "heap_of_side" ["sides", "side"] 2 sZ):Cal P w K mg base "turned" ["want", "sides"] 3 cC:=by
 refine q0 F hm hb cJ (fun vs H Q E h=>?_) (fun cdv A outer s H vs Q E hr h=>?_)
 ·obtain ⟨_,_,_,_,_,rfl,_⟩:=h;rfl
 ·obtain ⟨a,b,ns,F0,m,rfl,ha,hb',m5,hF,hl,q⟩:=h
  have sc:=cJ
  have hp:=kW m5
  refine ⟨_,kE (qY (i:=2) sc.nd rfl (Or.inr rfl) (qJ c_heap_of_side hr (qA (pv 1) (qA qH qD))))
   (qI (qS (kM z6 rfl T.tuple_ kN (qA (jQ (N:=["heap", "want", "flips"]) (fr:=[none,some 0,some 2]) rfl (kX rfl T.range_ (qA (qR len0 rfl T.len_ kY (qA (pv 0) qD)) qD)) (CScope.of rfl rfl rfl) rfl (fun _ _ _=>⟨qM (i:=0) (show List.Nodup (α:=Str) ["heap", "want", "flips"] by decide +kernel) rfl (Or.inl rfl),kP,kH yJ (pv 1) (qV op_xor (pv 0) (pv 2)) (fun _ _=>rfl)⟩)) qD)))),?_⟩
  rw [show L2.start ["want", "sides", "flips"] [.ref a,.ref b] = [some (.ref a),some (.ref b),none] from rfl]
  (push_cast only [])
  refine ⟨b,F0,m,rfl,hb',m5,hF,fun H1 s1=>?_⟩
  have ha1:=s1 _ _ ha
  have hsa:=q8 ha1
  (push_cast only [hsa])
  refine ⟨by omega,by omega,fun c nc=>?_⟩
  have nac:a ≠ c:=qF ha1 nc
  refine zK (LX1 a c ns F0 H1) ⟨none,rfl,SameX.upd,qG⟩ ?_ ?_
  ·rintro i σ H2 hi ⟨v,rfl,s2,e2⟩
   rw [Ar] at hi
   obtain ⟨x0,x1,_⟩:=xor_int m5 (show i < 2 ^ m by omega) hF
   have hsa2:=q8 (s2 _ _ nac ha1)
   have hat:=zF (ns:=ns) (n:=i ^^^ F0) (by omega)
   rw [← x0] at hat
   (push_cast only [hsa2,hat,e2])
   refine ⟨qP (by simp;omega),⟨_,rfl,s2.trans SameX.upd,?_⟩⟩
   rw [qG,Bm]
   simp
  ·rintro σ H2 ⟨v,rfl,s2,e2⟩
   rw [Ar] at e2
   refine ⟨_,e2,fun l H3 nl s3 e3=>?_⟩
   exact q l H3 (s1.trans ((s2.same nc).trans s3)) e3
def dX (h m:Nat):List Nat:=(List.range m).filter fun t=>!qC h t
theorem dA {h m t:Nat}:t ∈ dX h m ↔ t < m∧qC h t=false:=by
 unfold dX
 rw [By,AZ]
 simp
theorem cQ (h m:Nat):dX h (m + 1)=dX h m ++ if qC h m=true then [] else [m]:=by
 unfold dX
 rw [Bm,B5]
 congr 1
 cases e:qC h m <;> simp [e]
theorem lM (h m:Nat):(dX h m).length ≤ m:=by
 unfold dX
 exact AB (Bt _ _) (by simp)
def OkP (m h i j:Nat):Prop:=h < 2 ^ m∧i < j∧j < m∧qC h i=false∧qC h j=false
def OkT (m h i j k:Nat):Prop:=OkP m h i j∧k < m∧qC h k=false∧k ≠ i∧k ≠ j
def PB (ws:List Int)(h i j:Nat):Prop:=ws.getD (h ||| 2 ^ i ||| 2 ^ j) 0 + ws.getD h 0 > ws.getD (h ||| 2 ^ i) 0 + ws.getD (h ||| 2 ^ j) 0
noncomputable instance (ws:List Int) (h i j:Nat):Decidable (PB ws h i j):=by unfold PB;infer_instance
def PT (ws:List Int)(h a b c:Nat):Int:=ws.getD (h ||| 2 ^ a ||| 2 ^ b) 0 + ws.getD (h ||| 2 ^ c) 0
def TB (ws:List Int)(h i j k:Nat):Prop:=PT ws h i k j < PT ws h i j k∧PT ws h j k i < PT ws h i j k
noncomputable instance (ws:List Int) (h i j k:Nat):Decidable (TB ws h i j k):=by unfold TB;infer_instance
def uP (ws:List Int)(m:Nat):Prop:=∀ h i j,OkP m h i j→¬ PB ws h i j
def uO (ws:List Int)(m:Nat):Prop:=∀ h i j k,OkT m h i j k→¬ TB ws h i j k
theorem yN {h t m:Nat}(hm:m ≤ 5)(hh:h < 2 ^ m)(ht:t < m):Builtin.bitOr (h:Int) ((2 ^ t:Nat):Int)=((h ||| 2 ^ t:Nat):Int)∧(h ||| 2 ^ t) < 2 ^ m:=by
 have key:∀ (a:_root_.Fin 6) (b:_root_.Fin 32) (c:_root_.Fin 5),b.val < 2 ^ a.val→c.val < a.val→Builtin.bitOr (b.val:Int) ((2 ^ c.val:Nat):Int)=((b.val ||| 2 ^ c.val:Nat):Int)∧(b.val ||| 2 ^ c.val) < 2 ^ a.val:=by decide +kernel
 have:=kW hm
 exact key ⟨m,by omega⟩ ⟨h,by omega⟩ ⟨t,by omega⟩ hh ht
theorem hpow (m:Nat):(1:Int) * 2 ^ (m:Int).toNat=((2 ^ m:Nat):Int):=by rw [Co,Ar];norm_cast
def rE:Sp:=fun vs H Q _=>∃ h t m:Nat,vs=[.int (h:Int),.int (t:Int)]∧m ≤ 5∧h < 2 ^ m∧t < m∧Q (.int ((h ||| 2 ^ t:Nat):Int)) H
theorem cL:FnScope ["heap", "thing"] ["heap", "thing"] (qE s_put_in):=⟨rfl,rfl,rfl,by decide +kernel,rfl,by decide +kernel,by decide +kernel⟩
theorem ok_put (F:Fun K "put_in" "put_in" s_put_in f fd) (hm:mg "put_in" = some (.ref f)) (hb:Binds K fd ["heap", "thing"] []) (T:Txt mg):Cal P w K mg base "put_in" ["heap", "thing"] 1 rE:=by
 refine q0 F hm hb cL (fun vs H Q E h=>?_) (fun cdv A outer s H vs Q E hr h=>?_)
 ·obtain ⟨_,_,_,rfl,_⟩:=h;rfl
 ·obtain ⟨h,t,m,rfl,m5,hh,ht,q⟩:=h
  have sc:=cL
  refine ⟨_,qI (qS (qV op_or (pv 0) (qV rP qH (pv 1)))),?_⟩
  rw [show L2.start ["heap", "thing"] [.int (h:Int),.int (t:Int)] = [some (.int (h:Int)),some (.int (t:Int))] from rfl]
  (push_cast only [])
  rw [hpow,(yN m5 hh ht).1]
  exact ⟨⟨by omega,by omega,by decide⟩,q⟩
def iK:Sp:=fun vs H Q _=>∃ h t:Nat,vs=[.int (h:Int),.int (t:Int)]∧h < 32∧t < 5∧Q (.bl (qC h t)) H
theorem mV:FnScope ["heap", "thing"] ["heap", "thing"] (qE s_has):=⟨rfl,rfl,rfl,by decide +kernel,rfl,by decide +kernel,by decide +kernel⟩
theorem ok_has (F:Fun K "has" "has" s_has f fd) (hm:mg "has" = some (.ref f)) (hb:Binds K fd ["heap", "thing"] []) (T:Txt mg):Cal P w K mg base "has" ["heap", "thing"] 1 iK:=by
 refine q0 F hm hb mV (fun vs H Q E h=>?_) (fun cdv A outer s H vs Q E hr h=>?_)
 ·obtain ⟨_,_,rfl,_⟩:=h;rfl
 ·obtain ⟨h,t,rfl,hh,ht,q⟩:=h
  have sc:=mV
  refine ⟨_,qI (qS (jU j0 (qV nB (qV i9 (pv 0) (pv 1)) qH) qH (qZ _))),?_⟩
  rw [show L2.start ["heap", "thing"] [.int (h:Int),.int (t:Int)] = [some (.int (h:Int)),some (.int (t:Int))] from rfl]
  (push_cast only [])
  rw [(bit_on hh ht).1]
  exact ⟨by omega,q⟩
def iF:Sp:=fun vs H Q _=>∃ h m:Nat,vs=[.int (h:Int),.int (m:Int)]∧h < 32∧m ≤ 5∧∀ (l:Addr) (H':Hp),Same H H'→H' l=some (.lst (natI (dX h m)))→Q (.ref l) H'
def TBI (c:Addr)(h:Nat)(G:Hp)(i:Nat)(σ:St)(H:Hp):Prop:=∃ v:Option V,σ=[v,some (.int (h:Int))]∧SameX c G H∧H c=some (.lst (natI (dX h i)))
theorem yA:FnScope ["heap", "many"] ["heap", "many"] (qE s_things_beside):=⟨rfl,rfl,rfl,by decide +kernel,rfl,by decide +kernel,by decide +kernel⟩
theorem ok_tb (F:Fun K "things_beside" "things_beside" s_things_beside f fd) (hm:mg "things_beside" = some (.ref f)) (hb:Binds K fd ["heap", "many"] []) (T:Txt mg) (c_has:Cal P w K mg base "has" ["heap", "thing"] 1 iK):Cal P w K mg base "things_beside" ["heap", "many"] 2 iF:=by
 refine q0 F hm hb yA (fun vs H Q E h=>?_) (fun cdv A outer s H vs Q E hr h=>?_)
 ·obtain ⟨_,_,rfl,_⟩:=h;rfl
 ·obtain ⟨h,m,rfl,hh,m5,q⟩:=h
  have sc:=yA
  refine ⟨_,qI (qS (jQ (N:=["thing", "heap"]) (fr:=[none,some 0]) rfl (kX rfl T.range_ (qA (pv 1) qD)) (CScope.of rfl rfl rfl) rfl (fun _ _ _=>⟨qM (i:=0) (show List.Nodup (α:=Str) ["thing", "heap"] by decide +kernel) rfl (Or.inl rfl),zR (iX (wO (qJ c_has hr (qA (pv 1) (qA (pv 0) qD))))),pv 0⟩))),?_⟩
  rw [show L2.start ["heap", "many"] [.int (h:Int),.int (m:Int)] = [some (.int (h:Int)),some (.int (m:Int))] from rfl]
  (push_cast only [])
  refine ⟨by omega,by omega,fun c nc=>?_⟩
  refine zK (TBI c h H) ⟨none,rfl,SameX.upd,qG⟩ ?_ ?_
  ·rintro j σ H1 hj ⟨v,rfl,s1,e1⟩
   rw [Ar] at hj
   (push_cast only [])
   refine ⟨h,j,rfl,hh,by omega,?_⟩
   have ol:=lM h j
   cases eb:qC h j
   ·(push_cast only [e1])
    refine ⟨qP (by unfold natI;rw [Aa];omega),⟨_,rfl,s1.trans SameX.upd,?_⟩⟩
    rw [qG,cQ,eb]
    unfold natI
    simp
   ·(push_cast only [e1])
    refine ⟨_,rfl,s1,?_⟩
    rw [e1,cQ,eb]
    simp
  ·rintro σ H1 ⟨v,rfl,s1,e1⟩
   rw [Ar] at e1
   exact q c H1 (s1.same nc) e1
def PRows (H:Hp)(h m:Nat)(rs:List (Addr × (Nat × Nat))):Prop:=∀ r ∈ rs,H r.1=some (.tup [.int (r.2.1:Int),.int (r.2.2:Int)])∧OkP m h r.2.1 r.2.2
def iI:Sp:=fun vs H Q _=>∃ h m:Nat,vs=[.int (h:Int),.int (m:Int)]∧h < 2 ^ m∧m ≤ 5∧∀ (l:Addr) (rs:List (Addr × (Nat × Nat))) (H':Hp),Same H H'→PRows H' h m rs→H' l=some (.lst (rs.map fun r=>V.ref r.1))→Q (.ref l) H'
def PBI (c l:Addr)(h m n:Nat)(v1:Option V)(G:Hp)(b:Nat)(σ:St)(H:Hp):Prop:=∃ (v2:Option V) (rs:List (Addr × (Nat × Nat))),σ=[v1,v2,some (.ref l)]∧SameX c G H∧PRows H h m rs∧rs.length ≤ n + b∧H c=some (.lst (rs.map fun r=>V.ref r.1))
def PBO (c l:Addr)(h m:Nat)(G:Hp)(a:Nat)(σ:St)(H:Hp):Prop:=∃ v1:Option V,PBI c l h m (5 * a) v1 G 0 σ H
theorem xI:FnScope ["heap", "many", "beside"] ["heap", "many"] (qE s_pairs_beside):=⟨rfl,rfl,rfl,by decide +kernel,rfl,by decide +kernel,by decide +kernel⟩
theorem ok_pb (F:Fun K "pairs_beside" "pairs_beside" s_pairs_beside f fd) (hm:mg "pairs_beside" = some (.ref f)) (hb:Binds K fd ["heap", "many"] []) (T:Txt mg) (c_things_beside:Cal P w K mg base "things_beside" ["heap", "many"] 2 iF):Cal P w K mg base "pairs_beside" ["heap", "many"] 3 iI:=by
 refine q0 F hm hb xI (fun vs H Q E h=>?_) (fun cdv A outer s H vs Q E hr h=>?_)
 ·obtain ⟨_,_,rfl,_⟩:=h;rfl
 ·obtain ⟨h,m,rfl,hh,m5,q⟩:=h
  have sc:=xI
  have p32:=kW m5
  refine ⟨_,kE (qY (i:=2) sc.nd rfl (Or.inr rfl) (qJ c_things_beside hr (qA (pv 0) (qA (pv 1) qD))))
   (qI (qS (pe_lc2 (N:=["i", "j", "beside"]) (fr:=[none,none,some 2]) rfl (xO (pv 2)) (CScope.of rfl rfl rfl) rfl (fun _ _ _=>⟨qM (i:=0) (show List.Nodup (α:=Str) ["i", "j", "beside"] by decide +kernel) rfl (Or.inl rfl),kP,xO (pv 2),qM (i:=1) (show List.Nodup (α:=Str) ["i", "j", "beside"] by decide +kernel) rfl (Or.inl rfl),zR (q5 op_lt (pv 0) (pv 1) (qZ _)),kQ (qA (pv 0) (qA (pv 1) qD))⟩)))),?_⟩
  rw [show L2.start ["heap", "many", "beside"] [.int (h:Int),.int (m:Int)] = [some (.int (h:Int)),some (.int (m:Int)),none] from rfl]
  (push_cast only [])
  refine ⟨h,m,rfl,by omega,m5,fun l H1 s1 e1=>?_⟩
  (push_cast only [e1])
  intro c nc
  have nlc:l ≠ c:=qF e1 nc
  have ol:=lM h m
  have nl:(natI (dX h m)).length=(dX h m).length:=Aa ..
  refine jY (PBO c l h m H1) ⟨none,none,[],rfl,SameX.upd,(fun r hr=>by cases hr),Ad _,qG⟩ (fun j σ H' _ ⟨_,_,_,_,s,_⟩=>s _ _ nlc e1) ?_ ?_
  ·rintro a x σ H2 hx ⟨v1,v2,rs,rfl,s2,R2,d2,e2⟩
   have ha:a < (natI (dX h m)).length:=(Af.mp hx).1
   unfold natI at hx
   rw [Ag] at hx
   obtain ⟨i,hi,rfl⟩:=Aj.mp hx
   have e12:=s2 _ _ nlc e1
   (push_cast only [e12])
   refine jY (PBI c l h m (5 * a) (some (.int (i:Int))) H1) ⟨_,rs,rfl,s2,R2,d2,e2⟩ (fun j σ H' _ ⟨_,_,_,s,_⟩=>s _ _ nlc e1) ?_ ?_
   ·rintro b y σ H3 hy ⟨v2',rs',rfl,s3,R3,d3,e3⟩
    have hb3:b < (natI (dX h m)).length:=(Af.mp hy).1
    unfold natI at hy
    rw [Ag] at hy
    obtain ⟨j,hj,rfl⟩:=Aj.mp hy
    (push_cast only [])
    by_cases hij:i < j
    ·rw [As (by simpa using hij)]
     (push_cast only [])
     refine ⟨by decide,fun t H4 nt s4 e4=>?_⟩
     have e34:=s4 _ _ e3
     have ok:OkP m h i j:=⟨hh,hij,(dA.mp (Ap hj)).1,(dA.mp (Ap hi)).2,(dA.mp (Ap hj)).2⟩
     have ne:∀ {b:Addr} {L:List V},H4 b=some (.tup L)→b ≠ c:=fun h z=>by rw [z,e34] at h;cases h
     refine ⟨_,e34,qP (by rw [Aa];omega),⟨_,rs' ++ [(t,(i,j))],rfl,(s3.trans s4.x).trans SameX.upd,fun r hr'=>?_,by rw [Ax];exact Nat.succ_le_succ d3,by rw [qG,A7];rfl⟩⟩
     rcases A4.mp hr' with y | y
     ·have:=s4 _ _ (R3 r y).1
      exact ⟨by rw [qQ (ne this)];exact this,(R3 r y).2⟩
     ·rw [A5.mp y]
      exact ⟨by rw [qQ (ne e4)];exact e4,ok⟩
    ·rw [Au (by simpa using hij)]
     exact ⟨_,rs',rfl,s3,R3,Nat.le_succ_of_le d3,e3⟩
   ·rintro σ H3 ⟨v2',rs',rfl,s3,R3,d3,e3⟩
    exact ⟨_,_,rs',rfl,s3,R3,by omega,e3⟩
  ·rintro σ H2 ⟨v1,v2,rs,rfl,s2,R2,d2,e2⟩
   exact q c rs H2 (s1.trans (s2.same nc)) R2 e2
def iH:Sp:=fun vs H Q _=>∃ (a:Addr) (m h i j:Nat) (ws:List Int),vs=[.ref a,.int (h:Int),.int (i:Int),.int (j:Int)]∧H a=some (.tup (ws.map V.int))∧ws.length=2 ^ m∧m ≤ 5∧h < 2 ^ m∧i < m∧j < m∧Q (.bl (decide (PB ws h i j))) H
theorem x9:FnScope ["worths", "heap", "i", "j", "with_i", "with_j"] ["worths", "heap", "i", "j"] (qE s_pair_breaks):=⟨rfl,rfl,rfl,by decide +kernel,rfl,by decide +kernel,by decide +kernel⟩
theorem ok_pbr (F:Fun K "pair_breaks" "pair_breaks" s_pair_breaks f fd) (hm:mg "pair_breaks" = some (.ref f)) (hb:Binds K fd ["worths", "heap", "i", "j"] []) (T:Txt mg) (c_put_in:Cal P w K mg base "put_in" ["heap", "thing"] 1 rE):Cal P w K mg base "pair_breaks" ["worths", "heap", "i", "j"] 2 iH:=by
 refine q0 F hm hb x9 (fun vs H Q E h=>?_) (fun cdv A outer s H vs Q E hr h=>?_)
 ·obtain ⟨_,_,_,_,_,_,rfl,_⟩:=h;rfl
 ·obtain ⟨a,m,h,i,j,ws,rfl,ha,hl,m5,hh,hi,hj,q⟩:=h
  have sc:=x9
  refine ⟨_,kE (qY (i:=4) sc.nd rfl (Or.inl rfl) (qJ c_put_in hr (qA (pv 1) (qA (pv 2) qD))))
   (kE (qY (i:=5) sc.nd rfl (Or.inl rfl) (qJ c_put_in hr (qA (pv 1) (qA (pv 3) qD))))
   (qI (qS (jU lO (qV kR (kH yJ (pv 0) (qJ c_put_in hr (qA (pv 4) (qA (pv 3) qD))) (fun _ _=>rfl)) (kH yJ (pv 0) (pv 1) (fun _ _=>rfl))) (qV kR (kH yJ (pv 0) (pv 4) (fun _ _=>rfl)) (kH yJ (pv 0) (pv 5) (fun _ _=>rfl))) (qZ _))))),?_⟩
  rw [show L2.start ["worths", "heap", "i", "j", "with_i", "with_j"] [.ref a,.int (h:Int),.int (i:Int),.int (j:Int)] = [some (.ref a),some (.int (h:Int)),some (.int (i:Int)),some (.int (j:Int)),none,none] from rfl]
  obtain ⟨_,o1⟩:=yN m5 hh hi
  obtain ⟨_,o2⟩:=yN m5 hh hj
  obtain ⟨_,o3⟩:=yN m5 o1 hj
  have hs:=q8 ha
  have a1:=zF (ns:=ws) (n:=h ||| 2 ^ i) (by omega)
  have a2:=zF (ns:=ws) (n:=h ||| 2 ^ j) (by omega)
  have a3:=zF (ns:=ws) (n:=h ||| 2 ^ i ||| 2 ^ j) (by omega)
  have a4:=zF (ns:=ws) (n:=h) (by omega)
  (push_cast only [])
  refine ⟨h,i,m,rfl,m5,hh,hi,?_⟩
  (push_cast only [])
  refine ⟨h,j,m,rfl,m5,hh,hj,?_⟩
  (push_cast only [])
  refine ⟨_,j,m,rfl,m5,o1,hj,?_⟩
  (push_cast only [hs,a1,a2,a3,a4])
  exact q
def cF:Sp:=fun vs H Q _=>∃ (a:Addr) (m h i j k:Nat) (ws:List Int),vs=[.ref a,.int (h:Int),.int (i:Int),.int (j:Int),.int (k:Int)]∧H a=some (.tup (ws.map V.int))∧ws.length=2 ^ m∧m ≤ 5∧h < 2 ^ m∧i < m∧j < m∧k < m∧Q (.int (PT ws h i j k)) H
theorem cM:FnScope ["worths", "heap", "one", "other", "third"] ["worths", "heap", "one", "other", "third"] (qE s_parted):=⟨rfl,rfl,rfl,by decide +kernel,rfl,by decide +kernel,by decide +kernel⟩
theorem ok_parted3 (F:Fun K "parted" "parted" s_parted f fd) (hm:mg "parted" = some (.ref f)) (hb:Binds K fd ["worths", "heap", "one", "other", "third"] []) (T:Txt mg) (c_put_in:Cal P w K mg base "put_in" ["heap", "thing"] 1 rE):Cal P w K mg base "parted" ["worths", "heap", "one", "other", "third"] 2 cF:=by
 refine q0 F hm hb cM (fun vs H Q E h=>?_) (fun cdv A outer s H vs Q E hr h=>?_)
 ·obtain ⟨_,_,_,_,_,_,_,rfl,_⟩:=h;rfl
 ·obtain ⟨a,m,h,i,j,k,ws,rfl,ha,hl,m5,hh,hi,hj,hk,q⟩:=h
  have sc:=cM
  refine ⟨_,qI (qS (qV kR (kH yJ (pv 0) (qJ c_put_in hr (qA (qJ c_put_in hr (qA (pv 1) (qA (pv 2) qD))) (qA (pv 3) qD))) (fun _ _=>rfl)) (kH yJ (pv 0) (qJ c_put_in hr (qA (pv 1) (qA (pv 4) qD))) (fun _ _=>rfl)))),?_⟩
  rw [show L2.start ["worths", "heap", "one", "other", "third"] [.ref a,.int (h:Int),.int (i:Int),.int (j:Int),.int (k:Int)] = [some (.ref a),some (.int (h:Int)),some (.int (i:Int)),some (.int (j:Int)),some (.int (k:Int))] from rfl]
  obtain ⟨_,o1⟩:=yN m5 hh hi
  obtain ⟨_,o2⟩:=yN m5 hh hk
  obtain ⟨_,o3⟩:=yN m5 o1 hj
  have hs:=q8 ha
  have a2:=zF (ns:=ws) (n:=h ||| 2 ^ k) (by omega)
  have a3:=zF (ns:=ws) (n:=h ||| 2 ^ i ||| 2 ^ j) (by omega)
  (push_cast only [])
  refine ⟨h,i,m,rfl,m5,hh,hi,?_⟩
  (push_cast only [])
  refine ⟨_,j,m,rfl,m5,o1,hj,?_⟩
  (push_cast only [hs,a3])
  refine ⟨h,k,m,rfl,m5,hh,hk,?_⟩
  (push_cast only [hs,a2])
  exact q
def iE:Sp:=fun vs H Q _=>∃ (a:Addr) (m h i j k:Nat) (ws:List Int),vs=[.ref a,.int (h:Int),.int (i:Int),.int (j:Int),.int (k:Int)]∧H a=some (.tup (ws.map V.int))∧ws.length=2 ^ m∧m ≤ 5∧h < 2 ^ m∧i < m∧j < m∧k < m∧Q (.bl (decide (TB ws h i j k))) H
theorem tb_max (ws:List Int)(h i j k:Nat):decide (PT ws h i j k > if PT ws h j k i > PT ws h i k j then PT ws h j k i else PT ws h i k j)=decide (TB ws h i j k):=by
 refine decide_eq_decide.mpr ⟨fun q=>?_,fun q=>?_⟩
 ·unfold TB
  split at q <;> omega
 ·unfold TB at q
  split <;> omega
theorem x6:FnScope ["worths", "heap", "i", "j", "k"] ["worths", "heap", "i", "j", "k"] (qE s_three_break):=⟨rfl,rfl,rfl,by decide +kernel,rfl,by decide +kernel,by decide +kernel⟩
theorem ok_tbr (F:Fun K "three_break" "three_break" s_three_break f fd) (hm:mg "three_break" = some (.ref f)) (hb:Binds K fd ["worths", "heap", "i", "j", "k"] []) (T:Txt mg) (c_parted:Cal P w K mg base "parted" ["worths", "heap", "one", "other", "third"] 2 cF):Cal P w K mg base "three_break" ["worths", "heap", "i", "j", "k"] 3 iE:=by
 refine q0 F hm hb x6 (fun vs H Q E h=>?_) (fun cdv A outer s H vs Q E hr h=>?_)
 ·obtain ⟨_,_,_,_,_,_,_,rfl,_⟩:=h;rfl
 ·obtain ⟨a,m,h,i,j,k,ws,rfl,ha,hl,m5,hh,hi,hj,hk,q⟩:=h
  have sc:=x6
  refine ⟨_,qI (qS (jU lO (qJ c_parted hr (qA (pv 0) (qA (pv 1) (qA (pv 2) (qA (pv 3) (qA (pv 4) qD)))))) (qR (mC rfl) rfl T.max_ d8 (qA (qJ c_parted hr (qA (pv 0) (qA (pv 1) (qA (pv 2) (qA (pv 4) (qA (pv 3) qD)))))) (qA (qJ c_parted hr (qA (pv 0) (qA (pv 1) (qA (pv 3) (qA (pv 4) (qA (pv 2) qD)))))) qD))) (qZ _))),?_⟩
  rw [show L2.start ["worths", "heap", "i", "j", "k"] [.ref a,.int (h:Int),.int (i:Int),.int (j:Int),.int (k:Int)] = [some (.ref a),some (.int (h:Int)),some (.int (i:Int)),some (.int (j:Int)),some (.int (k:Int))] from rfl]
  (push_cast only [])
  refine ⟨a,m,h,i,j,k,ws,rfl,ha,hl,m5,hh,hi,hj,hk,?_⟩
  (push_cast only [])
  refine ⟨a,m,h,i,k,j,ws,rfl,ha,hl,m5,hh,hi,hk,hj,?_⟩
  (push_cast only [])
  refine ⟨a,m,h,j,k,i,ws,rfl,ha,hl,m5,hh,hj,hk,hi,?_⟩
  (push_cast only [])
  rw [tb_max]
  exact q
def sp_fp:Sp:=fun vs H Q _=>∃ (a:Addr) (m:Nat) (ws:List Int),vs=[.ref a,.int (m:Int)]∧H a=some (.tup (ws.map V.int))∧ws.length=2 ^ m∧m ≤ 5∧uP ws m∧∀ H',Same H H'→Q .non H'
def FPO (a:Addr)(m:Nat)(G:Hp)(h:Nat)(σ:St)(H:Hp):Prop:=∃ v2 v3 v4:Option V,σ=[some (.ref a),some (.int (m:Int)),v2,v3,v4]∧Same G H
def FPI (a:Addr)(m h:Nat)(G:Hp)(c:Nat)(σ:St)(H:Hp):Prop:=∃ v3 v4:Option V,σ=[some (.ref a),some (.int (m:Int)),some (.int (h:Int)),v3,v4]∧Same G H
theorem vU:FnScope ["worths", "many", "heap", "i", "j"] ["worths", "many"] (qE s_first_pair):=⟨rfl,rfl,rfl,by decide +kernel,rfl,by decide +kernel,by decide +kernel⟩
theorem ok_fp (F:Fun K "first_pair" "first_pair" s_first_pair f fd) (hm:mg "first_pair" = some (.ref f)) (hb:Binds K fd ["worths", "many"] []) (T:Txt mg) (c_pairs_beside:Cal P w K mg base "pairs_beside" ["heap", "many"] 3 iI) (c_pair_breaks:Cal P w K mg base "pair_breaks" ["worths", "heap", "i", "j"] 2 iH):Cal P w K mg base "first_pair" ["worths", "many"] 4 sp_fp:=by
 refine q0 F hm hb vU (fun vs H Q E h=>?_) (fun cdv A outer s H vs Q E hr h=>?_)
 ·obtain ⟨_,_,_,rfl,_⟩:=h;rfl
 ·obtain ⟨a,m,ws,rfl,ha,hl,m5,np,qn⟩:=h
  have sc:=vU
  have p32:=kW m5
  refine ⟨_,kE (jO AA rfl (kX rfl T.range_ (qA (qR len0 rfl T.len_ kY (qA (pv 0) qD)) qD)) (qM (i:=2) sc.nd rfl (Or.inl rfl))
    (qI (jO AA rfl (xO (qJ c_pairs_beside hr (qA (pv 2) (qA (pv 1) qD)))) (kU (n:=2) rfl (qU (qM (i:=3) sc.nd rfl (Or.inl rfl)) (qU (qM (i:=4) sc.nd rfl (Or.inl rfl)) kT)))
    (qI (zD (wO (qJ c_pair_breaks hr (qA (pv 0) (qA (pv 2) (qA (pv 3) (qA (pv 4) qD)))))) (qI (qS (kQ (qA gF (qA (pv 2) (qA (pv 3) (qA (pv 4) qD))))))) jB)))))
   (qI (qS jX)),?_⟩
  rw [show L2.start ["worths", "many", "heap", "i", "j"] [.ref a,.int (m:Int)] = [some (.ref a),some (.int (m:Int)),none,none,none] from rfl]
  have hs:=q8 ha
  (push_cast only [hs])
  rw [hl]
  refine ⟨by omega,by omega,yI (FPO a m H) ⟨_,_,_,rfl,Same.refl H⟩ ?_ ?_⟩
  ·rintro h σ H1 hh ⟨v2,v3,v4,rfl,s1⟩
   rw [Ar] at hh
   (push_cast only [])
   refine ⟨h,m,rfl,hh,m5,fun l rs H2 s2 R2 e2=>?_⟩
   (push_cast only [e2])
   refine yZ (FPI a m h H2) ⟨_,_,rfl,Same.refl H2⟩ (fun j σ H' _ ⟨_,_,_,s⟩=>s _ _ e2) ?_ ?_
   ·rintro c x σ H3 hx ⟨v3',v4',rfl,s3⟩
    rw [Ag] at hx
    obtain ⟨r,hr',rfl⟩:=Aj.mp hx
    obtain ⟨er2,ok⟩:=R2 r (Ap hr')
    have er:=s3 _ _ er2
    (push_cast only [er])
    refine ⟨a,m,h,r.2.1,r.2.2,ws,rfl,s3 _ _ (s2 _ _ (s1 _ _ ha)),hl,m5,hh,Nat.lt_trans ok.2.1 ok.2.2.1,ok.2.2.1,?_⟩
    rw [Al (np h _ _ ok)]
    (push_cast only [])
    exact ⟨_,_,rfl,s3⟩
   ·rintro σ H3 ⟨v3',v4',rfl,s3⟩
    exact ⟨_,_,_,rfl,(s1.trans s2).trans s3⟩
  ·rintro σ H1 ⟨v2,v3,v4,rfl,s1⟩
   (push_cast only [])
   exact qn H1 s1
def sp_ft:Sp:=fun vs H Q _=>∃ (a:Addr) (m:Nat) (ws:List Int),vs=[.ref a,.int (m:Int)]∧H a=some (.tup (ws.map V.int))∧ws.length=2 ^ m∧m ≤ 5∧uO ws m∧∀ H',Same H H'→Q .non H'
def FTO (a:Addr)(m:Nat)(G:Hp)(h:Nat)(σ:St)(H:Hp):Prop:=∃ v2 v3 v4 v5:Option V,σ=[some (.ref a),some (.int (m:Int)),v2,v3,v4,v5]∧Same G H
def FTI (a:Addr)(m h:Nat)(G:Hp)(c:Nat)(σ:St)(H:Hp):Prop:=∃ v3 v4 v5:Option V,σ=[some (.ref a),some (.int (m:Int)),some (.int (h:Int)),v3,v4,v5]∧Same G H
def FTK (a:Addr)(m h i j:Nat)(G:Hp)(c:Nat)(σ:St)(H:Hp):Prop:=∃ v5:Option V,σ=[some (.ref a),some (.int (m:Int)),some (.int (h:Int)),some (.int (i:Int)),some (.int (j:Int)),v5]∧Same G H
theorem vB:FnScope ["worths", "many", "heap", "i", "j", "k"] ["worths", "many"] (qE s_first_three):=⟨rfl,rfl,rfl,by decide +kernel,rfl,by decide +kernel,by decide +kernel⟩
theorem ok_ft (F:Fun K "first_three" "first_three" s_first_three f fd) (hm:mg "first_three" = some (.ref f)) (hb:Binds K fd ["worths", "many"] []) (T:Txt mg) (c_pairs_beside:Cal P w K mg base "pairs_beside" ["heap", "many"] 3 iI) (c_things_beside:Cal P w K mg base "things_beside" ["heap", "many"] 2 iF) (c_three_break:Cal P w K mg base "three_break" ["worths", "heap", "i", "j", "k"] 3 iE):Cal P w K mg base "first_three" ["worths", "many"] 4 sp_ft:=by
 refine q0 F hm hb vB (fun vs H Q E h=>?_) (fun cdv A outer s H vs Q E hr h=>?_)
 ·obtain ⟨_,_,_,rfl,_⟩:=h;rfl
 ·obtain ⟨a,m,ws,rfl,ha,hl,m5,np,qn⟩:=h
  have sc:=vB
  have p32:=kW m5
  refine ⟨_,kE (jO AA rfl (kX rfl T.range_ (qA (qR len0 rfl T.len_ kY (qA (pv 0) qD)) qD)) (qM (i:=2) sc.nd rfl (Or.inl rfl))
    (qI (jO AA rfl (xO (qJ c_pairs_beside hr (qA (pv 2) (qA (pv 1) qD)))) (kU (n:=2) rfl (qU (qM (i:=3) sc.nd rfl (Or.inl rfl)) (qU (qM (i:=4) sc.nd rfl (Or.inl rfl)) kT)))
    (qI (jO AA rfl (xO (qJ c_things_beside hr (qA (pv 2) (qA (pv 1) qD)))) (qM (i:=5) sc.nd rfl (Or.inl rfl))
    (qI (zD (PW.pt (zX (q5 tM (pv 5) (pv 3) (qZ _)) (zX (q5 tM (pv 5) (pv 4) (qZ _)) (zQ (wO (qJ c_three_break hr (qA (pv 0) (qA (pv 2) (qA (pv 3) (qA (pv 4) (qA (pv 5) qD))))))))))) (qI (qS (kQ (qA gF (qA (pv 2) (qA (pv 3) (qA (pv 4) (qA (pv 5) qD)))))))) jB)))))))
   (qI (qS jX)),?_⟩
  rw [show L2.start ["worths", "many", "heap", "i", "j", "k"] [.ref a,.int (m:Int)] = [some (.ref a),some (.int (m:Int)),none,none,none,none] from rfl]
  have hs:=q8 ha
  (push_cast only [hs])
  rw [hl]
  refine ⟨by omega,by omega,yI (FTO a m H) ⟨_,_,_,_,rfl,Same.refl H⟩ ?_ ?_⟩
  ·rintro h σ H1 hh ⟨v2,v3,v4,v5,rfl,s1⟩
   rw [Ar] at hh
   (push_cast only [])
   refine ⟨h,m,rfl,hh,m5,fun l rs H2 s2 R2 e2=>?_⟩
   (push_cast only [e2])
   refine yZ (FTI a m h H2) ⟨_,_,_,rfl,Same.refl H2⟩ (fun j σ H' _ ⟨_,_,_,_,s⟩=>s _ _ e2) ?_ ?_
   ·rintro c x σ H3 hx ⟨v3',v4',v5',rfl,s3⟩
    rw [Ag] at hx
    obtain ⟨r,hr',rfl⟩:=Aj.mp hx
    obtain ⟨er2,ok⟩:=R2 r (Ap hr')
    have er:=s3 _ _ er2
    (push_cast only [er])
    refine ⟨h,m,rfl,by omega,m5,fun l2 H4 s4 e4=>?_⟩
    (push_cast only [e4])
    refine yZ (FTK a m h r.2.1 r.2.2 H4) ⟨_,rfl,Same.refl H4⟩ (fun j σ H' _ ⟨_,_,s⟩=>s _ _ e4) ?_ ?_
    ·rintro d x σ H5 hx ⟨v5'',rfl,s5⟩
     unfold natI at hx
     rw [Ag] at hx
     obtain ⟨k,hk,rfl⟩:=Aj.mp hx
     obtain ⟨km,bk⟩:=dA.mp (Ap hk)
     have skip:FTK a m h r.2.1 r.2.2 H4 (d + 1) [some (.ref a),some (.int (m:Int)),some (.int (h:Int)),some (.int (r.2.1:Int)),some (.int (r.2.2:Int)),some (.int (k:Int))] H5:=⟨_,rfl,s5⟩
     (push_cast only [])
     split
     ·split
      ·rename_i k1 k2
       refine ⟨a,m,h,r.2.1,r.2.2,k,ws,rfl,((((s1.trans s2).trans s3).trans s4).trans s5) _ _ ha,hl,m5,hh,Nat.lt_trans ok.2.1 ok.2.2.1,ok.2.2.1,km,⟨_,rfl,?_⟩⟩
       rw [Al (np h _ _ k ⟨ok,km,bk,(fun z=>by simp [z] at k1),(fun z=>by simp [z] at k2)⟩),Au (by decide)]
       exact skip
      ·exact skip
     ·exact skip
    ·rintro σ H5 ⟨v5'',rfl,s5⟩
     exact ⟨_,_,_,rfl,(s3.trans s4).trans s5⟩
   ·rintro σ H3 ⟨v3',v4',v5',rfl,s3⟩
    exact ⟨_,_,_,_,rfl,(s1.trans s2).trans s3⟩
  ·rintro σ H1 ⟨v2,v3,v4,v5,rfl,s1⟩
   (push_cast only [])
   exact qn H1 s1
def fF:Sp:=fun vs H Q _=>∃ (a b:Addr) (ns:List Int) (F m:Nat),vs=[.ref a,.ref b]∧H a=some (.tup (ns.map V.int))∧H b=some (.tup ((bitsL F m).map V.int))∧m ≤ 5∧F < 2 ^ m∧ns.length=2 ^ m∧uP (jP ns F) m∧uO (jP ns F) m∧∀ (H':Hp),Same H H'→Q .non H'
theorem fL:FnScope ["want", "sides", "worths", "pair"] ["want", "sides"] (qE s_breaking):=⟨rfl,rfl,rfl,by decide +kernel,rfl,by decide +kernel,by decide +kernel⟩
theorem ok_breaking (F:Fun K "breaking" "breaking" s_breaking f fd) (hm:mg "breaking" = some (.ref f)) (hb:Binds K fd ["want", "sides"] []) (T:Txt mg) (c_turned:Cal P w K mg base "turned" ["want", "sides"] 3 cC) (c_first_pair:Cal P w K mg base "first_pair" ["worths", "many"] 4 sp_fp) (c_first_three:Cal P w K mg base "first_three" ["worths", "many"] 4 sp_ft):Cal P w K mg base "breaking" ["want", "sides"] 5 fF:=by
 refine q0 F hm hb fL (fun vs H Q E h=>?_) (fun cdv A outer s H vs Q E hr h=>?_)
 ·obtain ⟨_,_,_,_,_,rfl,_⟩:=h;rfl
 ·obtain ⟨a,b,ns,F0,m,rfl,ha,hb',m5,hF,hl,np,nt,q⟩:=h
  have sc:=fL
  refine ⟨_,kE (qY (i:=2) sc.nd rfl (Or.inl rfl) (qJ c_turned hr (qA (pv 0) (qA (pv 1) qD))))
   (kE (qY (i:=3) sc.nd rfl (Or.inl rfl) (qJ c_first_pair hr (qA (pv 2) (qA (qR len0 rfl T.len_ kY (qA (pv 1) qD)) qD))))
   (kE (zD (q5 nA (pv 3) jX (qZ _)) (qI (qS (pv 3))) jB)
   (qI (qS (qJ c_first_three hr (qA (pv 2) (qA (qR len0 rfl T.len_ kY (qA (pv 1) qD)) qD))))))),?_⟩
  rw [show L2.start ["want", "sides", "worths", "pair"] [.ref a,.ref b] = [some (.ref a),some (.ref b),none,none] from rfl]
  (push_cast only [])
  refine ⟨a,b,ns,F0,m,rfl,ha,hb',m5,hF,hl,fun t H1 s1 e1=>?_⟩
  have hs1:=q8 (s1 _ _ hb')
  (push_cast only [hs1])
  rw [bits_len]
  have tl:(jP ns F0).length=2 ^ m:=by rw [eU,hl]
  refine ⟨t,m,jP ns F0,rfl,e1,tl,m5,np,fun H2 s2=>?_⟩
  have hs2:=q8 (s2 _ _ (s1 _ _ hb'))
  (push_cast only [hs2])
  rw [bits_len]
  exact ⟨t,m,jP ns F0,rfl,s2 _ _ e1,tl,m5,nt,fun H3 s3=>q H3 ((s1.trans s2).trans s3)⟩
def Odd (F m:Nat)(ws:List Int):Prop:=¬ (uP (jP ws F) m∧uO (jP ws F) m)
abbrev TW:=Addr × List Int
def WL (H:Hp)(m:Nat)(ts:List TW):Prop:=∀ r ∈ ts,H r.1=some (.tup (r.2.map V.int))∧r.2.length=2 ^ m
def iP (ts:List TW):List V:=ts.map fun r=>V.ref r.1
def sp_fs:Sp:=fun vs H Q _=>∃ (t b w:Addr) (ts:List TW) (F m:Nat),vs=[.ref t]∧H t=some (.tup [.ref b,.ref w])∧H b=some (.tup ((bitsL F m).map V.int))∧H w=some (.tup (iP ts))∧WL H m ts∧m ≤ 5∧F < 2 ^ m∧(∀ r ∈ ts,¬ Odd F m r.2)∧∀ (H':Hp),Same H H'→Q .non H'
def FSI (t b w:Addr)(G:Hp)(i:Nat)(σ:St)(H:Hp):Prop:=∃ v3 v4:Option V,σ=[some (.ref t),some (.ref b),some (.ref w),v3,v4]∧Same G H
theorem yD:FnScope ["town", "sides", "wants", "hand", "want"] ["town"] (qE s_first_strange):=⟨rfl,rfl,rfl,by decide +kernel,rfl,by decide +kernel,by decide +kernel⟩
theorem ok_fs (F:Fun K "first_strange" "first_strange" s_first_strange f fd) (hm:mg "first_strange" = some (.ref f)) (hb:Binds K fd ["town"] []) (T:Txt mg) (c_breaking:Cal P w K mg base "breaking" ["want", "sides"] 5 fF):Cal P w K mg base "first_strange" ["town"] 6 sp_fs:=by
 refine q0 F hm hb yD (fun vs H Q E h=>?_) (fun cdv A outer s H vs Q E hr h=>?_)
 ·obtain ⟨_,_,_,_,_,_,rfl,_⟩:=h;rfl
 ·obtain ⟨t,b,w0,ts,F0,m,rfl,ht,hb',hw,wl,m5,hF,no,q⟩:=h
  have sc:=yD
  refine ⟨_,kE (zY (pv 0) (kU (n:=2) rfl (qU (qM (i:=1) sc.nd rfl (Or.inl rfl)) (qU (qM (i:=2) sc.nd rfl (Or.inl rfl)) kT))))
   (kE (jO AA rfl (g7 rfl T.enumerate_ (qA (pv 2) qD)) (kU (n:=2) rfl (qU (qM (i:=3) sc.nd rfl (Or.inl rfl)) (qU (qM (i:=4) sc.nd rfl (Or.inl rfl)) kT)))
    (qI (zD (q5 nA (qJ c_breaking hr (qA (pv 4) (qA (pv 1) qD))) jX (qZ _)) (qI (qS (pv 3))) jB)))
   (qI (qS jX))),?_⟩
  rw [show L2.start ["town", "sides", "wants", "hand", "want"] [.ref t] = [some (.ref t),none,none,none,none] from rfl]
  (push_cast only [ht])
  refine ⟨_,_,.inr ⟨rfl,hw⟩,?_⟩
  refine nK (FSI t b w0 H) ⟨_,_,rfl,Same.refl _⟩ (fun i σ H' ⟨_,_,_,s⟩=>.inr ⟨rfl,s _ _ hw⟩) ?_ ?_
  ·rintro i v T' σ H2 H3 hv ⟨v3,v4,rfl,s2⟩ nT s3 e3
   unfold iP at hv
   rw [Ag] at hv
   obtain ⟨r,hr',rfl⟩:=Aj.mp hv
   have hm':=Ap hr'
   have s13:=s2.trans s3
   obtain ⟨er,lr⟩:=wl r hm'
   obtain ⟨np,nt⟩:=Classical.not_not.mp (no r hm')
   (push_cast only [e3])
   refine ⟨r.1,b,r.2,F0,m,rfl,s13 _ _ er,s13 _ _ hb',m5,hF,lr,np,nt,fun H4 s4=>?_⟩
   (push_cast only [])
   exact ⟨_,_,rfl,s13.trans s4⟩
  ·rintro σ H2 ⟨v3,v4,rfl,s2⟩
   (push_cast only [])
   exact q _ s2
theorem zI {h i j k t:Nat}(hh:h < 32)(hi:i < 5)(hj:j < 5)(ht:t < 5)(ij:i ≠ j)(bi:qC h i=false)(bj:qC h j=false):(h ||| 2 ^ i)=h ^^^ 2 ^ i∧(h ||| 2 ^ i ||| 2 ^ j)=h ^^^ 2 ^ i ^^^ 2 ^ j∧qC (h ^^^ 2 ^ i ^^^ 2 ^ j) t=(qC h t || decide (t=i) || decide (t=j))∧qC (h ^^^ 2 ^ i) t=(qC h t || decide (t=i)):=by
 have key:∀ (h:_root_.Fin 32) (i j t:_root_.Fin 5),i.val ≠ j.val→qC h.val i.val=false→qC h.val j.val=false→(h.val ||| 2 ^ i.val)=h.val ^^^ 2 ^ i.val∧(h.val ||| 2 ^ i.val ||| 2 ^ j.val)=h.val ^^^ 2 ^ i.val ^^^ 2 ^ j.val∧qC (h.val ^^^ 2 ^ i.val ^^^ 2 ^ j.val) t.val=(qC h.val t.val || decide (t.val=i.val) || decide (t.val=j.val))∧qC (h.val ^^^ 2 ^ i.val) t.val=(qC h.val t.val || decide (t.val=i.val)):=by decide +kernel
 exact key ⟨h,hh⟩ ⟨i,hi⟩ ⟨j,hj⟩ ⟨t,ht⟩ ij bi bj
theorem yK (a b:Nat):a ^^^ b ^^^ b=a:=by rw [C7,Nat.xor_self,Cz]
theorem ext_odd {ws:List Int}{F m:Nat}(m5:m ≤ 5)(hF:F < 2 ^ m)(wl:ws.length=2 ^ m)(ex:fV (fun h=>ws.getD h 0) m F):¬ Odd F m ws:=by
 have p32:=kW m5
 have ex':∀ A B i,A < 2 ^ m→B < 2 ^ m→i < m→qC A i=true→qC B i=false→(jP ws F).getD A 0 + (jP ws F).getD B 0 ≤ (jP ws F).getD (A ^^^ 2 ^ i) 0 + (jP ws F).getD (B ^^^ 2 ^ i) 0∨∃ j,j < m∧qC B j=true∧qC A j=false∧(jP ws F).getD A 0 + (jP ws F).getD B 0 ≤ (jP ws F).getD (A ^^^ 2 ^ i ^^^ 2 ^ j) 0 + (jP ws F).getD (B ^^^ 2 ^ i ^^^ 2 ^ j) 0:=fun A B i hA hB hi ai bi=>by
  have at':∀ h,h < 2 ^ m→(jP ws F).getD h 0=ws.getD (h ^^^ F) 0:=fun h hh=>turn_at (by omega)
  have xA:=BG hA hF
  have xB:=BG hB hF
  have A1:=kK m5 hA hi
  have B1:=kK m5 hB hi
  rw [at' A hA,at' B hB,at' _ A1,at' _ B1]
  rcases ex (A ^^^ F) (B ^^^ F) i xA xB hi (by rw [yK];exact ai) (by rw [yK];exact bi) with le | ⟨j,hj,bj,aj,le⟩
  ·exact .inl (by rw [jK A _ F,jK B _ F];exact le)
  ·rw [yK] at bj aj
   refine .inr ⟨j,hj,bj,aj,?_⟩
   rw [at' _ (kK m5 A1 hj),at' _ (kK m5 B1 hj),jK (A ^^^ 2 ^ i) _ F,jK (B ^^^ 2 ^ i) _ F,jK A _ F,jK B _ F]
   exact le
 clear ex
 intro od
 have od':¬ (uP (jP ws F) m∧uO (jP ws F) m):=od
 clear od
 revert ex' od'
 generalize jP ws F=us
 intro ex' od
 refine od ⟨fun h i j ⟨h1,h2,h3,h4,h5⟩ pb=>?_,fun h i j k ⟨⟨h1,h2,h3,h4,h5⟩,k1,k2,k3,k4⟩ tb=>?_⟩
 ·obtain ⟨e1,e2,e3,_⟩:=zI (t:=i) (k:=0) (show h < 32 by omega) (show i < 5 by omega) (show j < 5 by omega) (by omega) (by omega) h4 h5
  have f1:=(zI (t:=i) (k:=0) (show h < 32 by omega) (show j < 5 by omega) (show i < 5 by omega) (by omega) (by omega) h5 h4).1
  unfold PB at pb
  rw [e2,e1,f1] at pb
  have A1:=kK m5 h1 (show i < m by omega)
  rcases ex' (h ^^^ 2 ^ i ^^^ 2 ^ j) h i (kK m5 A1 h3) h1 (by omega) (by rw [e3];simp) h4 with le | ⟨t,ht,bt,at',_⟩
  ·rw [jK h (2 ^ i) (2 ^ j),yK] at le
   rw [jK h (2 ^ i) (2 ^ j)] at pb
   omega
  ·obtain ⟨_,_,e4,_⟩:=zI (t:=t) (k:=0) (show h < 32 by omega) (show i < 5 by omega) (show j < 5 by omega) (by omega) (by omega) h4 h5
   rw [e4,bt] at at'
   cases at'
 ·have kk:k < 5:=by omega
  obtain ⟨e1,e2,e3,_⟩:=zI (t:=i) (k:=0) (show h < 32 by omega) (show i < 5 by omega) (show j < 5 by omega) (by omega) (by omega) h4 h5
  obtain ⟨f1,f2,_,_⟩:=zI (t:=i) (k:=0) (show h < 32 by omega) (show j < 5 by omega) kk (by omega) (fun z=>k4 z.symm) h5 k2
  obtain ⟨g1,_,_,g4⟩:=zI (t:=i) (k:=0) (show h < 32 by omega) kk (show i < 5 by omega) (by omega) k3 k2 h4
  have g2:=(zI (t:=i) (k:=0) (show h < 32 by omega) (show i < 5 by omega) kk (by omega) (fun z=>k3 z.symm) h4 k2).2.1
  unfold TB PT at tb
  rw [e2,g2,f2,e1,f1,g1] at tb
  have A1:=kK m5 h1 (show i < m by omega)
  have K1:=kK m5 h1 k1
  rcases ex' (h ^^^ 2 ^ i ^^^ 2 ^ j) (h ^^^ 2 ^ k) i (kK m5 A1 h3) K1 (by omega) (by rw [e3];simp) (by rw [g4,h4,Al (fun z=>k3 z.symm)];rfl) with le | ⟨t,ht,bt,at',le⟩
  ·rw [jK h (2 ^ i) (2 ^ j),yK,jK h (2 ^ k) (2 ^ i)] at le
   rw [jK h (2 ^ i) (2 ^ j)] at tb
   omega
  ·obtain ⟨_,_,e4,_⟩:=zI (t:=t) (k:=0) (show h < 32 by omega) (show i < 5 by omega) (show j < 5 by omega) (by omega) (by omega) h4 h5
   obtain ⟨_,_,_,g5⟩:=zI (t:=t) (k:=0) (show h < 32 by omega) kk (show i < 5 by omega) (by omega) k3 k2 h4
   rw [g5] at bt
   rw [e4] at at'
   have tk:t=k:=by
    cases c:qC h t
    ·rw [c] at bt;simpa using bt
    ·rw [c] at at';simp at at'
   subst tk
   rw [jK h (2 ^ i) (2 ^ j),yK,jK h (2 ^ t) (2 ^ i),yK] at le
   rw [jK h (2 ^ i) (2 ^ j)] at tb
   omega
def dW:Sp:=fun vs H Q _=>∃ (t b w:Addr) (ts:List TW) (F m:Nat),vs=[.ref t]∧H t=some (.tup [.ref b,.ref w])∧H b=some (.tup ((bitsL F m).map V.int))∧H w=some (.tup (iP ts))∧WL H m ts∧m ≤ 5∧F < 2 ^ m∧(∀ r ∈ ts,fV (fun h=>r.2.getD h 0) m F)∧∀ H',Same H H'→Q .non H'
theorem zM:FnScope ["town", "hand"] ["town"] (qE s_refuse_strange):=⟨rfl,rfl,rfl,by decide +kernel,rfl,by decide +kernel,by decide +kernel⟩
theorem ok_refuse (F:Fun K "refuse_strange" "refuse_strange" s_refuse_strange f fd) (hm:mg "refuse_strange" = some (.ref f)) (hb:Binds K fd ["town"] []) (T:Txt mg) (c_first_strange:Cal P w K mg base "first_strange" ["town"] 6 sp_fs):Cal P w K mg base "refuse_strange" ["town"] 7 dW:=by
 refine q0 F hm hb zM (fun vs H Q E h=>?_) (fun cdv A outer s H vs Q E hr h=>?_)
 ·obtain ⟨_,_,_,_,_,_,rfl,_⟩:=h;rfl
 ·obtain ⟨t,b,w0,ts,F0,m,rfl,ht,hb',hw,wl,m5,hF,ex,q⟩:=h
  have sc:=zM
  refine ⟨_,qK (qY (i:=1) sc.nd rfl (Or.inl rfl) (qJ c_first_strange hr (qA (pv 0) qD)))
   (qI (zD (q5 nA (pv 1) jX (qZ _)) (qI iZ) jB)),?_⟩
  rw [show L2.start ["town", "hand"] [.ref t] = [some (.ref t),none] from rfl]
  (push_cast only [])
  refine ⟨t,b,w0,ts,F0,m,rfl,ht,hb',hw,wl,m5,hF,(fun r hr=>ext_odd m5 hF (wl r hr).2 (ex r hr)),fun H1 s1=>?_⟩
  (push_cast only [])
  (simp only [qL])
  (push_cast only [])
  exact q H1 s1
end
end S
section
variable {P:Program}{w:World}{K:PySem.W.Frag}{mg:Str→Option Value}{base:Heap}{f:Addr}{fd:FuncData}
def qX (ps:List Int)(F hp:Nat):List Int:=(List.range ps.length).map fun t=>if qC hp t=true then ps.getD t 0 + (if qC F t=true then -1 else 1) else ps.getD t 0
theorem jA (ps:List Int)(F hp:Nat):(qX ps F hp).length=ps.length:=by unfold qX;simp
theorem step_at {ps:List Int}{F hp t:Nat}(h:t < ps.length):(qX ps F hp)[t]? = some (if qC hp t=true then ps.getD t 0 + (if qC F t=true then -1 else 1) else ps.getD t 0):=by
 unfold qX
 rw [Ag,List.getElem?_range h]
 rfl
def z8 (F X h:Nat):Nat→Int
 | 0=>0
 | n + 1=>z8 F X h n + if qC X n=true∧qC h n=true then (if qC F n=true then -1 else 1) else 0
theorem hJ {ps:List Int}{F X h:Nat}:∀ n,n ≤ ps.length→kJ (qX ps F X) h n=kJ ps h n + z8 F X h n
 | 0,_=>rfl
 | n + 1,hn=>by
  have ih:=hJ (ps:=ps) (F:=F) (X:=X) (h:=h) n (by omega)
  have e:(qX ps F X).getD n 0=if qC X n=true then ps.getD n 0 + (if qC F n=true then -1 else 1) else ps.getD n 0:=by
   rw [Ab,step_at (by omega)]
   rfl
  show kJ (qX ps F X) h n + (if qC h n=true then (qX ps F X).getD n 0 else 0)=kJ ps h n + (if qC h n=true then ps.getD n 0 else 0) + (z8 F X h n + if qC X n=true∧qC h n=true then (if qC F n=true then -1 else 1) else 0)
  rw [ih,e]
  cases qC h n <;> cases qC X n <;> cases qC F n <;> simp <;> omega
theorem wF {F X h t:Nat}(hh:h < 32)(hF:F < 32)(ht:t < 5):∀ n,n ≤ 5→z8 F X (h ^^^ 2 ^ t) n=z8 F X h n + if t < n∧qC X t=true then (if qC (h ^^^ F) t=true then -1 else 1) else 0
 | 0,_=>by simp [z8]
 | n + 1,hn=>by
  have ih:=wF (X:=X) hh hF ht n (by omega)
  have x:=(kG hh ht (show n < 5 by omega)).1
  have y:=dP hh hF ht
  show z8 F X (h ^^^ 2 ^ t) n + (if qC X n=true∧qC (h ^^^ 2 ^ t) n=true then (if qC F n=true then -1 else 1) else 0)=z8 F X h n + (if qC X n=true∧qC h n=true then (if qC F n=true then -1 else 1) else 0) + if t < n + 1∧qC X t=true then (if qC (h ^^^ F) t=true then -1 else 1) else 0
  rw [ih,x,y]
  by_cases e:n=t
  ·subst e
   cases qC h n <;> cases qC X n <;> cases qC F n <;> simp <;> omega
  ·rw [Al e,show (qC h n != false)=qC h n by cases qC h n <;> rfl]
   have c:(t < n + 1∧qC X t=true) ↔ (t < n∧qC X t=true):=by
    constructor
    ·rintro ⟨a,b⟩;exact ⟨by omega,b⟩
    ·rintro ⟨a,b⟩;exact ⟨by omega,b⟩
   simp only [c]
   omega
theorem tH {F X S T:Nat}(hS:S < 32)(hT:T < 32)(hF:F < 32):∀ n,n ≤ 5→z8 F X S n < z8 F X T n→∃ x,x < n∧qC X x=true∧qC (T ^^^ F) x=true∧qC (S ^^^ F) x=false
 | 0,_,h=>absurd h (by simp [z8])
 | n + 1,hn,h=>by
  by_cases c:z8 F X S n < z8 F X T n
  ·obtain ⟨x,x1,x2⟩:=tH hS hT hF n (by omega) c
   exact ⟨x,by omega,x2⟩
  ·have h':z8 F X S n + (if qC X n=true∧qC S n=true then (if qC F n=true then -1 else 1) else 0) < z8 F X T n + (if qC X n=true∧qC T n=true then (if qC F n=true then -1 else 1) else 0):=h
   have y:=dP hS hF (show n < 5 by omega)
   have z:=dP hT hF (show n < 5 by omega)
   refine ⟨n,by omega,?_,?_,?_⟩
   ·cases e:qC X n with
    | true=>rfl
    | false=>rw [e] at h';simp at h';omega
   ·rw [z]
    revert h'
    cases qC S n <;> cases qC T n <;> cases qC F n <;> cases qC X n <;> simp <;> omega
   ·rw [y]
    revert h'
    cases qC S n <;> cases qC T n <;> cases qC F n <;> cases qC X n <;> simp <;> omega
theorem bJ (P:Nat→Prop)(k:Nat→Int):∀ n,(∃ a,a < n∧P a)→∃ a,a < n∧P a∧∀ b,b < n→P b→k b ≤ k a
 | 0,h=>by obtain ⟨a,z,_⟩:=h;omega
 | n + 1,h=>by
  by_cases c:∃ a,a < n∧P a
  ·obtain ⟨a,a1,a2,a3⟩:=bJ P k n c
   by_cases d:P n∧k a < k n
   ·refine ⟨n,by omega,d.1,fun b hb pb=>?_⟩
    by_cases e:b=n
    ·rw [e];exact AV _
    ·have:=a3 b (by omega) pb;omega
   ·refine ⟨a,by omega,a2,fun b hb pb=>?_⟩
    by_cases e:b=n
    ·subst e
     by_cases f:k a < k b
     ·exact absurd ⟨pb,f⟩ d
     ·omega
    ·exact a3 b (by omega) pb
  ·obtain ⟨a,a1,a2⟩:=h
   have e:a=n:=by
    by_cases e:a=n
    ·exact e
    ·exact absurd ⟨a,by omega,a2⟩ c
   subst e
   refine ⟨a,a1,a2,fun b hb pb=>?_⟩
   by_cases e:b=a
   ·rw [e];exact AV _
   ·exact absurd ⟨b,by omega,pb⟩ c
def dist (a b:Nat):Nat:=(a ^^^ b) % 2 + (a ^^^ b) / 2 % 2 + (a ^^^ b) / 4 % 2 + (a ^^^ b) / 8 % 2 + (a ^^^ b) / 16 % 2
theorem pK {T S x:Nat}(hT:T < 32)(hS:S < 32)(hx:x < 5)(n:qC T x ≠ qC S x):dist (T ^^^ 2 ^ x) S < dist T S:=by
 have key:∀ (T S:_root_.Fin 32) (x:_root_.Fin 5),qC T.val x.val ≠ qC S.val x.val→dist (T.val ^^^ 2 ^ x.val) S.val < dist T.val S.val:=by decide +kernel
 exact key ⟨T,hT⟩ ⟨S,hS⟩ ⟨x,hx⟩ n
theorem uI {A B F t:Nat}(hA:A < 32)(hB:B < 32)(hF:F < 32)(ht:t < 5)(h:qC (A ^^^ F) t ≠ qC (B ^^^ F) t):qC A t ≠ qC B t:=fun z=>h (by rw [dP hA hF ht,dP hB hF ht,z])
theorem sG {f:Nat→Int}{m F X T0:Nat}(m5:m ≤ 5)(hF:F < 2 ^ m)(ex:fV f m F)(hT:T0 < 2 ^ m)(top:∀ S,S < 2 ^ m→f S ≤ f T0)(least:∀ T,T < 2 ^ m→f T=f T0→z8 F X T0 m ≤ z8 F X T m):∀ S,S < 2 ^ m→f S - z8 F X S m ≤ f T0 - z8 F X T0 m:=by
 have p32:2 ^ m ≤ 2 ^ 5:=Ay (by decide) m5
 obtain ⟨S1,s1,_,s1t⟩:=bJ (fun _=>True) (fun S=>f S - z8 F X S m) (2 ^ m) ⟨T0,hT,trivial⟩
 obtain ⟨S,sl,su,sf⟩:=bJ (fun S=>f S - z8 F X S m=f S1 - z8 F X S1 m) f (2 ^ m) ⟨S1,s1,rfl⟩
 have su':f S - z8 F X S m=f S1 - z8 F X S1 m:=su
 have st:∀ Y,Y < 2 ^ m→f Y - z8 F X Y m ≤ f S - z8 F X S m:=fun Y hY=>by
  have:f Y - z8 F X Y m ≤ f S1 - z8 F X S1 m:=s1t Y hY trivial
  omega
 suffices h:f S - z8 F X S m ≤ f T0 - z8 F X T0 m from fun Y hY=>by have:=st Y hY;omega
 refine Classical.byContradiction fun bad=>?_
 obtain ⟨T,tl,⟨tv,tk⟩,tn⟩:=bJ (fun T=>f T=f T0∧z8 F X T m=z8 F X T0 m) (fun T=>-(dist T S:Int)) (2 ^ m) ⟨T0,hT,rfl,rfl⟩
 have fS:f S ≤ f T0:=top S sl
 have ne:f S ≠ f T0:=fun z=>by have:=least S sl z;omega
 obtain ⟨x,xm,xX,xT,xS⟩:=tH (F:=F) (X:=X) (show S < 32 by omega) (show T < 32 by omega) (show F < 32 by omega) m m5 (by omega)
 have x5:x < 5:=by omega
 have tT:=wF (F:=F) (X:=X) (show T < 32 by omega) (show F < 32 by omega) x5 m m5
 have tS:=wF (F:=F) (X:=X) (show S < 32 by omega) (show F < 32 by omega) x5 m m5
 rw [As ⟨xm,xX⟩,As xT] at tT
 rw [As ⟨xm,xX⟩,xS,Au (by decide)] at tS
 have lT:=kK m5 tl xm
 have lS:=kK m5 sl xm
 rcases ex T S x tl sl xm xT xS with le | ⟨y,ym,yS,yT,le⟩
 ·have a:=st _ lS
  have b:=top _ lT
  by_cases c:f (T ^^^ 2 ^ x)=f T0
  ·have:=least _ lT c
   omega
  ·have g:=sf (S ^^^ 2 ^ x) lS (show f (S ^^^ 2 ^ x) - z8 F X (S ^^^ 2 ^ x) m=f S1 - z8 F X S1 m by omega)
   omega
 ·have y5:y < 5:=by omega
  have yx:y ≠ x:=fun z=>by rw [z,xS] at yS;cases yS
  have uT:=wF (F:=F) (X:=X) (show T ^^^ 2 ^ x < 32 by omega) (show F < 32 by omega) y5 m m5
  have uS:=wF (F:=F) (X:=X) (show S ^^^ 2 ^ x < 32 by omega) (show F < 32 by omega) y5 m m5
  have bT:qC (T ^^^ 2 ^ x ^^^ F) y=false:=by rw [mN (by omega) (by omega) x5 y5,yT,Al yx];rfl
  have bS:qC (S ^^^ 2 ^ x ^^^ F) y=true:=by rw [mN (by omega) (by omega) x5 y5,yS,Al yx];rfl
  have lT2:=kK m5 lT ym
  have lS2:=kK m5 lS ym
  have a:=st _ lS2
  have b:=top _ lT2
  cases yX:qC X y with
  | true =>
   rw [As ⟨ym,yX⟩,bT,Au (by decide)] at uT
   rw [As ⟨ym,yX⟩,As bS] at uS
   have d1:=pK (show T < 32 by omega) (show S < 32 by omega) x5 (uI (F:=F) (by omega) (by omega) (by omega) x5 (by rw [xT,xS];decide))
   have d2:=pK (show T ^^^ 2 ^ x < 32 by omega) (show S < 32 by omega) y5 (uI (F:=F) (by omega) (by omega) (by omega) y5 (by rw [bT,yS];decide))
   have g:=tn (T ^^^ 2 ^ x ^^^ 2 ^ y) lT2 ⟨by omega,by omega⟩
   have g' : -(dist (T ^^^ 2 ^ x ^^^ 2 ^ y) S:Int) ≤ -(dist T S:Int):=g
   clear uT uS tT tS lT lS lT2 lS2 a b le xm ym hT hF m5 p32 sl tl s1 x5 y5 yx su su' fS ne tv tk bad g
   omega
  | false =>
   rw [Au (fun z=>by rw [yX] at z;cases z.2)] at uT uS
   by_cases c:f (T ^^^ 2 ^ x ^^^ 2 ^ y)=f T0
   ·have:=least _ lT2 c
    omega
   ·have g:=sf (S ^^^ 2 ^ x ^^^ 2 ^ y) lS2 (show f (S ^^^ 2 ^ x ^^^ 2 ^ y) - z8 F X (S ^^^ 2 ^ x ^^^ 2 ^ y) m=f S1 - z8 F X S1 m by omega)
    omega
def oS (u:Nat→Int):Nat→Int
 | 0=>u 0
 | n + 1=>max (oS u n) (u (n + 1))
theorem bB (u:Nat→Int):∀ {n k},k ≤ n→u k ≤ oS u n
 | 0,k,h=>by rw [show k=0 by omega];exact AV _
 | n + 1,k,h=>by
  show u k ≤ max (oS u n) (u (n + 1))
  by_cases e:k=n + 1
  ·rw [e];omega
  ·have:=bB u (show k ≤ n by omega);omega
theorem wZ (u:Nat→Int):∀ n,∃ k,k ≤ n∧oS u n=u k
 | 0=>⟨0,Ad _,rfl⟩
 | n + 1=>by
  obtain ⟨k,k1,k2⟩:=wZ u n
  by_cases c:oS u n ≤ u (n + 1)
  ·exact ⟨n + 1,Ad _,by show max _ _=_;omega⟩
  ·exact ⟨k,by omega,by show max _ _=_;omega⟩
theorem mxf_is {u:Nat→Int}{n k:Nat}(hk:k ≤ n)(top:∀ j,j ≤ n→u j ≤ u k):oS u n=u k:=by
 obtain ⟨j,j1,j2⟩:=wZ u n
 have:=top j j1
 have:=bB u hk
 omega
theorem cS {u v:Nat→Int}:∀ {n},(∀ k,k ≤ n→u k=v k)→oS u n=oS v n
 | 0,h=>h 0 (Ad _)
 | n + 1,h=>by
  show max _ _=max _ _
  rw [cS fun k hk=>h k (by omega),h (n + 1) (Ad _)]
def upX (f:Nat→Int)(m F X:Nat):Int:=oS (fun h=>f h - z8 F X h m) (2 ^ m - 1)
def fmin (s:Nat→Int)(al:Nat→Bool):Nat→Nat
 | 0=>0
 | n + 1=>if al n=true∧s n < s (fmin s al n) then n else fmin s al n
theorem yH {s:Nat→Int}{al:Nat→Bool}(a0:al 0=true):∀ n,al (fmin s al n)=true∧(fmin s al n=0∨fmin s al n < n)∧∀ Y,Y < n→al Y=true→s (fmin s al n) < s Y∨(s (fmin s al n)=s Y∧fmin s al n ≤ Y)
 | 0=>⟨a0,.inl rfl,fun Y h=>by omega⟩
 | n + 1=>by
  obtain ⟨i1,i2,i3⟩:=yH (s:=s) a0 n
  show al (if al n=true∧s n < s (fmin s al n) then n else fmin s al n)=true∧_
  have e:fmin s al (n + 1)=if al n=true∧s n < s (fmin s al n) then n else fmin s al n:=rfl
  rw [e]
  by_cases c:al n=true∧s n < s (fmin s al n)
  ·rw [As c]
   refine ⟨c.1,.inr (AS n),fun Y hY aY=>?_⟩
   by_cases z:Y=n
   ·rw [z];exact .inr ⟨rfl,Ad _⟩
   ·rcases i3 Y (by omega) aY with h | h
    ·exact .inl (by omega)
    ·exact .inl (by omega)
  ·rw [Au c]
   refine ⟨i1,i2.imp id (by omega),fun Y hY aY=>?_⟩
   by_cases z:Y=n
   ·subst z
    by_cases d:s Y < s (fmin s al Y)
    ·exact absurd ⟨aY,d⟩ c
    ·rcases i2 with h | h
     ·by_cases q:s (fmin s al Y) < s Y
      ·exact .inl q
      ·exact .inr ⟨by omega,by omega⟩
     ·by_cases q:s (fmin s al Y) < s Y
      ·exact .inl q
      ·exact .inr ⟨by omega,by omega⟩
   ·exact i3 Y (by omega) aY
theorem bH {s s':Nat→Int}{al al':Nat→Bool}{c:Int}:∀ {n},(∀ Y,Y ≤ n→s Y=s' Y + c)→(∀ Y,Y < n→al Y=al' Y)→fmin s al n=fmin s' al' n
 | 0,_,_=>rfl
 | n + 1,hs,ha=>by
  have ih:=bH (n:=n) (fun Y hY=>hs Y (by omega)) (fun Y hY=>ha Y (by omega))
  have l:∀ n,fmin s' al' n ≤ n:=fun n=>by
   induction n with
   | zero=>exact Ad _
   | succ n ih=>show (if _ then n else _) ≤ n + 1;split <;> omega
  show (if _ then n else _)=if _ then n else _
  rw [ih,ha n (by omega)]
  have e1:=hs n (by omega)
  have e2:=hs (fmin s' al' n) (by have:=l n;omega)
  have e:(s n < s (fmin s' al' n)) ↔ (s' n < s' (fmin s' al' n)):=by omega
  simp only [e]
theorem aW {s:Nat→Int}{al:Nat→Bool}(a0:al 0=true){n b:Nat}(n0:0 < n)(hb:b < n)(ab:al b=true)(h:∀ Y,Y < n→al Y=true→s b < s Y∨(s b=s Y∧b ≤ Y)):b=fmin s al n:=by
 obtain ⟨i1,i2,i3⟩:=yH (s:=s) a0 n
 have l:fmin s al n < n:=by omega
 have h1:=h _ l i1
 have h2:=i3 b hb ab
 omega
def gN (ws ps:List Int)(h:Nat):Int:=ws.getD h 0 - kJ ps h ps.length
def jL (ws ps:List Int):Int:=oS (gN ws ps) (2 ^ ps.length - 1)
def jG (ts:List (List Int))(ps:List Int):Int:=(ts.map fun ws=>jL ws ps).sum + ps.sum
theorem uW {ws ps:List Int}{F X:Nat}:jL ws (qX ps F X)=upX (gN ws ps) ps.length F X:=by
 unfold jL upX
 rw [jA]
 refine cS fun h _=>?_
 unfold gN
 rw [jA,hJ _ (Ad _)]
 omega
theorem full_on {m t:Nat}(m5:m ≤ 5)(ht:t < m):qC (2 ^ m - 1) t=true:=by
 have key:∀ (m:_root_.Fin 6) (t:_root_.Fin 5),t.val < m.val→qC (2 ^ m.val - 1) t.val=true:=by decide +kernel
 exact key ⟨m,by omega⟩ ⟨t,by omega⟩ ht
theorem fY:∀ (ps:List Int) (h n:Nat),(∀ t,t < n→qC h t=true)→kJ ps h n=(ps.take n).sum
 | ps,h,0,_=>by simp [kJ]
 | ps,h,n + 1,b=>by
  show kJ ps h n + (if qC h n=true then ps.getD n 0 else 0)=_
  rw [fY ps h n (fun t ht=>b t (by omega)),As (b n (by omega)),A6,BX]
  congr 1
  rw [Ab]
  cases ps[n]? <;> simp
theorem lA {ps:List Int}{F X:Nat}(p5:ps.length ≤ 5):(qX ps F X).sum=ps.sum + z8 F X (2 ^ ps.length - 1) ps.length:=by
 have on:=fun t (ht:t < ps.length)=>full_on p5 ht
 have a:=fY (qX ps F X) (2 ^ ps.length - 1) ps.length on
 have b:=fY ps (2 ^ ps.length - 1) ps.length on
 rw [AG (by rw [jA];exact Ad _)] at a
 rw [AG (Ad _)] at b
 rw [← a,← b,hJ _ (Ad _)]
def Kinds (ts:List (List Int))(m F:Nat):Prop:=∀ ws ∈ ts,fV (fun h=>ws.getD h 0) m F
theorem o9 {ws ps:List Int}{F:Nat}(p5:ps.length ≤ 5)(hF:F < 2 ^ ps.length)(ex:fV (fun h=>ws.getD h 0) ps.length F):fV (gN ws ps) ps.length F:=ext_less p5 hF ex
def j9 (F:Nat)(ps:List Int):Nat→Nat
 | 0=>0
 | n + 1=>j9 F ps n + if qC F n=true∧ps.getD n 0=0 then 2 ^ n else 0
theorem gO (F:Nat)(ps:List Int):∀ n,j9 F ps n < 2 ^ n
 | 0=>by show 0 < 1;decide
 | n + 1=>by
  have:=gO F ps n
  have e:2 ^ (n + 1)=2 ^ n + 2 ^ n:=by rw [CB];omega
  show j9 F ps n + (if qC F n=true∧ps.getD n 0=0 then 2 ^ n else 0) < 2 ^ (n + 1)
  rw [e]
  have pp:=AE n
  revert this pp
  generalize 2 ^ n=q
  intro this pp
  split <;> omega
theorem bZ (F:Nat)(ps:List Int):∀ k,k ≤ 5→∀ t,t < 5→(qC (j9 F ps k) t=true ↔ t < k∧qC F t=true∧ps.getD t 0=0)
 | 0,_,t,ht=>by
  show qC 0 t=true ↔ _
  unfold qC
  simp
 | k + 1,hk,t,ht=>by
  have ih:=bZ F ps k (by omega) t ht
  have lt:=gO F ps k
  have p:2 ^ k ≤ 2 ^ 4:=Ay (by decide) (by omega)
  have key:∀ (x:_root_.Fin 32) (k t:_root_.Fin 5),x.val < 2 ^ k.val→qC (x.val + 2 ^ k.val) t.val=(if t.val=k.val then true else qC x.val t.val)∧qC x.val k.val=false:=by decide +kernel
  have kk:=key ⟨j9 F ps k,by omega⟩ ⟨k,by omega⟩ ⟨t,ht⟩ lt
  show qC (j9 F ps k + (if qC F k=true∧ps.getD k 0=0 then 2 ^ k else 0)) t=true ↔ _
  by_cases e:qC F k=true∧ps.getD k 0=0
  ·rw [As e,kk.1]
   by_cases z:t=k
   ·rw [As z,z]
    exact ⟨fun _=>⟨AS k,e⟩,fun _=>rfl⟩
   ·rw [Au z,ih]
    constructor
    ·rintro ⟨a,b⟩;exact ⟨by omega,b⟩
    ·rintro ⟨a,b⟩;exact ⟨by omega,b⟩
  ·rw [Au e,Nat.add_zero,ih]
   constructor
   ·rintro ⟨a,b⟩;exact ⟨by omega,b⟩
   ·rintro ⟨a,b⟩
    refine ⟨?_,b⟩
    by_cases z:t=k
    ·exact absurd (z ▸ b) e
    ·omega
theorem and_none {X K:Nat}(hX:X < 32)(hK:K < 32):X &&& K=0 ↔ ∀ t,t < 5→¬ (qC X t=true∧qC K t=true):=by
 have key:∀ (X K:_root_.Fin 32),X.val &&& K.val=0 ↔ ∀ t:_root_.Fin 5,¬ (qC X.val t.val=true∧qC K.val t.val=true):=by decide +kernel
 rw [key ⟨X,hX⟩ ⟨K,hK⟩]
 exact ⟨fun h t ht=>h ⟨t,ht⟩,fun h t=>h t.val t.isLt⟩
def bR (F:Nat)(ps:List Int)(X:Nat):Bool:=decide (X &&& j9 F ps ps.length=0)
def xP (ts:List (List Int))(F:Nat)(ps:List Int):Nat:=fmin (fun X=>jG ts (qX ps F X)) (bR F ps) (2 ^ ps.length)
theorem vT (F:Nat)(ps:List Int):bR F ps 0=true:=by unfold bR;simp
theorem rS (ts:List (List Int))(F:Nat)(ps:List Int):xP ts F ps < 2 ^ ps.length:=by
 have pp:=AE ps.length
 have:=(yH (s:=fun X=>jG ts (qX ps F X)) (vT F ps) (2 ^ ps.length)).2.1
 unfold xP
 omega
theorem uV (ps:List Int)(F:Nat):qX ps F 0=ps:=by
 refine List.ext_getElem? fun t=>?_
 by_cases h:t < ps.length
 ·rw [step_at h,Au (by unfold qC;simp),Ab,Ae h]
  rfl
 ·rw [List.getElem?_eq_none (by rw [jA];omega),List.getElem?_eq_none (by omega)]
theorem oQ {ts:List (List Int)}{F:Nat}{ps:List Int}(n:xP ts F ps ≠ 0):jG ts (qX ps F (xP ts F ps)) < jG ts ps:=by
 have pp:=AE ps.length
 have:=(yH (s:=fun X=>jG ts (qX ps F X)) (vT F ps) (2 ^ ps.length)).2.2 0 pp (vT F ps)
 have e:fmin (fun X=>jG ts (qX ps F X)) (bR F ps) (2 ^ ps.length)=xP ts F ps:=rfl
 rw [e] at this
 simp only [uV] at this
 omega
theorem sW {F X:Nat}{ps:List Int}(p5:ps.length ≤ 5)(hX:X < 2 ^ ps.length)(al:bR F ps X=true)(nn:∀ x ∈ ps,0 ≤ x):∀ x ∈ qX ps F X,0 ≤ x:=by
 intro x hx
 have p32:2 ^ ps.length ≤ 2 ^ 5:=Ay (by decide) p5
 have st:=gO F ps ps.length
 unfold qX at hx
 obtain ⟨t,ht,rfl⟩:=Am.mp hx
 rw [AZ] at ht
 have g:0 ≤ ps.getD t 0:=by
  rw [Ab,Ae ht]
  exact nn _ (AH ht)
 unfold bR at al
 have al':=(and_none (show X < 32 by omega) (show j9 F ps ps.length < 32 by omega)).mp (Bj al) t (by omega)
 rw [bZ F ps _ p5 t (by omega)] at al'
 split
 ·rename_i b
  split
  ·rename_i c
   have:ps.getD t 0 ≠ 0:=fun z=>al' ⟨b,ht,c,z⟩
   omega
  ·omega
 ·exact g
theorem oR (ts:List (List Int))(F:Nat)(ps:List Int):bR F ps (xP ts F ps)=true:=(yH (s:=fun X=>jG ts (qX ps F X)) (vT F ps) (2 ^ ps.length)).1
theorem rC:∀ (l:List Int),(∀ x ∈ l,0 ≤ x)→0 ≤ l.sum
 | [],_=>by simp
 | x :: l,h=>by
  have:=h x Aq
  have:=rC l fun y hy=>h y (Aw _ hy)
  rw [Bz]
  omega
theorem mJ (ps:List Int):∀ n,kJ ps 0 n=0
 | 0=>rfl
 | n + 1=>by
  show kJ ps 0 n + (if qC 0 n=true then ps.getD n 0 else 0)=0
  rw [mJ ps n,Au (by unfold qC;simp)]
  rfl
theorem surp_nn {ts:List (List Int)}{ps:List Int}(z:∀ ws ∈ ts,0 ≤ ws.getD 0 0)(nn:∀ x ∈ ps,0 ≤ x):0 ≤ jG ts ps:=by
 have h1:=rC (ts.map fun ws=>jL ws ps) (fun x hx=>by
  obtain ⟨ws,hw,rfl⟩:=Am.mp hx
  have:=bB (gN ws ps) (Bb (2 ^ ps.length - 1))
  have g:gN ws ps 0=ws.getD 0 0:=by unfold gN;rw [mJ];omega
  have:=z ws hw
  unfold jL
  omega)
 have h2:=rC ps nn
 unfold jG
 omega
def pX (ts:List (List Int))(ps qs:List Int):Prop:=∀ ws ∈ ts,∀ h,h < 2 ^ ps.length→(gN ws ps h=jL ws ps ↔ gN ws qs h=jL ws qs)
theorem up_same {ws ps qs:List Int}{F:Nat}(p5:ps.length ≤ 5)(hl:ps.length=qs.length)(hF:F < 2 ^ ps.length)(ex:fV (fun h=>ws.getD h 0) ps.length F)(bs:∀ h,h < 2 ^ ps.length→(gN ws ps h=jL ws ps ↔ gN ws qs h=jL ws qs))(X:Nat):jL ws (qX ps F X) - jL ws ps=jL ws (qX qs F X) - jL ws qs:=by
 have pp:=AE ps.length
 obtain ⟨k,k1,k2⟩:=wZ (gN ws ps) (2 ^ ps.length - 1)
 have k2':jL ws ps=gN ws ps k:=k2
 obtain ⟨T,t1,t2,t3⟩:=bJ (fun h=>gN ws ps h=jL ws ps) (fun h=>- z8 F X h ps.length) (2 ^ ps.length) ⟨k,by omega,k2'.symm⟩
 have t2':=(bs T t1).mp t2
 have one:∀ (rs:List Int),rs.length=ps.length→fV (gN ws rs) rs.length F→gN ws rs T=jL ws rs→(∀ h,h < 2 ^ ps.length→(gN ws rs h=jL ws rs→gN ws ps h=jL ws ps))→jL ws (qX rs F X)=jL ws rs - z8 F X T ps.length:=fun rs hr er tr br=>by
  rw [uW]
  have top:∀ S,S < 2 ^ rs.length→gN ws rs S ≤ gN ws rs T:=fun S hS=>by
   rw [tr]
   exact bB (gN ws rs) (show S ≤ 2 ^ rs.length - 1 by omega)
  have bm:=sG (X:=X) (by omega) (by rw [hr];exact hF) er (by rw [hr];exact t1) top (fun S hS e=>by
   have:=t3 S (by rw [← hr];exact hS) (br S (by rw [← hr];exact hS) (by omega))
   rw [hr]
   omega)
  have e:=mxf_is (u:=fun h=>gN ws rs h - z8 F X h rs.length) (n:=2 ^ rs.length - 1) (k:=T) (by rw [hr];omega) (fun j hj=>bm j (by rw [hr] at hj ⊢;omega))
  unfold upX
  rw [e,tr,hr]
 have a:=one ps rfl (o9 p5 hF ex) t2 (fun _ _ e=>e)
 have b:=one qs hl.symm (by rw [← hl];exact (hl ▸ o9 (ws:=ws) (ps:=qs) (F:=F) (by omega) (by rw [← hl];exact hF) (by rw [← hl];exact ex))) t2' (fun h hh e=>(bs h hh).mpr e)
 omega
theorem oP {ts:List (List Int)}{F:Nat}{ps qs:List Int}(p5:ps.length ≤ 5)(hl:ps.length=qs.length)(hF:F < 2 ^ ps.length)(kd:Kinds ts ps.length F)(bs:pX ts ps qs)(al:∀ X,X < 2 ^ ps.length→bR F ps X=bR F qs X):xP ts F ps=xP ts F qs:=by
 unfold xP
 rw [← hl]
 refine bH (c:=jG ts ps - jG ts qs) (fun X _=>?_) al
 have g:∀ l:List (List Int),(∀ ws ∈ l,ws ∈ ts)→(l.map fun ws=>jL ws (qX ps F X)).sum - (l.map fun ws=>jL ws ps).sum=(l.map fun ws=>jL ws (qX qs F X)).sum - (l.map fun ws=>jL ws qs).sum:=by
  intro l
  induction l with
  | nil=>intro _;rfl
  | cons ws l ih =>
   intro h
   have a:=ih fun x hx=>h x (Aw _ hx)
   have hw:=h ws Aq
   have b:=up_same p5 hl hF (kd ws hw) (bs ws hw) X
   simp only [AK,Bz]
   omega
 have a:=g ts (fun _ h=>h)
 have b:=lA (F:=F) (X:=X) p5
 have c:=lA (ps:=qs) (F:=F) (X:=X) (by omega)
 rw [← hl] at c
 show jG ts (qX ps F X)=jG ts (qX qs F X) + (jG ts ps - jG ts qs)
 unfold jG
 omega
def jZ (ts:List (List Int))(F:Nat):Nat→List Int→List Nat × List Int
 | 0,ps=>([],ps)
 | n + 1,ps=>if xP ts F ps=0 then ([],ps) else (xP ts F ps :: (jZ ts F n (qX ps F (xP ts F ps))).1,(jZ ts F n (qX ps F (xP ts F ps))).2)
theorem mW {ts:List (List Int)}{F n:Nat}{ps:List Int}(h:xP ts F ps=0):jZ ts F n ps=([],ps):=by
 cases n with
 | zero=>rfl
 | succ n=>show (if _ then _ else _)=_;rw [As h]
theorem iM {ts:List (List Int)}{F n:Nat}{ps:List Int}(z:∀ ws ∈ ts,0 ≤ ws.getD 0 0)(p5:ps.length ≤ 5)(nn:∀ x ∈ ps,0 ≤ x)(sn:jG ts ps ≤ (n:Int))(h:xP ts F ps ≠ 0):∃ k,n=k + 1∧jG ts (qX ps F (xP ts F ps)) ≤ (k:Int)∧(∀ x ∈ qX ps F (xP ts F ps),0 ≤ x)∧jZ ts F n ps=(xP ts F ps :: (jZ ts F k (qX ps F (xP ts F ps))).1,(jZ ts F k (qX ps F (xP ts F ps))).2):=by
 have l:=oQ h
 have nn':=sW p5 (rS ts F ps) (oR ts F ps) nn
 have g:=surp_nn z nn'
 cases n with
 | zero=>omega
 | succ k=>exact ⟨k,rfl,by omega,nn',by show (if _ then _ else _)=_;rw [Au h]⟩
theorem mQ {ps:List Int}{F X:Nat}{c:Int}(h:∀ x ∈ ps,x ≤ c):∀ x ∈ qX ps F X,x ≤ c + 1:=fun x hx=>by
 unfold qX at hx
 obtain ⟨t,ht,rfl⟩:=Am.mp hx
 rw [AZ] at ht
 have g:ps.getD t 0 ≤ c:=by
  rw [Ab,Ae ht]
  exact h _ (AH ht)
 split
 ·split <;> omega
 ·omega
end
end K62
end
section
namespace K62
namespace S
open PySem L2
section
variable {P:Program}{w:World}{K:PySem.W.Frag}{mg:Str→Option Value}{base:Heap}{f:Addr}{fd:FuncData}
def topI (L:List Int):Int:=L.max?.getD 0
theorem sS {L:List Int}{m:Int}(hm:m ∈ L)(hx:∀ x ∈ L,x ≤ m):topI L=m:=by
 unfold topI
 rw [List.max?_eq_some_iff.mpr ⟨hm,hx⟩]
 rfl
def lE:Sp:=fun vs H Q _=>∃ (d:Addr) (ws:List Int) (b:Int),vs=[.ref d,.int b]∧H d=some (.tup (ws.map V.int))∧0 ≤ b∧b ≤ 1000000000∧ws.length ≤ 32∧∀ (t:Addr) (H':Hp),H t=none→Same H H'→H' t=some (.tup ((ws.map fun x=>b * x).map V.int))→Q (.ref t) H'
def PI (c:Addr)(ws:List Int)(b:Int)(G:Hp)(i:Nat)(σ:St)(H:Hp):Prop:=∃ v:Option V,σ=[v,some (.int b)]∧SameX c G H∧H c=some (.lst (((ws.take i).map fun x=>b * x).map V.int))
theorem fK:FnScope ["want", "by"] ["want", "by"] (qE s_in_parts):=⟨rfl,rfl,rfl,by decide +kernel,rfl,by decide +kernel,by decide +kernel⟩
theorem ok_parts (F:Fun K "in_parts" "in_parts" s_in_parts f fd) (hm:mg "in_parts" = some (.ref f)) (hb:Binds K fd ["want", "by"] []) (T:Txt mg):Cal P w K mg base "in_parts" ["want", "by"] 1 lE:=by
 refine q0 F hm hb fK (fun vs H Q E h=>?_) (fun cdv A outer s H vs Q E hr h=>?_)
 ·obtain ⟨_,_,_,rfl,_⟩:=h;rfl
 ·obtain ⟨d,ws,b,rfl,hd,b0,b1,wl,q⟩:=h
  have sc:=fK
  refine ⟨_,qI (qS (kM z6 rfl T.tuple_ kN (qA (jQ (N:=["worth", "by"]) (fr:=[none,some 1]) rfl (vF (pv 0)) (CScope.of rfl rfl rfl) rfl (fun _ _ _=>⟨qM (i:=0) (show List.Nodup (α:=Str) ["worth", "by"] by decide +kernel) rfl (Or.inl rfl),kP,qV gG (pv 1) (pv 0)⟩)) qD))),?_⟩
  rw [show L2.start ["want", "by"] [.ref d,.int b] = [some (.ref d),some (.int b)] from rfl]
  (push_cast only [hd])
  intro c nc
  have ndc:d ≠ c:=qF hd nc
  refine jY (PI c ws b H) ⟨none,rfl,SameX.upd,qG⟩ (fun j σ H' _ ⟨_,_,s,_⟩=>s _ _ ndc hd) ?_ ?_
  ·rintro j x σ H1 hx ⟨v,rfl,s1,e1⟩
   rw [Ag] at hx
   obtain ⟨n,hn',rfl⟩:=Aj.mp hx
   have hj:j < ws.length:=(Af.mp hn').1
   (push_cast only [e1])
   refine ⟨.inl ⟨by omega,by omega⟩,qP (by rw [Av];omega),⟨_,rfl,s1.trans SameX.upd,?_⟩⟩
   rw [qG,A6,hn']
   simp
  ·rintro σ H1 ⟨v,rfl,s1,e1⟩
   rw [Aa,AL] at e1
   have S1:=s1.same nc
   exact ⟨_,e1,fun t H2 n2 s2 e2=>q t H2 (kZ S1 n2) (S1.trans s2) e2⟩
structure Rows (H:Hp)(tw sa wa:Addr)(ts:List (Addr × List Int))(m:Nat):Prop where
 tw:H tw=some (.tup [.ref sa,.ref wa])
 wa:H wa=some (.tup (ts.map fun t=>V.ref t.1))
 few:ts.length ≤ 5
 five:m ≤ 5
 row:∀ t ∈ ts,H t.1=some (.tup (t.2.map V.int))∧t.2.length=2 ^ m∧∀ x ∈ t.2,0 ≤ x∧x ≤ 10000
theorem Rows.same {H H':Hp}{tw sa wa:Addr}{ts:List (Addr × List Int)}{m:Nat}(R:Rows H tw sa wa ts m)(s:Same H H'):Rows H' tw sa wa ts m :=
 ⟨s _ _ R.tw,s _ _ R.wa,R.few,R.five,fun t ht=>⟨s _ _ (R.row t ht).1,(R.row t ht).2⟩⟩
def zS (b:Int)(ns ws:List Int):Int:=topI (kC (ws.map fun x=>b * x) ns)
def dS (ts:List (Addr × List Int))(b:Int)(ns:List Int):Int:=(ts.map fun t=>zS b ns t.2).sum + ns.sum
theorem eB:∀ (ns:List Int),(∀ x ∈ ns,0 ≤ x∧x ≤ 100000000000000)→∀ y ∈ q9 ns,0 ≤ y∧y ≤ 100000000000000 * (ns.length:Int):=by
 intro ns
 generalize hn:ns.length=n
 induction n generalizing ns with
 | zero =>
  intro _ y hy
  rw [BE hn] at hy
  have:y=0:=by simpa [q9] using hy
  omega
 | succ n ih =>
  intro h y hy
  obtain ⟨ms,p,rfl⟩:∃ ms p,ns=ms ++ [p]:=by
   have hne:ns ≠ []:=by rintro rfl;simp at hn
   exact ⟨ns.dropLast,ns.getLast hne,(BH hne).symm⟩
  have hml:ms.length=n:=by simpa using hn
  have ihm:=ih ms hml fun x hx=>h x (Bn _ hx)
  have hp:=h p (by simp)
  rw [y0] at hy
  rcases A4.mp hy with z | z
  ·have:=ihm y z
   omega
  ·obtain ⟨u,hu,rfl⟩:=Am.mp z
   have:=ihm u hu
   omega
theorem aU {b:Int}{ns ws:List Int}(b0:0 ≤ b)(b1:b ≤ 1000000000)(n5:ns.length ≤ 5)(hn:∀ x ∈ ns,0 ≤ x∧x ≤ 100000000000000)(hw:∀ x ∈ ws,0 ≤ x∧x ≤ 10000):∀ y ∈ kC (ws.map fun x=>b * x) ns,-(2 ^ 50) ≤ y∧y ≤ 2 ^ 50:=by
 intro y hy
 unfold kC zw at hy
 obtain ⟨⟨u,c⟩,hq,rfl⟩:=Am.mp hy
 obtain ⟨h1,h2⟩:=Ct hq
 obtain ⟨x,hx,rfl⟩:=Am.mp h1
 have hc:=eB ns hn c h2
 have hx':=hw x hx
 have m0:0 ≤ b * x:=Cd b0 hx'.1
 have m1:b * x ≤ 1000000000 * 10000:=Int.mul_le_mul b1 hx'.2 hx'.1 (by decide)
 show -(2 ^ 50) ≤ b * x - c∧b * x - c ≤ 2 ^ 50
 have e:(2:Int) ^ 50=1125899906842624:=by decide
 omega
theorem aT {b:Int}{ns ws:List Int}(b0:0 ≤ b)(b1:b ≤ 1000000000)(n5:ns.length ≤ 5)(hn:∀ x ∈ ns,0 ≤ x∧x ≤ 100000000000000)(hw:∀ x ∈ ws,0 ≤ x∧x ≤ 10000) : -(2 ^ 50) ≤ zS b ns ws∧zS b ns ws ≤ 2 ^ 50:=by
 unfold zS topI
 cases e:(kC (ws.map fun x=>b * x) ns).max? with
 | none=>decide
 | some m=>exact aU b0 b1 n5 hn hw m (List.max?_eq_some_iff.mp e).1
theorem fB {ns:List Int}(h:∀ n ∈ ns,-(2 ^ 50) ≤ n∧n ≤ 2 ^ 50)(hl:ns.length ≤ 1000):mP ns:=by
 have e:(2:Int) ^ 50=1125899906842624:=by decide
 rw [e] at h
 have key:∀ (l:List Int),(∀ n ∈ l,-1125899906842624 ≤ n∧n ≤ 1125899906842624)→-(1125899906842624 * (l.length:Int)) ≤ l.sum∧l.sum ≤ 1125899906842624 * (l.length:Int):=fun l=>by
  induction l with
  | nil=>intro _;simp
  | cons a l ih =>
   intro h
   have i:=ih fun n hn=>h n (Aw _ hn)
   have x:=h a (by simp)
   rw [Bz,Ba]
   push_cast
   omega
 refine ⟨fun n hn=>?_,fun j hj=>?_⟩
 ·have:=h n hn
  have e2:(2:Int) ^ 62=4611686018427387904:=by decide
  omega
 ·have:=key (ns.take j) fun n hn=>h n (BQ hn)
  rw [Av] at this
  have e3:(2:Int) ^ 63=9223372036854775808:=by decide
  unfold InLong
  omega
def hU:Sp:=fun vs H Q _=>∃ (tw sa wa na:Addr) (ts:List (Addr × List Int)) (b:Int) (ns:List Int),vs=[.ref tw,.int b,.ref na]∧Rows H tw sa wa ts ns.length∧H na=some (.tup (ns.map V.int))∧(∀ x ∈ ns,0 ≤ x∧x ≤ 100000000000000)∧0 ≤ b∧b ≤ 1000000000∧∀ H',Same H H'→Q (.int (dS ts b ns)) H'
def SI (c na:Addr)(b:Int)(ns:List Int)(ts:List (Addr × List Int))(G:Hp)(i:Nat)(σ:St)(H:Hp):Prop:=∃ v:Option V,σ=[v,some (.int b),some (.ref na)]∧SameX c G H∧H c=some (.lst (((ts.take i).map fun t=>zS b ns t.2).map V.int))
theorem wG:FnScope ["town", "by", "numbers"] ["town", "by", "numbers"] (qE s_surplus):=⟨rfl,rfl,rfl,by decide +kernel,rfl,by decide +kernel,by decide +kernel⟩
theorem ok_surplus (F:Fun K "surplus" "surplus" s_surplus f fd) (T:Txt mg) (c_in_parts:Cal P w K mg base "in_parts" ["want", "by"] 1 lE) (c_greatest_gain:Cal P w K mg base "greatest_gain" ["want", "prices"] 3 lH):FnOk P w K mg base CX0 4 f fd ["town", "by", "numbers"] hU:=by
 refine F.ok wG (fun vs H Q E h=>?_) (fun cdv A outer s H vs Q E hr h=>?_)
 ·obtain ⟨_,_,_,_,_,_,_,rfl,_⟩:=h;rfl
 ·obtain ⟨tw,sa,wa,na,ts,b,ns,rfl,R,hna,nb,b0,b1,q⟩:=h
  have sc:=wG
  refine ⟨_,qI (qS (qV kR (qR (iD rfl) rfl T.sum_ bM (qA (jQ (N:=["want", "by", "numbers"]) (fr:=[none,some 1,some 2]) rfl (vF (kH yJ (pv 0) qH (fun _ _=>rfl))) (CScope.of rfl rfl rfl) rfl (fun _ _ _=>⟨qM (i:=0) (show List.Nodup (α:=Str) ["want", "by", "numbers"] by decide +kernel) rfl (Or.inl rfl),kP,qJ c_greatest_gain hr (qA (qJ c_in_parts hr (qA (pv 0) (qA (pv 1) qD))) (qA (pv 2) qD))⟩)) qD)) (qR (iD rfl) rfl T.sum_ bM (qA (pv 2) qD)))),?_⟩
  rw [show L2.start ["town", "by", "numbers"] [.ref tw,.int b,.ref na] = [some (.ref tw),some (.int b),some (.ref na)] from rfl]
  have hstw:=q8 R.tw
  have hwa:=R.wa
  have hswa:=q8 R.wa
  (push_cast only [hstw,hswa,hwa])
  intro c nc
  have nwc:wa ≠ c:=qF R.wa nc
  have nnc:na ≠ c:=qF hna nc
  refine jY (SI c na b ns ts H) ⟨none,rfl,SameX.upd,qG⟩ (fun j σ H' _ ⟨_,_,s,_⟩=>s _ _ nwc R.wa) ?_ ?_
  ·rintro j x σ H1 hx ⟨v,rfl,s1,e1⟩
   rw [Ag] at hx
   obtain ⟨t,ht,rfl⟩:=Aj.mp hx
   have hj:j < ts.length:=(Af.mp ht).1
   obtain ⟨et,tl,tb⟩:=R.row t (Ap ht)
   have et1:=s1 _ _ (qF et nc) et
   have hp:=kW R.five
   have few:=R.few
   (push_cast only [])
   refine ⟨t.1,t.2,b,rfl,et1,b0,b1,by omega,fun u H2 nu s2 e2=>?_⟩
   have hna2:=s2 _ _ (s1 _ _ nnc hna)
   refine ⟨u,na,_,ns,rfl,e2,hna2,R.five,by rw [Aa];exact tl,fun g H3 s3 hg hgx=>?_⟩
   have eg:zS b ns t.2=g:=sS hg hgx
   have e3:=s3 _ _ (s2 _ _ e1)
   (push_cast only [e3])
   refine ⟨qP (by rw [Av];omega),⟨_,rfl,(s1.trans (s2.trans s3).x).trans SameX.upd,?_⟩⟩
   rw [qG,A6,ht,← eg]
   simp
  ·rintro σ H1 ⟨v,rfl,s1,e1⟩
   rw [Aa,AL] at e1
   have S1:=s1.same nc
   have few:=R.few
   refine ⟨_,kL e1,fB (fun n hn=>?_) (by rw [Aa];omega),ns,q8 (S1 _ _ hna),fB (fun n hn=>?_) (by have:=R.five;omega),q H1 S1⟩
   ·obtain ⟨t,ht,rfl⟩:=Am.mp hn
    exact aT b0 b1 R.five nb (R.row t ht).2.2
   ·have:=nb n hn
    have e:(2:Int) ^ 50=1125899906842624:=by decide
    omega
def cE:Sp:=fun vs H Q _=>∃ s:Int,vs=[.int s]∧Q (.int (if s=1 then -1 else 1)) H
theorem wI:FnScope ["side"] ["side"] (qE s_step_of):=⟨rfl,rfl,rfl,by decide +kernel,rfl,by decide +kernel,by decide +kernel⟩
theorem ok_stepof (F:Fun K "step_of" "step_of" s_step_of f fd) (hm:mg "step_of" = some (.ref f)) (hb:Binds K fd ["side"] []) (T:Txt mg):Cal P w K mg base "step_of" ["side"] 1 cE:=by
 refine q0 F hm hb wI (fun vs H Q E h=>?_) (fun cdv A outer s H vs Q E hr h=>?_)
 ·obtain ⟨_,rfl,_⟩:=h;rfl
 ·obtain ⟨x,rfl,q⟩:=h
  have sc:=wI
  refine ⟨_,qI (qS (wR (q5 j0 (pv 0) qH (qZ _)) (tJ mL qH) qH)),?_⟩
  rw [show L2.start ["side"] [.int x] = [some (.int x)] from rfl]
  by_cases e:x=1
  ·subst e
   (push_cast only [])
   exact q
  ·rw [Au e] at q
   (push_cast only [e])
   exact q
def msk (h:Int):Nat:=(h % 32).toNat
theorem msk_nat {h:Nat}(hh:h < 32):msk (h:Int)=h:=by
 unfold msk
 omega
theorem msk_bit {h:Int}{t:Nat}(ht:t < 5):decide (h / 2 ^ (t:Int).toNat % 2=1)=qC (msk h) t:=by
 unfold qC msk
 rw [decide_eq_decide,Ar]
 have c:t=0∨t=1∨t=2∨t=3∨t=4:=by omega
 rcases c with z | z | z | z | z <;> subst z
 ·show h / 1 % 2=1 ↔ (h % 32).toNat / 1 % 2=1
  omega
 ·show h / 2 % 2=1 ↔ (h % 32).toNat / 2 % 2=1
  omega
 ·show h / 4 % 2=1 ↔ (h % 32).toNat / 4 % 2=1
  omega
 ·show h / 8 % 2=1 ↔ (h % 32).toNat / 8 % 2=1
  omega
 ·show h / 16 % 2=1 ↔ (h % 32).toNat / 16 % 2=1
  omega
def tE:Sp:=fun vs H Q _=>∃ (h:Int) (t:Nat),vs=[.int h,.int (t:Int)]∧t < 5∧Q (.bl (qC (msk h) t)) H
theorem ok_hasM (F:Fun K "has" "has" s_has f fd) (hm:mg "has" = some (.ref f)) (hb:Binds K fd ["heap", "thing"] []) (T:Txt mg):Cal P w K mg base "has" ["heap", "thing"] 1 tE:=by
 refine q0 F hm hb mV (fun vs H Q E h=>?_) (fun cdv A outer s H vs Q E hr h=>?_)
 ·obtain ⟨_,_,rfl,_⟩:=h;rfl
 ·obtain ⟨h,t,rfl,ht,q⟩:=h
  have sc:=mV
  refine ⟨_,qI (qS (jU j0 (qV nB (qV i9 (pv 0) (pv 1)) qH) qH (qZ _))),?_⟩
  rw [show L2.start ["heap", "thing"] [.int h,.int (t:Int)] = [some (.int h),some (.int (t:Int))] from rfl]
  (push_cast only [])
  rw [PyProof.Rows.bitAnd_m1,msk_bit ht]
  exact ⟨by omega,q⟩
def sp_step:Sp:=fun vs H Q _=>∃ (a b:Addr) (ps:List Int) (F:Nat) (h:Int),vs=[.ref b,.ref a,.int h]∧H a=some (.tup (ps.map V.int))∧H b=some (.tup ((bitsL F ps.length).map V.int))∧ps.length ≤ 5∧∀ (t:Addr) (H':Hp),Same H H'→H' t=some (.tup ((qX ps F (msk h)).map V.int))→Q (.ref t) H'
def STI (c:Addr)(ps:List Int)(F:Nat)(h:Int)(G:Hp)(i:Nat)(σ:St)(H:Hp):Prop:=∃ v1 v2 v3:Option V,σ=[v1,v2,v3,some (.int h)]∧SameX c G H∧H c=some (.lst (((qX ps F (msk h)).take i).map V.int))
theorem wH:FnScope ["sides", "prices", "heap"] ["sides", "prices", "heap"] (qE s_stepped):=⟨rfl,rfl,rfl,by decide +kernel,rfl,by decide +kernel,by decide +kernel⟩
theorem ok_step (F:Fun K "stepped" "stepped" s_stepped f fd) (hm:mg "stepped" = some (.ref f)) (hb:Binds K fd ["sides", "prices", "heap"] []) (T:Txt mg) (c_has:Cal P w K mg base "has" ["heap", "thing"] 1 tE) (c_step_of:Cal P w K mg base "step_of" ["side"] 1 cE):Cal P w K mg base "stepped" ["sides", "prices", "heap"] 2 sp_step:=by
 refine q0 F hm hb wH (fun vs H Q E h=>?_) (fun cdv A outer s H vs Q E hr h=>?_)
 ·obtain ⟨_,_,_,_,_,rfl,_⟩:=h;rfl
 ·obtain ⟨a,b,ps,Fn,h,rfl,ha,hb',p5,q⟩:=h
  have sc:=wH
  refine ⟨_,qI (qS (kM z6 rfl T.tuple_ kN (qA (jQ (N:=["thing", "side", "price", "heap"]) (fr:=[none,none,none,some 2]) rfl (pi_ez rfl T.enumerate_ rfl T.zip_ (qA (pv 0) (qA (pv 1) qD))) (CScope.of rfl rfl rfl) rfl (fun _ _ _=>⟨kU (n:=2) rfl (qU (qM (i:=0) (show List.Nodup (α:=Str) ["thing", "side", "price", "heap"] by decide +kernel) rfl (Or.inl rfl)) (qU (kU (n:=2) rfl (qU (qM (i:=1) (show List.Nodup (α:=Str) ["thing", "side", "price", "heap"] by decide +kernel) rfl (Or.inl rfl)) (qU (qM (i:=2) (show List.Nodup (α:=Str) ["thing", "side", "price", "heap"] by decide +kernel) rfl (Or.inl rfl)) kT))) kT)),kP,wR (wO (qJ c_has hr (qA (pv 3) (qA (pv 0) qD)))) (qV kR (pv 2) (qJ c_step_of hr (qA (pv 1) qD))) (pv 2)⟩)) qD))),?_⟩
  rw [show L2.start ["sides", "prices", "heap"] [.ref b,.ref a,.int h] = [some (.ref b),some (.ref a),some (.int h)] from rfl]
  (push_cast only [])
  refine ⟨_,_,_,.inr ⟨rfl,hb'⟩,_,.inr ⟨rfl,ha⟩,fun c nc=>?_⟩
  have nac:=qF ha nc
  have nbc:=qF hb' nc
  refine cl_ez (STI c ps Fn h H) ⟨none,none,none,rfl,SameX.upd,qG⟩ (fun i σ H2 ⟨_,_,_,_,s,_⟩=>⟨.inr ⟨rfl,s _ _ nbc hb'⟩,.inr ⟨rfl,s _ _ nac ha⟩⟩) ?_ ?_
  ·rintro i u v T1 T2 σ H1 H2 hu hv ⟨v1,v2,v3,rfl,s1,e1⟩ s2 eT1 eT2
   rw [Ag] at hu hv
   obtain ⟨y,hy,rfl⟩:=Aj.mp hu
   obtain ⟨x,hx,rfl⟩:=Aj.mp hv
   have hi:i < ps.length:=(Af.mp hx).1
   have hy':y=if qC Fn i=true then 1 else 0:=by
    have:=bits_at (F:=Fn) hi
    rw [Ab,hy] at this
    exact this
   have xg:ps.getD i 0=x:=by rw [Ab,hx];rfl
   have e12:=s2 _ _ e1
   have st:=step_at (F:=Fn) (hp:=msk h) hi
   rw [xg] at st
   have fin:∀ z:Int,z=(if qC (msk h) i=true then x + (if qC Fn i=true then -1 else 1) else x)→((qX ps Fn (msk h)).take i).length < sizeLine∧STI c ps Fn h H (i + 1) [some (.int (i:Int)),some (.int y),some (.int x),some (.int h)] (upd H2 c (.lst (((qX ps Fn (msk h)).take i).map V.int ++ [V.int z]))):=fun z hz=>⟨qP (by rw [Av];omega),_,_,_,rfl,(s1.trans s2.x).trans SameX.upd,by rw [qG,A6,st,hz,A7];rfl⟩
   (push_cast only [eT1,eT2])
   refine ⟨h,i,rfl,by omega,?_⟩
   cases e:qC (msk h) i
   ·rw [e] at fin
    (push_cast only [e12])
    exact fin _ rfl
   ·rw [e] at fin
    (push_cast only [])
    refine ⟨y,rfl,?_⟩
    (push_cast only [e12])
    refine fin _ ?_
    rw [As rfl,hy']
    cases qC Fn i <;> rfl
  ·rintro σ H1 ⟨v1,v2,v3,rfl,s1,e1⟩
   rw [Aa,Aa,bits_len,Nat.min_self,AG (by rw [jA];exact Ad _)] at e1
   exact ⟨_,e1,fun l H2 _ s2 e2=>q l H2 ((s1.same nc).trans s2) e2⟩
theorem nJ {ws ns:List Int}(n5:ns.length ≤ 5)(wl:ws.length=2 ^ ns.length){h:Nat}(hh:h < 2 ^ ns.length):(kC ws ns).getD h 0=gN ws ns h:=by
 have p32:=kW n5
 unfold kC gN
 have hw:ws[h]? = some (ws.getD h 0):=by rw [Ab,Ae (by omega)];rfl
 rw [Ab,zw_at hw (gK _ ns rfl n5 h hh),← sF (ws:=ns) (h:=h) (by omega) _ n5]
 rfl
theorem nW {ws ns:List Int}(n5:ns.length ≤ 5)(wl:ws.length=2 ^ ns.length):jL ws ns ∈ kC ws ns∧∀ x ∈ kC ws ns,x ≤ jL ws ns:=by
 have p32:=kW n5
 have gl:=yY wl
 obtain ⟨k,k1,k2⟩:=wZ (gN ws ns) (2 ^ ns.length - 1)
 refine ⟨?_,fun x hx=>?_⟩
 ·have e:jL ws ns=(kC ws ns).getD k 0:=by rw [nJ n5 wl (by omega)];exact k2
  rw [e,Ab,Ae (by omega)]
  exact AH _
 ·obtain ⟨j,hj,rfl⟩:=List.getElem_of_mem hx
  have e:=nJ n5 wl (h:=j) (by omega)
  rw [Ab,Ae hj] at e
  have:=bB (gN ws ns) (show j ≤ 2 ^ ns.length - 1 by omega)
  show (kC ws ns)[j] ≤ oS _ _
  rw [← e] at this
  exact this
theorem o7 {ws ns:List Int}(n5:ns.length ≤ 5)(wl:ws.length=2 ^ ns.length):zS 1 ns ws=jL ws ns:=by
 have m1:(ws.map fun x=>1 * x)=ws:=by
  refine (Cw (g:=id) fun x _=>Co x).trans ?_
  simp
 obtain ⟨a,b⟩:=nW n5 wl
 unfold zS
 rw [m1]
 exact sS a b
theorem surp_is {ts:List (Addr × List Int)}{ns:List Int}(n5:ns.length ≤ 5)(wl:∀ t ∈ ts,t.2.length=2 ^ ns.length):dS ts 1 ns=jG (ts.map fun t=>t.2) ns:=by
 unfold dS jG
 congr 1
 rw [AO]
 congr 1
 refine Cw fun t ht=>?_
 exact o7 n5 (wl t ht)
def gE (F:Nat)(ps:List Int)(n:Nat):List Nat:=(List.range n).filter fun t=>qC F t && decide (ps.getD t 0=0)
theorem fD (F:Nat)(ps:List Int)(n:Nat):gE F ps (n + 1)=gE F ps n ++ if qC F n=true∧ps.getD n 0=0 then [n] else []:=by
 unfold gE
 rw [Bm,B5]
 congr 1
 by_cases z:qC F n=true∧ps.getD n 0=0
 ·rw [As z]
  have:(qC F n && decide (ps.getD n 0=0))=true:=by rw [z.1,A0 z.2];rfl
  simp only [List.filter,this]
 ·rw [Au z]
  have:(qC F n && decide (ps.getD n 0=0))=false:=by
   cases h:qC F n
   ·rfl
   ·rw [Al (fun y=>z ⟨h,y⟩)];rfl
  simp only [List.filter,this]
theorem hG (F:Nat)(ps:List Int)(n:Nat):(gE F ps n).length ≤ n:=AB (Bt _ _) (by simp)
theorem fZ (F:Nat)(ps:List Int):∀ n,((gE F ps n).map fun t:Nat=>(2:Int) ^ t).sum=((j9 F ps n:Nat):Int)
 | 0=>rfl
 | n + 1=>by
  rw [fD,A7,BX,fZ F ps n]
  show _=((j9 F ps n + (if qC F n=true∧ps.getD n 0=0 then 2 ^ n else 0):Nat):Int)
  split
  ·simp
  ·simp
def yU (F:Nat)(ps:List Int)(n:Nat):List Nat:=(List.range n).filter (bR F ps)
theorem aJ (F:Nat)(ps:List Int)(n:Nat):yU F ps (n + 1)=yU F ps n ++ if bR F ps n=true then [n] else []:=by
 unfold yU
 rw [Bm,B5]
 congr 1
 cases h:bR F ps n <;> simp [h]
theorem lW (F:Nat)(ps:List Int)(n:Nat):(yU F ps n).length ≤ n:=AB (Bt _ _) (by simp)
def rF:Sp:=fun vs H Q _=>∃ (a b:Addr) (ps:List Int) (F:Nat),vs=[.ref b,.ref a]∧H a=some (.tup (ps.map V.int))∧H b=some (.tup ((bitsL F ps.length).map V.int))∧ps.length ≤ 5∧∀ (l:Addr) (H':Hp),H l=none→Same H H'→H' l=some (.lst (natI (yU F ps (2 ^ ps.length))))→Q (.ref l) H'
def MYI (c:Addr)(ps:List Int)(F:Nat)(G:Hp)(i:Nat)(σ:St)(H:Hp):Prop:=∃ v1 v2 v3:Option V,σ=[v1,v2,v3]∧SameX c G H∧H c=some (.lst (natI (gE F ps i)))
def MYJ (c:Addr)(ps:List Int)(F:Nat)(G:Hp)(i:Nat)(σ:St)(H:Hp):Prop:=∃ v:Option V,σ=[v,some (.int ((j9 F ps ps.length:Nat):Int))]∧SameX c G H∧H c=some (.lst (natI (yU F ps i)))
theorem zN:FnScope ["sides", "prices", "stuck"] ["sides", "prices"] (qE s_heaps_that_may):=⟨rfl,rfl,rfl,by decide +kernel,rfl,by decide +kernel,by decide +kernel⟩
theorem ok_may (F:Fun K "heaps_that_may" "heaps_that_may" s_heaps_that_may f fd) (hm:mg "heaps_that_may" = some (.ref f)) (hb:Binds K fd ["sides", "prices"] []) (T:Txt mg) (c_heap_of:Cal P w K mg base "heap_of" ["things"] 1 mS):Cal P w K mg base "heaps_that_may" ["sides", "prices"] 2 rF:=by
 refine q0 F hm hb zN (fun vs H Q E h=>?_) (fun cdv A outer s H vs Q E hr h=>?_)
 ·obtain ⟨_,_,_,_,rfl,_⟩:=h;rfl
 ·obtain ⟨a,b,ps,Fn,rfl,ha,hb',p5,q⟩:=h
  have sc:=zN
  have p32:=kW p5
  have stl:=gO Fn ps ps.length
  refine ⟨_,qK (qY (i:=2) sc.nd rfl (Or.inr rfl) (qJ c_heap_of hr (qA (jQ (N:=["thing", "side", "price"]) (fr:=[none,none,none]) rfl (pi_ez rfl T.enumerate_ rfl T.zip_ (qA (pv 0) (qA (pv 1) qD))) (CScope.of rfl rfl rfl) rfl (fun _ _ _=>⟨kU (n:=2) rfl (qU (qM (i:=0) (show List.Nodup (α:=Str) ["thing", "side", "price"] by decide +kernel) rfl (Or.inl rfl)) (qU (kU (n:=2) rfl (qU (qM (i:=1) (show List.Nodup (α:=Str) ["thing", "side", "price"] by decide +kernel) rfl (Or.inl rfl)) (qU (qM (i:=2) (show List.Nodup (α:=Str) ["thing", "side", "price"] by decide +kernel) rfl (Or.inl rfl)) kT))) kT)),zR (PW.pt (zX (q5 j0 (pv 1) qH (qZ _)) (zQ (q5 j0 (pv 2) qH (qZ _))))),pv 0⟩)) qD)))
   (qI (qS (jQ (N:=["heap", "stuck"]) (fr:=[none,some 2]) rfl (kX rfl T.range_ (qA (qV rP qH (qR len0 rfl T.len_ kY (qA (pv 0) qD))) qD)) (CScope.of rfl rfl rfl) rfl (fun _ _ _=>⟨qM (i:=0) (show List.Nodup (α:=Str) ["heap", "stuck"] by decide +kernel) rfl (Or.inl rfl),zR (q5 j0 (qV nB (pv 0) (pv 1)) qH (qZ _)),pv 0⟩)))),?_⟩
  rw [show L2.start ["sides", "prices", "stuck"] [.ref b,.ref a] = [some (.ref b),some (.ref a),none] from rfl]
  (push_cast only [])
  refine ⟨_,_,_,.inr ⟨rfl,hb'⟩,_,.inr ⟨rfl,ha⟩,fun c nc=>?_⟩
  have nac:=qF ha nc
  have nbc:=qF hb' nc
  refine cl_ez (MYI c ps Fn H) ⟨none,none,none,rfl,SameX.upd,qG⟩ (fun i σ H2 ⟨_,_,_,_,s,_⟩=>⟨.inr ⟨rfl,s _ _ nbc hb'⟩,.inr ⟨rfl,s _ _ nac ha⟩⟩) ?_ ?_
  ·rintro i u v T1 T2 σ H1 H2 hu hv ⟨v1,v2,v3,rfl,s1,e1⟩ s2 eT1 eT2
   rw [Ag] at hu hv
   obtain ⟨y,hy,rfl⟩:=Aj.mp hu
   obtain ⟨x,hx,rfl⟩:=Aj.mp hv
   have hi:i < ps.length:=(Af.mp hx).1
   have hy':y=if qC Fn i=true then 1 else 0:=by
    have:=bits_at (F:=Fn) hi
    rw [Ab,hy] at this
    exact this
   have xg:ps.getD i 0=x:=by rw [Ab,hx];rfl
   have e12:=s2 _ _ e1
   have sl:=hG Fn ps i
   have nx:=fD Fn ps i
   rw [xg] at nx
   (push_cast only [eT1,eT2])
   cases e:qC Fn i with
   | false =>
    rw [e] at hy' nx
    rw [Au (by decide)] at hy'
    rw [Au (fun z=>by cases z.1),Bx] at nx
    subst hy'
    rw [Au (by decide)]
    exact ⟨_,_,_,rfl,s1.trans s2.x,by rw [nx];exact e12⟩
   | true =>
    rw [e] at hy' nx
    rw [As rfl] at hy'
    subst hy'
    rw [As rfl]
    by_cases z:x=0
    ·rw [As ⟨rfl,z⟩] at nx
     rw [As z]
     refine ⟨_,e12,qP (by unfold natI;rw [Aa];omega),⟨_,_,_,rfl,(s1.trans s2.x).trans SameX.upd,?_⟩⟩
     rw [qG,nx]
     unfold natI
     simp
    ·rw [Au (fun y=>z y.2),Bx] at nx
     rw [Au z]
     exact ⟨_,_,_,rfl,s1.trans s2.x,by rw [nx];exact e12⟩
  ·rintro σ H1 ⟨v1,v2,v3,rfl,s1,e1⟩
   rw [Aa,Aa,bits_len,Nat.min_self] at e1
   have S1:=s1.same nc
   have sl:=hG Fn ps ps.length
   have hb1:=S1 _ _ hb'
   have hsb:=q8 hb1
   refine ⟨c,gE Fn ps ps.length,rfl,e1,by omega,fun t ht=>?_,fun H2 s2=>?_⟩
   ·have:=AZ.mp (By.mp ht).1
    omega
   rw [fZ]
   have hsb2:=q8 (s2 _ _ hb1)
   (push_cast only [])
   (simp only [qL])
   (push_cast only [hsb2])
   rw [bits_len,hpow]
   refine ⟨⟨by omega,by omega,by decide⟩,by omega,by omega,fun d nd=>?_⟩
   refine zK (MYJ d ps Fn H2) ⟨none,rfl,SameX.upd,qG⟩ ?_ ?_
   ·rintro i σ H3 hi ⟨v,rfl,s3,e3⟩
    rw [Ar] at hi
    have ml:=lW Fn ps i
    (push_cast only [])
    rw [nP (show i < 32 by omega) (show j9 Fn ps ps.length < 32 by omega)]
    have nx:=aJ Fn ps i
    by_cases z:i &&& j9 Fn ps ps.length=0
    ·have al:bR Fn ps i=true:=by unfold bR;exact A0 z
     rw [As al] at nx
     rw [As (by simpa using z)]
     (push_cast only [e3])
     refine ⟨qP (by unfold natI;rw [Aa];omega),⟨_,rfl,s3.trans SameX.upd,?_⟩⟩
     rw [qG,nx]
     unfold natI
     simp
    ·have al:bR Fn ps i=false:=by unfold bR;exact Al z
     rw [al,Au (by decide),Bx] at nx
     rw [Au (by simpa using z)]
     exact ⟨_,rfl,s3,by rw [nx];exact e3⟩
   ·rintro σ H3 ⟨v,rfl,s3,e3⟩
    rw [Ar] at e3
    exact q d H3 (kZ (S1.trans s2) nd) ((S1.trans s2).trans (s3.same nd)) e3
end
end S
end K62
end
section
namespace K62
namespace S
open PySem L2
section
variable {P:Program}{w:World}{K:PySem.W.Frag}{mg:Str→Option Value}{base:Heap}{f:Addr}{fd:FuncData}
structure Tn (H:Hp)(tw sa wa:Addr)(ts:List (Addr × List Int))(m F:Nat):Prop where
 R:Rows H tw sa wa ts m
 sa:H sa=some (.tup ((bitsL F m).map V.int))
 hF:F < 2 ^ m
 kd:Kinds (ts.map fun t=>t.2) m F
 ne:ts ≠ []
theorem Tn.same {H H':Hp}{tw sa wa:Addr}{ts:List (Addr × List Int)}{m F:Nat}(R:Tn H tw sa wa ts m F)(s:Same H H'):Tn H' tw sa wa ts m F:=⟨R.R.same s,s _ _ R.sa,R.hF,R.kd,R.ne⟩
theorem pair_ge {w h a b:Int}(z:HT.lexLt (kS [Ky.i a,Ky.i b]) (kS [Ky.i w,Ky.i h])=false):w < a∨(w=a∧h ≤ b):=by
 have e1:kS [Ky.i w,Ky.i h] = [w,h]:=rfl
 have e2:kS [Ky.i a,Ky.i b] = [a,b]:=rfl
 rw [e1,e2,HT.lexLt_cons] at z
 by_cases e:a=w
 ·rw [As e,HT.lexLt_cons] at z
  by_cases e':b=h
  ·exact .inr ⟨e.symm,by omega⟩
  ·rw [Au e'] at z
   have:=of_decide_eq_false z
   exact .inr ⟨e.symm,by omega⟩
 ·rw [Au e] at z
  have:=of_decide_eq_false z
  exact .inl (by omega)
def R2 (H:Hp)(rs:List (Addr × Int × Int)):Prop:=∀ r ∈ rs,H r.1=some (.tup [.int r.2.1,.int r.2.2])
theorem R2.k {H:Hp}{rs:List (Addr × Int × Int)}(R:R2 H rs):RowsK H (rs.map fun r=>(r.1,[Ky.i r.2.1,Ky.i r.2.2])):=by
 refine ⟨fun r hr=>?_,[none,none],fun r hr=>?_⟩
 ·obtain ⟨r',hr',rfl⟩:=Am.mp hr
  refine ⟨R r' hr',fun k hk=>?_⟩
  have:k = .i r'.2.1∨k = .i r'.2.2:=by simpa using hk
  rcases this with rfl | rfl <;> trivial
 ·obtain ⟨r',hr',rfl⟩:=Am.mp hr
  rfl
theorem R2.least {rs:List (Addr × Int × Int)}{m:Addr × List Ky}(hm:m ∈ rs.map fun r=>(r.1,[Ky.i r.2.1,Ky.i r.2.2]))(hmin:∀ r ∈ rs.map (fun r=>(r.1,[Ky.i r.2.1,Ky.i r.2.2])),HT.lexLt (kS r.2) (kS m.2)=false):∃ r ∈ rs,m=(r.1,[Ky.i r.2.1,Ky.i r.2.2])∧∀ r' ∈ rs,r.2.1 < r'.2.1∨(r.2.1=r'.2.1∧r.2.2 ≤ r'.2.2):=by
 obtain ⟨r,hr,rfl⟩:=Am.mp hm
 exact ⟨r,hr,rfl,fun r' hr'=>pair_ge (hmin _ (Am.mpr ⟨r',hr',rfl⟩))⟩
def tD:Sp:=fun vs H Q _=>∃ (tw sa wa na:Addr) (ts:List (Addr × List Int)) (ps:List Int) (F:Nat),vs=[.ref tw,.ref na]∧Tn H tw sa wa ts ps.length F∧H na=some (.tup (ps.map V.int))∧(∀ x ∈ ps,0 ≤ x∧x ≤ 100000)∧∀ H',Same H H'→Q (.int ((xP (ts.map fun t=>t.2) F ps:Nat):Int)) H'
def NXI (tw sa na c:Addr)(ts:List (List Int))(ps:List Int)(F:Nat)(G:Hp)(i:Nat)(σ:St)(H:Hp):Prop:=∃ (v:Option V) (rs:List (Addr × Int × Int)),σ=[v,some (.ref tw),some (.ref sa),some (.ref na)]∧(rs.map fun r=>r.2)=((yU F ps (2 ^ ps.length)).take i).map (fun X:Nat=>(jG ts (qX ps F X),(X:Int)))∧R2 H rs∧SameX c G H∧H c=some (.lst (rs.map fun r=>V.ref r.1))
theorem yG {F:Nat}{ps:List Int}{n X:Nat}:X ∈ yU F ps n ↔ X < n∧bR F ps X=true:=by
 unfold yU
 rw [By,AZ]
theorem gS:FnScope ["town", "prices", "sides"] ["town", "prices"] (qE s_next_step):=⟨rfl,rfl,rfl,by decide +kernel,rfl,by decide +kernel,by decide +kernel⟩
theorem ok_next (F:Fun K "next_step" "next_step" s_next_step f fd) (hm:mg "next_step" = some (.ref f)) (hb:Binds K fd ["town", "prices"] []) (T:Txt mg) (c_surplus:Cal P w K mg base "surplus" ["town", "by", "numbers"] 4 hU) (c_stepped:Cal P w K mg base "stepped" ["sides", "prices", "heap"] 2 sp_step) (c_heaps_that_may:Cal P w K mg base "heaps_that_may" ["sides", "prices"] 2 rF):Cal P w K mg base "next_step" ["town", "prices"] 5 tD:=by
 refine q0 F hm hb gS (fun vs H Q E h=>?_) (fun cdv A outer s H vs Q E hr h=>?_)
 ·obtain ⟨_,_,_,_,_,_,_,rfl,_⟩:=h;rfl
 ·obtain ⟨tw,sa,wa,na,ts,ps,Fn,rfl,TN,hna,nb,q⟩:=h
  have sc:=gS
  have p5:=TN.R.five
  have p32:=kW p5
  have htw:=q8 TN.R.tw
  have i0:∀ x y:V,dM [x,y] 0=some x:=fun _ _=>rfl
  refine ⟨_,qK (qY (i:=2) sc.nd rfl (Or.inr rfl) (kH yJ (pv 0) qH (fun _ _=>rfl)))
   (qI (qS (kH yJ (qR (minP0 rfl (hu128 hr)) rfl T.min_ bt_min (qA (jQ (N:=["heap", "town", "sides", "prices"]) (fr:=[none,some 0,some 2,some 1]) rfl (xO (qJ c_heaps_that_may hr (qA (pv 2) (qA (pv 1) qD)))) (CScope.of rfl rfl rfl) rfl (fun _ _ _=>⟨qM (i:=0) (show List.Nodup (α:=Str) ["heap", "town", "sides", "prices"] by decide +kernel) rfl (Or.inl rfl),kP,kQ (qA (qJ c_surplus hr (qA (pv 1) (qA qH (qA (qJ c_stepped hr (qA (pv 2) (qA (pv 3) (qA (pv 0) qD)))) qD)))) (qA (pv 0) qD))⟩)) qD)) qH (fun _ _=>rfl)))),?_⟩
  rw [show L2.start ["town", "prices", "sides"] [.ref tw,.ref na] = [some (.ref tw),some (.ref na),none] from rfl]
  (push_cast only [htw,i0])
  (simp only [qL])
  (push_cast only [])
  refine ⟨na,sa,ps,Fn,rfl,hna,TN.sa,p5,fun l H1 n1 s1 e1=>?_⟩
  (push_cast only [e1])
  intro c nc
  have nlc:l ≠ c:=qF e1 nc
  have TN1:=TN.same s1
  have na1:=s1 _ _ hna
  refine jY (NXI tw sa na c (ts.map fun t=>t.2) ps Fn H1) ⟨none,[],rfl,rfl,(fun _ z=>by cases z),SameX.upd,qG⟩ (fun j σ H' _ ⟨_,_,_,_,_,s,_⟩=>s _ _ nlc e1) ?_ ?_
  ·rintro i x σ H2 hx ⟨v,rs,rfl,re,rr,s2,e2⟩
   unfold natI at hx
   rw [Ag] at hx
   obtain ⟨X,hX,rfl⟩:=Aj.mp hx
   obtain ⟨xl,xa⟩:=yG.mp (Ap hX)
   have hi:i < (yU Fn ps (2 ^ ps.length)).length:=(Af.mp hX).1
   have ml:=lW Fn ps (2 ^ ps.length)
   have na2:=s2 _ _ (qF na1 nc) na1
   have sa2:=s2 _ _ (qF TN1.sa nc) TN1.sa
   (push_cast only [])
   refine ⟨na,sa,ps,Fn,(X:Int),rfl,na2,sa2,p5,fun t H3 s3 e3=>?_⟩
   rw [msk_nat (by omega)] at e3
   (push_cast only [])
   have c2:=s3 _ _ e2
   have st:∀ {b:Addr} {o:HO},H1 b=some o→H3 b=some o:=fun {b o} e=>s3 _ _ (s2 _ _ (qF e nc) e)
   have wl:∀ t ∈ ts,t.2.length=2 ^ ps.length:=fun t ht=>(TN.R.row t ht).2.1
   have nn:=sW p5 xl xa (fun x hx=>(nb x hx).1)
   have up:=mQ (F:=Fn) (X:=X) (c:=100000) (fun x hx=>(nb x hx).2)
   refine ⟨tw,sa,wa,t,ts,1,qX ps Fn X,rfl,?_,e3,fun x hx=>⟨nn x hx,by have:=up x hx;omega⟩,by decide,by decide,fun H4 s4=>⟨by decide,fun p H5 np s5 e5=>?_⟩⟩
   ·rw [jA]
    exact ⟨st TN1.R.tw,st TN1.R.wa,TN1.R.few,p5,fun t ht=>⟨st (TN1.R.row t ht).1,(TN1.R.row t ht).2⟩⟩
   ·rw [surp_is (by rw [jA];exact p5) (by rw [jA];exact wl)] at e5
    have c5:=s5 _ _ (s4 _ _ c2)
    have rl:rs.length=i:=by
     have:=AW List.length re
     rw [Aa,Aa,Av] at this
     omega
    refine ⟨_,c5,qP (by rw [Aa];omega),⟨_,rs ++ [(p,jG (ts.map fun t=>t.2) (qX ps Fn X),(X:Int))],rfl,?_,fun r hr=>?_,(s2.trans ((s3.trans s4).trans s5).x).trans SameX.upd,by rw [qG];simp⟩⟩
    ·rw [A7,re,A6,hX]
     simp
    ·have ne:∀ {b:Addr} {L:List V},H5 b=some (.tup L)→b ≠ c:=fun h z=>by rw [z,c5] at h;cases h
     rcases A4.mp hr with z | z
     ·have h:=s5 _ _ (s4 _ _ (s3 _ _ (rr r z)))
      rw [qQ (ne h)]
      exact h
     ·rw [A5.mp z]
      rw [qQ (ne e5)]
      exact e5
  ·rintro σ H2 ⟨v,rs,rfl,re,rr,s2,e2⟩
   unfold natI at re
   rw [Aa,AL] at re
   (push_cast only [])
   have hne:rs ≠ []:=by
    intro z
    rw [z,C8] at re
    have:=yG.mpr ⟨p32.2,vT Fn ps⟩
    rw [List.map_eq_nil_iff.mp re.symm] at this
    cases this
   refine ⟨rs.map fun r=>(r.1,[Ky.i r.2.1,Ky.i r.2.2]),by rw [kL e2,AO];rfl,R2.k rr,by simpa using hne,fun m hm hmin=>?_⟩
   obtain ⟨r,hr',rfl,lst⟩:=R2.least hm hmin
   refine ⟨_,q8 (rr r hr'),_,rfl,?_⟩
   have in1:r.2 ∈ (yU Fn ps (2 ^ ps.length)).map fun X:Nat=>(jG (ts.map fun t=>t.2) (qX ps Fn X),(X:Int)):=by rw [← re];exact Am.mpr ⟨r,hr',rfl⟩
   obtain ⟨X,hX,ex⟩:=Am.mp in1
   obtain ⟨xl,xa⟩:=yG.mp hX
   have x1:r.2.1=jG (ts.map fun t=>t.2) (qX ps Fn X):=by rw [← ex]
   have x2:r.2.2=(X:Int):=by rw [← ex]
   have un:=aW (s:=fun X=>jG (ts.map fun t=>t.2) (qX ps Fn X)) (vT Fn ps) p32.2 xl xa (fun Y hY aY=>by
    have in2:(jG (ts.map fun t=>t.2) (qX ps Fn Y),(Y:Int)) ∈ rs.map fun r=>r.2:=by rw [re];exact Am.mpr ⟨Y,yG.mpr ⟨hY,aY⟩,rfl⟩
    obtain ⟨r',h',e'⟩:=Am.mp in2
    have y1:r'.2.1=jG (ts.map fun t=>t.2) (qX ps Fn Y):=by rw [e']
    have y2:r'.2.2=(Y:Int):=by rw [e']
    have:=lst r' h'
    show jG (ts.map fun t=>t.2) (qX ps Fn X) < jG (ts.map fun t=>t.2) (qX ps Fn Y)∨jG (ts.map fun t=>t.2) (qX ps Fn X)=jG (ts.map fun t=>t.2) (qX ps Fn Y)∧X ≤ Y
    omega)
   rw [x2]
   have:=q H2 (s1.trans (s2.same nc))
   unfold xP at this
   rw [← un] at this
   exact this
def cI:Sp:=fun vs H Q _=>∃ (tw sa wa na:Addr) (ts:List (Addr × List Int)) (ps:List Int) (F:Nat),vs=[.ref tw,.ref na]∧Tn H tw sa wa ts ps.length F∧H na=some (.tup (ps.map V.int))∧∀ (g l1 l2:Addr) (rs:List (Addr × List Int)) (H':Hp),H l1=none→H l2=none→Same H H'→H' g=some (.tup [.ref l1,.ref l2])→H' l1=some (.lst (natI (yU F ps (2 ^ ps.length))))→H' l2=some (.lst (rs.map fun r=>V.ref r.1))→(∀ r ∈ rs,H' r.1=some (.tup (r.2.map V.int)))→(rs.map fun r=>r.2)=ts.map (fun t=>gI (kC t.2 ps) (jL t.2 ps) (kC t.2 ps).length)→Q (.ref g) H'
def GRI (na c:Addr)(ts:List (Addr × List Int))(ps:List Int)(G:Hp)(i:Nat)(σ:St)(H:Hp):Prop:=∃ (v:Option V) (rs:List (Addr × List Int)),σ=[v,some (.ref na)]∧(rs.map fun r=>r.2)=(ts.take i).map (fun t=>gI (kC t.2 ps) (jL t.2 ps) (kC t.2 ps).length)∧(∀ r ∈ rs,H r.1=some (.tup (r.2.map V.int)))∧SameX c G H∧H c=some (.lst (rs.map fun r=>V.ref r.1))
theorem gT:FnScope ["town", "prices", "sides", "wants"] ["town", "prices"] (qE s_ground_of):=⟨rfl,rfl,rfl,by decide +kernel,rfl,by decide +kernel,by decide +kernel⟩
theorem ok_ground (F:Fun K "ground_of" "ground_of" s_ground_of f fd) (hm:mg "ground_of" = some (.ref f)) (hb:Binds K fd ["town", "prices"] []) (T:Txt mg) (c_heaps_that_may:Cal P w K mg base "heaps_that_may" ["sides", "prices"] 2 rF) (c_best_heaps:Cal P w K mg base "best_heaps" ["want", "prices"] 3 tF):Cal P w K mg base "ground_of" ["town", "prices"] 4 cI:=by
 refine q0 F hm hb gT (fun vs H Q E h=>?_) (fun cdv A outer s H vs Q E hr h=>?_)
 ·obtain ⟨_,_,_,_,_,_,_,rfl,_⟩:=h;rfl
 ·obtain ⟨tw,sa,wa,na,ts,ps,Fn,rfl,TN,hna,q⟩:=h
  have sc:=gT
  have p5:=TN.R.five
  have few:=TN.R.few
  have p32:=kW p5
  have htw:=TN.R.tw
  refine ⟨_,qK (zY (pv 0) (kU (n:=2) rfl (qU (qM (i:=2) sc.nd rfl (Or.inl rfl)) (qU (qM (i:=3) sc.nd rfl (Or.inl rfl)) kT))))
   (qI (qS (kQ (qA (qJ c_heaps_that_may hr (qA (pv 2) (qA (pv 1) qD))) (qA (jQ (N:=["want", "prices"]) (fr:=[none,some 1]) rfl (vF (pv 3)) (CScope.of rfl rfl rfl) rfl (fun _ _ _=>⟨qM (i:=0) (show List.Nodup (α:=Str) ["want", "prices"] by decide +kernel) rfl (Or.inl rfl),kP,qJ c_best_heaps hr (qA (pv 0) (qA (pv 1) qD))⟩)) qD))))),?_⟩
  rw [show L2.start ["town", "prices", "sides", "wants"] [.ref tw,.ref na] = [some (.ref tw),some (.ref na),none,none] from rfl]
  (push_cast only [htw])
  (simp only [qL])
  (push_cast only [])
  refine ⟨na,sa,ps,Fn,rfl,hna,TN.sa,p5,fun l H1 n1 s1 e1=>?_⟩
  have TN1:=TN.same s1
  have na1:=s1 _ _ hna
  have wa1:=TN1.R.wa
  (push_cast only [wa1])
  intro c nc
  have nwc:wa ≠ c:=qF wa1 nc
  have nnc:na ≠ c:=qF na1 nc
  have nlc:l ≠ c:=qF e1 nc
  refine jY (GRI na c ts ps H1) ⟨none,[],rfl,rfl,(fun _ z=>by cases z),SameX.upd,qG⟩ (fun j σ H' _ ⟨_,_,_,_,_,s,_⟩=>s _ _ nwc wa1) ?_ ?_
  ·rintro i x σ H2 hx ⟨v,rs,rfl,re,rr,s2,e2⟩
   rw [Ag] at hx
   obtain ⟨t,ht,rfl⟩:=Aj.mp hx
   have hi:i < ts.length:=(Af.mp ht).1
   obtain ⟨et,tl,tb⟩:=TN1.R.row t (Ap ht)
   obtain ⟨v1,v2⟩:=nW p5 tl
   have et2:=s2 _ _ (qF et nc) et
   (push_cast only [])
   refine ⟨t.1,na,t.2,ps,jL t.2 ps,rfl,et2,s2 _ _ nnc na1,p5,tl,v1,v2,fun u H3 n3 s3 e3=>?_⟩
   have c3:=s3 _ _ e2
   have rl:rs.length=i:=by
    have:=AW List.length re
    rw [Aa,Aa,Av] at this
    omega
   (push_cast only [c3])
   refine ⟨qP (by omega),⟨_,rs ++ [(u,gI (kC t.2 ps) (jL t.2 ps) (kC t.2 ps).length)],rfl,?_,fun r hr=>?_,(s2.trans s3.x).trans SameX.upd,by rw [qG];simp⟩⟩
   ·rw [A7,re,A6,ht]
    simp
   ·have ne:∀ {b:Addr} {L:List V},H3 b=some (.tup L)→b ≠ c:=fun h z=>by rw [z,c3] at h;cases h
    rcases A4.mp hr with z | z
    ·have h:=s3 _ _ (rr r z)
     rw [qQ (ne h)]
     exact h
    ·rw [A5.mp z]
     rw [qQ (ne e3)]
     exact e3
  ·rintro σ H2 ⟨v,rs,rfl,re,rr,s2,e2⟩
   rw [Aa,AL] at re
   have S2:=s1.trans (s2.same nc)
   (push_cast only [])
   refine ⟨by decide,fun g H3 n3 s3 e3=>?_⟩
   exact q g l c rs H3 n1 (kZ s1 nc) (S2.trans s3) e3 (s3 _ _ (s2 _ _ nlc e1)) (s3 _ _ e2) (fun r hr=>s3 _ _ (rr r hr)) re
end
end S
end K62
end
section
namespace K62
namespace S
open PySem L2
section
variable {P:Program}{w:World}{K:PySem.W.Frag}{mg:Str→Option Value}{base:Heap}{f:Addr}{fd:FuncData}
def firstL (F m:Nat)(top:Int):List Int:=(List.range m).map fun t=>if qC F t=true then top else 0
theorem first_len (F m:Nat)(top:Int):(firstL F m top).length=m:=by unfold firstL;simp
theorem first_mem {F m:Nat}{top x:Int}(h:x ∈ firstL F m top):x=top∨x=0:=by
 unfold firstL at h
 obtain ⟨t,_,rfl⟩:=Am.mp h
 split
 ·exact .inl rfl
 ·exact .inr rfl
def IsTop (ts:List (List Int))(m:Nat)(x:Int):Prop:=(∃ ws ∈ ts,ws.getD (2 ^ m - 1) 0=x)∧∀ ws ∈ ts,ws.getD (2 ^ m - 1) 0 ≤ x
theorem IsTop.one {ts:List (List Int)}{m:Nat}{x y:Int}(a:IsTop ts m x)(b:IsTop ts m y):x=y:=by
 obtain ⟨⟨u,u1,u2⟩,u3⟩:=a
 obtain ⟨⟨v,v1,v2⟩,v3⟩:=b
 have:=u3 v v1
 have:=v3 u u1
 omega
theorem last_at {xs:List Int}{m:Nat}(h:xs.length=2 ^ m):dM (xs.map V.int) (-1)=some (V.int (xs.getD (2 ^ m - 1) 0)):=by
 have pp:=AE m
 have hne:xs ≠ []:=by rintro rfl;simp at h;omega
 obtain ⟨ys,y,rfl⟩:∃ ys y,xs=ys ++ [y]:=⟨xs.dropLast,xs.getLast hne,(BH hne).symm⟩
 rw [A7]
 refine (L2.atI_last _ _).trans ?_
 rw [← h]
 simp
def sp_first:Sp:=fun vs H Q _=>∃ (tw sa wa:Addr) (ts:List (Addr × List Int)) (m F:Nat),vs=[.ref tw]∧Tn H tw sa wa ts m F∧∀ (top:Int) (t:Addr) (H':Hp),IsTop (ts.map fun t=>t.2) m top→Same H H'→H' t=some (.tup ((firstL F m top).map V.int))→Q (.ref t) H'
def FSJ (c:Addr)(ts:List (Addr × List Int))(m:Nat)(G:Hp)(i:Nat)(σ:St)(H:Hp):Prop:=∃ v:Option V,σ=[v]∧SameX c G H∧H c=some (.lst (((ts.take i).map fun t=>t.2.getD (2 ^ m - 1) 0).map V.int))
def FSK (c:Addr)(F m:Nat)(top:Int)(G:Hp)(i:Nat)(σ:St)(H:Hp):Prop:=∃ v:Option V,σ=[v,some (.int top)]∧SameX c G H∧H c=some (.lst (((firstL F m top).take i).map V.int))
theorem xM:FnScope ["town", "top"] ["town"] (qE s_first_prices):=⟨rfl,rfl,rfl,by decide +kernel,rfl,by decide +kernel,by decide +kernel⟩
theorem ok_first (F:Fun K "first_prices" "first_prices" s_first_prices f fd) (hm:mg "first_prices" = some (.ref f)) (hb:Binds K fd ["town"] []) (T:Txt mg):Cal P w K mg base "first_prices" ["town"] 1 sp_first:=by
 refine q0 F hm hb xM (fun vs H Q E h=>?_) (fun cdv A outer s H vs Q E hr h=>?_)
 ·obtain ⟨_,_,_,_,_,_,rfl,_⟩:=h;rfl
 ·obtain ⟨tw,sa,wa,ts,m,Fn,rfl,TN,q⟩:=h
  have sc:=xM
  have few:=TN.R.few
  have p5:=TN.R.five
  have htw:=q8 TN.R.tw
  have hwa:=TN.R.wa
  have i0:∀ x y:V,dM [x,y] 0=some x:=fun _ _=>rfl
  have i1:∀ x y:V,dM [x,y] 1=some y:=fun _ _=>rfl
  refine ⟨_,qK (qY (i:=1) sc.nd rfl (Or.inr rfl) (qR (max0 rfl) rfl T.max_ d8 (qA (jQ (N:=["want"]) (fr:=[none]) rfl (vF (kH yJ (pv 0) qH (fun _ _=>rfl))) (CScope.of rfl rfl rfl) rfl (fun _ _ _=>⟨qM (i:=0) (show List.Nodup (α:=Str) ["want"] by decide +kernel) rfl (Or.inl rfl),kP,kH yJ (pv 0) (tJ mL qH) (fun _ _=>rfl)⟩)) qD)))
   (qI (qS (kM z6 rfl T.tuple_ kN (qA (jQ (N:=["side", "top"]) (fr:=[none,some 1]) rfl (vF (kH yJ (pv 0) qH (fun _ _=>rfl))) (CScope.of rfl rfl rfl) rfl (fun _ _ _=>⟨qM (i:=0) (show List.Nodup (α:=Str) ["side", "top"] by decide +kernel) rfl (Or.inl rfl),kP,wR (q5 j0 (pv 0) qH (qZ _)) (pv 1) qH⟩)) qD)))),?_⟩
  rw [show L2.start ["town", "top"] [.ref tw] = [some (.ref tw),none] from rfl]
  (push_cast only [htw,i0,i1,hwa])
  intro c nc
  have nwc:wa ≠ c:=qF hwa nc
  refine jY (FSJ c ts m H) ⟨none,rfl,SameX.upd,qG⟩ (fun j σ H' _ ⟨_,_,s,_⟩=>s _ _ nwc hwa) ?_ ?_
  ·rintro i x σ H2 hx ⟨v,rfl,s2,e2⟩
   rw [Ag] at hx
   obtain ⟨t,ht,rfl⟩:=Aj.mp hx
   have hi:i < ts.length:=(Af.mp ht).1
   obtain ⟨et,tl,tb⟩:=TN.R.row t (Ap ht)
   have et2:=q8 (s2 _ _ (qF et nc) et)
   have la:=last_at tl
   (push_cast only [et2,la,e2])
   refine ⟨qP (by rw [Av];omega),⟨_,rfl,s2.trans SameX.upd,?_⟩⟩
   rw [qG,A6,ht]
   simp
  ·rintro σ H2 ⟨v,rfl,s2,e2⟩
   rw [Aa,AL] at e2
   have S2:=s2.same nc
   have TN2:=TN.same S2
   have htw2:=q8 TN2.R.tw
   have sa2:=TN2.sa
   refine ⟨_,kL e2,by simpa using TN.ne,fun top tm tx=>?_⟩
   have it:IsTop (ts.map fun t=>t.2) m top:=by
    obtain ⟨t,ht,et⟩:=Am.mp tm
    refine ⟨⟨t.2,Am.mpr ⟨t,ht,rfl⟩,et⟩,fun ws hw=>?_⟩
    obtain ⟨t',ht',rfl⟩:=Am.mp hw
    exact tx _ (Am.mpr ⟨t',ht',rfl⟩)
   (push_cast only [])
   (simp only [qL])
   (push_cast only [htw2,i0,sa2])
   intro d nd
   have nsd:sa ≠ d:=qF sa2 nd
   refine jY (FSK d Fn m top H2) ⟨none,rfl,SameX.upd,qG⟩ (fun j σ H' _ ⟨_,_,s,_⟩=>s _ _ nsd sa2) ?_ ?_
   ·rintro i x σ H3 hx ⟨v,rfl,s3,e3⟩
    rw [Ag] at hx
    obtain ⟨y,hy,rfl⟩:=Aj.mp hx
    have hi:i < m:=by
     have:=(Af.mp hy).1
     rwa [bits_len] at this
    have hy':y=if qC Fn i=true then 1 else 0:=by
     have:=bits_at (F:=Fn) hi
     rw [Ab,hy] at this
     exact this
    have fa:(firstL Fn m top)[i]? = some (if qC Fn i=true then top else 0):=by
     unfold firstL
     rw [Ag,List.getElem?_range hi]
     rfl
    have fin:∀ z:Int,z=(if qC Fn i=true then top else 0)→((firstL Fn m top).take i).length < sizeLine∧FSK d Fn m top H2 (i + 1) [some (.int y),some (.int top)] (upd H3 d (.lst (((firstL Fn m top).take i).map V.int ++ [V.int z]))):=fun z hz=>⟨qP (by rw [Av];omega),_,rfl,s3.trans SameX.upd,by rw [qG,A6,fa,hz,A7];rfl⟩
    cases e:qC Fn i with
    | false =>
     rw [e,Au (by decide)] at hy'
     rw [e] at fin
     subst hy'
     (push_cast only [e3])
     exact fin _ rfl
    | true =>
     rw [e,As rfl] at hy'
     rw [e] at fin
     subst hy'
     (push_cast only [e3])
     exact fin _ rfl
   ·rintro σ H3 ⟨v,rfl,s3,e3⟩
    rw [Aa,bits_len,AG (by rw [first_len];exact Ad _)] at e3
    (push_cast only [])
    exact ⟨_,e3,fun l H4 _ s4 e4=>q top l H4 it ((S2.trans (s3.same nd)).trans s4) e4⟩
theorem pF {ts:List (List Int)}{F:Nat}{ps qs:List Int}(p5:ps.length ≤ 5)(hl:ps.length=qs.length)(wl:∀ ws ∈ ts,ws.length=2 ^ ps.length)(g1:yU F ps (2 ^ ps.length)=yU F qs (2 ^ qs.length))(g2:ts.map (fun ws=>gI (kC ws ps) (jL ws ps) (kC ws ps).length)=ts.map (fun ws=>gI (kC ws qs) (jL ws qs) (kC ws qs).length)):pX ts ps qs∧∀ X,X < 2 ^ ps.length→bR F ps X=bR F qs X:=by
 refine ⟨fun ws hw h hh=>?_,fun X hX=>?_⟩
 ·have e:=List.map_inj_left.mp g2 ws hw
  have w1:=wl ws hw
  have w2:ws.length=2 ^ qs.length:=by rw [w1,hl]
  have key:∀ (rs:List Int),rs.length ≤ 5→ws.length=2 ^ rs.length→h < 2 ^ rs.length→((h:Int) ∈ gI (kC ws rs) (jL ws rs) (kC ws rs).length ↔ gN ws rs h=jL ws rs):=fun rs r5 rl rh=>by
   rw [← nJ r5 rl rh]
   unfold gI
   rw [Am]
   constructor
   ·rintro ⟨k,hk,ek⟩
    have ek':k=h:=by exact_mod_cast ek
    subst ek'
    exact Bj (By.mp hk).2
   ·intro z
    exact ⟨h,By.mpr ⟨AZ.mpr (by rw [yY rl];exact rh),A0 z⟩,rfl⟩
  rw [← key ps p5 w1 hh,← key qs (by omega) w2 (by rw [← hl];exact hh),e]
 ·have:X ∈ yU F ps (2 ^ ps.length) ↔ X ∈ yU F qs (2 ^ qs.length):=by rw [g1]
  rw [yG,yG,← hl] at this
  cases a:bR F ps X <;> cases b:bR F qs X
  ·rfl
  ·exact absurd (this.mpr ⟨hX,b⟩).2 (by rw [a];decide)
  ·exact absurd (this.mp ⟨hX,a⟩).2 (by rw [b];decide)
  ·rfl
def sp_on:Sp:=fun vs H Q _=>∃ (tw sa wa na:Addr) (ts:List (Addr × List Int)) (ps:List Int) (F N:Nat),vs=[.ref tw,.ref na]∧Tn H tw sa wa ts ps.length F∧H na=some (.tup (ps.map V.int))∧(∀ x ∈ ps,0 ≤ x∧x ≤ 1000)∧jG (ts.map fun t=>t.2) ps ≤ (N:Int)∧N ≤ 900∧∀ (t r p:Addr) (H':Hp),Same H H'→H' t=some (.tup [.ref r,.ref p])→H' r=some (.tup (natI (jZ (ts.map fun t=>t.2) F N ps).1))→H' p=some (.tup ((jZ (ts.map fun t=>t.2) F N ps).2.map V.int))→Q (.ref t) H'
structure Grd (r:Addr)(H:Hp)(g:Addr)(ts:List (Addr × List Int))(F:Nat)(ps:List Int):Prop where
 ex:∃ (l1 l2:Addr) (rs:List (Addr × List Int)),l1 ≠ r∧l2 ≠ r∧H g=some (.tup [.ref l1,.ref l2])∧H l1=some (.lst (natI (yU F ps (2 ^ ps.length))))∧H l2=some (.lst (rs.map fun r=>V.ref r.1))∧(∀ r ∈ rs,H r.1=some (.tup (r.2.map V.int)))∧(rs.map fun r=>r.2)=ts.map (fun t=>gI (kC t.2 ps) (jL t.2 ps) (kC t.2 ps).length)
def SOI (tw r:Addr)(ts:List (Addr × List Int))(F N:Nat)(ps0:List Int)(G:Hp)(n:Nat)(σ:St)(H:Hp):Prop:=∃ (v5:Option V) (pa g:Addr) (ps:List Int) (row:List Nat),σ=[some (.ref tw),some (.ref pa),some (.ref r),some (.ref g),some (.int ((xP (ts.map fun t=>t.2) F ps:Nat):Int)),v5]∧ps.length=ps0.length∧(∀ x ∈ ps,0 ≤ x∧x ≤ 1000 + (row.length:Int))∧row.length + n=N∧jG (ts.map fun t=>t.2) ps ≤ (n:Int)∧jZ (ts.map fun t=>t.2) F N ps0=(row ++ (jZ (ts.map fun t=>t.2) F n ps).1,(jZ (ts.map fun t=>t.2) F n ps).2)∧SameX r G H∧G r=some (.lst [])∧H r=some (.lst (natI row))∧H pa=some (.tup (ps.map V.int))∧Grd r H g ts F ps
theorem Grd.same {r:Addr}{H H':Hp}{g:Addr}{ts:List (Addr × List Int)}{F:Nat}{ps:List Int}(G:Grd r H g ts F ps)(hr:∃ xs,H r=some (.lst xs))(s:SameX r H H'):Grd r H' g ts F ps:=by
 obtain ⟨l1,l2,rs,n1,n2,h1,h2,h3,h4,h5⟩:=G.ex
 obtain ⟨xs,er⟩:=hr
 have nt:∀ {b:Addr} {L:List V},H b=some (.tup L)→b ≠ r:=fun h z=>by rw [z,er] at h;cases h
 exact ⟨l1,l2,rs,n1,n2,s _ _ (nt h1) h1,s _ _ n1 h2,s _ _ n2 h3,fun x hx=>s _ _ (nt (h4 x hx)) (h4 x hx),h5⟩
theorem fH:FnScope ["town", "prices", "row", "ground", "heap", "before"] ["town", "prices"] (qE s_steps_on):=⟨rfl,rfl,rfl,by decide +kernel,rfl,by decide +kernel,by decide +kernel⟩
theorem ok_on (F:Fun K "steps_on" "steps_on" s_steps_on f fd) (hm:mg "steps_on" = some (.ref f)) (hb:Binds K fd ["town", "prices"] []) (T:Txt mg) (c_ground_of:Cal P w K mg base "ground_of" ["town", "prices"] 4 cI) (c_next_step:Cal P w K mg base "next_step" ["town", "prices"] 5 tD) (c_stepped:Cal P w K mg base "stepped" ["sides", "prices", "heap"] 2 sp_step):Cal P w K mg base "steps_on" ["town", "prices"] 6 sp_on:=by
 refine q0 F hm hb fH (fun vs H Q E h=>?_) (fun cdv A outer s H vs Q E hr h=>?_)
 ·obtain ⟨_,_,_,_,_,_,_,_,rfl,_⟩:=h;rfl
 ·obtain ⟨tw,sa,wa,na,ts,ps0,Fn,N,rfl,TN,hna,nb,sN,N9,q⟩:=h
  have sc:=fH
  have p5:=TN.R.five
  have few:=TN.R.few
  refine ⟨_,qK (qY (i:=2) sc.nd rfl (Or.inl rfl) (jC qD))
   (qK (qY (i:=3) sc.nd rfl (Or.inl rfl) (qJ c_ground_of hr (qA (pv 0) (qA (pv 1) qD))))
   (qK (qY (i:=4) sc.nd rfl (Or.inl rfl) (qJ c_next_step hr (qA (pv 0) (qA (pv 1) qD))))
   (qK (iY AA (q5 tM (pv 4) qH (qZ _)) (qK (zH (zB (pv 2) (qA (pv 4) qD)))
   (qK (qY (i:=1) sc.nd rfl (Or.inl rfl) (qJ c_stepped hr (qA (kH yJ (pv 0) qH (fun _ _=>rfl)) (qA (pv 1) (qA (pv 4) qD)))))
   (qK (qY (i:=5) sc.nd rfl (Or.inl rfl) (pv 3))
   (qK (qY (i:=3) sc.nd rfl (Or.inl rfl) (qJ c_ground_of hr (qA (pv 0) (qA (pv 1) qD))))
   (qI (zD (q5 (neGr0 hr.units) (pv 3) (pv 5) (qZ _)) (qI (qY (i:=4) sc.nd rfl (Or.inl rfl) (qJ c_next_step hr (qA (pv 0) (qA (pv 1) qD))))) jB)))))))
   (qI (qS (kQ (qA (kM z6 rfl T.tuple_ kN (qA (pv 2) qD)) (qA (pv 1) qD)))))))),?_⟩
  rw [show L2.start ["town", "prices", "row", "ground", "heap", "before"] [.ref tw,.ref na] = [some (.ref tw),some (.ref na),none,none,none,none] from rfl]
  (push_cast only [])
  refine ⟨by decide,fun r H1 nr s1 e1=>?_⟩
  have TN1:=TN.same s1
  have na1:=s1 _ _ hna
  (push_cast only [])
  (simp only [qL])
  (push_cast only [])
  refine ⟨tw,sa,wa,na,ts,ps0,Fn,rfl,TN1,na1,fun g l1 l2 rs H2 f1 f2 s2 g1 g2 g3 g4 g5=>?_⟩
  (push_cast only [])
  (simp only [qL])
  (push_cast only [])
  refine ⟨tw,sa,wa,na,ts,ps0,Fn,rfl,TN1.same s2,s2 _ _ na1,fun x hx=>by have:=nb x hx;omega,fun H3 s3=>?_⟩
  (push_cast only [])
  (simp only [qL])
  have e13:=s3 _ _ (s2 _ _ e1)
  have S3:=(s1.trans s2).trans s3
  have up3:∀ {b:Addr} {o:HO},H2 b=some o→H3 b=some o:=fun {b o} e=>s3 _ _ e
  have TN3:=TN.same S3
  have wl:∀ ws ∈ ts.map (fun t=>t.2),ws.length=2 ^ ps0.length:=fun ws hw=>by
   obtain ⟨t,ht,rfl⟩:=Am.mp hw
   exact (TN.R.row t ht).2.1
  have z0:∀ ws ∈ ts.map (fun t=>t.2),0 ≤ ws.getD 0 0:=fun ws hw=>by
   have l:=wl ws hw
   obtain ⟨t,ht,rfl⟩:=Am.mp hw
   have pp:=AE ps0.length
   rw [Ab,Ae (show 0 < t.2.length by rw [l];exact pp)]
   exact ((TN.R.row t ht).2.2 _ (AH _)).1
  refine ⟨SOI tw r ts Fn N ps0 H3,⟨N,_,na,g,ps0,[],rfl,rfl,(fun x hx=>by have:=nb x hx;simp;omega),by simp,sN,rfl,SameX.refl,e13,e13,s3 _ _ (s2 _ _ na1),⟨l1,l2,rs,(qF e1 f1).symm,(qF e1 f2).symm,up3 g1,up3 g2,up3 g3,fun r hr=>up3 (g4 r hr),g5⟩⟩,?_⟩
  rintro n σ H4 ⟨v5,pa,g',ps,row,rfl,pl,pb,rn,sn,run,s4,r0,r4,pa4,G4⟩
  have p5':ps.length ≤ 5:=by omega
  have p32:=kW p5'
  have nlt:=rS (ts.map fun t=>t.2) Fn ps
  have nal:=oR (ts.map fun t=>t.2) Fn ps
  have k4:∀ {b:Addr} {o:HO},H b=some o→H4 b=some o:=fun {b o} e=>s4 _ _ (qF e nr) (S3 _ _ e)
  by_cases z:xP (ts.map fun t=>t.2) Fn ps=0
  ·rw [mW z,Bx] at run
   rw [z]
   (push_cast only [])
   rw [Au (by simp)]
   refine ⟨_,r4,fun l H5 n5 s5 e5=>⟨by decide,fun p H6 n6 s6 e6=>?_⟩⟩
   exact q p l pa H6 (fun b o e=>s6 _ _ (s5 _ _ (k4 e))) e6 (by rw [run];exact s6 _ _ e5) (by rw [run];exact s6 _ _ (s5 _ _ pa4))
  ·have z':((xP (ts.map fun t=>t.2) Fn ps:Nat):Int) ≠ 0:=by omega
   obtain ⟨k,rfl,sk,nn',rm⟩:=iM z0 p5' (fun x hx=>(pb x hx).1) sn z
   generalize hX:xP (ts.map fun t=>t.2) Fn ps=X at *
   (push_cast only [z'])
   refine ⟨fun σ' H'=>SOI tw r ts Fn N ps0 H3 k σ' H',fun σ' H' zz=>⟨k,by omega,zz⟩,_,r4,_,r4,qP (by unfold natI;rw [Aa];omega),?_⟩
   have npr:pa ≠ r:=fun y=>by rw [y,r4] at pa4;cases pa4
   have u5:SameX r H4 (upd H4 r (.lst (natI row ++ [V.int (X:Int)]))):=SameX.upd
   have r5:upd H4 r (.lst (natI row ++ [V.int (X:Int)])) r=some (.lst (natI (row ++ [X]))):=by rw [qG];unfold natI;simp
   have G5:=G4.same ⟨_,r4⟩ u5
   revert u5 r5 G5
   generalize upd H4 r (.lst (natI row ++ [V.int (X:Int)]))=H5
   intro u5 r5 G5
   have k5:∀ {b:Addr} {o:HO},H b=some o→H5 b=some o:=fun {b o} e=>u5 _ _ (qF e nr) (k4 e)
   have TN5:Tn H5 tw sa wa ts ps0.length Fn:=TN.same fun b o e=>k5 e
   have htw5:=q8 TN5.R.tw
   have i0:∀ x y:V,dM [x,y] 0=some x:=fun _ _=>rfl
   (simp only [qL])
   (push_cast only [htw5,i0])
   refine ⟨pa,sa,ps,Fn,(X:Int),rfl,u5 _ _ npr pa4,by rw [pl];exact TN5.sa,p5',fun pc H6 s6 e6=>?_⟩
   rw [msk_nat (by omega)] at e6
   (push_cast only [])
   (simp only [qL])
   (push_cast only [])
   (simp only [qL])
   (push_cast only [])
   have sl:(qX ps Fn X).length=ps0.length:=by rw [jA];exact pl
   refine ⟨tw,sa,wa,pc,ts,qX ps Fn X,Fn,rfl,by rw [sl];exact TN5.same s6,e6,fun g2 m1 m2 rs2 H7 f1' f2' s7 h1 h2 h3 h4 h5=>?_⟩
   have r67:=s6 _ _ r5
   have r7:=s7 _ _ r67
   have G7:Grd r H7 g2 ts Fn (qX ps Fn X):=⟨m1,m2,rs2,(qF r67 f1').symm,(qF r67 f2').symm,h1,h2,h3,h4,h5⟩
   obtain ⟨o1,o2,rs1,_,_,j1,j2,j3,j4,j5⟩:=G5.ex
   have S57:=s6.trans s7
   (push_cast only [])
   (simp only [qL])
   (push_cast only [↓a_rNeGr])
   have ni:∀ xs:List Nat,natI xs=(xs.map fun x:Nat=>(x:Int)).map V.int:=fun xs=>by unfold natI;rw [AO];rfl
   refine ⟨m1,m2,h1,o1,o2,S57 _ _ j1,_,by rw [h2,ni],_,rs2,h3,by rw [← ni];exact S57 _ _ j2,rs1,S57 _ _ j3,h4,fun x hx=>S57 _ _ (j4 x hx),?_⟩
   have fin:∀ H8,Same H7 H8→SOI tw r ts Fn N ps0 H3 k [some (V.ref tw),some (V.ref pc),some (V.ref r),some (V.ref g2),some (V.int ((xP (ts.map fun t=>t.2) Fn (qX ps Fn X):Nat):Int)),some (V.ref g')] H8:=fun H8 s8=>by
    refine ⟨_,pc,g2,qX ps Fn X,row ++ [X],rfl,sl,fun x hx=>⟨nn' x hx,?_⟩,by rw [Ax,Bc];omega,sk,?_,(s4.trans u5).trans (S57.trans s8).x,r0,s8 _ _ r7,s8 _ _ (s7 _ _ e6),G7.same ⟨_,r7⟩ s8.x⟩
    ·have:=mQ (F:=Fn) (X:=X) (c:=1000 + (row.length:Int)) (fun x hx=>(pb x hx).2) x hx
     rw [Ax,Bc]
     omega
    ·rw [run,rm,List.append_assoc]
     rfl
   by_cases c:(!(decide ((yU Fn (qX ps Fn X) (2 ^ (qX ps Fn X).length)).map (fun x:Nat=>(x:Int))=(yU Fn ps (2 ^ ps.length)).map fun x:Nat=>(x:Int)) && decide (rs2.map (fun x=>x.2)=rs1.map fun x=>x.2)))=true
   ·rw [As c]
    refine ⟨tw,sa,wa,pc,ts,qX ps Fn X,Fn,rfl,by rw [sl];exact TN5.same S57,s7 _ _ e6,fun x hx=>?_,fun H8 s8=>fin H8 s8⟩
    have:=mQ (F:=Fn) (X:=X) (c:=1000 + (row.length:Int)) (fun x hx=>(pb x hx).2) x hx
    exact ⟨nn' x hx,by omega⟩
   ·rw [Au c]
    simp only [Bool.not_eq_true,Bool.not_eq_false',AF,AU] at c
    obtain ⟨c1,c2⟩:=c
    have c1':=(BF (fun a b h=>by exact_mod_cast h)).mp c1
    rw [h5,j5] at c2
    have gs:=pF (ts:=ts.map fun t=>t.2) (F:=Fn) (ps:=ps) (qs:=qX ps Fn X) p5' (jA ps Fn X).symm (by rw [pl];exact wl) c1'.symm (by rw [AO,AO];exact c2.symm)
    have ns:=oP p5' (jA ps Fn X).symm (by rw [pl];exact TN.hF) (by rw [pl];exact TN.kd) gs.1 gs.2
    have:=fin H7 (Same.refl H7)
    rw [← ns,hX] at this
    exact this
def sp_steps:Sp:=fun vs H Q _=>∃ (tw sa wa:Addr) (ts:List (Addr × List Int)) (m F:Nat),vs=[.ref tw]∧Tn H tw sa wa ts m F∧(∀ top,IsTop (ts.map fun t=>t.2) m top→0 ≤ top∧top ≤ 1000∧jG (ts.map fun t=>t.2) (firstL F m top) ≤ 399)∧∀ (top:Int) (t r p:Addr) (H':Hp),IsTop (ts.map fun t=>t.2) m top→Same H H'→H' t=some (.tup [.ref r,.ref p])→H' r=some (.tup (natI (jZ (ts.map fun t=>t.2) F 399 (firstL F m top)).1))→H' p=some (.tup ((jZ (ts.map fun t=>t.2) F 399 (firstL F m top)).2.map V.int))→Q (.ref t) H'
theorem fI:FnScope ["town"] ["town"] (qE s_steps_of):=⟨rfl,rfl,rfl,by decide +kernel,rfl,by decide +kernel,by decide +kernel⟩
theorem ok_steps (F:Fun K "steps_of" "steps_of" s_steps_of f fd) (hm:mg "steps_of" = some (.ref f)) (hb:Binds K fd ["town"] []) (T:Txt mg) (c_first_prices:Cal P w K mg base "first_prices" ["town"] 1 sp_first) (c_steps_on:Cal P w K mg base "steps_on" ["town", "prices"] 6 sp_on):Cal P w K mg base "steps_of" ["town"] 7 sp_steps:=by
 refine q0 F hm hb fI (fun vs H Q E h=>?_) (fun cdv A outer s H vs Q E hr h=>?_)
 ·obtain ⟨_,_,_,_,_,_,rfl,_⟩:=h;rfl
 ·obtain ⟨tw,sa,wa,ts,m,Fn,rfl,TN,bd,q⟩:=h
  have sc:=fI
  refine ⟨_,qI (qS (qJ c_steps_on hr (qA (pv 0) (qA (qJ c_first_prices hr (qA (pv 0) qD)) qD)))),?_⟩
  rw [show L2.start ["town"] [.ref tw] = [some (.ref tw)] from rfl]
  (push_cast only [])
  refine ⟨tw,sa,wa,ts,m,Fn,rfl,TN,fun top p H1 it s1 e1=>?_⟩
  obtain ⟨t0,t1,t2⟩:=bd top it
  refine ⟨tw,sa,wa,p,ts,firstL Fn m top,Fn,399,rfl,by rw [first_len];exact TN.same s1,e1,fun x hx=>?_,t2,by decide,fun t r p2 H2 s2 e2 r2 p2'=>?_⟩
  ·rcases first_mem hx with z | z <;> omega
  ·exact q top t r p2 H2 it (s1.trans s2) e2 r2 p2'
theorem cK:FnScope ["town"] ["town"] (qE s_rising):=⟨rfl,rfl,rfl,by decide +kernel,rfl,by decide +kernel,by decide +kernel⟩
theorem ok_rising (F:Fun K "rising" "rising" s_rising f fd) (T:Txt mg) (c_refuse_strange:Cal P w K mg base "refuse_strange" ["town"] 7 dW) (c_steps_of:Cal P w K mg base "steps_of" ["town"] 7 sp_steps):FnOk P w K mg base CX0 8 f fd ["town"] sp_steps:=by
 refine F.ok cK (fun vs H Q E h=>?_) (fun cdv A outer s H vs Q E hr h=>?_)
 ·obtain ⟨_,_,_,_,_,_,rfl,_⟩:=h;rfl
 ·obtain ⟨tw,sa,wa,ts,m,Fn,rfl,TN,bd,q⟩:=h
  have sc:=cK
  refine ⟨_,qK (zH (qJ c_refuse_strange hr (qA (pv 0) qD)))
   (qI (qS (qJ c_steps_of hr (qA (pv 0) qD)))),?_⟩
  rw [show L2.start ["town"] [.ref tw] = [some (.ref tw)] from rfl]
  (push_cast only [])
  refine ⟨tw,sa,wa,ts,Fn,m,rfl,TN.R.tw,TN.sa,TN.R.wa,(fun r hr=>⟨(TN.R.row r hr).1,(TN.R.row r hr).2.1⟩),TN.R.five,TN.hF,(fun r hr=>TN.kd r.2 (Am.mpr ⟨r,hr,rfl⟩)),fun H1 s1=>?_⟩
  (push_cast only [])
  (simp only [qL])
  (push_cast only [])
  exact ⟨tw,sa,wa,ts,m,Fn,rfl,TN.same s1,bd,fun top t r p H2 it s2 e2 r2 p2=>q top t r p H2 it (s1.trans s2) e2 r2 p2⟩
def cpl (m F:Nat):Nat:=(2 ^ m - 1) ^^^ F
theorem mB {m F t:Nat}(m5:m ≤ 5)(hF:F < 2 ^ m)(ht:t < m):qC (cpl m F) t = !qC F t:=by
 have key:∀ (m:_root_.Fin 6) (F:_root_.Fin 32) (t:_root_.Fin 5),F.val < 2 ^ m.val→t.val < m.val→qC (cpl m.val F.val) t.val = !qC F.val t.val:=by decide +kernel
 have:=kW m5
 exact key ⟨m,by omega⟩ ⟨F,by omega⟩ ⟨t,by omega⟩ hF ht
theorem cpl_lt {m F:Nat}(hF:F < 2 ^ m):cpl m F < 2 ^ m:=by
 have pp:=AE m
 exact BG (by omega) hF
theorem ext_cpl {g:Nat→Int}{m F:Nat}(m5:m ≤ 5)(hF:F < 2 ^ m)(ex:fV g m F):fV g m (cpl m F):=by
 intro X Y i hX hY hi xi yi
 have p32:=kW m5
 have hC:=cpl_lt hF
 have fl:∀ Z t,Z < 2 ^ m→t < m→qC (Z ^^^ cpl m F) t = !qC (Z ^^^ F) t:=fun Z t hZ ht=>by
  rw [dP (show Z < 32 by omega) (show cpl m F < 32 by omega) (show t < 5 by omega),dP (show Z < 32 by omega) (show F < 32 by omega) (show t < 5 by omega),mB m5 hF ht]
  cases qC Z t <;> cases qC F t <;> rfl
 rw [fl X i hX hi] at xi
 rw [fl Y i hY hi] at yi
 rcases ex Y X i hY hX hi (by cases b:qC (Y ^^^ F) i;(· rw [b] at yi;cases yi);rfl) (by cases b:qC (X ^^^ F) i;(· rfl);rw [b] at xi;cases xi) with le | ⟨j,hj,b1,b2,le⟩
 ·exact .inl (by omega)
 ·exact .inr ⟨j,hj,by rw [fl Y j hY hj,b2];rfl,by rw [fl X j hX hj,b1];rfl,by omega⟩
theorem bits_cpl {m F:Nat}(m5:m ≤ 5)(hF:F < 2 ^ m):(bitsL F m).map (fun x=>1 - x)=bitsL (cpl m F) m:=by
 unfold bitsL
 rw [AO]
 refine Cw fun t ht=>?_
 show 1 - (if qC F t=true then (1:Int) else 0)=if qC (cpl m F) t=true then 1 else 0
 rw [mB m5 hF (AZ.mp ht)]
 cases qC F t <;> rfl
def z3 (f:Int→Int→Int→Int)(ss ns ms:List Int):List Int:=(ss.zip (ns.zip ms)).map fun q=>f q.1 q.2.1 q.2.2
def others (ss:List Int):List Int:=ss.map fun s=>1 - s
def cH:Sp:=fun vs H Q _=>∃ (a:Addr) (ss:List Int),vs=[.ref a]∧H a=some (.tup (ss.map V.int))∧ss.length ≤ 5∧∀ (t:Addr) (H':Hp),H t=none→Same H H'→H' t=some (.tup ((others ss).map V.int))→Q (.ref t) H'
def O1 (c:Addr)(ss:List Int)(G:Hp)(i:Nat)(σ:St)(H:Hp):Prop:=∃ v:Option V,σ=[v]∧SameX c G H∧H c=some (.lst (((others ss).take i).map V.int))
theorem vA:FnScope ["sides"] ["sides"] (qE s_other_sides):=⟨rfl,rfl,rfl,by decide +kernel,rfl,by decide +kernel,by decide +kernel⟩
theorem ok_others (F:Fun K "other_sides" "other_sides" s_other_sides f fd) (hm:mg "other_sides" = some (.ref f)) (hb:Binds K fd ["sides"] []) (T:Txt mg):Cal P w K mg base "other_sides" ["sides"] 1 cH:=by
 refine q0 F hm hb vA (fun vs H Q E h=>?_) (fun cdv A outer s H vs Q E hr h=>?_)
 ·obtain ⟨_,_,rfl,_⟩:=h;rfl
 ·obtain ⟨a,ss,rfl,ha,h5,q⟩:=h
  have sc:=vA
  refine ⟨_,qI (qS (kM z6 rfl T.tuple_ kN (qA (jQ (N:=["side"]) (fr:=[none]) rfl (vF (pv 0)) (CScope.of rfl rfl rfl) rfl (fun _ _ _=>⟨qM (i:=0) (show List.Nodup (α:=Str) ["side"] by decide +kernel) rfl (Or.inl rfl),kP,qV dY qH (pv 0)⟩)) qD))),?_⟩
  rw [show L2.start ["sides"] [.ref a] = [some (.ref a)] from rfl]
  (push_cast only [ha])
  intro c nc
  have nca:a ≠ c:=qF ha nc
  refine jY (O1 c ss H) ⟨none,rfl,SameX.upd,qG⟩ (fun j σ H' _ ⟨_,_,s,_⟩=>s _ _ nca ha) ?_ ?_
  ·rintro j x σ H3 hx ⟨v3,rfl,s3,e3⟩
   rw [Ag] at hx
   obtain ⟨t,ht,rfl⟩:=Aj.mp hx
   have hj:j < ss.length:=(Af.mp ht).1
   (push_cast only [e3])
   refine ⟨qP (by rw [Av];omega),⟨_,rfl,s3.trans SameX.upd,?_⟩⟩
   have ho:(others ss)[j]? = some (1 - t):=by unfold others;rw [Ag,ht];rfl
   rw [qG,A6,ho]
   simp
  ·rintro σ H3 ⟨v3,rfl,s3,e3⟩
   rw [Aa,AG (by unfold others;simp)] at e3
   refine ⟨_,e3,fun l H2 nl s2 e2=>?_⟩
   have s3':=s3.same nc
   exact q l H2 (kZ s3' nl) (s3'.trans s2) e2
def IsT (H:Hp)(a:Addr)(ns:List Int):Prop:=H a=some (.tup (ns.map V.int))∨H a=some (.lst (ns.map V.int))
theorem IsT.c {H:Hp}{a:Addr}{ns:List Int}(h:IsT H a ns):∃ c,dN H c a (ns.map V.int):=by
 rcases h with h | h
 ·exact ⟨_,.inr ⟨rfl,h⟩⟩
 ·exact ⟨_,.inl ⟨rfl,h⟩⟩
def sp_ow:Sp:=fun vs H Q _=>∃ (tw sa wa:Addr) (ts:List (Addr × List Int)) (m F:Nat),vs=[.ref tw]∧Tn H tw sa wa ts m F∧∀ (tw' sa':Addr) (H':Hp),Same H H'→Tn H' tw' sa' wa ts m (cpl m F)→Q (.ref tw') H'
theorem gR:FnScope ["town", "sides", "wants"] ["town"] (qE s_other_way):=⟨rfl,rfl,rfl,by decide +kernel,rfl,by decide +kernel,by decide +kernel⟩
theorem ok_ow (F:Fun K "other_way" "other_way" s_other_way f fd) (hm:mg "other_way" = some (.ref f)) (hb:Binds K fd ["town"] []) (T:Txt mg) (c_other_sides:Cal P w K mg base "other_sides" ["sides"] 1 cH):Cal P w K mg base "other_way" ["town"] 2 sp_ow:=by
 refine q0 F hm hb gR (fun vs H Q E h=>?_) (fun cdv A outer s H vs Q E hr h=>?_)
 ·obtain ⟨_,_,_,_,_,_,rfl,_⟩:=h;rfl
 ·obtain ⟨tw,sa,wa,ts,m,Fn,rfl,TN,q⟩:=h
  have sc:=gR
  refine ⟨_,kE (zY (pv 0) (kU (n:=2) rfl (qU (qM (i:=1) sc.nd rfl (Or.inl rfl)) (qU (qM (i:=2) sc.nd rfl (Or.inl rfl)) kT))))
   (qI (qS (kQ (qA (qJ c_other_sides hr (qA (pv 1) qD)) (qA (pv 2) qD))))),?_⟩
  rw [show L2.start ["town", "sides", "wants"] [.ref tw] = [some (.ref tw),none,none] from rfl]
  have et:=TN.R.tw
  have p5:=TN.R.five
  (push_cast only [et])
  refine ⟨sa,bitsL Fn m,rfl,TN.sa,by rw [bits_len];exact p5,fun sd' H1 n1 s1 e1=>⟨by decide,fun t' H2 n2 s2 e2=>?_⟩⟩
  have S2:=s1.trans s2
  have TN2:=TN.same S2
  refine q t' sd' H2 S2 ⟨⟨e2,TN2.R.wa,TN.R.few,p5,TN2.R.row⟩,?_,cpl_lt TN.hF,fun ws hw=>ext_cpl p5 TN.hF (TN.kd ws hw),TN.ne⟩
  rw [← bits_cpl p5 TN.hF]
  exact s2 _ _ e1
def sp_fall:Sp:=fun vs H Q _=>∃ (tw sa wa:Addr) (ts:List (Addr × List Int)) (m F:Nat),vs=[.ref tw]∧Tn H tw sa wa ts m F∧(∀ top,IsTop (ts.map fun t=>t.2) m top→0 ≤ top∧top ≤ 1000∧jG (ts.map fun t=>t.2) (firstL (cpl m F) m top) ≤ 399)∧∀ (top:Int) (t r p:Addr) (H':Hp),IsTop (ts.map fun t=>t.2) m top→Same H H'→H' t=some (.tup [.ref r,.ref p])→H' r=some (.tup (natI (jZ (ts.map fun t=>t.2) (cpl m F) 399 (firstL (cpl m F) m top)).1))→H' p=some (.tup ((jZ (ts.map fun t=>t.2) (cpl m F) 399 (firstL (cpl m F) m top)).2.map V.int))→Q (.ref t) H'
theorem wK:FnScope ["town"] ["town"] (qE s_falling):=⟨rfl,rfl,rfl,by decide +kernel,rfl,by decide +kernel,by decide +kernel⟩
theorem ok_falling (F:Fun K "falling" "falling" s_falling f fd) (T:Txt mg) (c_refuse_strange:Cal P w K mg base "refuse_strange" ["town"] 7 dW) (c_other_way:Cal P w K mg base "other_way" ["town"] 2 sp_ow) (c_steps_of:Cal P w K mg base "steps_of" ["town"] 7 sp_steps):FnOk P w K mg base CX0 8 f fd ["town"] sp_fall:=by
 refine F.ok wK (fun vs H Q E h=>?_) (fun cdv A outer s H vs Q E hr h=>?_)
 ·obtain ⟨_,_,_,_,_,_,rfl,_⟩:=h;rfl
 ·obtain ⟨tw,sa,wa,ts,m,Fn,rfl,TN,bd,q⟩:=h
  have sc:=wK
  refine ⟨_,qK (zH (qJ c_refuse_strange hr (qA (pv 0) qD)))
   (qI (qS (qJ c_steps_of hr (qA (qJ c_other_way hr (qA (pv 0) qD)) qD)))),?_⟩
  rw [show L2.start ["town"] [.ref tw] = [some (.ref tw)] from rfl]
  (push_cast only [])
  refine ⟨tw,sa,wa,ts,Fn,m,rfl,TN.R.tw,TN.sa,TN.R.wa,(fun r hr=>⟨(TN.R.row r hr).1,(TN.R.row r hr).2.1⟩),TN.R.five,TN.hF,(fun r hr=>TN.kd r.2 (Am.mpr ⟨r,hr,rfl⟩)),fun H1 s1=>?_⟩
  (push_cast only [])
  (simp only [qL])
  (push_cast only [])
  refine ⟨tw,sa,wa,ts,m,Fn,rfl,TN.same s1,fun tw' sa' H2 s2 TN2=>?_⟩
  exact ⟨tw',sa',wa,ts,m,cpl m Fn,rfl,TN2,bd,fun top t r p H3 it s3 e3 r3 p3=>q top t r p H3 it ((s1.trans s2).trans s3) e3 r3 p3⟩
end
end S
section
variable {P:Program}{w:World}{K:PySem.W.Frag}{mg:Str→Option Value}{base:Heap}{f:Addr}{fd:FuncData}
def rZ:V→Bool
 | .int _=>true
 | _=>false
theorem tyN_isI {H:Hp}{x:V}{t:String}(h:jR H x=some t):((t == "int" || (t == "bool" && true)) && !(t == "bool"))=rZ x:=by
 cases x with
 | non=>cases h;rfl
 | bl b=>cases h;rfl
 | int i=>cases h;rfl
 | str i=>cases h;rfl
 | ref a =>
  cases e:H a with
  | none=>simp [jR,e] at h
  | some o =>
   cases o with
   | lst xs=>simp [jR,e] at h;subst h;rfl
   | tup xs=>simp [jR,e] at h;subst h;rfl
   | dK xs=>simp [jR,e] at h;subst h;rfl
   | _=>simp [jR,e] at h
 | _=>cases h
theorem zJ {H H':Hp}(s:Same H H'){x:V}{t:String}(h:jR H x=some t):jR H' x=some t:=by
 cases x with
 | ref a =>
  cases e:H a with
  | none=>simp [jR,e] at h
  | some o=>simp only [jR,e] at h;simp only [jR,s a o e];exact h
 | _=>exact h
def lC:Sp:=fun vs H Q _=>∃ (x:V) (t:String),vs=[x]∧jR H x=some t∧Q (.bl (rZ x)) H
theorem fJ:FnScope ["thing"] ["thing"] (qE s_is_whole):=⟨rfl,rfl,rfl,by decide +kernel,rfl,by decide +kernel,by decide +kernel⟩
theorem oE (F:Fun K "is_whole" "is_whole" s_is_whole f fd) (hm:mg "is_whole" = some (.ref f)) (hb:Binds K fd ["thing"] []) (T:Txt mg):Cal P w K mg base "is_whole" ["thing"] 1 lC:=by
 refine q0 F hm hb fJ (fun vs H Q E h=>?_) (fun cdv A outer s H vs Q E hr h=>?_)
 ·obtain ⟨_,_,rfl,_⟩:=h;rfl
 ·obtain ⟨x,t,rfl,hx,q⟩:=h
  have sc:=fJ
  refine ⟨_,qI (qS (zC (qR aP rfl T.isinstance_ jN (qA (pv 0) (qA (vO (v:=.ty "int") rfl T.int_ bt_int rfl) qD))) (vG (pe_not (qR aP rfl T.isinstance_ jN (qA (pv 0) (qA (vO (v:=.ty "bool") rfl T.bool_ bt_bool rfl) qD))))))),?_⟩
  rw [show L2.start ["thing"] [x] = [some (x)] from rfl]
  rw [← tyN_isI hx] at q
  (push_cast only [])
  refine ⟨_,hx,?_⟩
  obtain ⟨_,ht⟩:=eS (K:=K) hx
  rcases ht with rfl | rfl | rfl | rfl | rfl | rfl | rfl
  all_goals first
   | (rw [Au (by decide)];simpa using q)
   | (rw [As (by decide)];refine ⟨_,hx,?_⟩;simpa using q)
def Kn (H:Hp)(xs:List V):Prop:=∀ x ∈ xs,∃ t,jR H x=some t
theorem Kn.same {H H':Hp}(s:Same H H'){xs:List V}(k:Kn H xs):Kn H' xs:=fun x hx=>let ⟨t,e⟩:=k x hx;⟨t,zJ s e⟩
theorem Kn.ints {H:Hp}(ns:List Int):Kn H (ns.map V.int):=fun x hx=>by
 obtain ⟨n,_,rfl⟩:=Am.mp hx
 exact ⟨"int",rfl⟩
def cB:Sp:=fun vs H Q _=>(∃ (x:V) (k:Int) (t:String),vs=[x,.int k]∧jR H x=some t∧(t == "tuple")=false∧Q (.bl false) H) ∨
 ∃ (a:Addr) (k:Int) (xs:List V),vs=[.ref a,.int k]∧H a=some (.tup xs)∧Kn H xs∧xs.length < 1000∧∀ H',Same H H'→Q (.bl (decide ((xs.length:Int)=k) && xs.all rZ)) H'
def LW (c:Addr)(xs:List V)(G:Hp)(i:Nat)(σ:St)(H:Hp):Prop:=∃ v,σ=[v]∧SameX c G H∧H c=some (.lst (((xs.take i).map rZ).map V.bl))
theorem zW:FnScope ["thing", "many"] ["thing", "many"] (qE s_are_wholes):=⟨rfl,rfl,rfl,by decide +kernel,rfl,by decide +kernel,by decide +kernel⟩
theorem aA (F:Fun K "are_wholes" "are_wholes" s_are_wholes f fd) (hm:mg "are_wholes" = some (.ref f)) (hb:Binds K fd ["thing", "many"] []) (T:Txt mg) (c_is_whole:Cal P w K mg base "is_whole" ["thing"] 1 lC):Cal P w K mg base "are_wholes" ["thing", "many"] 2 cB:=by
 refine q0 F hm hb zW (fun vs H Q E h=>?_) (fun cdv A outer s H vs Q E hr h=>?_)
 ·rcases h with h | h
  ·obtain ⟨_,_,_,rfl,_⟩:=h;rfl
  ·obtain ⟨_,_,_,rfl,_⟩:=h;rfl
 ·rcases h with h | h
  ·obtain ⟨x,k,t,rfl,hx,ht,q⟩:=h
   have sc:=zW
   refine ⟨_,qI (qS (zC (qR aP rfl T.isinstance_ jN (qA (pv 0) (qA (vO (v:=.ty "tuple") rfl T.tuple_ kN rfl) qD))) (zC (jU j0 (qR len0 rfl T.len_ kY (qA (pv 0) qD)) (pv 1) (qZ _)) (vG (qR (all0 rfl) rfl T.all_ bt_all (qA (jQ (N:=["part"]) (fr:=[none]) rfl (vF (pv 0)) (CScope.of rfl rfl rfl) rfl (fun _ _ _=>⟨qM (i:=0) (show List.Nodup (α:=Str) ["part"] by decide +kernel) rfl (Or.inl rfl),kP,qJ c_is_whole hr (qA (pv 0) qD)⟩)) qD)))))),?_⟩
   rw [show L2.start ["thing", "many"] [x,.int k] = [some (x),some (.int k)] from rfl]
   (push_cast only [])
   refine ⟨_,hx,?_⟩
   (push_cast only [])
   rw [Au (by rw [ht];decide)]
   exact q
  ·obtain ⟨a,k,xs,rfl,ha,hk,hlen,q⟩:=h
   have sc:=zW
   refine ⟨_,qI (qS (zC (qR aP rfl T.isinstance_ jN (qA (pv 0) (qA (vO (v:=.ty "tuple") rfl T.tuple_ kN rfl) qD))) (zC (jU j0 (qR len0 rfl T.len_ kY (qA (pv 0) qD)) (pv 1) (qZ _)) (vG (qR (all0 rfl) rfl T.all_ bt_all (qA (jQ (N:=["part"]) (fr:=[none]) rfl (vF (pv 0)) (CScope.of rfl rfl rfl) rfl (fun _ _ _=>⟨qM (i:=0) (show List.Nodup (α:=Str) ["part"] by decide +kernel) rfl (Or.inl rfl),kP,qJ c_is_whole hr (qA (pv 0) qD)⟩)) qD)))))),?_⟩
   rw [show L2.start ["thing", "many"] [.ref a,.int k] = [some (.ref a),some (.int k)] from rfl]
   have hsa:=q8 ha
   (push_cast only [ha,hsa])
   by_cases hl:(xs.length:Int)=k
   ·rw [As hl]
    intro c nc
    have nac:a ≠ c:=qF ha nc
    refine jY (LW c xs H) ⟨none,rfl,SameX.upd,qG⟩ (fun j σ H' _ ⟨_,_,s,_⟩=>s _ _ nac ha) ?_ ?_
    ·rintro i x σ H1 hx ⟨v,rfl,s1,e1⟩
     obtain ⟨t,ht⟩:=hk x (Ap hx)
     have ht1:=zJ (s1.same nc) ht
     have hi:i < xs.length:=(Af.mp hx).1
     (push_cast only [e1])
     refine ⟨_,_,rfl,ht1,?_⟩
     refine ⟨_,e1,qP (by rw [Aa,Aa,Av];omega),⟨_,rfl,s1.trans SameX.upd,?_⟩⟩
     rw [qG,A6,hx]
     simp
    ·rintro σ H1 ⟨v,rfl,s1,e1⟩
     rw [AL] at e1
     refine ⟨_,kL e1,?_⟩
     have:=q H1 (s1.same nc)
     rw [A0 hl,BL] at this
     rw [List.all_map]
     exact this
   ·rw [Au hl]
    have:=q H (Same.refl H)
    rw [Al hl,BA] at this
    exact this
theorem isI_int {x:V}(h:rZ x=true):∃ i,x = .int i:=by
 cases x with
 | int i=>exact ⟨i,rfl⟩
 | _=>cases h
theorem d9:∀ {xs:List V},xs.all rZ=true→∃ ns:List Int,xs=ns.map V.int
 | [],_=>⟨[],rfl⟩
 | x :: r,h=>by
  rw [Cm,AF] at h
  obtain ⟨ns,e⟩:=d9 h.2
  obtain ⟨i,rfl⟩:=isI_int h.1
  exact ⟨i :: ns,by rw [e];rfl⟩
inductive Rs (H:Hp):V→Option (List V)→Prop
 | kind {x:V} {t:String} (k:jR H x=some t) (z:(t == "tuple")=false):Rs H x none
 | tup {a:Addr} {xs:List V} (h:H a=some (.tup xs)) (k:Kn H xs) (l:xs.length < 1000):Rs H (.ref a) (some xs)
inductive Pc (H:Hp):V→Option (Option (List V) × Option (List V))→Prop
 | kind {x:V} {t:String} (k:jR H x=some t) (z:(t == "tuple")=false):Pc H x none
 | len {a:Addr} {xs:List V} (h:H a=some (.tup xs)) (n:xs.length ≠ 2) (k:∀ x ∈ xs,∃ o,Rs H x o):Pc H (.ref a) none
 | two {a:Addr} {u v:V} {o1 o2:Option (List V)} (h:H a=some (.tup [u,v])) (r1:Rs H u o1) (r2:Rs H v o2):Pc H (.ref a) (some (o1,o2))
theorem Rs.same {H H':Hp}{x:V}{o:Option (List V)}(r:Rs H x o)(s:Same H H'):Rs H' x o:=by
 cases r with
 | kind k z=>exact .kind (zJ s k) z
 | tup h k l=>exact .tup (s _ _ h) (k.same s) l
theorem Pc.same {H H':Hp}{x:V}{o:Option (Option (List V) × Option (List V))}(r:Pc H x o)(s:Same H H'):Pc H' x o:=by
 cases r with
 | kind k z=>exact .kind (zJ s k) z
 | len h n k=>exact .len (s _ _ h) n fun x hx=>let ⟨o,r⟩:=k x hx;⟨o,r.same s⟩
 | two h r1 r2=>exact .two (s _ _ h) (r1.same s) (r2.same s)
theorem Rs.ints {H:Hp}{a:Addr}{ns:List Int}(h:H a=some (.tup (ns.map V.int)))(l:ns.length < 1000):Rs H (.ref a) (some (ns.map V.int)):=.tup h (Kn.ints ns) (by rw [Aa];exact l)
def eqI:V→Int→Bool
 | .int j,i=>decide (j=i)
 | _,_=>false
def gY:List V→List Int→Bool
 | [],[]=>true
 | x :: xs,n :: ns=>eqI x n && gY xs ns
 | _,_=>false
theorem eqI_iff {x:V}{i:Int}:eqI x i=true ↔ x = .int i:=by
 cases x with
 | int j=>exact ⟨fun h=>(by rw [Bj h]),fun h=>(by cases h;exact A0 rfl)⟩
 | _=>exact ⟨fun h=>(by cases h),fun h=>(by cases h)⟩
theorem zA:∀ {xs:List V} {ns:List Int},gY xs ns=true ↔ xs=ns.map V.int
 | [],[]=>⟨fun _=>rfl,fun _=>rfl⟩
 | [],n :: ns=>⟨fun h=>(by cases h),fun h=>(by cases h)⟩
 | x :: xs,[]=>⟨fun h=>(by cases h),fun h=>(by cases h)⟩
 | x :: xs,n :: ns=>by
  show (eqI x n && gY xs ns)=true ↔ x :: xs=V.int n :: ns.map V.int
  rw [AF,eqI_iff,zA,List.cons.injEq]
theorem yM (xs ns:List Int):gY (xs.map V.int) ns=decide (xs=ns):=by
 rw [Bl,zA,AU]
 exact ⟨fun h=>BF (fun a b e=>V.int.inj e) |>.mp h,fun h=>by rw [h]⟩
def lK:Option (List V)→List Int→Bool
 | some xs,ns=>gY xs ns
 | none,_=>false
def vY:Option (Option (List V) × Option (List V))→List Int→List Int→Bool
 | some (o1,o2),ns,ms=>lK o1 ns && lK o2 ms
 | none,_,_=>false
def nE (F:Nat)(row ps:List Int):List Int:=row.foldl (fun ps h=>qX ps F (S.msk h)) ps
theorem tR (F:Nat):∀ (row ps:List Int),(nE F row ps).length=ps.length
 | [],_=>rfl
 | h :: row,ps=>by
  show (nE F row (qX ps F (S.msk h))).length=_
  rw [tR F row,jA]
theorem tQ (ts:List (List Int))(F:Nat):∀ n ps,ps.length ≤ 5→nE F ((jZ ts F n ps).1.map fun x:Nat=>(x:Int)) ps=(jZ ts F n ps).2
 | 0,ps,_=>rfl
 | n + 1,ps,h5=>by
  by_cases z:xP ts F ps=0
  ·rw [mW z]
   rfl
  ·have e:jZ ts F (n + 1) ps=(xP ts F ps :: (jZ ts F n (qX ps F (xP ts F ps))).1,(jZ ts F n (qX ps F (xP ts F ps))).2):=by show (if _ then _ else _)=_;rw [Au z]
   have ih:=tQ ts F n (qX ps F (xP ts F ps)) (by rw [jA];exact h5)
   have p32:=kW h5
   have lt:=rS ts F ps
   rw [e]
   show nE F _ (qX ps F (S.msk (xP ts F ps:Int)))=_
   rw [S.msk_nat (by omega)]
   exact ih
def iJ:Sp:=fun vs H Q _=>∃ (tw sa wa ra:Addr) (ts:List (Addr × List Int)) (m F:Nat) (row:List Int),vs=[.ref tw,.ref ra]∧S.Tn H tw sa wa ts m F∧H ra=some (.tup (row.map V.int))∧∀ (top:Int) (t:Addr) (H':Hp),S.IsTop (ts.map fun t=>t.2) m top→Same H H'→H' t=some (.tup ((nE F row (S.firstL F m top)).map V.int))→Q (.ref t) H'
def LDI (tw ra:Addr)(F m:Nat)(row:List Int)(top:Int)(G:Hp)(i:Nat)(σ:St)(H:Hp):Prop:=∃ (pa:Addr) (v:Option V),σ=[some (.ref tw),some (.ref ra),some (.ref pa),v]∧Same G H∧H pa=some (.tup ((nE F (row.take i) (S.firstL F m top)).map V.int))
theorem cN:FnScope ["town", "row", "prices", "heap"] ["town", "row"] (qE s_led_by):=⟨rfl,rfl,rfl,by decide +kernel,rfl,by decide +kernel,by decide +kernel⟩
theorem ok_led (F:Fun K "led_by" "led_by" s_led_by f fd) (hm:mg "led_by" = some (.ref f)) (hb:Binds K fd ["town", "row"] []) (T:Txt mg) (c_first_prices:Cal P w K mg base "first_prices" ["town"] 1 S.sp_first) (c_stepped:Cal P w K mg base "stepped" ["sides", "prices", "heap"] 2 S.sp_step):Cal P w K mg base "led_by" ["town", "row"] 3 iJ:=by
 refine q0 F hm hb cN (fun vs H Q E h=>?_) (fun cdv A outer s H vs Q E hr h=>?_)
 ·obtain ⟨_,_,_,_,_,_,_,_,rfl,_⟩:=h;rfl
 ·obtain ⟨tw,sa,wa,ra,ts,m,Fn,row,rfl,TN,hra,q⟩:=h
  have sc:=cN
  have p5:=TN.R.five
  refine ⟨_,qK (qY (i:=2) sc.nd rfl (Or.inl rfl) (qJ c_first_prices hr (qA (pv 0) qD)))
   (qK (jO AA rfl (vF (pv 1)) (qM (i:=3) sc.nd rfl (Or.inl rfl))
    (qI (qY (i:=2) sc.nd rfl (Or.inl rfl) (qJ c_stepped hr (qA (kH yJ (pv 0) qH (fun _ _=>rfl)) (qA (pv 2) (qA (pv 3) qD)))))))
   (qI (qS (pv 2)))),?_⟩
  rw [show L2.start ["town", "row", "prices", "heap"] [.ref tw,.ref ra] = [some (.ref tw),some (.ref ra),none,none] from rfl]
  (push_cast only [])
  refine ⟨tw,sa,wa,ts,m,Fn,rfl,TN,fun top t H1 it s1 e1=>?_⟩
  have ra1:=s1 _ _ hra
  have TN1:=TN.same s1
  (push_cast only [])
  (simp only [qL])
  (push_cast only [ra1])
  refine yZ (LDI tw ra Fn m row top H1) ⟨t,_,rfl,Same.refl H1,e1⟩ (fun j σ H' _ ⟨_,_,_,s,_⟩=>s _ _ ra1) ?_ ?_
  ·rintro i x σ H2 hx ⟨pa,v,rfl,s2,e2⟩
   rw [Ag] at hx
   obtain ⟨h,hh,rfl⟩:=Aj.mp hx
   have htw2:=q8 (s2 _ _ TN1.R.tw)
   have i0:∀ x y:V,dM [x,y] 0=some x:=fun _ _=>rfl
   have ll:=tR Fn (row.take i) (S.firstL Fn m top)
   rw [S.first_len] at ll
   (push_cast only [htw2,i0])
   refine ⟨pa,sa,_,Fn,h,rfl,e2,by rw [ll];exact s2 _ _ TN1.sa,by omega,fun t3 H3 s3 e3=>?_⟩
   (push_cast only [])
   refine ⟨t3,_,rfl,s2.trans s3,?_⟩
   rw [A6,hh]
   unfold nE
   rw [List.foldl_append]
   exact e3
  ·rintro σ H2 ⟨pa,v,rfl,s2,e2⟩
   rw [Aa,AL] at e2
   (simp only [qL])
   (push_cast only [])
   exact q top pa H2 it (s1.trans s2) e2
def mK (m:Nat):Option (Option (List V) × Option (List V))→Bool
 | some (some xs,some ys)=>xs.all rZ && (decide ((ys.length:Int)=(m:Int)) && ys.all rZ)
 | _=>false
def rD:Sp:=fun vs H Q _=>∃ (tw sa wa:Addr) (ts:List (Addr × List Int)) (m F:Nat) (x:V) (o:Option (Option (List V) × Option (List V))),vs=[.ref tw,x]∧S.Tn H tw sa wa ts m F∧Pc H x o∧∀ H',Same H H'→Q (.bl (mK m o)) H'
theorem cO:FnScope ["town", "thing", "row", "prices"] ["town", "thing"] (qE s_is_way):=⟨rfl,rfl,rfl,by decide +kernel,rfl,by decide +kernel,by decide +kernel⟩
theorem ok_way (F:Fun K "is_way" "is_way" s_is_way f fd) (hm:mg "is_way" = some (.ref f)) (hb:Binds K fd ["town", "thing"] []) (T:Txt mg) (c_are_wholes:Cal P w K mg base "are_wholes" ["thing", "many"] 2 cB):Cal P w K mg base "is_way" ["town", "thing"] 3 rD:=by
 refine q0 F hm hb cO (fun vs H Q E h=>?_) (fun cdv A outer s H vs Q E hr h=>?_)
 ·obtain ⟨_,_,_,_,_,_,_,_,rfl,_⟩:=h;rfl
 ·obtain ⟨tw,sa,wa,ts,m,Fn,x,o,rfl,TN,pc,q⟩:=h
  have sc:=cO
  refine ⟨_,qK (zD (PW.pt (pw_or (iX (wO (qR aP rfl T.isinstance_ jN (qA (pv 1) (qA (vO (v:=.ty "tuple") rfl T.tuple_ kN rfl) qD))))) (iV (q5 tM (qR len0 rfl T.len_ kY (qA (pv 1) qD)) qH (qZ _))))) (qI (qS yF)) jB)
   (qK (zY (pv 1) (kU (n:=2) rfl (qU (qM (i:=2) sc.nd rfl (Or.inl rfl)) (qU (qM (i:=3) sc.nd rfl (Or.inl rfl)) kT))))
   (qI (qS (zC (qR aP rfl T.isinstance_ jN (qA (pv 2) (qA (vO (v:=.ty "tuple") rfl T.tuple_ kN rfl) qD))) (zC (qJ c_are_wholes hr (qA (pv 2) (qA (qR len0 rfl T.len_ kY (qA (pv 2) qD)) qD))) (vG (qJ c_are_wholes hr (qA (pv 3) (qA (qR len0 rfl T.len_ kY (qA (kH yJ (pv 0) qH (fun _ _=>rfl)) qD)) qD))))))))),?_⟩
  rw [show L2.start ["town", "thing", "row", "prices"] [.ref tw,x] = [some (.ref tw),some (x),none,none] from rfl]
  cases pc with
  | kind k z =>
   (push_cast only [])
   refine ⟨_,k,?_⟩
   rw [As (by rw [z];rfl)]
   exact q H (Same.refl H)
  | len h n _ =>
   have hs:=q8 h
   (push_cast only [h,hs])
   rw [As (by simp;omega)]
   exact q H (Same.refl H)
  | @two a u v o1 o2 h r1 r2 =>
   have hs:=q8 h
   (push_cast only [h,hs])
   (simp only [qL])
   (push_cast only [h])
   (simp only [qL])
   (push_cast only [])
   rw [Au (by decide)]
   have sa1:=q8 TN.sa
   cases r1 with
   | kind k z =>
    refine ⟨_,k,?_⟩
    rw [Au (by rw [z];decide)]
    exact q H (Same.refl H)
   | @tup a1 xs h1 kn l =>
    refine ⟨"tuple",(by simp only [h1]),?_⟩
    rw [As (by decide)]
    refine ⟨a1,rfl,_,q8 h1,.inr ⟨a1,_,xs,rfl,h1,kn,l,fun H1 s1=>⟨_,rfl,?_⟩⟩⟩
    rw [A0 rfl,BL]
    cases hx:xs.all rZ with
    | false =>
     have w:mK m (some (some xs,o2))=false:=by cases o2 <;> simp [mK,hx]
     rw [w] at q
     rw [Au (by decide)]
     exact q H1 s1
    | true =>
     rw [As rfl]
     refine ⟨_,q8 (s1 _ _ TN.R.tw),.ref sa,rfl,sa,rfl,_,q8 (s1 _ _ TN.sa),?_⟩
     rw [Aa,S.bits_len]
     cases r2 with
     | kind k z=>exact .inl ⟨_,_,_,rfl,zJ s1 k,z,q H1 s1⟩
     | @tup a2 ys h2 kn2 l2 =>
      refine .inr ⟨a2,_,ys,rfl,s1 _ _ h2,kn2.same s1,l2,fun H2 s2=>?_⟩
      have w:mK m (some (some xs,some ys))=(decide ((ys.length:Int)=(m:Int)) && ys.all rZ):=by simp [mK,hx]
      rw [w] at q
      exact q H2 (s1.trans s2)
def nN (ts:List (Addr × List Int))(m F:Nat)(top:Int)(row ps:List Int):Bool:=decide (nE F row (S.firstL F m top)=ps) && (decide (row=(jZ (ts.map fun t=>t.2) F 399 (S.firstL F m top)).1.map fun x:Nat=>(x:Int)) && decide (ps=(jZ (ts.map fun t=>t.2) F 399 (S.firstL F m top)).2))
def wA:Sp:=fun vs H Q _=>∃ (tw sa wa a ra pa:Addr) (ts:List (Addr × List Int)) (m F:Nat) (row ps:List Int),vs=[.ref tw,.ref a]∧S.Tn H tw sa wa ts m F∧(∀ top,S.IsTop (ts.map fun t=>t.2) m top→0 ≤ top∧top ≤ 1000∧jG (ts.map fun t=>t.2) (S.firstL F m top) ≤ 399)∧H a=some (.tup [.ref ra,.ref pa])∧H ra=some (.tup (row.map V.int))∧H pa=some (.tup (ps.map V.int))∧∀ (top:Int) (H':Hp),S.IsTop (ts.map fun t=>t.2) m top→Same H H'→Q (.bl (nN ts m F top row ps)) H'
theorem xJ:FnScope ["town", "thing", "row", "prices"] ["town", "thing"] (qE s_is_way_below):=⟨rfl,rfl,rfl,by decide +kernel,rfl,by decide +kernel,by decide +kernel⟩
theorem oO (F:Fun K "is_way_below" "is_way_below" s_is_way_below f fd) (hm:mg "is_way_below" = some (.ref f)) (hb:Binds K fd ["town", "thing"] []) (T:Txt mg) (c_led_by:Cal P w K mg base "led_by" ["town", "row"] 3 iJ) (c_steps_of:Cal P w K mg base "steps_of" ["town"] 7 S.sp_steps):Cal P w K mg base "is_way_below" ["town", "thing"] 8 wA:=by
 refine q0 F hm hb xJ (fun vs H Q E h=>?_) (fun cdv A outer s H vs Q E hr h=>?_)
 ·obtain ⟨_,_,_,_,_,_,_,_,_,_,_,rfl,_⟩:=h;rfl
 ·obtain ⟨tw,sa,wa,a,ra,pa,ts,m,Fn,row,ps,rfl,TN,bd,ha,hra,hpa,q⟩:=h
  have sc:=xJ
  refine ⟨_,qK (zY (pv 1) (kU (n:=2) rfl (qU (qM (i:=2) sc.nd rfl (Or.inl rfl)) (qU (qM (i:=3) sc.nd rfl (Or.inl rfl)) kT))))
   (qI (qS (zC (jU (eqT0 hr.units0) (qJ c_led_by hr (qA (pv 0) (qA (pv 2) qD))) (pv 3) (qZ _)) (vG (jU (eqPP0 hr.units) (pv 1) (qJ c_steps_of hr (qA (pv 0) qD)) (qZ _)))))),?_⟩
  rw [show L2.start ["town", "thing", "row", "prices"] [.ref tw,.ref a] = [some (.ref tw),some (.ref a),none,none] from rfl]
  (push_cast only [ha])
  (simp only [qL])
  (push_cast only [])
  refine ⟨tw,sa,wa,ra,ts,m,Fn,row,rfl,TN,hra,fun top t H1 it s1 e1=>?_⟩
  (push_cast only [])
  refine ⟨_,e1,ps,s1 _ _ hpa,?_⟩
  have fin:=q top
  unfold nN at fin
  by_cases c:nE Fn row (S.firstL Fn m top)=ps
  ·rw [As c]
   rw [A0 c,BL] at fin
   refine ⟨tw,sa,wa,ts,m,Fn,rfl,TN.same s1,bd,fun top2 t2 r2 p2 H2 it2 s2 e2 r2' p2'=>?_⟩
   have:=it2.one it
   subst this
   have ni:∀ xs:List Nat,S.natI xs=(xs.map fun x:Nat=>(x:Int)).map V.int:=fun xs=>by unfold S.natI;rw [AO];rfl
   rw [ni] at r2'
   have S2:=s1.trans s2
   show iT _ _ _ _
   rw [a_rEqPP]
   refine ⟨a,t2,ra,pa,r2,p2,row,ps,_,_,rfl,rfl,S2 _ _ ha,e2,S2 _ _ hra,S2 _ _ hpa,r2',p2',?_⟩
   exact fin H2 it S2
  ·rw [Au c]
   rw [Al c,BA] at fin
   exact fin H1 it s1
theorem gZ (ts:List (List Int))(F:Nat):∀ n ps,(jZ ts F n ps).1.length ≤ n∧(jZ ts F n ps).2.length=ps.length
 | 0,ps=>⟨Ad _,rfl⟩
 | n + 1,ps=>by
  by_cases z:xP ts F ps=0
  ·rw [mW z]
   exact ⟨Bb _,rfl⟩
  ·have e:jZ ts F (n + 1) ps=(xP ts F ps :: (jZ ts F n (qX ps F (xP ts F ps))).1,(jZ ts F n (qX ps F (xP ts F ps))).2):=by show (if _ then _ else _)=_;rw [Au z]
   obtain ⟨a,b⟩:=gZ ts F n (qX ps F (xP ts F ps))
   rw [e]
   refine ⟨by show _ + 1 ≤ _;omega,?_⟩
   rw [jA] at b
   exact b
def xV (ts:List (Addr × List Int))(m F:Nat)(top:Int):List Int:=(jZ (ts.map fun t=>t.2) F 399 (S.firstL F m top)).1.map fun x:Nat=>(x:Int)
def vJ (ts:List (Addr × List Int))(m F:Nat)(top:Int):List Int:=(jZ (ts.map fun t=>t.2) F 399 (S.firstL F m top)).2
theorem pU {ts:List (Addr × List Int)}{m F:Nat}{top:Int}{row ps:List Int}(m5:m ≤ 5):nN ts m F top row ps=(decide (row=xV ts m F top) && decide (ps=vJ ts m F top)):=by
 unfold nN
 by_cases h:row=xV ts m F top∧ps=vJ ts m F top
 ·have:=tQ (ts.map fun t=>t.2) F 399 (S.firstL F m top) (by rw [S.first_len];exact m5)
  rw [h.1,h.2]
  unfold xV vJ
  rw [this,A0 rfl]
  rfl
 ·have z:(decide (row=xV ts m F top) && decide (ps=vJ ts m F top))=false:=by
   rw [Bool.and_eq_false_iff,decide_eq_false_iff_not,decide_eq_false_iff_not]
   by_cases c:row=xV ts m F top
   ·exact .inr fun y=>h ⟨c,y⟩
   ·exact .inl c
  show (_ && (decide (row=xV ts m F top) && decide (ps=vJ ts m F top)))=_
  rw [z,Bool.and_false]
def gQ:Sp:=fun vs H Q _=>∃ (tw sa wa:Addr) (ts:List (Addr × List Int)) (m F:Nat) (x:V) (o:Option (Option (List V) × Option (List V))),vs=[.ref tw,x]∧S.Tn H tw sa wa ts m F∧(∀ top,S.IsTop (ts.map fun t=>t.2) m top→0 ≤ top∧top ≤ 1000∧jG (ts.map fun t=>t.2) (S.firstL F m top) ≤ 399)∧Pc H x o∧∀ (top:Int) (H':Hp),S.IsTop (ts.map fun t=>t.2) m top→Same H H'→Q (.bl (vY o (xV ts m F top) (vJ ts m F top))) H'
theorem eX {ts:List (List Int)}(m:Nat):ts ≠ []→∃ top,S.IsTop ts m top:=by
 induction ts with
 | nil=>exact fun h=>absurd rfl h
 | cons ws ts ih =>
  intro _
  by_cases e:ts=[]
  ·subst e
   exact ⟨_,⟨ws,Aq,rfl⟩,fun u hu=>by rw [A5.mp hu];exact AV _⟩
  ·obtain ⟨top,⟨u,hu,eu⟩,le⟩:=ih e
   by_cases c:top ≤ ws.getD (2 ^ m - 1) 0
   ·refine ⟨_,⟨ws,Aq,rfl⟩,fun v hv=>?_⟩
    rcases A2.mp hv with z | z
    ·rw [z];exact AV _
    ·exact Int.le_trans (le v z) c
   ·refine ⟨top,⟨u,Aw _ hu,eu⟩,fun v hv=>?_⟩
    rcases A2.mp hv with z | z
    ·rw [z];omega
    ·exact le v z
theorem nR {m:Nat}{o:Option (Option (List V) × Option (List V))}(h:mK m o=true):∃ row ps:List Int,o=some (some (row.map V.int),some (ps.map V.int))∧ps.length=m:=by
 match o,h with
 | some (some xs,some ys),h =>
  have h':(xs.all rZ && (decide ((ys.length:Int)=(m:Int)) && ys.all rZ))=true:=h
  simp only [AF,AU] at h'
  obtain ⟨h1,h2,h3⟩:=h'
  obtain ⟨row,rfl⟩:=d9 h1
  obtain ⟨ps,rfl⟩:=d9 h3
  rw [Aa] at h2
  exact ⟨row,ps,rfl,by omega⟩
theorem uM (ns:List Int):(ns.map V.int).all rZ=true:=by
 rw [List.all_map,B3]
 intros
 rfl
theorem eQ {m:Nat}{o:Option (Option (List V) × Option (List V))}{ns ms:List Int}(h:mK m o=false)(l:ms.length=m):vY o ns ms=false:=by
 cases e:vY o ns ms with
 | false=>rfl
 | true =>
  match o,h,e with
  | some (some xs,some ys),h,e =>
   have e':(gY xs ns && gY ys ms)=true:=e
   rw [AF,zA,zA] at e'
   have h':(xs.all rZ && (decide ((ys.length:Int)=(m:Int)) && ys.all rZ))=false:=h
   rw [e'.1,e'.2,uM,uM,Aa,l,A0 rfl] at h'
   cases h'
  | some (some xs,none),h,e=>rw [show vY (some (some xs,none)) ns ms=(gY xs ns && false) from rfl,Bool.and_false] at e;cases e
  | some (none,_),h,e=>cases e
  | none,h,e=>cases e
theorem xH:FnScope ["town", "thing"] ["town", "thing"] (qE s_shows_rising):=⟨rfl,rfl,rfl,by decide +kernel,rfl,by decide +kernel,by decide +kernel⟩
theorem oG (F:Fun K "shows_rising" "shows_rising" s_shows_rising f fd) (T:Txt mg) (c_is_way:Cal P w K mg base "is_way" ["town", "thing"] 3 rD) (c_first_strange:Cal P w K mg base "first_strange" ["town"] 6 S.sp_fs) (c_is_way_below:Cal P w K mg base "is_way_below" ["town", "thing"] 8 wA):FnOk P w K mg base CX0 9 f fd ["town", "thing"] gQ:=by
 refine F.ok xH (fun vs H Q E h=>?_) (fun cdv A outer s H vs Q E hr h=>?_)
 ·obtain ⟨_,_,_,_,_,_,_,_,rfl,_⟩:=h;rfl
 ·obtain ⟨tw,sa,wa,ts,m,Fn,x,o,rfl,TN,bd,pc,q⟩:=h
  have sc:=xH
  have p5:=TN.R.five
  refine ⟨_,qI (qS (zC (qJ c_is_way hr (qA (pv 0) (qA (pv 1) qD))) (zC (jU oA (qJ c_first_strange hr (qA (pv 0) qD)) jX (qZ _)) (vG (qJ c_is_way_below hr (qA (pv 0) (qA (pv 1) qD))))))),?_⟩
  rw [show L2.start ["town", "thing"] [.ref tw,x] = [some (.ref tw),some (x)] from rfl]
  (push_cast only [])
  refine ⟨tw,sa,wa,ts,m,Fn,x,o,rfl,TN,pc,fun H1 s1=>?_⟩
  obtain ⟨top,it⟩:=eX (ts:=ts.map fun t=>t.2) m (by simpa using TN.ne)
  have dl:(vJ ts m Fn top).length=m:=by
   have:=(gZ (ts.map fun t=>t.2) Fn 399 (S.firstL Fn m top)).2
   rw [S.first_len] at this
   exact this
  cases hw:mK m o with
  | false =>
   (push_cast only [])
   have:=q top H1 it s1
   rw [eQ hw dl] at this
   exact this
  | true =>
   obtain ⟨row,ps,rfl,pl⟩:=nR hw
   have TN1:=TN.same s1
   (push_cast only [])
   refine ⟨tw,sa,wa,ts,Fn,m,rfl,TN1.R.tw,TN1.sa,TN1.R.wa,(fun r hr=>⟨(TN1.R.row r hr).1,(TN1.R.row r hr).2.1⟩),p5,TN.hF,(fun r hr=>S.ext_odd p5 TN.hF (TN.R.row r hr).2.1 (TN.kd r.2 (Am.mpr ⟨r,hr,rfl⟩))),fun H2 s2=>?_⟩
   show if V.non=V.non then _ else _
   rw [As rfl]
   have S2:=s1.trans s2
   cases pc with
   | @two a u v o1 o2 h r1 r2 =>
    generalize e1:row.map V.int=xs at r1 q hw
    generalize e2:ps.map V.int=ys at r2 q hw
    cases r1 with
    | @tup a1 _ h1 kn1 l1 =>
     cases r2 with
     | @tup a2 _ h2 kn2 l2 =>
      subst e1 e2
      refine ⟨tw,sa,wa,a,a1,a2,ts,m,Fn,row,ps,rfl,TN1.same s2,bd,S2 _ _ h,S2 _ _ h1,S2 _ _ h2,fun top2 H3 it2 s3=>?_⟩
      have:=q top2 H3 it2 (S2.trans s3)
      rw [pU p5,← yM,← yM]
      exact this
def vL:Sp:=fun vs H Q _=>∃ (tw sa wa:Addr) (ts:List (Addr × List Int)) (m F:Nat) (x:V) (o:Option (Option (List V) × Option (List V))),vs=[.ref tw,x]∧S.Tn H tw sa wa ts m F∧(∀ top,S.IsTop (ts.map fun t=>t.2) m top→0 ≤ top∧top ≤ 1000∧jG (ts.map fun t=>t.2) (S.firstL (S.cpl m F) m top) ≤ 399)∧Pc H x o∧∀ (top:Int) (H':Hp),S.IsTop (ts.map fun t=>t.2) m top→Same H H'→Q (.bl (vY o (xV ts m (S.cpl m F) top) (vJ ts m (S.cpl m F) top))) H'
theorem yB:FnScope ["town", "thing"] ["town", "thing"] (qE s_shows_falling):=⟨rfl,rfl,rfl,by decide +kernel,rfl,by decide +kernel,by decide +kernel⟩
theorem aD (F:Fun K "shows_falling" "shows_falling" s_shows_falling f fd) (T:Txt mg) (c_is_way:Cal P w K mg base "is_way" ["town", "thing"] 3 rD) (c_first_strange:Cal P w K mg base "first_strange" ["town"] 6 S.sp_fs) (c_other_way:Cal P w K mg base "other_way" ["town"] 2 S.sp_ow) (c_is_way_below:Cal P w K mg base "is_way_below" ["town", "thing"] 8 wA):FnOk P w K mg base CX0 9 f fd ["town", "thing"] vL:=by
 refine F.ok yB (fun vs H Q E h=>?_) (fun cdv A outer s H vs Q E hr h=>?_)
 ·obtain ⟨_,_,_,_,_,_,_,_,rfl,_⟩:=h;rfl
 ·obtain ⟨tw,sa,wa,ts,m,Fn,x,o,rfl,TN,bd,pc,q⟩:=h
  have sc:=yB
  have p5:=TN.R.five
  refine ⟨_,qI (qS (zC (qJ c_is_way hr (qA (pv 0) (qA (pv 1) qD))) (zC (jU oA (qJ c_first_strange hr (qA (pv 0) qD)) jX (qZ _)) (vG (qJ c_is_way_below hr (qA (qJ c_other_way hr (qA (pv 0) qD)) (qA (pv 1) qD))))))),?_⟩
  rw [show L2.start ["town", "thing"] [.ref tw,x] = [some (.ref tw),some (x)] from rfl]
  (push_cast only [])
  refine ⟨tw,sa,wa,ts,m,Fn,x,o,rfl,TN,pc,fun H1 s1=>?_⟩
  obtain ⟨top,it⟩:=eX (ts:=ts.map fun t=>t.2) m (by simpa using TN.ne)
  have dl:(vJ ts m (S.cpl m Fn) top).length=m:=by
   have:=(gZ (ts.map fun t=>t.2) (S.cpl m Fn) 399 (S.firstL (S.cpl m Fn) m top)).2
   rw [S.first_len] at this
   exact this
  cases hw:mK m o with
  | false =>
   (push_cast only [])
   have:=q top H1 it s1
   rw [eQ hw dl] at this
   exact this
  | true =>
   obtain ⟨row,ps,rfl,pl⟩:=nR hw
   have TN1:=TN.same s1
   (push_cast only [])
   refine ⟨tw,sa,wa,ts,Fn,m,rfl,TN1.R.tw,TN1.sa,TN1.R.wa,(fun r hr=>⟨(TN1.R.row r hr).1,(TN1.R.row r hr).2.1⟩),p5,TN.hF,(fun r hr=>S.ext_odd p5 TN.hF (TN.R.row r hr).2.1 (TN.kd r.2 (Am.mpr ⟨r,hr,rfl⟩))),fun H2 s2=>?_⟩
   show if V.non=V.non then _ else _
   rw [As rfl]
   have S2:=s1.trans s2
   cases pc with
   | @two a u v o1 o2 h r1 r2 =>
    generalize e1:row.map V.int=xs at r1 q hw
    generalize e2:ps.map V.int=ys at r2 q hw
    cases r1 with
    | @tup a1 _ h1 kn1 l1 =>
     cases r2 with
     | @tup a2 _ h2 kn2 l2 =>
      subst e1 e2
      refine ⟨tw,sa,wa,ts,m,Fn,rfl,TN1.same s2,fun tw' sa' H4 s4 TN4=>?_⟩
      have S4:=S2.trans s4
      refine ⟨tw',sa',wa,a,a1,a2,ts,m,S.cpl m Fn,row,ps,rfl,TN4,bd,S4 _ _ h,S4 _ _ h1,S4 _ _ h2,fun top2 H3 it2 s3=>?_⟩
      have:=q top2 H3 it2 (S4.trans s3)
      rw [pU p5,← yM,← yM]
      exact this
theorem qe_op {X:Cx}{op:Operator}{r:R2}{a b:Expr}{ta tb:TE}{pos:Pos}(ho:xD X (binaryOp op) r)(ha:QE X a ta)(hb:QE X b tb):QE X (.BinOp a op b pos) (tOp r ta tb):=⟨qV ho ha.get hb.get⟩
theorem qs_ret {X:Cx}{e:Expr}{te:TE}{pos:Pos}(he:QE X e te):QS X (.Return (some e) pos) (tRet te):=⟨qS he.get⟩
structure QI (X:Cx)(tg e:Expr)(w:TI):Prop where
 get:PI X tg e w
theorem qi_l0 {X:Cx}{tg l:Expr}{tl:TE}(h:QE X l tl):QI X tg l (iL0 tl):=⟨xO h.get⟩
theorem qs_for {X:Cx}{tg iter:Expr}{body:List Stmt}{wi:TI}{g:TG}{tb:TS}{pos:Pos}(hp:PassesOwn (model X.prog X.w) X.A X.env X.xe)(hc:X.calm=true)(hi:QI X tg iter wi)(hg:PG X tg g)(hb:QSs X body tb)
  (hs:∀ x,foldedSetIterable iter X.env x=pure x:=by intro _;rfl):QS X (.For tg iter body [] pos) (tFor wi g tb):=⟨jO hp hc hi.get hg hb.get hs⟩
theorem pM {xs:List V}{k:Nat}(h:k ≤ xs.length):zL xs none (some (k:Int))=xs.take k:=by
 unfold zL
 rw [HT.sIx_none,HT.sIx_nat,Nat.min_eq_left h,BP,Nat.sub_zero]
theorem pN {xs:List V}(k:Nat):zL xs (some (k:Int)) none=xs.drop k:=by
 unfold zL
 rw [HT.sIx_none,HT.sIx_nat]
 by_cases h:k ≤ xs.length
 ·rw [Nat.min_eq_left h,AG (by rw [BB];omega)]
 ·rw [List.drop_eq_nil_of_le (show xs.length ≤ k by omega),Nat.min_eq_right (by omega),List.drop_eq_nil_of_le (Ad _),List.take_nil]
theorem kn_or {H H':Hp}{T14:Same H H'}{rs:List Int}{od:V}{xs:List V}(kod:∃ t,jR H od=some t)(h:∀ x ∈ xs,x ∈ rs.map V.int∨x=od):Kn H' xs:=fun x hx=>by
 rcases h x hx with z | z
 ·obtain ⟨n,_,rfl⟩:=Am.mp z
  exact ⟨"int",rfl⟩
 ·obtain ⟨t,k⟩:=kod
  rw [z]
  exact ⟨t,zJ T14 k⟩
theorem dR {H H':Hp}{p q:Addr}(h:Pot H p q)(h':Pot H' p q)(s:SameY p q H H'){x:V}{t:String}(k:jR H x=some t):jR H' x=some t:=by
 cases x with
 | ref a =>
  obtain ⟨_,cs,i,j,l,e1,e2⟩:=h
  obtain ⟨_,cs',i',j',l',e1',e2'⟩:=h'
  by_cases z1:a=p
  ·subst z1
   simp only [jR,e1] at k
   simp only [jR,e1',k]
  by_cases z2:a=q
  ·subst z2
   simp only [jR,e2] at k
   simp only [jR,e2',k]
  cases e:H a with
  | none=>simp [jR,e] at k
  | some o=>simp only [jR,e] at k;simp only [jR,s a o z1 z2 e];exact k
 | _=>exact k
theorem Rs.sy {H H':Hp}{p q:Addr}{x:V}{o:Option (List V)}(r:Rs H x o)(h:Pot H p q)(h':Pot H' p q)(s:SameY p q H H'):Rs H' x o:=by
 cases r with
 | kind k z=>exact .kind (dR h h' s k) z
 | tup e k l=>exact .tup (s _ _ (h.net e).1 (h.net e).2 e) (fun x hx=>let ⟨t,z⟩:=k x hx;⟨t,dR h h' s z⟩) l
theorem Pc.sy {H H':Hp}{p q:Addr}{x:V}{o:Option (Option (List V) × Option (List V))}(r:Pc H x o)(h:Pot H p q)(h':Pot H' p q)(s:SameY p q H H'):Pc H' x o:=by
 cases r with
 | kind k z=>exact .kind (dR h h' s k) z
 | len e n k=>exact .len (s _ _ (h.net e).1 (h.net e).2 e) n fun x hx=>let ⟨o,r⟩:=k x hx;⟨o,r.sy h h' s⟩
 | two e r1 r2=>exact .two (s _ _ (h.net e).1 (h.net e).2 e) (r1.sy h h' s) (r2.sy h h' s)
theorem nV {H H':Hp}{l:Addr}{xs ys:List V}(e:H l=some (.lst xs))(e':H' l=some (.lst ys))(s:SameX l H H'){x:V}{t:String}(k:jR H x=some t):jR H' x=some t:=by
 cases x with
 | ref a =>
  by_cases z1:a=l
  ·subst z1
   simp only [jR,e] at k
   simp only [jR,e',k]
  cases h:H a with
  | none=>simp [jR,h] at k
  | some o=>simp only [jR,h] at k;simp only [jR,s a o z1 h];exact k
 | _=>exact k
theorem eV {H H':Hp}{l:Addr}{xs:List V}(e:H l=some (.lst xs))(s:SameX l H H'){a:Addr}{L:List V}(h:H a=some (.tup L)):H' a=some (.tup L):=s _ _ (fun z=>by rw [z,e] at h;cases h) h
theorem Rs.l {H H':Hp}{l:Addr}{xs ys:List V}{x:V}{o:Option (List V)}(r:Rs H x o)(e:H l=some (.lst xs))(e':H' l=some (.lst ys))(s:SameX l H H'):Rs H' x o:=by
 cases r with
 | kind k z=>exact .kind (nV e e' s k) z
 | tup h k len=>exact .tup (eV e s h) (fun x hx=>let ⟨t,z⟩:=k x hx;⟨t,nV e e' s z⟩) len
theorem Pc.l {H H':Hp}{l:Addr}{xs ys:List V}{x:V}{o:Option (Option (List V) × Option (List V))}(r:Pc H x o)(e:H l=some (.lst xs))(e':H' l=some (.lst ys))(s:SameX l H H'):Pc H' x o:=by
 cases r with
 | kind k z=>exact .kind (nV e e' s k) z
 | len h n k=>exact .len (eV e s h) n fun x hx=>let ⟨o,r⟩:=k x hx;⟨o,r.l e e' s⟩
 | two h r1 r2=>exact .two (eV e s h) (r1.l e e' s) (r2.l e e' s)
theorem Rs.kn {H:Hp}{x:V}{o:Option (List V)}(r:Rs H x o):∃ t,jR H x=some t:=by
 cases r with
 | kind k z=>exact ⟨_,k⟩
 | tup h k l=>exact ⟨"tuple",by simp [jR,h]⟩
theorem eG {H:Hp}{a:Addr}{u v:V}(h:H a=some (.tup [u,v]))(r1:∃ o,Rs H u o)(r2:∃ o,Rs H v o):∃ o,Pc H (.ref a) o:=let ⟨_,a⟩:=r1;let ⟨_,b⟩:=r2;⟨_,.two h a b⟩
def Dp (H:Hp)(x:V):Prop:=∃ (a:Addr) (xs:List V),x = .ref a∧H a=some (.tup xs)∧xs.length ≤ 1∧∀ x ∈ xs,∃ o,Rs H x o
theorem Dp.same {H H':Hp}{x:V}(d:Dp H x)(s:Same H H'):Dp H' x:=by
 obtain ⟨a,xs,e,h,l,k⟩:=d
 exact ⟨a,xs,e,s _ _ h,l,fun x hx=>let ⟨o,r⟩:=k x hx;⟨o,r.same s⟩⟩
theorem Dp.rs {H:Hp}{x:V}(d:Dp H x):∃ o,Rs H x o:=by
 obtain ⟨a,xs,rfl,h,l,k⟩:=d
 exact ⟨_,.tup h (fun x hx=>let ⟨o,r⟩:=k x hx;r.kn) (by omega)⟩
theorem Dp.pc {H:Hp}{x:V}(d:Dp H x):∃ o,Pc H x o:=by
 obtain ⟨a,xs,rfl,h,l,k⟩:=d
 exact ⟨_,.len h (by omega) k⟩
def cD:Sp:=fun vs H Q _=>∃ (p q o r pa:Addr) (rs ps:List Int),vs=[.ref p,.ref o]∧Pot H p q∧H o=some (.tup [.ref r,.ref pa])∧H r=some (.tup (rs.map V.int))∧H pa=some (.tup (ps.map V.int))∧rs.length ≤ 399∧1 ≤ ps.length∧ps.length ≤ 5∧∀ (l:Addr) (xs:List V) (H':Hp),H' l=some (.lst xs)→l ≠ p→l ≠ q→xs.length ≤ 50→(∀ x ∈ xs,∃ o,Pc H' x o)→Pot H' p q→SameY p q H H'→Q (.ref l) H'
def DPI (p o r pa:Addr)(G:Hp)(_:Nat)(σ:St)(H:Hp):Prop:=∃ (d:V) (v5 v6 v7 v8:Option V),σ=[some (.ref p),some (.ref o),some (.ref r),some (.ref pa),some d,v5,v6,v7,v8]∧Same G H∧Dp H d
structure THJ (p q o r pa l z:Addr)(rs ps:List Int)(zs:List V)(n:Nat)(H0 H:Hp):Prop where
 pt:Pot H p q
 lp:l ≠ p
 lq:l ≠ q
 zp:z ≠ p
 zq:z ≠ q
 zl:z ≠ l
 hr:H r=some (.tup (rs.map V.int))
 hp:H pa=some (.tup (ps.map V.int))
 hz:H z=some (.lst zs)
 kz:∀ x ∈ zs,∃ t,jR H x=some t
 hl:∃ xs,H l=some (.lst xs)∧xs.length=n∧∀ x ∈ xs,∃ o,Pc H x o
 l0:H0 l=none
 y:SameY p q H0 H
theorem THJ.draw {p q o r pa l z:Addr}{rs ps:List Int}{zs:List V}{n:Nat}{H0 H H':Hp}(t:THJ p q o r pa l z rs ps zs n H0 H)(pt':Pot H' p q)(s:SameY p q H H'):THJ p q o r pa l z rs ps zs n H0 H':=by
 obtain ⟨xs,e,len,k⟩:=t.hl
 exact ⟨pt',t.lp,t.lq,t.zp,t.zq,t.zl,s _ _ (t.pt.net t.hr).1 (t.pt.net t.hr).2 t.hr,s _ _ (t.pt.net t.hp).1 (t.pt.net t.hp).2 t.hp,s _ _ t.zp t.zq t.hz,fun x hx=>let ⟨u,w⟩:=t.kz x hx;⟨u,dR t.pt pt' s w⟩,⟨xs,s _ _ t.lp t.lq e,len,fun x hx=>let ⟨u,w⟩:=k x hx;⟨u,w.sy t.pt pt' s⟩⟩,t.l0,t.y.trans s⟩
theorem THJ.add {p q o r pa l z:Addr}{rs ps:List Int}{zs:List V}{n:Nat}{H0 H:Hp}{xs:List V}{x:V}(t:THJ p q o r pa l z rs ps zs n H0 H)(e:H l=some (.lst xs))(px:∃ o,Pc H x o):THJ p q o r pa l z rs ps zs (n + 1) H0 (upd H l (.lst (xs ++ [x]))):=by
 obtain ⟨xs',e',len,k⟩:=t.hl
 rw [e] at e'
 injection e' with e'
 injection e' with e'
 subst e'
 have u:SameX l H (upd H l (.lst (xs ++ [x]))):=SameX.upd
 have el:upd H l (.lst (xs ++ [x])) l=some (.lst (xs ++ [x])):=qG
 refine ⟨t.pt.upd t.lp.symm t.lq.symm,t.lp,t.lq,t.zp,t.zq,t.zl,eV e u t.hr,eV e u t.hp,u _ _ t.zl t.hz,fun y hy=>let ⟨v,w⟩:=t.kz y hy;⟨v,nV e el u w⟩,⟨_,el,by rw [Ax,len];rfl,fun y hy=>?_⟩,t.l0,fun b o' n1 n2 h=>?_⟩
 ·rcases A4.mp hy with w | w
  ·obtain ⟨v,g⟩:=k y w
   exact ⟨v,g.l e el u⟩
  ·obtain ⟨v,g⟩:=px
   rw [A5.mp w]
   exact ⟨v,g.l e el u⟩
 ·exact u _ _ (fun c=>by rw [c,t.l0] at h;cases h) (t.y b o' n1 n2 h)
def THI (p q o r pa l z:Addr)(d:V)(v5:Option V)(rs ps:List Int)(zs:List V)(H0:Hp)(i:Nat)(σ:St)(H:Hp):Prop:=∃ v7 v8:Option V,σ=[some (.ref p),some (.ref o),some (.ref r),some (.ref pa),some d,v5,some (.ref l),v7,v8]∧THJ p q o r pa l z rs ps zs (24 + 2 * i) H0 H
theorem iW {H H':Hp}{a:Addr}{ns:List Int}{od:V}{k j:Nat}(s:Same H H')(e:H' a=some (.tup ((ns.map V.int).take k ++ [od] ++ (ns.map V.int).drop j)))(l:ns.length ≤ 400)(kod:∃ t,jR H od=some t):∃ o,Rs H' (.ref a) o:=⟨_,.tup e (kn_or (T14:=s) (rs:=ns) kod fun z hz=>by
 rcases A4.mp hz with w | w
 ·rcases A4.mp w with w | w
  ·exact .inl (BQ w)
  ·exact .inr (A5.mp w)
 ·exact .inl (List.mem_of_mem_drop w)) (by rw [Ax,Ax,Av,BB,Aa,Bc];omega)⟩
theorem vC:FnScope ["_law_pot_here", "_law_told", "_law_row", "_law_prices", "_law_deep", "_law_k", "_law_some_here", "_law_odd", "_law_at"] ["_law_pot_here", "_law_told"] (qE s__law_things):=⟨rfl,rfl,rfl,by decide +kernel,rfl,by decide +kernel,by decide +kernel⟩
theorem aB (F:Fun K "_law_things" "_law_things" s__law_things f fd) (hm:mg "_law_things" = some (.ref f)) (hb:Binds K fd ["_law_pot_here", "_law_told"] []) (T:Txt mg) (c__law_draw:Cal P w K mg base "_law_draw" ["_law_pot_here", "_law_many"] 2 wB):Cal P w K mg base "_law_things" ["_law_pot_here", "_law_told"] 3 cD:=by
 refine q0 F hm hb vC (fun vs H Q E h=>?_) (fun cdv A outer s H vs Q E hr h=>?_)
 ·obtain ⟨_,_,_,_,_,_,_,rfl,_⟩:=h;rfl
 ·obtain ⟨p,q',o,r,pa,rs,ps,rfl,pt,ho,hr',hp,rl,p1,p5,q⟩:=h
  have sc:=vC
  refine ⟨_,QSs.get (jS (wM (zY (pv 1) (kU (n:=2) rfl (qU (qM (i:=2) sc.nd rfl (Or.inl rfl)) (qU (qM (i:=3) sc.nd rfl (Or.inl rfl)) kT)))))
   (jS (wM (qY (i:=4) sc.nd rfl (Or.inl rfl) (kQ qD)))
   (jS (wM (jO AA rfl (kX rfl T.range_ (qA qH qD)) (qM (i:=5) sc.nd rfl (Or.inl rfl))
    (qI (qY (i:=4) sc.nd rfl (Or.inl rfl) (kQ (qA (pv 4) qD))))))
   (jS (rK (i:=6) sc.nd rfl (Or.inl rfl) (wN (qT (kD jX) (qT (kD yF) (qT (kD yF) (qT (kD qH) (qT (kD qH) (qT (kD gF) (qT (kD gF) (qT (kD (kQ qD)) (qT (kD (jC qD)) (qT (kD wU) (qT (kD (pv 4)) (qT (jW (qT (kD (kQ qD)) jH)) (qT (jW (qT (kD (kQ qD)) (qT (kD jX) jH))) (qT (jW (qT (kD jX) (qT (kD (kQ qD)) jH))) (qT (jW (qT (kD jX) (qT (kD jX) jH))) jH)))))))))))))))))
   (jS (rK (i:=6) sc.nd rfl (Or.inl rfl) (qe_op pQ (kD (pv 6)) (wN (qT (jW (qT (kD (jC qD)) (qT (kD (pv 3)) jH))) (qT (jW (qT (kD (pv 2)) (qT (kD (jC qD)) jH))) (qT (jW (qT (kD gF) (qT (kD (pv 3)) jH))) (qT (jW (qT (kD (pv 2)) (qT (kD gF) jH))) (qT (jW (qT (kD (pv 2)) (qT (kD wU) jH))) (qT (jW (qT (kD qH) (qT (kD qH) jH))) (qT (jW (qT (kD (pv 2)) (qT (kD jX) jH))) jH))))))))))
   (jS (rK (i:=6) sc.nd rfl (Or.inl rfl) (qe_op pQ (kD (pv 6)) (wN (qT (kD (kM listA0 rfl T.list_ uH (qA (pv 1) qD))) (qT (jW (qT (kD (pv 1)) jH)) jH)))))
   (jS (qs_for AA rfl (qi_l0 (wN (qT (kD wU) (qT (kD gF) (qT (jW (qT (kD qH) jH)) (qT (wN (qT (kD qH) jH)) (qT (kD jX) (qT (kD (qV mZ qH qH)) (qT (kD (tJ mL (qV mZ qH qH))) (qT (kD yF) jH)))))))))) (qM (i:=7) sc.nd rfl (Or.inl rfl)) (jS (wM (qY (i:=8) sc.nd rfl (Or.inl rfl) (qJ c__law_draw hr (qA (pv 0) (qA (qR len0 rfl T.len_ kY (qA (pv 3) qD)) qD)))))
   (jS (wM (zH (zB (pv 6) (qA (QE.get (jW (qT (kD (pv 2)) (qT (kD (qV uG (qV uG (yE slA0 (pv 3) vN (vM (pv 8))) (kQ (qA (pv 7) qD))) (yE slA0 (pv 3) (vM (qV kR (pv 8) qH)) vN))) jH)))) qD))))
   (jS (wM (qY (i:=8) sc.nd rfl (Or.inl rfl) (qJ c__law_draw hr (qA (pv 0) (qA (qV kR (qR len0 rfl T.len_ kY (qA (pv 2) qD)) qH) qD)))))
   (tI (wM (zH (zB (pv 6) (qA (QE.get (jW (qT (kD (qV uG (qV uG (yE slA0 (pv 2) vN (vM (pv 8))) (kQ (qA (pv 7) qD))) (yE slA0 (pv 2) (vM (pv 8)) vN))) (qT (kD (pv 3)) jH)))) qD)))))))))
   (tI (qs_ret (kD (pv 6))))))))))),?_⟩
  rw [show L2.start ["_law_pot_here", "_law_told", "_law_row", "_law_prices", "_law_deep", "_law_k", "_law_some_here", "_law_odd", "_law_at"] [.ref p,.ref o] = [some (.ref p),some (.ref o),none,none,none,none,none,none,none] from rfl]
  (push_cast only [ho])
  (simp only [qL])
  (push_cast only [])
  have nr:=pt.net hr'
  have np:=pt.net hp
  have no:=pt.net ho
  refine ⟨by decide,fun d0 H1 n1 s1 e1=>?_⟩
  (simp only [qL])
  (push_cast only [])
  refine ⟨by decide,by decide,yI (DPI p o r pa H1) ⟨_,_,_,_,_,rfl,Same.refl H1,d0,[],rfl,e1,by decide,fun x hx=>by cases hx⟩ ?_ ?_⟩
  ·rintro i σ H2 hi ⟨d,v5,v6,v7,v8,rfl,s2,dp⟩
   (push_cast only [])
   exact ⟨by decide,fun b H3 n3 s3 e3=>⟨_,_,_,_,_,rfl,s2.trans s3,b,[d],rfl,e3,(by show 1 ≤ 1;decide),fun x hx=>by rw [A5.mp hx];exact (dp.same s3).rs⟩⟩
  ·rintro σ H2 ⟨d,v5,v6,v7,v8,rfl,s2,dp⟩
   have s02:=s1.trans s2
   (simp only [qL])
   (push_cast only [])
   refine ⟨by decide,fun c1 G1 m1 t1 f1=>⟨by decide,fun c2 G2 m2 t2 f2=>fun c3 G3 m3 t3 f3=>⟨by decide,fun c4 G4 m4 t4 f4=>⟨by decide,fun c5 G5 m5 t5 f5=>⟨by decide,fun c6 G6 m6 t6 f6=>⟨by decide,fun c7 G7 m7 t7 f7=>⟨by decide,fun c8 G8 m8 t8 f8=>⟨by decide,fun c9 G9 m9 t9 f9=>⟨by decide,fun c10 G10 m10 t10 f10=>⟨by decide,fun c11 G11 m11 t11 f11=>?_⟩⟩⟩⟩⟩⟩⟩⟩⟩⟩
   have u9:=t10.trans t11
   have u7:=(t8.trans t9).trans u9
   have u5:=(t6.trans t7).trans u7
   have u4:=t5.trans u5
   have u3:=t4.trans u4
   have u2:=t3.trans u3
   have u1:=t2.trans u2
   have U:=t1.trans u1
   have unit:∀ {G G':Hp} {c:Addr},Same G G'→G c=some (.tup [])→∃ o,Rs G' (.ref c) o:=fun s e=>⟨_,.tup (s _ _ e) (fun x hx=>by cases hx) (by decide)⟩
   have kn:∀ {G:Hp} {x:V} {t:String},jR G x=some t→(t == "tuple")=false→∃ o,Rs G x o:=fun k z=>⟨_,.kind k z⟩
   have some1:∀ x ∈ [V.non,V.bl true,V.bl false,V.int 0,V.int 1,V.str (Str.ofString ""),V.str (Str.ofString "rising"),V.ref c1,V.ref c2,V.ref c3,d,V.ref c5,V.ref c7,V.ref c9,V.ref c10],∃ o,Pc G11 x o:=by
    intro x hx
    simp only [A2,Bh,or_false] at hx
    rcases hx with z | z | z | z | z | z | z | z | z | z | z | z | z | z | z <;> subst z
    ·exact ⟨_,.kind (t := "NoneType") rfl rfl⟩
    ·exact ⟨_,.kind (t := "bool") rfl rfl⟩
    ·exact ⟨_,.kind (t := "bool") rfl rfl⟩
    ·exact ⟨_,.kind (t := "int") rfl rfl⟩
    ·exact ⟨_,.kind (t := "int") rfl rfl⟩
    ·exact ⟨_,.kind (t := "str") rfl rfl⟩
    ·exact ⟨_,.kind (t := "str") rfl rfl⟩
    ·exact ⟨_,.len (u1 _ _ f1) (by decide) (fun x hx=>by cases hx)⟩
    ·exact ⟨_,.kind (t := "list") (by simp [jR,u2 _ _ f2]) rfl⟩
    ·exact ⟨_,.kind (t := "dict") (by simp [jR,u3 _ _ f3]) rfl⟩
    ·exact (dp.same U).pc
    ·exact ⟨_,.len (u5 _ _ f5) (by simp) (fun x hx=>by rw [A5.mp hx];exact unit u4 f4)⟩
    ·exact eG (u7 _ _ f7) (unit (t7.trans u7) f6) (kn (t := "NoneType") rfl rfl)
    ·exact eG (u9 _ _ f9) (kn (t := "NoneType") rfl rfl) (unit (t9.trans u9) f8)
    ·exact eG (t11 _ _ f10) (kn (t := "NoneType") rfl rfl) (kn (t := "NoneType") rfl rfl)
   have SU:=s02.trans U
   have sl1:[V.non,V.bl true,V.bl false,V.int 0,V.int 1,V.str (Str.ofString ""),V.str (Str.ofString "rising"),V.ref c1,V.ref c2,V.ref c3,d,V.ref c5,V.ref c7,V.ref c9,V.ref c10].length=15:=rfl
   clear f1 f2 f3 f4 f5 f6 f7 f8 f9 f10
   revert f11 some1 sl1
   generalize [V.non,V.bl true,V.bl false,V.int 0,V.int 1,V.str (Str.ofString ""),V.str (Str.ofString "rising"),V.ref c1,V.ref c2,V.ref c3,d,V.ref c5,V.ref c7,V.ref c9,V.ref c10] = sm1
   intro f11 some1 sl1
   have rsr:∀ {G:Hp},G r=some (.tup (rs.map V.int))→∃ o,Rs G (.ref r) o:=fun e=>⟨_,.ints e (by omega)⟩
   have rsp:∀ {G:Hp},G pa=some (.tup (ps.map V.int))→∃ o,Rs G (.ref pa) o:=fun e=>⟨_,.ints e (by omega)⟩
   (simp only [qL])
   (push_cast only [f11])
   refine ⟨by decide,fun a1 I1 m1 v1 h1=>⟨by decide,fun a2 I2 m2 v2 h2=>⟨by decide,fun a3 I3 m3 v3 h3=>⟨by decide,fun a4 I4 m4 v4 h4=>⟨by decide,fun a5 I5 m5 v5 h5=>⟨by decide,fun a6 I6 m6 v6 h6=>fun a7 I7 m7 v7 h7=>⟨by decide,fun a8 I8 m8 v8 h8=>⟨by decide,fun a9 I9 m9 v9 h9=>⟨by decide,fun a10 I10 m10 v10 h10=>⟨by decide,fun a11 I11 m11 v11 h11=>?_⟩⟩⟩⟩⟩⟩⟩⟩⟩⟩
   have w9:=v10.trans v11
   have w8:=v9.trans w9
   have w6:=(v7.trans v8).trans w8
   have w5:=v6.trans w6
   have w4:=v5.trans w5
   have w2:=(v3.trans v4).trans w4
   have W:=(v1.trans v2).trans w2
   refine ⟨_,W _ _ f11,_,h11,?_,fun l2 J1 j1 x1 g2=>?_⟩
   ·rw [sl1]
    show 15 + 7 ≤ sizeLine
    decide
   have WJ:=W.trans x1
   have SJ:=SU.trans WJ
   have some2:∀ x ∈ sm1 ++ [V.ref a2,V.ref a4,V.ref a5,V.ref a6,V.ref a8,V.ref a9,V.ref a10],∃ o,Pc J1 x o:=by
    have hrJ:=rsr (SJ _ _ hr')
    have hpJ:=rsp (SJ _ _ hp)
    intro x hx
    rcases A4.mp hx with z | z
    ·obtain ⟨o,y⟩:=some1 x z
     exact ⟨o,y.same WJ⟩
    simp only [A2,Bh,or_false] at z
    rcases z with z | z | z | z | z | z | z <;> subst z
    ·exact eG (x1 _ _ (w2 _ _ h2)) (kn (t := "list") (by simp [jR,x1 _ _ (w2 _ _ (v2 _ _ h1))]) rfl) hpJ
    ·exact eG (x1 _ _ (w4 _ _ h4)) hrJ (kn (t := "list") (by simp [jR,x1 _ _ (w4 _ _ (v4 _ _ h3))]) rfl)
    ·exact eG (x1 _ _ (w5 _ _ h5)) (kn (t := "str") rfl rfl) hpJ
    ·exact eG (x1 _ _ (w6 _ _ h6)) hrJ (kn (t := "str") rfl rfl)
    ·exact eG (x1 _ _ (w8 _ _ h8)) hrJ (kn (t := "dict") (by simp [jR,x1 _ _ (w8 _ _ (v8 _ _ h7))]) rfl)
    ·exact eG (x1 _ _ (w9 _ _ h9)) (kn (t := "int") rfl rfl) (kn (t := "int") rfl rfl)
    ·exact eG (x1 _ _ (v11 _ _ h10)) hrJ (kn (t := "NoneType") rfl rfl)
   have sl2:(sm1 ++ [V.ref a2,V.ref a4,V.ref a5,V.ref a6,V.ref a8,V.ref a9,V.ref a10]).length=22:=by rw [Ax,sl1];rfl
   clear h1 h2 h3 h4 h5 h6 h7 h8 h9 h10 h11 f11 some1
   revert g2 some2 sl2
   generalize sm1 ++ [V.ref a2,V.ref a4,V.ref a5,V.ref a6,V.ref a8,V.ref a9,V.ref a10] = sm2
   intro g2 some2 sl2
   have oJ:=q8 (SJ _ _ ho)
   (simp only [qL])
   (push_cast only [g2])
   refine ⟨_,oJ,fun b1 K1 k1 y1 h1=>⟨by decide,fun b2 K2 k2 y2 h2=>⟨by decide,fun b3 K3 k3 y3 h3=>⟨_,y3 _ _ (y2 _ _ (y1 _ _ g2)),_,h3,?_,fun l3 K4 k4 y4 h4=>?_⟩⟩⟩⟩
   ·rw [sl2]
    show 22 + 2 ≤ sizeLine
    decide
   have Y:=((y1.trans y2).trans y3).trans y4
   have SK:=SJ.trans Y
   have some3:∀ x ∈ sm2 ++ [V.ref b1,V.ref b2],∃ o,Pc K4 x o:=by
    intro x hx
    rcases A4.mp hx with z | z
    ·obtain ⟨o,w⟩:=some2 x z
     exact ⟨o,w.same Y⟩
    simp only [A2,Bh,or_false] at z
    rcases z with z | z <;> subst z
    ·exact ⟨_,.kind (t := "list") (by simp [jR,y4 _ _ (y3 _ _ (y2 _ _ h1))]) rfl⟩
    ·refine ⟨_,.len (y4 _ _ (y3 _ _ h2)) (by simp) fun x hx=>?_⟩
     rw [A5.mp hx]
     exact ⟨_,.tup (SK _ _ ho) (fun x hx=>by
      simp only [A2,Bh,or_false] at hx
      rcases hx with z | z <;> subst z
      ·exact ⟨"tuple",by simp [jR,SK _ _ hr']⟩
      ·exact ⟨"tuple",by simp [jR,SK _ _ hp]⟩) (by simp)⟩
   have sl3:(sm2 ++ [V.ref b1,V.ref b2]).length=24:=by rw [Ax,sl2];rfl
   have ptK:=pt.same SK
   have nl3:=((((pt.same SJ).same y1).same y2).same y3).ne k4
   clear h1 h2 h3 g2 some2
   revert h4 some3 sl3
   generalize sm2 ++ [V.ref b1,V.ref b2] = sm3
   intro h4 some3 sl3
   (simp only [qL])
   (push_cast only [h4])
   have l30:H l3=none:=by
    cases e:H l3 with
    | none=>rfl
    | some ob=>exact absurd rfl (qF ((((SJ.trans y1).trans y2).trans y3) _ _ e) k4)
   refine fun z1 L1 e1 r1 q1=>⟨by decide,fun z2 L2' e2 r2 q2=>⟨by decide,fun z3 L3 e3 r3 q3=>⟨⟨by decide,by decide,by decide⟩,⟨by decide,by decide,by decide⟩,by decide,fun z4 L4 e4 r4 q4=>⟨_,q4,?_⟩⟩⟩⟩
   have R:=((r1.trans r2).trans r3).trans r4
   have ptL:=ptK.same R
   have nz4:=(((ptK.same r1).same r2).same r3).ne e4
   have z4l:z4 ≠ l3:=(qF (r3 _ _ (r2 _ _ (r1 _ _ h4))) e4).symm
   have start:THJ p q' o r pa l3 z4 rs ps [V.ref z1,V.str (Str.ofString "0"),V.ref z2,V.ref z3,V.non,V.int (10 ^ Int.toNat 30),V.int (-10 ^ Int.toNat 30),V.bl true] 24 H L4:=by
    refine ⟨ptL,nl3.1.symm,nl3.2.symm,nz4.1.symm,nz4.2.symm,z4l,(SK.trans R) _ _ hr',(SK.trans R) _ _ hp,q4,fun x hx=>?_,⟨_,R _ _ h4,sl3,fun x hx=>let ⟨u,w⟩:=some3 x hx;⟨u,w.same R⟩⟩,l30,jV (SK.trans R)⟩
    simp only [A2,Bh,or_false] at hx
    rcases hx with z | z | z | z | z | z | z | z <;> subst z
    ·exact ⟨"dict",by simp [jR,r4 _ _ (r3 _ _ (r2 _ _ q1))]⟩
    ·exact ⟨_,rfl⟩
    ·exact ⟨"tuple",by simp [jR,r4 _ _ (r3 _ _ q2)]⟩
    ·exact ⟨"list",by simp [jR,r4 _ _ q3]⟩
    ·exact ⟨_,rfl⟩
    ·exact ⟨_,rfl⟩
    ·exact ⟨_,rfl⟩
    ·exact ⟨_,rfl⟩
   clear q1 q2 q3 q4 some3
   revert start
   generalize hzs:[V.ref z1,V.str (Str.ofString "0"),V.ref z2,V.ref z3,V.non,V.int (10 ^ Int.toNat 30),V.int (-10 ^ Int.toNat 30),V.bl true] = zs
   have zl8:zs.length=8:=by rw [← hzs];rfl
   clear hzs
   intro start
   refine yZ (THI p q' o r pa l3 z4 d _ rs ps zs H) ⟨_,_,rfl,start⟩ (fun j σ H' _ ⟨_,_,_,t⟩=>t.hz) ?_ ?_
   ·rintro i x σ H3 hx ⟨v7,v8,rfl,th⟩
    (push_cast only [])
    obtain ⟨tx,ktx⟩:=th.kz x (Ap hx)
    have i8:i < 8:=by rw [← zl8];exact (Af.mp hx).1
    refine ⟨_,q8 th.hp,p,q',_,rfl,th.pt,by rw [Aa];omega,by rw [Aa];omega,fun n0 H4 b0 b1 pt4 bt4=>?_⟩
    have th4:=th.draw pt4 bt4.y
    have kx4:∃ t,jR H4 x=some t:=⟨tx,dR th.pt pt4 bt4.y ktx⟩
    obtain ⟨k0,rfl⟩:=AR b0
    rw [Aa] at b1
    obtain ⟨xs,el,xl,px⟩:=th4.hl
    have hp4:=th4.hp
    have c1:=pM (xs:=ps.map V.int) (k:=k0) (by rw [Aa];omega)
    have c3:zL (ps.map V.int) (some ((k0:Int) + 1)) none=(ps.map V.int).drop (k0 + 1):=pN (k0 + 1)
    (simp only [qL])
    (push_cast only [el,hp4,c1])
    refine fun a1 I1 v1 h1=>⟨by decide,fun a2 I2 m2 v2 h2=>⟨_,v2 _ _ h1,_,h2,?_,fun a3 I3 v3 h3=>⟨_,v3 _ _ (v2 _ _ (v1 _ _ hp4)),fun a4 I4 v4 h4=>⟨_,v4 _ _ h3,_,h4,?_,fun a5 I5 v5 h5=>⟨by decide,fun a6 I6 m6 v6 h6=>⟨_,(((((v1.trans v2).trans v3).trans v4).trans v5).trans v6) _ _ el,qP (by omega),?_⟩⟩⟩⟩⟩⟩
    ·exact Bp (qP (by rw [Av,Aa];simp;omega))
    ·exact Bp (qP (by rw [c3,Ax,Av,BB,Aa];simp;omega))
    rw [c3] at h5
    have V6:=((((v1.trans v2).trans v3).trans v4).trans v5).trans v6
    have th6:=th4.draw (pt4.same V6) (jV V6)
    have th7:=th6.add (V6 _ _ el) (eG h6 (rsr th6.hr) (by
     obtain ⟨o,g⟩:=iW ((((v1.trans v2).trans v3).trans v4).trans v5) h5 (by omega) kx4
     exact ⟨o,g.same v6⟩))
    have kx7:∃ t,jR (upd I6 l3 (.lst (xs ++ [V.ref a6]))) x=some t:=by
     obtain ⟨t,g⟩:=kx4
     exact ⟨t,nV (V6 _ _ el) qG SameX.upd (zJ V6 g)⟩
    revert th7 kx7
    generalize upd I6 l3 (.lst (xs ++ [V.ref a6]))=H7
    intro th7 kx7
    clear h1 h2 h3 h4 h5 h6 el
    (simp only [qL])
    (push_cast only [])
    refine ⟨_,q8 th7.hr,p,q',_,rfl,th7.pt,by omega,by rw [Aa];omega,fun n1' H8 b0' b1' pt8 bt8=>?_⟩
    have th8:=th7.draw pt8 bt8.y
    have kx8:∃ t,jR H8 x=some t:=let ⟨t,g⟩:=kx7;⟨t,dR th7.pt pt8 bt8.y g⟩
    obtain ⟨k1',rfl⟩:=AR b0'
    rw [Aa] at b1'
    obtain ⟨ys,el8,yl,py⟩:=th8.hl
    have hr8:=th8.hr
    have e1':=pM (xs:=rs.map V.int) (k:=k1') (by rw [Aa];omega)
    have e2':zL (rs.map V.int) (some (k1':Int)) none=(rs.map V.int).drop k1':=pN k1'
    (simp only [qL])
    (push_cast only [el8,hr8,e1'])
    refine fun a1 I1 v1 h1=>⟨by decide,fun a2 I2 m2 v2 h2=>⟨_,v2 _ _ h1,_,h2,?_,fun a3 I3 v3 h3=>⟨_,v3 _ _ (v2 _ _ (v1 _ _ hr8)),fun a4 I4 v4 h4=>⟨_,v4 _ _ h3,_,h4,?_,fun a5 I5 v5 h5=>⟨by decide,fun a6 I6 m6 v6 h6=>⟨_,(((((v1.trans v2).trans v3).trans v4).trans v5).trans v6) _ _ el8,qP (by omega),?_⟩⟩⟩⟩⟩⟩
    ·exact Bp (qP (by rw [Av,Aa];simp;omega))
    ·exact Bp (qP (by rw [e2',Ax,Av,BB,Aa];simp;omega))
    rw [e2'] at h5
    have V6:=((((v1.trans v2).trans v3).trans v4).trans v5).trans v6
    have th9:=th8.draw (pt8.same V6) (jV V6)
    have th10:=th9.add (V6 _ _ el8) (eG h6 (by
     obtain ⟨o,g⟩:=iW ((((v1.trans v2).trans v3).trans v4).trans v5) h5 (by omega) kx8
     exact ⟨o,g.same v6⟩) (rsp th9.hp))
    exact ⟨_,_,rfl,th10⟩
   ·rintro σ H3 ⟨v7,v8,rfl,th⟩
    (simp only [qL])
    (push_cast only [])
    obtain ⟨xs,e,len,k⟩:=th.hl
    exact q l3 xs H3 e th.lp th.lq (by omega) k th.pt th.y
theorem rH {ss:List Int}(h5:ss.length ≤ 5)(h01:∀ x ∈ ss,x=0∨x=1):ss=S.bitsL (d6 ss 1 ss.length) ss.length:=by
 refine S.getD_ext (by rw [S.bits_len]) fun i hi=>?_
 rw [S.bits_at hi,bE ss ss.length h5 i (by omega),A0 hi,BL]
 have hm:ss.getD i 0 ∈ ss:=by
  rw [Ab,Ae hi]
  exact AH hi
 rcases h01 _ hm with z | z <;> rw [z] <;> simp
theorem tN {B x:Int}{n m:Nat}(h:B * ((n:Int) + (m:Int)) ≤ 399)(s:x ≤ (n:Int) * B + (m:Int) * B):x ≤ 399:=by
 have e:B * ((n:Int) + (m:Int))=(n:Int) * B + (m:Int) * B:=by rw [Int.mul_add,Int.mul_comm B,Int.mul_comm B]
 omega
theorem mO {B:Int}:∀ (l:List Int),(∀ x ∈ l,x ≤ B)→l.sum ≤ (l.length:Int) * B
 | [],_=>by simp
 | x :: l,h=>by
  have ih:=mO l fun y hy=>h y (Aw _ hy)
  have hx:=h x Aq
  rw [Bz,Ba]
  push_cast
  rw [Int.add_mul,Co]
  omega
theorem bI {ts:List (List Int)}{m F:Nat}{B top:Int}(B0:0 ≤ B)(bd:∀ ws ∈ ts,Bd m B ws)(it:S.IsTop ts m top):0 ≤ top∧top ≤ B∧jG ts (S.firstL F m top) ≤ (ts.length:Int) * B + (m:Int) * B:=by
 have pp:=AE m
 obtain ⟨⟨w0,w1,w2⟩,_⟩:=it
 have t01:=(bd w0 w1).2 (2 ^ m - 1) (by omega)
 rw [w2] at t01
 have fb:∀ x ∈ S.firstL F m top,0 ≤ x∧x ≤ B:=fun x hx=>by rcases S.first_mem hx with z | z <;> omega
 refine ⟨t01.1,t01.2,?_⟩
 unfold jG
 have h1:=mO (B:=B) (S.firstL F m top) fun x hx=>(fb x hx).2
 rw [S.first_len] at h1
 have h2:=mO (B:=B) (ts.map fun ws=>jL ws (S.firstL F m top)) fun x hx=>by
  obtain ⟨ws,hw,rfl⟩:=Am.mp hx
  obtain ⟨k,k1,k2⟩:=wZ (gN ws (S.firstL F m top)) (2 ^ (S.firstL F m top).length - 1)
  have k2':jL ws (S.firstL F m top)=gN ws (S.firstL F m top) k:=k2
  rw [k2']
  unfold gN
  rw [S.first_len] at k1 ⊢
  have b1:=(bd ws hw).2 k (by omega)
  have b2:0 ≤ kJ (S.firstL F m top) k m:=by
   have:∀ n,0 ≤ kJ (S.firstL F m top) k n:=fun n=>by
    induction n with
    | zero=>exact AV _
    | succ n ih =>
     show 0 ≤ kJ (S.firstL F m top) k n + _
     have:0 ≤ (S.firstL F m top).getD n 0:=by
      rw [Ab]
      cases e:(S.firstL F m top)[n]? with
      | none=>exact AV _
      | some x=>exact (fb x (Ap e)).1
     split <;> omega
   exact this m
  omega
 rw [Aa] at h2
 omega
def dJ (H H':Hp):Prop:=∀ a L,H a=some (.tup L)→H' a=some (.tup L)
theorem sT {H H':Hp}{tw sa wa:Addr}{ts:List (Addr × List Int)}{m F:Nat}(R:S.Tn H tw sa wa ts m F)(s:dJ H H'):S.Tn H' tw sa wa ts m F:=⟨⟨s _ _ R.R.tw,s _ _ R.R.wa,R.R.few,R.R.five,fun t ht=>⟨s _ _ (R.R.row t ht).1,(R.R.row t ht).2⟩⟩,s _ _ R.sa,R.hF,R.kd,R.ne⟩
theorem ts_y {H H':Hp}{p q:Addr}(pt:Pot H p q)(s:SameY p q H H'):dJ H H':=fun a L e=>s _ _ (pt.net e).1 (pt.net e).2 e
theorem pick {P:Nat→Bool→Prop}(h:∀ i,∃ v,P i v):∃ e:Nat→Bool,∀ i,P i (e i):=⟨fun i=>(h i).choose,fun i=>(h i).choose_spec⟩
theorem eq0 {H:Hp}{x:V}{t:String}(n:Int)(k:jR H x=some t):∃ v,EqD 0 H x (.int n) v∧(eqI x n=true→v=true):=by
 cases x with
 | int j=>exact ⟨_,⟨n,rfl,.inl ⟨rfl,rfl⟩⟩,fun h=>by
   have:=Bj h
   subst this
   exact A0 rfl⟩
 | bl b=>exact ⟨_,⟨n,rfl,.inl ⟨rfl,rfl⟩⟩,fun h=>by cases h⟩
 | non=>exact ⟨_,⟨n,rfl,.inl ⟨rfl,rfl⟩⟩,fun h=>by cases h⟩
 | str b=>exact ⟨_,⟨n,rfl,.inl ⟨rfl,rfl⟩⟩,fun h=>by cases h⟩
 | ref a =>
  cases e:H a with
  | none=>simp [jR,e] at k
  | some o =>
   cases o with
   | lst xs=>exact ⟨false,⟨n,rfl,.inr ⟨rfl,a,rfl,.inr (.inl ⟨xs,e⟩)⟩⟩,fun h=>by cases h⟩
   | tup xs=>exact ⟨false,⟨n,rfl,.inr ⟨rfl,a,rfl,.inl ⟨xs,e⟩⟩⟩,fun h=>by cases h⟩
   | dK xs=>exact ⟨false,⟨n,rfl,.inr ⟨rfl,a,rfl,.inr (.inr ⟨xs,e⟩)⟩⟩,fun h=>by cases h⟩
   | _=>simp [jR,e] at k
 | _=>cases k
theorem lN {H:Hp}{x:V}{t:String}(k:jR H x=some t)(z:(t == "tuple")=false):sJ H x:=by
 cases x with
 | int j=>exact .inl rfl
 | bl b=>exact .inl rfl
 | non=>exact .inl rfl
 | str b=>exact .inl rfl
 | ref a =>
  cases e:H a with
  | none=>simp [jR,e] at k
  | some o =>
   cases o with
   | lst xs=>exact .inr ⟨a,rfl,.inl ⟨xs,e⟩⟩
   | tup xs=>simp [jR,e] at k;subst k;cases z
   | dK xs=>exact .inr ⟨a,rfl,.inr ⟨xs,e⟩⟩
   | _=>simp [jR,e] at k
 | _=>cases k
theorem eq1 {H:Hp}{u:V}{o:Option (List V)}{r:Addr}{ns:List Int}(ru:Rs H u o)(hr:H r=some (.tup (ns.map V.int))):∃ v,EqD 1 H u (.ref r) v∧(lK o ns=true→v=true):=by
 cases ru with
 | kind k z=>exact ⟨false,⟨r,_,rfl,hr,.inl ⟨rfl,lN k z⟩⟩,fun h=>by cases h⟩
 | @tup a xs h kn l =>
  by_cases e:a=r
  ·subst e
   exact ⟨true,⟨a,_,rfl,hr,.inr (.inl ⟨rfl,rfl⟩)⟩,fun _=>rfl⟩
  ·obtain ⟨f,hf⟩:=pick (P:=fun i v=>∀ x y,xs[i]? = some x→(ns.map V.int)[i]? = some y→EqD 0 H x y v∧∀ n,y = .int n→eqI x n=true→v=true) fun i=>by
    cases hx:xs[i]? with
    | none=>exact ⟨false,fun x y h=>by cases h⟩
    | some x =>
     cases hy:(ns.map V.int)[i]? with
     | none=>exact ⟨false,fun x y _ h=>by cases h⟩
     | some y =>
      rw [Ag] at hy
      obtain ⟨n,_,rfl⟩:=Aj.mp hy
      obtain ⟨t,k⟩:=kn x (Ap hx)
      obtain ⟨v,h1,h2⟩:=eq0 n k
      refine ⟨v,fun x' y' a b=>?_⟩
      cases a
      cases b
      exact ⟨h1,fun m hm=>by cases hm;exact h2⟩
   refine ⟨_,⟨r,_,rfl,hr,.inr (.inr ⟨a,xs,f,rfl,e,h,fun i u w hu hw=>(hf i u w hu hw).1,rfl⟩)⟩,fun hs=>?_⟩
   have hx:=zA.mp (show gY xs ns=true from hs)
   subst hx
   rw [AF,B3]
   refine ⟨fun i hi=>?_,by simp⟩
   have il:i < ns.length:=by simpa using hi
   have hi':(ns.map V.int)[i]? = some (V.int ns[i]):=by rw [Ag,Ae il];rfl
   exact (hf i _ _ hi' hi').2 _ rfl (A0 rfl)
theorem ne_pc {H:Hp}{Q:VK}{x:V}{b r p:Addr}{o:Option (Option (List V) × Option (List V))}{ns ms:List Int}(pc:Pc H x o)(hb:H b=some (.tup [.ref r,.ref p]))(hr:H r=some (.tup (ns.map V.int)))(hp:H p=some (.tup (ms.map V.int)))(q:∀ v:Bool,(v=true→vY o ns ms=false)→Q (.bl v) H):rNeD 1 x (.ref b) H Q:=by
 refine ⟨b,_,rfl,hb,?_⟩
 cases pc with
 | kind k z=>exact .inl ⟨lN k z,q true fun _=>rfl⟩
 | @len a xs h n k =>
  obtain ⟨f,hf⟩:=pick (P:=fun i v=>∀ x y,xs[i]? = some x→[V.ref r,V.ref p][i]? = some y→EqD 1 H x y v) fun i=>by
   cases hx:xs[i]? with
   | none=>exact ⟨false,fun x y h=>by cases h⟩
   | some x =>
    obtain ⟨o',rx⟩:=k x (Ap hx)
    match i with
    | 0=>exact (eq1 rx hr).elim fun v h=>⟨v,fun x' y' a b=>by cases a;cases b;exact h.1⟩
    | 1=>exact (eq1 rx hp).elim fun v h=>⟨v,fun x' y' a b=>by cases a;cases b;exact h.1⟩
    | i + 2=>exact ⟨false,fun x y _ h=>by cases h⟩
  exact .inr ⟨a,xs,f,rfl,h,fun i u w hu hw=>hf i u w hu hw,q _ fun _=>rfl⟩
 | @two a u v o1 o2 h r1 r2 =>
  obtain ⟨k1,e1,f1⟩:=eq1 r1 hr
  obtain ⟨k2,e2,f2⟩:=eq1 r2 hp
  refine .inr ⟨a,_,fun i=>if i=0 then k1 else k2,rfl,h,fun i u' w' hu hw=>?_,q _ fun hv=>?_⟩
  ·have hi:i < 2:=(Af.mp hu).1
   have hi2:i=0∨i=1:=by omega
   rcases hi2 with rfl | rfl
   ·cases hu
    cases hw
    exact e1
   ·cases hu
    cases hw
    exact e2
  ·cases c:vY (some (o1,o2)) ns ms with
   | false=>rfl
   | true =>
    have c':=Bool.and_eq_true_iff.mp (show (lK o1 ns && lK o2 ms)=true from c)
    rw [f1 c'.1,f2 c'.2] at hv
    exact absurd hv (by simp)
def mR (K:PySem.W.Frag):Sp:=fun vs H Q _=>∃ (a:Addr) (ns:List Int),vs=[.ref a]∧Scr K a ns H∧ns.length ≤ 63∧∀ H',Q (.bl true) H'
def J2 (a p tw u d:Addr)(G:Hp)(k:Nat)(σ:St)(H:Hp):Prop:=∃ v5:Option V,σ=[some (.ref a),some (.ref p),some (.ref tw),some (.ref u),some (.ref d),v5]∧Same G H
theorem iL:FnScope ["_law_script", "_law_pot_here", "_law_town", "_law_up", "_law_down", "_law_thing"] ["_law_script"] (qE s_law):=⟨rfl,rfl,rfl,by decide +kernel,rfl,by decide +kernel,by decide +kernel⟩
theorem ok_law (F:Fun K "law" "law" s_law f fd) (T:Txt mg) (c__law_pot:Cal P w K mg base "_law_pot" ["_law_script"] 1 (iG K)) (c__law_kind_town:Cal P w K mg base "_law_kind_town" ["_law_pot_here", "_law_most"] 4 lG) (c_rising:Cal P w K mg base "rising" ["town"] 8 S.sp_steps) (c_falling:Cal P w K mg base "falling" ["town"] 8 S.sp_fall) (c__law_things:Cal P w K mg base "_law_things" ["_law_pot_here", "_law_told"] 3 cD) (c_shows_rising:Cal P w K mg base "shows_rising" ["town", "thing"] 9 gQ) (c_shows_falling:Cal P w K mg base "shows_falling" ["town", "thing"] 9 vL) :
  FnOk P w K mg base CX0 10 f fd ["_law_script"] (mR K):=by
 refine F.ok iL (fun vs H Q E h=>?_) (fun cdv A outer s H vs Q E hr h=>?_)
 ·obtain ⟨_,_,rfl,_⟩:=h;rfl
 ·obtain ⟨a,ns0,rfl,hq,hlen,q⟩:=h
  have sc:=iL
  refine ⟨_,qK (qY (i:=1) sc.nd rfl (Or.inl rfl) (qJ c__law_pot hr (qA (pv 0) qD)))
   (qK (qY (i:=2) sc.nd rfl (Or.inl rfl) (qJ c__law_kind_town hr (qA (pv 1) (qA qH qD))))
   (qK (rL (i:=3) (j:=4) rfl sc.nd rfl rfl (by decide) rfl rfl (qA (qJ c_rising hr (qA (pv 2) qD)) (qA (qJ c_falling hr (qA (pv 2) qD)) qD)) rfl)
   (qK (zD (PW.pt (pw_or (q5 dC (qJ c_shows_rising hr (qA (pv 2) (qA (pv 3) qD))) yF (qZ _)) (iV (q5 dC (qJ c_shows_falling hr (qA (pv 2) (qA (pv 4) qD))) yF (qZ _))))) (qI (qS yF)) jB)
   (qK (jO AA rfl (xO (qV pQ (qJ c__law_things hr (qA (pv 1) (qA (pv 3) qD))) (qJ c__law_things hr (qA (pv 1) (qA (pv 4) qD))))) (qM (i:=5) sc.nd rfl (Or.inl rfl))
    (qK (zD (PW.pt (zX (q5 (neD0 1 (by decide) hr.units) (pv 5) (pv 3) (qZ _)) (zQ (q5 dC (qJ c_shows_rising hr (qA (pv 2) (qA (pv 5) qD))) yF (qZ _))))) (qI (qS yF)) jB)
   (qI (zD (PW.pt (zX (q5 (neD0 1 (by decide) hr.units) (pv 5) (pv 4) (qZ _)) (zQ (q5 dC (qJ c_shows_falling hr (qA (pv 2) (qA (pv 5) qD))) yF (qZ _))))) (qI (qS yF)) jB))))
   (qI (qS (zC (jU is_bl (qJ c_shows_rising hr (qA (pv 2) (qA (pv 3) qD))) yF (qZ _)) (vG (jU is_bl (qJ c_shows_falling hr (qA (pv 2) (qA (pv 4) qD))) yF (qZ _)))))))))),?_⟩
  rw [show L2.start ["_law_script", "_law_pot_here", "_law_town", "_law_up", "_law_down", "_law_thing"] [.ref a] = [some (.ref a),none,none,none,none,none] from rfl]
  (push_cast only [])
  refine ⟨a,ns0,rfl,hq,fun p q' H1 n1 n1' s1 pt1=>?_⟩
  (push_cast only [])
  (simp only [qL])
  (push_cast only [])
  refine ⟨p,q',rfl,pt1,fun t sa wt ss B ts H3 s1' s5' t1 t5 s01 tb B0 B9 pt3 et esa ewt=>?_⟩
  have hF:=nH ss 1 ss.length
  have p32:=kW s5'
  rw [rH s5' s01] at esa
  have tlen:ts ≠ []:=by rintro rfl;simp at t1
  have B1:B ≤ 399:=by
   have:=Int.mul_le_mul_of_nonneg_left (show (1:Int) ≤ (ts.length:Int) + (ss.length:Int) by omega) B0
   omega
  have bd:∀ ws ∈ ts.map (fun t=>t.2),Bd ss.length B ws:=fun ws hw=>by
   obtain ⟨t,ht,rfl⟩:=Am.mp hw
   exact (tb t ht).2.2.2
  have TN:S.Tn H3 t sa wt ts ss.length (d6 ss 1 ss.length):=by
   refine ⟨⟨et,ewt,t5,s5',fun u hu=>?_⟩,esa,hF,fun ws hw=>?_,tlen⟩
   ·obtain ⟨g1,g2,g3,g4⟩:=tb u hu
    refine ⟨g1,g2,fun x hx=>?_⟩
    obtain ⟨k,hk,rfl⟩:=List.getElem_of_mem hx
    have:=g4.2 k (by omega)
    rw [Ab,Ae hk] at this
    have h2:0 ≤ u.2[k]∧u.2[k] ≤ B:=this
    omega
   ·obtain ⟨u,hu,rfl⟩:=Am.mp hw
    exact (tb u hu).2.2.1
  generalize d6 ss 1 ss.length=Fh at TN hF
  have bdd:∀ top,S.IsTop (ts.map fun t=>t.2) ss.length top→0 ≤ top∧top ≤ 1000∧jG (ts.map fun t=>t.2) (S.firstL Fh ss.length top) ≤ 399:=fun top it=>by
   obtain ⟨a1,a2,a3⟩:=bI (F:=Fh) B0 bd it
   rw [Aa] at a3
   exact ⟨a1,by omega,tN B9 a3⟩
  have bdc:∀ top,S.IsTop (ts.map fun t=>t.2) ss.length top→0 ≤ top∧top ≤ 1000∧jG (ts.map fun t=>t.2) (S.firstL (S.cpl ss.length Fh) ss.length top) ≤ 399:=fun top it=>by
   obtain ⟨a1,a2,a3⟩:=bI (F:=S.cpl ss.length Fh) B0 bd it
   rw [Aa] at a3
   exact ⟨a1,by omega,tN B9 a3⟩
  have hC:=S.cpl_lt hF
  (simp only [qL])
  (push_cast only [])
  refine ⟨t,sa,wt,ts,ss.length,Fh,rfl,TN,bdd,fun top du r pa H4 it s4 e4 r4 p4=>?_⟩
  refine ⟨t,sa,wt,ts,ss.length,Fh,rfl,TN.same s4,bdc,fun top2 du2 r2 pa2 H5 it2 s5 e5 r5 p5=>?_⟩
  have:=it2.one it
  subst this
  have ni:∀ xs:List Nat,S.natI xs=(xs.map fun x:Nat=>(x:Int)).map V.int:=fun xs=>by unfold S.natI;rw [AO];rfl
  rw [ni] at r4 r5
  obtain ⟨rl1,rl2⟩:=gZ (ts.map fun t=>t.2) Fh 399 (S.firstL Fh ss.length top2)
  obtain ⟨ql1,ql2⟩:=gZ (ts.map fun t=>t.2) (S.cpl ss.length Fh) 399 (S.firstL (S.cpl ss.length Fh) ss.length top2)
  rw [S.first_len] at rl2 ql2
  have dl:(xV ts ss.length Fh top2).length ≤ 399:=by unfold xV;rw [Aa];exact rl1
  have pl:(vJ ts ss.length Fh top2).length=ss.length:=rl2
  have dl2:(xV ts ss.length (S.cpl ss.length Fh) top2).length ≤ 399:=by unfold xV;rw [Aa];exact ql1
  have pl2:(vJ ts ss.length (S.cpl ss.length Fh) top2).length=ss.length:=ql2
  have r4':H5 r=some (.tup ((xV ts ss.length Fh top2).map V.int)):=s5 _ _ r4
  have p4':H5 pa=some (.tup ((vJ ts ss.length Fh top2).map V.int)):=s5 _ _ p4
  have e4':=s5 _ _ e4
  have r5':H5 r2=some (.tup ((xV ts ss.length (S.cpl ss.length Fh) top2).map V.int)):=r5
  have p5':H5 pa2=some (.tup ((vJ ts ss.length (S.cpl ss.length Fh) top2).map V.int)):=p5
  have TN5:=(TN.same s4).same s5
  have pt5:=(pt3.same s4).same s5
  have yes:∀ xs ys:List Int,vY (some (some (xs.map V.int),some (ys.map V.int))) xs ys=true:=fun xs ys=>Bool.and_eq_true_iff.mpr ⟨zA.mpr rfl,zA.mpr rfl⟩
  have upc:∀ {G:Hp},dJ H5 G→Pc G (.ref du) (some (some ((xV ts ss.length Fh top2).map V.int),some ((vJ ts ss.length Fh top2).map V.int))):=fun g=>.two (g _ _ e4') (.ints (g _ _ r4') (by omega)) (.ints (g _ _ p4') (by omega))
  have dnc:∀ {G:Hp},dJ H5 G→Pc G (.ref du2) (some (some ((xV ts ss.length (S.cpl ss.length Fh) top2).map V.int),some ((vJ ts ss.length (S.cpl ss.length Fh) top2).map V.int))):=fun g=>.two (g _ _ e5) (.ints (g _ _ r5') (by omega)) (.ints (g _ _ p5') (by omega))
  have ss_ts:∀ {G G':Hp},Same G G'→dJ G G':=fun g a L e=>g _ _ e
  have okU:∀ {G:Hp} {Q':VK},dJ H5 G→(∀ G',Same G G'→Q' (.bl true) G')→gQ [.ref t,.ref du] G Q' E0:=fun g q'=>⟨t,sa,wt,ts,ss.length,Fh,.ref du,_,rfl,sT TN5 g,bdd,upc g,fun top3 H6 it3 s6=>by
   have:=it3.one it2
   subst this
   rw [yes]
   exact q' H6 s6⟩
  have okD:∀ {G:Hp} {Q':VK},dJ H5 G→(∀ G',Same G G'→Q' (.bl true) G')→vL [.ref t,.ref du2] G Q' E0:=fun g q'=>⟨t,sa,wt,ts,ss.length,Fh,.ref du2,_,rfl,sT TN5 g,bdc,dnc g,fun top3 H6 it3 s6=>by
   have:=it3.one it2
   subst this
   rw [yes]
   exact q' H6 s6⟩
  have noU:∀ {G:Hp} {Q':VK} {x:V} {o:Option (Option (List V) × Option (List V))},dJ H5 G→Pc G x o→vY o (xV ts ss.length Fh top2) (vJ ts ss.length Fh top2)=false→(∀ G',Same G G'→Q' (.bl false) G')→gQ [.ref t,x] G Q' E0:=fun {G Q' x o} g pc z q'=>⟨t,sa,wt,ts,ss.length,Fh,x,o,rfl,sT TN5 g,bdd,pc,fun top3 H6 it3 s6=>by
   have:=it3.one it2
   subst this
   rw [z]
   exact q' H6 s6⟩
  have noD:∀ {G:Hp} {Q':VK} {x:V} {o:Option (Option (List V) × Option (List V))},dJ H5 G→Pc G x o→vY o (xV ts ss.length (S.cpl ss.length Fh) top2) (vJ ts ss.length (S.cpl ss.length Fh) top2)=false→(∀ G',Same G G'→Q' (.bl false) G')→vL [.ref t,x] G Q' E0:=fun {G Q' x o} g pc z q'=>⟨t,sa,wt,ts,ss.length,Fh,x,o,rfl,sT TN5 g,bdc,pc,fun top3 H6 it3 s6=>by
   have:=it3.one it2
   subst this
   rw [z]
   exact q' H6 s6⟩
  (simp only [qL])
  (push_cast only [])
  refine okU (fun _ _ e=>e) fun H6 s6=>⟨true,rfl,?_⟩
  rw [Au (by decide)]
  refine okD (ss_ts s6) fun H7 s7=>⟨true,rfl,?_⟩
  rw [Au (by decide)]
  have S57:=s6.trans s7
  have pt7:=pt5.same S57
  (simp only [qL])
  (push_cast only [])
  refine ⟨p,q',du,r,pa,_,_,rfl,pt7,S57 _ _ e4',S57 _ _ r4',S57 _ _ p4',dl,by omega,by omega,fun l1 xs1 H8 el1 lp1 lq1 xl1 px1 pt8 y8=>?_⟩
  have g8:dJ H5 H8:=fun a L e=>ts_y pt7 y8 _ _ (S57 _ _ e)
  refine ⟨p,q',du2,r2,pa2,_,_,rfl,pt8,g8 _ _ e5,g8 _ _ r5',g8 _ _ p5',dl2,by omega,by omega,fun l2 xs2 H9 el2 lp2 lq2 xl2 px2 pt9 y9=>?_⟩
  have g9:dJ H5 H9:=fun a L e=>ts_y pt8 y9 _ _ (g8 _ _ e)
  have px:∀ x ∈ xs1 ++ xs2,∃ o,Pc H9 x o:=fun x hx=>by
   rcases A4.mp hx with z | z
   ·obtain ⟨o,k⟩:=px1 x z
    exact ⟨o,k.sy pt8 pt9 y9⟩
   ·exact px2 x z
  (push_cast only [])
  refine ⟨_,y9 _ _ lp1 lq1 el1,_,el2,Bp (qP (by omega)),fun l3 G1 m1 t1 f1=>⟨_,f1,?_⟩⟩
  refine yZ (J2 a p t du du2 G1) ⟨_,rfl,Same.refl G1⟩ (fun j σ H' _ ⟨_,_,s⟩=>s _ _ f1) ?_ ?_
  ·rintro j x σ G2 hx ⟨w5,rfl,s2⟩
   have g2:dJ H5 G2:=fun a L e=>s2 _ _ (t1 _ _ (g9 _ _ e))
   obtain ⟨o,pc0⟩:=px x (Ap hx)
   have pc:=pc0.same (t1.trans s2)
   (push_cast only [])
   generalize hct:(CtS.mk _)=ct
   have tail:∀ G3,Same G2 G3→@fA ct [some (V.ref a),some (V.ref p),some (V.ref t),some (V.ref du),some (V.ref du2),some x] G3:=fun G3 s3=>by
    subst hct
    have g3:dJ H5 G3:=fun a L e=>s3 _ _ (g2 _ _ e)
    (simp only [qL])
    (push_cast only [])
    refine ne_pc (pc.same s3) (g3 _ _ e5) (g3 _ _ r5') (g3 _ _ p5') fun v hv=>⟨_,rfl,?_⟩
    cases v with
    | false =>
     rw [Au (by decide)]
     exact ⟨_,rfl,s2.trans s3⟩
    | true =>
     rw [As rfl]
     refine noD g3 (pc.same s3) (hv rfl) fun G4 s4=>⟨_,rfl,?_⟩
     rw [Au (by decide)]
     exact ⟨_,rfl,(s2.trans s3).trans s4⟩
   refine ne_pc pc (g2 _ _ e4') (g2 _ _ r4') (g2 _ _ p4') fun v hv=>⟨_,rfl,?_⟩
   cases v with
   | false =>
    rw [Au (by decide)]
    exact tail G2 (Same.refl G2)
   | true =>
    rw [As rfl]
    refine noU g2 pc (hv rfl) fun G4 s4=>⟨_,rfl,?_⟩
    rw [Au (by decide)]
    exact tail G4 s4
  ·rintro σ G2 ⟨w5,rfl,s2⟩
   have g2:dJ H5 G2:=fun a L e=>s2 _ _ (t1 _ _ (g9 _ _ e))
   (simp only [qL])
   (push_cast only [])
   refine okU g2 fun G3 s3=>⟨true,rfl,?_⟩
   rw [As (by decide)]
   refine okD (fun a L e=>s3 _ _ (g2 _ _ e)) fun G4 s4=>⟨true,rfl,?_⟩
   exact q G4
end
theorem all_mk {l:PySem.W.OpenLaw}{w:World}{K:PySem.W.Frag}{h:Heap}{mg:Str→Option Value}{fa:Addr}(X:K.In h)(G:h.Ns mainGlobals mg)(hfa:mg "law" = some (.ref fa))
  {f0:Addr} {od0 an0:Option Addr} {sl0:Array (Option Value)} {oc0 kV0 dc0 pm0 cd0 ct0:Value}
  (a0:PySem.W.nsIn K mainGlobals "has" = some (some (.ref f0))) (l0:K.lookup f0=some ⟨oc0,od0,.func (PySem.W.fnOf "has" "has" (qO s_has) (qN s_has) (qE s_has) .none kV0 dc0 pm0 an0 cd0 ct0),sl0⟩) (c0:PySem.W.codeIn K cd0 "has" = true) (k0:PySem.W.keepIn K (.ref f0)=true)
  {f1:Addr} {od1 an1:Option Addr} {sl1:Array (Option Value)} {oc1 kV1 dc1 pm1 cd1 ct1:Value}
  (a1:PySem.W.nsIn K mainGlobals "put_in" = some (some (.ref f1))) (l1:K.lookup f1=some ⟨oc1,od1,.func (PySem.W.fnOf "put_in" "put_in" (qO s_put_in) (qN s_put_in) (qE s_put_in) .none kV1 dc1 pm1 an1 cd1 ct1),sl1⟩) (c1:PySem.W.codeIn K cd1 "put_in" = true) (k1:PySem.W.keepIn K (.ref f1)=true)
  {f2:Addr} {od2 an2:Option Addr} {sl2:Array (Option Value)} {oc2 kV2 dc2 pm2 cd2 ct2:Value}
  (a2:PySem.W.nsIn K mainGlobals "heap_of" = some (some (.ref f2))) (l2:K.lookup f2=some ⟨oc2,od2,.func (PySem.W.fnOf "heap_of" "heap_of" (qO s_heap_of) (qN s_heap_of) (qE s_heap_of) .none kV2 dc2 pm2 an2 cd2 ct2),sl2⟩) (c2:PySem.W.codeIn K cd2 "heap_of" = true) (k2:PySem.W.keepIn K (.ref f2)=true)
  {f3:Addr} {od3 an3:Option Addr} {sl3:Array (Option Value)} {oc3 kV3 dc3 pm3 cd3 ct3:Value}
  (a3:PySem.W.nsIn K mainGlobals "heap_of_side" = some (some (.ref f3))) (l3:K.lookup f3=some ⟨oc3,od3,.func (PySem.W.fnOf "heap_of_side" "heap_of_side" (qO s_heap_of_side) (qN s_heap_of_side) (qE s_heap_of_side) .none kV3 dc3 pm3 an3 cd3 ct3),sl3⟩) (c3:PySem.W.codeIn K cd3 "heap_of_side" = true) (k3:PySem.W.keepIn K (.ref f3)=true)
  {f4:Addr} {od4 an4:Option Addr} {sl4:Array (Option Value)} {oc4 kV4 dc4 pm4 cd4 ct4:Value}
  (a4:PySem.W.nsIn K mainGlobals "turned" = some (some (.ref f4))) (l4:K.lookup f4=some ⟨oc4,od4,.func (PySem.W.fnOf "turned" "turned" (qO s_turned) (qN s_turned) (qE s_turned) .none kV4 dc4 pm4 an4 cd4 ct4),sl4⟩) (c4:PySem.W.codeIn K cd4 "turned" = true) (k4:PySem.W.keepIn K (.ref f4)=true)
  {f5:Addr} {od5 an5:Option Addr} {sl5:Array (Option Value)} {oc5 kV5 dc5 pm5 cd5 ct5:Value}
  (a5:PySem.W.nsIn K mainGlobals "breaking" = some (some (.ref f5))) (l5:K.lookup f5=some ⟨oc5,od5,.func (PySem.W.fnOf "breaking" "breaking" (qO s_breaking) (qN s_breaking) (qE s_breaking) .none kV5 dc5 pm5 an5 cd5 ct5),sl5⟩) (c5:PySem.W.codeIn K cd5 "breaking" = true) (k5:PySem.W.keepIn K (.ref f5)=true)
  {f6:Addr} {od6 an6:Option Addr} {sl6:Array (Option Value)} {oc6 kV6 dc6 pm6 cd6 ct6:Value}
  (a6:PySem.W.nsIn K mainGlobals "first_pair" = some (some (.ref f6))) (l6:K.lookup f6=some ⟨oc6,od6,.func (PySem.W.fnOf "first_pair" "first_pair" (qO s_first_pair) (qN s_first_pair) (qE s_first_pair) .none kV6 dc6 pm6 an6 cd6 ct6),sl6⟩) (c6:PySem.W.codeIn K cd6 "first_pair" = true) (k6:PySem.W.keepIn K (.ref f6)=true)
  {f7:Addr} {od7 an7:Option Addr} {sl7:Array (Option Value)} {oc7 kV7 dc7 pm7 cd7 ct7:Value}
  (a7:PySem.W.nsIn K mainGlobals "first_three" = some (some (.ref f7))) (l7:K.lookup f7=some ⟨oc7,od7,.func (PySem.W.fnOf "first_three" "first_three" (qO s_first_three) (qN s_first_three) (qE s_first_three) .none kV7 dc7 pm7 an7 cd7 ct7),sl7⟩) (c7:PySem.W.codeIn K cd7 "first_three" = true) (k7:PySem.W.keepIn K (.ref f7)=true)
  {f8:Addr} {od8 an8:Option Addr} {sl8:Array (Option Value)} {oc8 kV8 dc8 pm8 cd8 ct8:Value}
  (a8:PySem.W.nsIn K mainGlobals "things_beside" = some (some (.ref f8))) (l8:K.lookup f8=some ⟨oc8,od8,.func (PySem.W.fnOf "things_beside" "things_beside" (qO s_things_beside) (qN s_things_beside) (qE s_things_beside) .none kV8 dc8 pm8 an8 cd8 ct8),sl8⟩) (c8:PySem.W.codeIn K cd8 "things_beside" = true) (k8:PySem.W.keepIn K (.ref f8)=true)
  {f9:Addr} {od9 an9:Option Addr} {sl9:Array (Option Value)} {oc9 kV9 dc9 pm9 cd9 ct9:Value}
  (a9:PySem.W.nsIn K mainGlobals "pairs_beside" = some (some (.ref f9))) (l9:K.lookup f9=some ⟨oc9,od9,.func (PySem.W.fnOf "pairs_beside" "pairs_beside" (qO s_pairs_beside) (qN s_pairs_beside) (qE s_pairs_beside) .none kV9 dc9 pm9 an9 cd9 ct9),sl9⟩) (c9:PySem.W.codeIn K cd9 "pairs_beside" = true) (k9:PySem.W.keepIn K (.ref f9)=true)
  {f10:Addr} {od10 an10:Option Addr} {sl10:Array (Option Value)} {oc10 kV10 dc10 pm10 cd10 ct10:Value}
  (a10:PySem.W.nsIn K mainGlobals "pair_breaks" = some (some (.ref f10))) (l10:K.lookup f10=some ⟨oc10,od10,.func (PySem.W.fnOf "pair_breaks" "pair_breaks" (qO s_pair_breaks) (qN s_pair_breaks) (qE s_pair_breaks) .none kV10 dc10 pm10 an10 cd10 ct10),sl10⟩) (c10:PySem.W.codeIn K cd10 "pair_breaks" = true) (k10:PySem.W.keepIn K (.ref f10)=true)
  {f11:Addr} {od11 an11:Option Addr} {sl11:Array (Option Value)} {oc11 kV11 dc11 pm11 cd11 ct11:Value}
  (a11:PySem.W.nsIn K mainGlobals "three_break" = some (some (.ref f11))) (l11:K.lookup f11=some ⟨oc11,od11,.func (PySem.W.fnOf "three_break" "three_break" (qO s_three_break) (qN s_three_break) (qE s_three_break) .none kV11 dc11 pm11 an11 cd11 ct11),sl11⟩) (c11:PySem.W.codeIn K cd11 "three_break" = true) (k11:PySem.W.keepIn K (.ref f11)=true)
  {f12:Addr} {od12 an12:Option Addr} {sl12:Array (Option Value)} {oc12 kV12 dc12 pm12 cd12 ct12:Value}
  (a12:PySem.W.nsIn K mainGlobals "parted" = some (some (.ref f12))) (l12:K.lookup f12=some ⟨oc12,od12,.func (PySem.W.fnOf "parted" "parted" (qO s_parted) (qN s_parted) (qE s_parted) .none kV12 dc12 pm12 an12 cd12 ct12),sl12⟩) (c12:PySem.W.codeIn K cd12 "parted" = true) (k12:PySem.W.keepIn K (.ref f12)=true)
  {f13:Addr} {od13 an13:Option Addr} {sl13:Array (Option Value)} {oc13 kV13 dc13 pm13 cd13 ct13:Value}
  (a13:PySem.W.nsIn K mainGlobals "first_strange" = some (some (.ref f13))) (l13:K.lookup f13=some ⟨oc13,od13,.func (PySem.W.fnOf "first_strange" "first_strange" (qO s_first_strange) (qN s_first_strange) (qE s_first_strange) .none kV13 dc13 pm13 an13 cd13 ct13),sl13⟩) (c13:PySem.W.codeIn K cd13 "first_strange" = true) (k13:PySem.W.keepIn K (.ref f13)=true)
  {f14:Addr} {od14 an14:Option Addr} {sl14:Array (Option Value)} {oc14 kV14 dc14 pm14 cd14 ct14:Value}
  (a14:PySem.W.nsIn K mainGlobals "refuse_strange" = some (some (.ref f14))) (l14:K.lookup f14=some ⟨oc14,od14,.func (PySem.W.fnOf "refuse_strange" "refuse_strange" (qO s_refuse_strange) (qN s_refuse_strange) (qE s_refuse_strange) .none kV14 dc14 pm14 an14 cd14 ct14),sl14⟩) (c14:PySem.W.codeIn K cd14 "refuse_strange" = true) (k14:PySem.W.keepIn K (.ref f14)=true)
  {f15:Addr} {od15 an15:Option Addr} {sl15:Array (Option Value)} {oc15 kV15 dc15 pm15 cd15 ct15:Value}
  (a15:PySem.W.nsIn K mainGlobals "stepped" = some (some (.ref f15))) (l15:K.lookup f15=some ⟨oc15,od15,.func (PySem.W.fnOf "stepped" "stepped" (qO s_stepped) (qN s_stepped) (qE s_stepped) .none kV15 dc15 pm15 an15 cd15 ct15),sl15⟩) (c15:PySem.W.codeIn K cd15 "stepped" = true) (k15:PySem.W.keepIn K (.ref f15)=true)
  {f16:Addr} {od16 an16:Option Addr} {sl16:Array (Option Value)} {oc16 kV16 dc16 pm16 cd16 ct16:Value}
  (a16:PySem.W.nsIn K mainGlobals "step_of" = some (some (.ref f16))) (l16:K.lookup f16=some ⟨oc16,od16,.func (PySem.W.fnOf "step_of" "step_of" (qO s_step_of) (qN s_step_of) (qE s_step_of) .none kV16 dc16 pm16 an16 cd16 ct16),sl16⟩) (c16:PySem.W.codeIn K cd16 "step_of" = true) (k16:PySem.W.keepIn K (.ref f16)=true)
  {f17:Addr} {od17 an17:Option Addr} {sl17:Array (Option Value)} {oc17 kV17 dc17 pm17 cd17 ct17:Value}
  (a17:PySem.W.nsIn K mainGlobals "heaps_that_may" = some (some (.ref f17))) (l17:K.lookup f17=some ⟨oc17,od17,.func (PySem.W.fnOf "heaps_that_may" "heaps_that_may" (qO s_heaps_that_may) (qN s_heaps_that_may) (qE s_heaps_that_may) .none kV17 dc17 pm17 an17 cd17 ct17),sl17⟩) (c17:PySem.W.codeIn K cd17 "heaps_that_may" = true) (k17:PySem.W.keepIn K (.ref f17)=true)
  {f18:Addr} {od18 an18:Option Addr} {sl18:Array (Option Value)} {oc18 kV18 dc18 pm18 cd18 ct18:Value}
  (a18:PySem.W.nsIn K mainGlobals "other_way" = some (some (.ref f18))) (l18:K.lookup f18=some ⟨oc18,od18,.func (PySem.W.fnOf "other_way" "other_way" (qO s_other_way) (qN s_other_way) (qE s_other_way) .none kV18 dc18 pm18 an18 cd18 ct18),sl18⟩) (c18:PySem.W.codeIn K cd18 "other_way" = true) (k18:PySem.W.keepIn K (.ref f18)=true)
  {f19:Addr} {od19 an19:Option Addr} {sl19:Array (Option Value)} {oc19 kV19 dc19 pm19 cd19 ct19:Value}
  (a19:PySem.W.nsIn K mainGlobals "other_sides" = some (some (.ref f19))) (l19:K.lookup f19=some ⟨oc19,od19,.func (PySem.W.fnOf "other_sides" "other_sides" (qO s_other_sides) (qN s_other_sides) (qE s_other_sides) .none kV19 dc19 pm19 an19 cd19 ct19),sl19⟩) (c19:PySem.W.codeIn K cd19 "other_sides" = true) (k19:PySem.W.keepIn K (.ref f19)=true)
  {f20:Addr} {od20 an20:Option Addr} {sl20:Array (Option Value)} {oc20 kV20 dc20 pm20 cd20 ct20:Value}
  (a20:PySem.W.nsIn K mainGlobals "is_whole" = some (some (.ref f20))) (l20:K.lookup f20=some ⟨oc20,od20,.func (PySem.W.fnOf "is_whole" "is_whole" (qO s_is_whole) (qN s_is_whole) (qE s_is_whole) .none kV20 dc20 pm20 an20 cd20 ct20),sl20⟩) (c20:PySem.W.codeIn K cd20 "is_whole" = true) (k20:PySem.W.keepIn K (.ref f20)=true)
  {f21:Addr} {od21 an21:Option Addr} {sl21:Array (Option Value)} {oc21 kV21 dc21 pm21 cd21 ct21:Value}
  (a21:PySem.W.nsIn K mainGlobals "are_wholes" = some (some (.ref f21))) (l21:K.lookup f21=some ⟨oc21,od21,.func (PySem.W.fnOf "are_wholes" "are_wholes" (qO s_are_wholes) (qN s_are_wholes) (qE s_are_wholes) .none kV21 dc21 pm21 an21 cd21 ct21),sl21⟩) (c21:PySem.W.codeIn K cd21 "are_wholes" = true) (k21:PySem.W.keepIn K (.ref f21)=true)
  {f22:Addr} {od22 an22:Option Addr} {sl22:Array (Option Value)} {oc22 kV22 dc22 pm22 cd22 ct22:Value}
  (a22:PySem.W.nsIn K mainGlobals "costs" = some (some (.ref f22))) (l22:K.lookup f22=some ⟨oc22,od22,.func (PySem.W.fnOf "costs" "costs" (qO s_costs) (qN s_costs) (qE s_costs) .none kV22 dc22 pm22 an22 cd22 ct22),sl22⟩) (c22:PySem.W.codeIn K cd22 "costs" = true) (k22:PySem.W.keepIn K (.ref f22)=true)
  {f23:Addr} {od23 an23:Option Addr} {sl23:Array (Option Value)} {oc23 kV23 dc23 pm23 cd23 ct23:Value}
  (a23:PySem.W.nsIn K mainGlobals "gains" = some (some (.ref f23))) (l23:K.lookup f23=some ⟨oc23,od23,.func (PySem.W.fnOf "gains" "gains" (qO s_gains) (qN s_gains) (qE s_gains) .none kV23 dc23 pm23 an23 cd23 ct23),sl23⟩) (c23:PySem.W.codeIn K cd23 "gains" = true) (k23:PySem.W.keepIn K (.ref f23)=true)
  {f24:Addr} {od24 an24:Option Addr} {sl24:Array (Option Value)} {oc24 kV24 dc24 pm24 cd24 ct24:Value}
  (a24:PySem.W.nsIn K mainGlobals "greatest_gain" = some (some (.ref f24))) (l24:K.lookup f24=some ⟨oc24,od24,.func (PySem.W.fnOf "greatest_gain" "greatest_gain" (qO s_greatest_gain) (qN s_greatest_gain) (qE s_greatest_gain) .none kV24 dc24 pm24 an24 cd24 ct24),sl24⟩) (c24:PySem.W.codeIn K cd24 "greatest_gain" = true) (k24:PySem.W.keepIn K (.ref f24)=true)
  {f25:Addr} {od25 an25:Option Addr} {sl25:Array (Option Value)} {oc25 kV25 dc25 pm25 cd25 ct25:Value}
  (a25:PySem.W.nsIn K mainGlobals "best_heaps" = some (some (.ref f25))) (l25:K.lookup f25=some ⟨oc25,od25,.func (PySem.W.fnOf "best_heaps" "best_heaps" (qO s_best_heaps) (qN s_best_heaps) (qE s_best_heaps) .none kV25 dc25 pm25 an25 cd25 ct25),sl25⟩) (c25:PySem.W.codeIn K cd25 "best_heaps" = true) (k25:PySem.W.keepIn K (.ref f25)=true)
  {f26:Addr} {od26 an26:Option Addr} {sl26:Array (Option Value)} {oc26 kV26 dc26 pm26 cd26 ct26:Value}
  (a26:PySem.W.nsIn K mainGlobals "in_parts" = some (some (.ref f26))) (l26:K.lookup f26=some ⟨oc26,od26,.func (PySem.W.fnOf "in_parts" "in_parts" (qO s_in_parts) (qN s_in_parts) (qE s_in_parts) .none kV26 dc26 pm26 an26 cd26 ct26),sl26⟩) (c26:PySem.W.codeIn K cd26 "in_parts" = true) (k26:PySem.W.keepIn K (.ref f26)=true)
  {f27:Addr} {od27 an27:Option Addr} {sl27:Array (Option Value)} {oc27 kV27 dc27 pm27 cd27 ct27:Value}
  (a27:PySem.W.nsIn K mainGlobals "surplus" = some (some (.ref f27))) (l27:K.lookup f27=some ⟨oc27,od27,.func (PySem.W.fnOf "surplus" "surplus" (qO s_surplus) (qN s_surplus) (qE s_surplus) .none kV27 dc27 pm27 an27 cd27 ct27),sl27⟩) (c27:PySem.W.codeIn K cd27 "surplus" = true) (k27:PySem.W.keepIn K (.ref f27)=true)
  {f28:Addr} {od28 an28:Option Addr} {sl28:Array (Option Value)} {oc28 kV28 dc28 pm28 cd28 ct28:Value}
  (a28:PySem.W.nsIn K mainGlobals "rising" = some (some (.ref f28))) (l28:K.lookup f28=some ⟨oc28,od28,.func (PySem.W.fnOf "rising" "rising" (qO s_rising) (qN s_rising) (qE s_rising) .none kV28 dc28 pm28 an28 cd28 ct28),sl28⟩) (c28:PySem.W.codeIn K cd28 "rising" = true) (k28:PySem.W.keepIn K (.ref f28)=true)
  {f29:Addr} {od29 an29:Option Addr} {sl29:Array (Option Value)} {oc29 kV29 dc29 pm29 cd29 ct29:Value}
  (a29:PySem.W.nsIn K mainGlobals "falling" = some (some (.ref f29))) (l29:K.lookup f29=some ⟨oc29,od29,.func (PySem.W.fnOf "falling" "falling" (qO s_falling) (qN s_falling) (qE s_falling) .none kV29 dc29 pm29 an29 cd29 ct29),sl29⟩) (c29:PySem.W.codeIn K cd29 "falling" = true) (k29:PySem.W.keepIn K (.ref f29)=true)
  {f30:Addr} {od30 an30:Option Addr} {sl30:Array (Option Value)} {oc30 kV30 dc30 pm30 cd30 ct30:Value}
  (a30:PySem.W.nsIn K mainGlobals "steps_of" = some (some (.ref f30))) (l30:K.lookup f30=some ⟨oc30,od30,.func (PySem.W.fnOf "steps_of" "steps_of" (qO s_steps_of) (qN s_steps_of) (qE s_steps_of) .none kV30 dc30 pm30 an30 cd30 ct30),sl30⟩) (c30:PySem.W.codeIn K cd30 "steps_of" = true) (k30:PySem.W.keepIn K (.ref f30)=true)
  {f31:Addr} {od31 an31:Option Addr} {sl31:Array (Option Value)} {oc31 kV31 dc31 pm31 cd31 ct31:Value}
  (a31:PySem.W.nsIn K mainGlobals "first_prices" = some (some (.ref f31))) (l31:K.lookup f31=some ⟨oc31,od31,.func (PySem.W.fnOf "first_prices" "first_prices" (qO s_first_prices) (qN s_first_prices) (qE s_first_prices) .none kV31 dc31 pm31 an31 cd31 ct31),sl31⟩) (c31:PySem.W.codeIn K cd31 "first_prices" = true) (k31:PySem.W.keepIn K (.ref f31)=true)
  {f32:Addr} {od32 an32:Option Addr} {sl32:Array (Option Value)} {oc32 kV32 dc32 pm32 cd32 ct32:Value}
  (a32:PySem.W.nsIn K mainGlobals "steps_on" = some (some (.ref f32))) (l32:K.lookup f32=some ⟨oc32,od32,.func (PySem.W.fnOf "steps_on" "steps_on" (qO s_steps_on) (qN s_steps_on) (qE s_steps_on) .none kV32 dc32 pm32 an32 cd32 ct32),sl32⟩) (c32:PySem.W.codeIn K cd32 "steps_on" = true) (k32:PySem.W.keepIn K (.ref f32)=true)
  {f33:Addr} {od33 an33:Option Addr} {sl33:Array (Option Value)} {oc33 kV33 dc33 pm33 cd33 ct33:Value}
  (a33:PySem.W.nsIn K mainGlobals "ground_of" = some (some (.ref f33))) (l33:K.lookup f33=some ⟨oc33,od33,.func (PySem.W.fnOf "ground_of" "ground_of" (qO s_ground_of) (qN s_ground_of) (qE s_ground_of) .none kV33 dc33 pm33 an33 cd33 ct33),sl33⟩) (c33:PySem.W.codeIn K cd33 "ground_of" = true) (k33:PySem.W.keepIn K (.ref f33)=true)
  {f34:Addr} {od34 an34:Option Addr} {sl34:Array (Option Value)} {oc34 kV34 dc34 pm34 cd34 ct34:Value}
  (a34:PySem.W.nsIn K mainGlobals "next_step" = some (some (.ref f34))) (l34:K.lookup f34=some ⟨oc34,od34,.func (PySem.W.fnOf "next_step" "next_step" (qO s_next_step) (qN s_next_step) (qE s_next_step) .none kV34 dc34 pm34 an34 cd34 ct34),sl34⟩) (c34:PySem.W.codeIn K cd34 "next_step" = true) (k34:PySem.W.keepIn K (.ref f34)=true)
  {f35:Addr} {od35 an35:Option Addr} {sl35:Array (Option Value)} {oc35 kV35 dc35 pm35 cd35 ct35:Value}
  (a35:PySem.W.nsIn K mainGlobals "shows_rising" = some (some (.ref f35))) (l35:K.lookup f35=some ⟨oc35,od35,.func (PySem.W.fnOf "shows_rising" "shows_rising" (qO s_shows_rising) (qN s_shows_rising) (qE s_shows_rising) .none kV35 dc35 pm35 an35 cd35 ct35),sl35⟩) (c35:PySem.W.codeIn K cd35 "shows_rising" = true) (k35:PySem.W.keepIn K (.ref f35)=true)
  {f36:Addr} {od36 an36:Option Addr} {sl36:Array (Option Value)} {oc36 kV36 dc36 pm36 cd36 ct36:Value}
  (a36:PySem.W.nsIn K mainGlobals "shows_falling" = some (some (.ref f36))) (l36:K.lookup f36=some ⟨oc36,od36,.func (PySem.W.fnOf "shows_falling" "shows_falling" (qO s_shows_falling) (qN s_shows_falling) (qE s_shows_falling) .none kV36 dc36 pm36 an36 cd36 ct36),sl36⟩) (c36:PySem.W.codeIn K cd36 "shows_falling" = true) (k36:PySem.W.keepIn K (.ref f36)=true)
  {f37:Addr} {od37 an37:Option Addr} {sl37:Array (Option Value)} {oc37 kV37 dc37 pm37 cd37 ct37:Value}
  (a37:PySem.W.nsIn K mainGlobals "is_way" = some (some (.ref f37))) (l37:K.lookup f37=some ⟨oc37,od37,.func (PySem.W.fnOf "is_way" "is_way" (qO s_is_way) (qN s_is_way) (qE s_is_way) .none kV37 dc37 pm37 an37 cd37 ct37),sl37⟩) (c37:PySem.W.codeIn K cd37 "is_way" = true) (k37:PySem.W.keepIn K (.ref f37)=true)
  {f38:Addr} {od38 an38:Option Addr} {sl38:Array (Option Value)} {oc38 kV38 dc38 pm38 cd38 ct38:Value}
  (a38:PySem.W.nsIn K mainGlobals "is_way_below" = some (some (.ref f38))) (l38:K.lookup f38=some ⟨oc38,od38,.func (PySem.W.fnOf "is_way_below" "is_way_below" (qO s_is_way_below) (qN s_is_way_below) (qE s_is_way_below) .none kV38 dc38 pm38 an38 cd38 ct38),sl38⟩) (c38:PySem.W.codeIn K cd38 "is_way_below" = true) (k38:PySem.W.keepIn K (.ref f38)=true)
  {f39:Addr} {od39 an39:Option Addr} {sl39:Array (Option Value)} {oc39 kV39 dc39 pm39 cd39 ct39:Value}
  (a39:PySem.W.nsIn K mainGlobals "led_by" = some (some (.ref f39))) (l39:K.lookup f39=some ⟨oc39,od39,.func (PySem.W.fnOf "led_by" "led_by" (qO s_led_by) (qN s_led_by) (qE s_led_by) .none kV39 dc39 pm39 an39 cd39 ct39),sl39⟩) (c39:PySem.W.codeIn K cd39 "led_by" = true) (k39:PySem.W.keepIn K (.ref f39)=true)
  {f40:Addr} {od40 an40:Option Addr} {sl40:Array (Option Value)} {oc40 kV40 dc40 pm40 cd40 ct40:Value}
  (a40:PySem.W.nsIn K mainGlobals "_law_stirred" = some (some (.ref f40))) (l40:K.lookup f40=some ⟨oc40,od40,.func (PySem.W.fnOf "_law_stirred" "_law_stirred" (qO s__law_stirred) (qN s__law_stirred) (qE s__law_stirred) .none kV40 dc40 pm40 an40 cd40 ct40),sl40⟩) (c40:PySem.W.codeIn K cd40 "_law_stirred" = true) (k40:PySem.W.keepIn K (.ref f40)=true)
  {f41:Addr} {od41 an41:Option Addr} {sl41:Array (Option Value)} {oc41 kV41 dc41 pm41 cd41 ct41:Value}
  (a41:PySem.W.nsIn K mainGlobals "_law_pot" = some (some (.ref f41))) (l41:K.lookup f41=some ⟨oc41,od41,.func (PySem.W.fnOf "_law_pot" "_law_pot" (qO s__law_pot) (qN s__law_pot) (qE s__law_pot) .none kV41 dc41 pm41 an41 cd41 ct41),sl41⟩) (c41:PySem.W.codeIn K cd41 "_law_pot" = true) (k41:PySem.W.keepIn K (.ref f41)=true)
  {f42:Addr} {od42 an42:Option Addr} {sl42:Array (Option Value)} {oc42 kV42 dc42 pm42 cd42 ct42:Value}
  (a42:PySem.W.nsIn K mainGlobals "_law_draw" = some (some (.ref f42))) (l42:K.lookup f42=some ⟨oc42,od42,.func (PySem.W.fnOf "_law_draw" "_law_draw" (qO s__law_draw) (qN s__law_draw) (qE s__law_draw) .none kV42 dc42 pm42 an42 cd42 ct42),sl42⟩) (c42:PySem.W.codeIn K cd42 "_law_draw" = true) (k42:PySem.W.keepIn K (.ref f42)=true)
  {f43:Addr} {od43 an43:Option Addr} {sl43:Array (Option Value)} {oc43 kV43 dc43 pm43 cd43 ct43:Value}
  (a43:PySem.W.nsIn K mainGlobals "_law_costs" = some (some (.ref f43))) (l43:K.lookup f43=some ⟨oc43,od43,.func (PySem.W.fnOf "_law_costs" "_law_costs" (qO s__law_costs) (qN s__law_costs) (qE s__law_costs) .none kV43 dc43 pm43 an43 cd43 ct43),sl43⟩) (c43:PySem.W.codeIn K cd43 "_law_costs" = true) (k43:PySem.W.keepIn K (.ref f43)=true)
  {f44:Addr} {od44 an44:Option Addr} {sl44:Array (Option Value)} {oc44 kV44 dc44 pm44 cd44 ct44:Value}
  (a44:PySem.W.nsIn K mainGlobals "_law_bits" = some (some (.ref f44))) (l44:K.lookup f44=some ⟨oc44,od44,.func (PySem.W.fnOf "_law_bits" "_law_bits" (qO s__law_bits) (qN s__law_bits) (qE s__law_bits) .none kV44 dc44 pm44 an44 cd44 ct44),sl44⟩) (c44:PySem.W.codeIn K cd44 "_law_bits" = true) (k44:PySem.W.keepIn K (.ref f44)=true)
  {f45:Addr} {od45 an45:Option Addr} {sl45:Array (Option Value)} {oc45 kV45 dc45 pm45 cd45 ct45:Value}
  (a45:PySem.W.nsIn K mainGlobals "_law_sides" = some (some (.ref f45))) (l45:K.lookup f45=some ⟨oc45,od45,.func (PySem.W.fnOf "_law_sides" "_law_sides" (qO s__law_sides) (qN s__law_sides) (qE s__law_sides) .none kV45 dc45 pm45 an45 cd45 ct45),sl45⟩) (c45:PySem.W.codeIn K cd45 "_law_sides" = true) (k45:PySem.W.keepIn K (.ref f45)=true)
  {f46:Addr} {od46 an46:Option Addr} {sl46:Array (Option Value)} {oc46 kV46 dc46 pm46 cd46 ct46:Value}
  (a46:PySem.W.nsIn K mainGlobals "_law_some" = some (some (.ref f46))) (l46:K.lookup f46=some ⟨oc46,od46,.func (PySem.W.fnOf "_law_some" "_law_some" (qO s__law_some) (qN s__law_some) (qE s__law_some) .none kV46 dc46 pm46 an46 cd46 ct46),sl46⟩) (c46:PySem.W.codeIn K cd46 "_law_some" = true) (k46:PySem.W.keepIn K (.ref f46)=true)
  {f47:Addr} {od47 an47:Option Addr} {sl47:Array (Option Value)} {oc47 kV47 dc47 pm47 cd47 ct47:Value}
  (a47:PySem.W.nsIn K mainGlobals "_law_paired" = some (some (.ref f47))) (l47:K.lookup f47=some ⟨oc47,od47,.func (PySem.W.fnOf "_law_paired" "_law_paired" (qO s__law_paired) (qN s__law_paired) (qE s__law_paired) .none kV47 dc47 pm47 an47 cd47 ct47),sl47⟩) (c47:PySem.W.codeIn K cd47 "_law_paired" = true) (k47:PySem.W.keepIn K (.ref f47)=true)
  {f48:Addr} {od48 an48:Option Addr} {sl48:Array (Option Value)} {oc48 kV48 dc48 pm48 cd48 ct48:Value}
  (a48:PySem.W.nsIn K mainGlobals "_law_joined" = some (some (.ref f48))) (l48:K.lookup f48=some ⟨oc48,od48,.func (PySem.W.fnOf "_law_joined" "_law_joined" (qO s__law_joined) (qN s__law_joined) (qE s__law_joined) .none kV48 dc48 pm48 an48 cd48 ct48),sl48⟩) (c48:PySem.W.codeIn K cd48 "_law_joined" = true) (k48:PySem.W.keepIn K (.ref f48)=true)
  {f49:Addr} {od49 an49:Option Addr} {sl49:Array (Option Value)} {oc49 kV49 dc49 pm49 cd49 ct49:Value}
  (a49:PySem.W.nsIn K mainGlobals "_law_kind_want" = some (some (.ref f49))) (l49:K.lookup f49=some ⟨oc49,od49,.func (PySem.W.fnOf "_law_kind_want" "_law_kind_want" (qO s__law_kind_want) (qN s__law_kind_want) (qE s__law_kind_want) .none kV49 dc49 pm49 an49 cd49 ct49),sl49⟩) (c49:PySem.W.codeIn K cd49 "_law_kind_want" = true) (k49:PySem.W.keepIn K (.ref f49)=true)
  {f50:Addr} {od50 an50:Option Addr} {sl50:Array (Option Value)} {oc50 kV50 dc50 pm50 cd50 ct50:Value}
  (a50:PySem.W.nsIn K mainGlobals "_law_kind_town" = some (some (.ref f50))) (l50:K.lookup f50=some ⟨oc50,od50,.func (PySem.W.fnOf "_law_kind_town" "_law_kind_town" (qO s__law_kind_town) (qN s__law_kind_town) (qE s__law_kind_town) .none kV50 dc50 pm50 an50 cd50 ct50),sl50⟩) (c50:PySem.W.codeIn K cd50 "_law_kind_town" = true) (k50:PySem.W.keepIn K (.ref f50)=true)
  {f51:Addr} {od51 an51:Option Addr} {sl51:Array (Option Value)} {oc51 kV51 dc51 pm51 cd51 ct51:Value}
  (a51:PySem.W.nsIn K mainGlobals "_law_things" = some (some (.ref f51))) (l51:K.lookup f51=some ⟨oc51,od51,.func (PySem.W.fnOf "_law_things" "_law_things" (qO s__law_things) (qN s__law_things) (qE s__law_things) .none kV51 dc51 pm51 an51 cd51 ct51),sl51⟩) (c51:PySem.W.codeIn K cd51 "_law_things" = true) (k51:PySem.W.keepIn K (.ref f51)=true)
  {f52:Addr} {od52 an52:Option Addr} {sl52:Array (Option Value)} {oc52 kV52 dc52 pm52 cd52 ct52:Value}
  (a52:PySem.W.nsIn K mainGlobals "law" = some (some (.ref f52))) (l52:K.lookup f52=some ⟨oc52,od52,.func (PySem.W.fnOf "law" "law" (qO s_law) (qN s_law) (qE s_law) .none kV52 dc52 pm52 an52 cd52 ct52),sl52⟩) (c52:PySem.W.codeIn K cd52 "law" = true) (k52:PySem.W.keepIn K (.ref f52)=true)
  (z_len:PySem.W.nsIn K mainGlobals "len" = some none)
  (z_sum:PySem.W.nsIn K mainGlobals "sum" = some none)
  (z_isinstance:PySem.W.nsIn K mainGlobals "isinstance" = some none)
  (z_abs:PySem.W.nsIn K mainGlobals "abs" = some none)
  (z_max:PySem.W.nsIn K mainGlobals "max" = some none)
  (z_range:PySem.W.nsIn K mainGlobals "range" = some none)
  (z_tuple:PySem.W.nsIn K mainGlobals "tuple" = some none)
  (z_list:PySem.W.nsIn K mainGlobals "list" = some none)
  (z_sorted:PySem.W.nsIn K mainGlobals "sorted" = some none)
  (z_int:PySem.W.nsIn K mainGlobals "int" = some none)
  (z_bool:PySem.W.nsIn K mainGlobals "bool" = some none)
  (z_zip:PySem.W.nsIn K mainGlobals "zip" = some none)
  (z_min:PySem.W.nsIn K mainGlobals "min" = some none)
  (z_all:PySem.W.nsIn K mainGlobals "all" = some none)
  (z_enumerate:PySem.W.nsIn K mainGlobals "enumerate" = some none)
  : ∃ fd:FuncData,(∀ (s:Shared) (v:Value),BindsTo s fd ⟨[v],[]⟩ [("_law_script",v)])∧∀ base:Heap,K.In base→base.Ns mainGlobals mg→FnOk l.prog w K mg base CX0 10 fa fd ["_law_script"] (mR K):=by
 have e:=hfa.symm.trans (Ai X G a52)
 cases e
 have T:Txt mg:=⟨AD X G z_len,AD X G z_sum,AD X G z_isinstance,AD X G z_abs,AD X G z_max,AD X G z_range,AD X G z_tuple,AD X G z_list,AD X G z_sorted,AD X G z_int,AD X G z_bool,AD X G z_zip,AD X G z_min,AD X G z_all,AD X G z_enumerate⟩
 have F_has:=qW (st:=s_has) l0 c0 k0
 have m_has:=Ai X G a0
 have b_has:=F_has.binds (ps:=["heap", "thing"]) fun _ _ _ _ _ _=>L2.us2 (fun _ _=>rfl)
 have F_put_in:=qW (st:=s_put_in) l1 c1 k1
 have m_put_in:=Ai X G a1
 have b_put_in:=F_put_in.binds (ps:=["heap", "thing"]) fun _ _ _ _ _ _=>L2.us2 (fun _ _=>rfl)
 have F_heap_of:=qW (st:=s_heap_of) l2 c2 k2
 have m_heap_of:=Ai X G a2
 have b_heap_of:=F_heap_of.binds (ps:=["things"]) fun _ _ _ _ _ _=>L2.us1 (fun _=>rfl)
 have F_heap_of_side:=qW (st:=s_heap_of_side) l3 c3 k3
 have m_heap_of_side:=Ai X G a3
 have b_heap_of_side:=F_heap_of_side.binds (ps:=["sides", "side"]) fun _ _ _ _ _ _=>L2.us2 (fun _ _=>rfl)
 have F_turned:=qW (st:=s_turned) l4 c4 k4
 have m_turned:=Ai X G a4
 have b_turned:=F_turned.binds (ps:=["want", "sides"]) fun _ _ _ _ _ _=>L2.us2 (fun _ _=>rfl)
 have F_breaking:=qW (st:=s_breaking) l5 c5 k5
 have m_breaking:=Ai X G a5
 have b_breaking:=F_breaking.binds (ps:=["want", "sides"]) fun _ _ _ _ _ _=>L2.us2 (fun _ _=>rfl)
 have F_first_pair:=qW (st:=s_first_pair) l6 c6 k6
 have m_first_pair:=Ai X G a6
 have b_first_pair:=F_first_pair.binds (ps:=["worths", "many"]) fun _ _ _ _ _ _=>L2.us2 (fun _ _=>rfl)
 have F_first_three:=qW (st:=s_first_three) l7 c7 k7
 have m_first_three:=Ai X G a7
 have b_first_three:=F_first_three.binds (ps:=["worths", "many"]) fun _ _ _ _ _ _=>L2.us2 (fun _ _=>rfl)
 have F_things_beside:=qW (st:=s_things_beside) l8 c8 k8
 have m_things_beside:=Ai X G a8
 have b_things_beside:=F_things_beside.binds (ps:=["heap", "many"]) fun _ _ _ _ _ _=>L2.us2 (fun _ _=>rfl)
 have F_pairs_beside:=qW (st:=s_pairs_beside) l9 c9 k9
 have m_pairs_beside:=Ai X G a9
 have b_pairs_beside:=F_pairs_beside.binds (ps:=["heap", "many"]) fun _ _ _ _ _ _=>L2.us2 (fun _ _=>rfl)
 have F_pair_breaks:=qW (st:=s_pair_breaks) l10 c10 k10
 have m_pair_breaks:=Ai X G a10
 have b_pair_breaks:=F_pair_breaks.binds (ps:=["worths", "heap", "i", "j"]) fun _ _ _ _ _ _=>L2.us4 (fun _ _ _ _=>rfl)
 have F_three_break:=qW (st:=s_three_break) l11 c11 k11
 have m_three_break:=Ai X G a11
 have b_three_break:=F_three_break.binds (ps:=["worths", "heap", "i", "j", "k"]) fun _ _ _ _ _ _=>L2.us5 (fun _ _ _ _ _=>rfl)
 have F_parted:=qW (st:=s_parted) l12 c12 k12
 have m_parted:=Ai X G a12
 have b_parted:=F_parted.binds (ps:=["worths", "heap", "one", "other", "third"]) fun _ _ _ _ _ _=>L2.us5 (fun _ _ _ _ _=>rfl)
 have F_first_strange:=qW (st:=s_first_strange) l13 c13 k13
 have m_first_strange:=Ai X G a13
 have b_first_strange:=F_first_strange.binds (ps:=["town"]) fun _ _ _ _ _ _=>L2.us1 (fun _=>rfl)
 have F_refuse_strange:=qW (st:=s_refuse_strange) l14 c14 k14
 have m_refuse_strange:=Ai X G a14
 have b_refuse_strange:=F_refuse_strange.binds (ps:=["town"]) fun _ _ _ _ _ _=>L2.us1 (fun _=>rfl)
 have F_stepped:=qW (st:=s_stepped) l15 c15 k15
 have m_stepped:=Ai X G a15
 have b_stepped:=F_stepped.binds (ps:=["sides", "prices", "heap"]) fun _ _ _ _ _ _=>L2.us3 (fun _ _ _=>rfl)
 have F_step_of:=qW (st:=s_step_of) l16 c16 k16
 have m_step_of:=Ai X G a16
 have b_step_of:=F_step_of.binds (ps:=["side"]) fun _ _ _ _ _ _=>L2.us1 (fun _=>rfl)
 have F_heaps_that_may:=qW (st:=s_heaps_that_may) l17 c17 k17
 have m_heaps_that_may:=Ai X G a17
 have b_heaps_that_may:=F_heaps_that_may.binds (ps:=["sides", "prices"]) fun _ _ _ _ _ _=>L2.us2 (fun _ _=>rfl)
 have F_other_way:=qW (st:=s_other_way) l18 c18 k18
 have m_other_way:=Ai X G a18
 have b_other_way:=F_other_way.binds (ps:=["town"]) fun _ _ _ _ _ _=>L2.us1 (fun _=>rfl)
 have F_other_sides:=qW (st:=s_other_sides) l19 c19 k19
 have m_other_sides:=Ai X G a19
 have b_other_sides:=F_other_sides.binds (ps:=["sides"]) fun _ _ _ _ _ _=>L2.us1 (fun _=>rfl)
 have F_is_whole:=qW (st:=s_is_whole) l20 c20 k20
 have m_is_whole:=Ai X G a20
 have b_is_whole:=F_is_whole.binds (ps:=["thing"]) fun _ _ _ _ _ _=>L2.us1 (fun _=>rfl)
 have F_are_wholes:=qW (st:=s_are_wholes) l21 c21 k21
 have m_are_wholes:=Ai X G a21
 have b_are_wholes:=F_are_wholes.binds (ps:=["thing", "many"]) fun _ _ _ _ _ _=>L2.us2 (fun _ _=>rfl)
 have F_costs:=qW (st:=s_costs) l22 c22 k22
 have m_costs:=Ai X G a22
 have b_costs:=F_costs.binds (ps:=["prices"]) fun _ _ _ _ _ _=>L2.us1 (fun _=>rfl)
 have F_gains:=qW (st:=s_gains) l23 c23 k23
 have m_gains:=Ai X G a23
 have b_gains:=F_gains.binds (ps:=["want", "prices"]) fun _ _ _ _ _ _=>L2.us2 (fun _ _=>rfl)
 have F_greatest_gain:=qW (st:=s_greatest_gain) l24 c24 k24
 have m_greatest_gain:=Ai X G a24
 have b_greatest_gain:=F_greatest_gain.binds (ps:=["want", "prices"]) fun _ _ _ _ _ _=>L2.us2 (fun _ _=>rfl)
 have F_best_heaps:=qW (st:=s_best_heaps) l25 c25 k25
 have m_best_heaps:=Ai X G a25
 have b_best_heaps:=F_best_heaps.binds (ps:=["want", "prices"]) fun _ _ _ _ _ _=>L2.us2 (fun _ _=>rfl)
 have F_in_parts:=qW (st:=s_in_parts) l26 c26 k26
 have m_in_parts:=Ai X G a26
 have b_in_parts:=F_in_parts.binds (ps:=["want", "by"]) fun _ _ _ _ _ _=>L2.us2 (fun _ _=>rfl)
 have F_surplus:=qW (st:=s_surplus) l27 c27 k27
 have m_surplus:=Ai X G a27
 have b_surplus:=F_surplus.binds (ps:=["town", "by", "numbers"]) fun _ _ _ _ _ _=>L2.us3 (fun _ _ _=>rfl)
 have F_rising:=qW (st:=s_rising) l28 c28 k28
 have m_rising:=Ai X G a28
 have b_rising:=F_rising.binds (ps:=["town"]) fun _ _ _ _ _ _=>L2.us1 (fun _=>rfl)
 have F_falling:=qW (st:=s_falling) l29 c29 k29
 have m_falling:=Ai X G a29
 have b_falling:=F_falling.binds (ps:=["town"]) fun _ _ _ _ _ _=>L2.us1 (fun _=>rfl)
 have F_steps_of:=qW (st:=s_steps_of) l30 c30 k30
 have m_steps_of:=Ai X G a30
 have b_steps_of:=F_steps_of.binds (ps:=["town"]) fun _ _ _ _ _ _=>L2.us1 (fun _=>rfl)
 have F_first_prices:=qW (st:=s_first_prices) l31 c31 k31
 have m_first_prices:=Ai X G a31
 have b_first_prices:=F_first_prices.binds (ps:=["town"]) fun _ _ _ _ _ _=>L2.us1 (fun _=>rfl)
 have F_steps_on:=qW (st:=s_steps_on) l32 c32 k32
 have m_steps_on:=Ai X G a32
 have b_steps_on:=F_steps_on.binds (ps:=["town", "prices"]) fun _ _ _ _ _ _=>L2.us2 (fun _ _=>rfl)
 have F_ground_of:=qW (st:=s_ground_of) l33 c33 k33
 have m_ground_of:=Ai X G a33
 have b_ground_of:=F_ground_of.binds (ps:=["town", "prices"]) fun _ _ _ _ _ _=>L2.us2 (fun _ _=>rfl)
 have F_next_step:=qW (st:=s_next_step) l34 c34 k34
 have m_next_step:=Ai X G a34
 have b_next_step:=F_next_step.binds (ps:=["town", "prices"]) fun _ _ _ _ _ _=>L2.us2 (fun _ _=>rfl)
 have F_shows_rising:=qW (st:=s_shows_rising) l35 c35 k35
 have m_shows_rising:=Ai X G a35
 have b_shows_rising:=F_shows_rising.binds (ps:=["town", "thing"]) fun _ _ _ _ _ _=>L2.us2 (fun _ _=>rfl)
 have F_shows_falling:=qW (st:=s_shows_falling) l36 c36 k36
 have m_shows_falling:=Ai X G a36
 have b_shows_falling:=F_shows_falling.binds (ps:=["town", "thing"]) fun _ _ _ _ _ _=>L2.us2 (fun _ _=>rfl)
 have F_is_way:=qW (st:=s_is_way) l37 c37 k37
 have m_is_way:=Ai X G a37
 have b_is_way:=F_is_way.binds (ps:=["town", "thing"]) fun _ _ _ _ _ _=>L2.us2 (fun _ _=>rfl)
 have F_is_way_below:=qW (st:=s_is_way_below) l38 c38 k38
 have m_is_way_below:=Ai X G a38
 have b_is_way_below:=F_is_way_below.binds (ps:=["town", "thing"]) fun _ _ _ _ _ _=>L2.us2 (fun _ _=>rfl)
 have F_led_by:=qW (st:=s_led_by) l39 c39 k39
 have m_led_by:=Ai X G a39
 have b_led_by:=F_led_by.binds (ps:=["town", "row"]) fun _ _ _ _ _ _=>L2.us2 (fun _ _=>rfl)
 have F__law_stirred:=qW (st:=s__law_stirred) l40 c40 k40
 have m__law_stirred:=Ai X G a40
 have b__law_stirred:=F__law_stirred.binds (ps:=["_law_number", "_law_turn"]) fun _ _ _ _ _ _=>L2.us2 (fun _ _=>rfl)
 have F__law_pot:=qW (st:=s__law_pot) l41 c41 k41
 have m__law_pot:=Ai X G a41
 have b__law_pot:=F__law_pot.binds (ps:=["_law_script"]) fun _ _ _ _ _ _=>L2.us1 (fun _=>rfl)
 have F__law_draw:=qW (st:=s__law_draw) l42 c42 k42
 have m__law_draw:=Ai X G a42
 have b__law_draw:=F__law_draw.binds (ps:=["_law_pot_here", "_law_many"]) fun _ _ _ _ _ _=>L2.us2 (fun _ _=>rfl)
 have F__law_costs:=qW (st:=s__law_costs) l43 c43 k43
 have m__law_costs:=Ai X G a43
 have b__law_costs:=F__law_costs.binds (ps:=["_law_prices"]) fun _ _ _ _ _ _=>L2.us1 (fun _=>rfl)
 have F__law_bits:=qW (st:=s__law_bits) l44 c44 k44
 have m__law_bits:=Ai X G a44
 have b__law_bits:=F__law_bits.binds (ps:=["_law_many"]) fun _ _ _ _ _ _=>L2.us1 (fun _=>rfl)
 have F__law_sides:=qW (st:=s__law_sides) l45 c45 k45
 have m__law_sides:=Ai X G a45
 have b__law_sides:=F__law_sides.binds (ps:=["_law_pot_here", "_law_many"]) fun _ _ _ _ _ _=>L2.us2 (fun _ _=>rfl)
 have F__law_some:=qW (st:=s__law_some) l46 c46 k46
 have m__law_some:=Ai X G a46
 have b__law_some:=F__law_some.binds (ps:=["_law_worths", "_law_many"]) fun _ _ _ _ _ _=>L2.us2 (fun _ _=>rfl)
 have F__law_paired:=qW (st:=s__law_paired) l47 c47 k47
 have m__law_paired:=Ai X G a47
 have b__law_paired:=F__law_paired.binds (ps:=["_law_many", "_law_rows"]) fun _ _ _ _ _ _=>L2.us2 (fun _ _=>rfl)
 have F__law_joined:=qW (st:=s__law_joined) l48 c48 k48
 have m__law_joined:=Ai X G a48
 have b__law_joined:=F__law_joined.binds (ps:=["_law_one", "_law_other"]) fun _ _ _ _ _ _=>L2.us2 (fun _ _=>rfl)
 have F__law_kind_want:=qW (st:=s__law_kind_want) l49 c49 k49
 have m__law_kind_want:=Ai X G a49
 have b__law_kind_want:=F__law_kind_want.binds (ps:=["_law_pot_here", "_law_sides_here", "_law_most"]) fun _ _ _ _ _ _=>L2.us3 (fun _ _ _=>rfl)
 have F__law_kind_town:=qW (st:=s__law_kind_town) l50 c50 k50
 have m__law_kind_town:=Ai X G a50
 have b__law_kind_town:=F__law_kind_town.binds (ps:=["_law_pot_here", "_law_most"]) fun _ _ _ _ _ _=>L2.us2 (fun _ _=>rfl)
 have F__law_things:=qW (st:=s__law_things) l51 c51 k51
 have m__law_things:=Ai X G a51
 have b__law_things:=F__law_things.binds (ps:=["_law_pot_here", "_law_told"]) fun _ _ _ _ _ _=>L2.us2 (fun _ _=>rfl)
 have F_law:=qW (st:=s_law) l52 c52 k52
 have m_law:=Ai X G a52
 have b_law:=F_law.binds (ps:=["_law_script"]) fun _ _ _ _ _ _=>L2.us1 (fun _=>rfl)
 refine ⟨PySem.W.fnOf "law" "law" (qO s_law) (qN s_law) (qE s_law) .none kV52 dc52 pm52 an52 cd52 ct52,fun s v=>.of_eq rfl,fun base _ _=>?_⟩
 have c_stir:=ok_stir (P:=l.prog) (w:=w) (base:=base) F__law_stirred m__law_stirred b__law_stirred T
 have c_pot:=ok_pot (P:=l.prog) (w:=w) (base:=base) F__law_pot m__law_pot b__law_pot T
 have c_draw:=ok_draw (P:=l.prog) (w:=w) (base:=base) F__law_draw m__law_draw b__law_draw T c_stir
 have c_lcosts:=bP (P:=l.prog) (w:=w) (base:=base) F__law_costs m__law_costs b__law_costs T
 have c_costs:=oN (P:=l.prog) (w:=w) (base:=base) F_costs m_costs b_costs T
 have c_bits:=ok_bits (P:=l.prog) (w:=w) (base:=base) F__law_bits m__law_bits b__law_bits T
 have c_gains:=oM (P:=l.prog) (w:=w) (base:=base) F_gains m_gains b_gains T c_costs
 have fn_best:=ok_best (P:=l.prog) (w:=w) (base:=base) F_best_heaps T c_gains
 have c_best:=gL (P:=l.prog) (w:=w) (base:=base) F_best_heaps fn_best m_best_heaps b_best_heaps
 have fn_great:=oK (P:=l.prog) (w:=w) (base:=base) F_greatest_gain T c_gains
 have c_great:=gL (P:=l.prog) (w:=w) (base:=base) F_greatest_gain fn_great m_greatest_gain b_greatest_gain
 have c_together:=lQ (P:=l.prog) (w:=w) (base:=base) F__law_joined m__law_joined b__law_joined T
 have c_some:=ok_some (P:=l.prog) (w:=w) (base:=base) F__law_some m__law_some b__law_some T c_lcosts c_bits
 have c_paired:=aE (P:=l.prog) (w:=w) (base:=base) F__law_paired m__law_paired b__law_paired T c_lcosts c_bits
 have c_lsides:=oF (P:=l.prog) (w:=w) (base:=base) F__law_sides m__law_sides b__law_sides T c_draw
 have c_kwant:=oH (P:=l.prog) (w:=w) (base:=base) F__law_kind_want m__law_kind_want b__law_kind_want T c_draw c_lcosts c_paired c_some c_together
 have c_ktown:=oI (P:=l.prog) (w:=w) (base:=base) F__law_kind_town m__law_kind_town b__law_kind_town T c_draw c_lsides c_kwant
 have c_put:=S.ok_put (P:=l.prog) (w:=w) (base:=base) F_put_in m_put_in b_put_in T
 have c_has:=S.ok_has (P:=l.prog) (w:=w) (base:=base) F_has m_has b_has T
 have c_hasM:=S.ok_hasM (P:=l.prog) (w:=w) (base:=base) F_has m_has b_has T
 have c_tb:=S.ok_tb (P:=l.prog) (w:=w) (base:=base) F_things_beside m_things_beside b_things_beside T c_has
 have c_pb:=S.ok_pb (P:=l.prog) (w:=w) (base:=base) F_pairs_beside m_pairs_beside b_pairs_beside T c_tb
 have c_pbr:=S.ok_pbr (P:=l.prog) (w:=w) (base:=base) F_pair_breaks m_pair_breaks b_pair_breaks T c_put
 have c_heap:=S.ok_heap (P:=l.prog) (w:=w) (base:=base) F_heap_of m_heap_of b_heap_of T
 have c_side:=S.ok_side (P:=l.prog) (w:=w) (base:=base) F_heap_of_side m_heap_of_side b_heap_of_side T c_heap
 have c_turned:=S.ok_turned (P:=l.prog) (w:=w) (base:=base) F_turned m_turned b_turned T c_side
 have c_parted:=S.ok_parted3 (P:=l.prog) (w:=w) (base:=base) F_parted m_parted b_parted T c_put
 have c_tbr:=S.ok_tbr (P:=l.prog) (w:=w) (base:=base) F_three_break m_three_break b_three_break T c_parted
 have c_fp:=S.ok_fp (P:=l.prog) (w:=w) (base:=base) F_first_pair m_first_pair b_first_pair T c_pb c_pbr
 have c_ft:=S.ok_ft (P:=l.prog) (w:=w) (base:=base) F_first_three m_first_three b_first_three T c_pb c_tb c_tbr
 have c_breaking:=S.ok_breaking (P:=l.prog) (w:=w) (base:=base) F_breaking m_breaking b_breaking T c_turned c_fp c_ft
 have c_fs:=S.ok_fs (P:=l.prog) (w:=w) (base:=base) F_first_strange m_first_strange b_first_strange T c_breaking
 have c_parts:=S.ok_parts (P:=l.prog) (w:=w) (base:=base) F_in_parts m_in_parts b_in_parts T
 have fn_surplus:=S.ok_surplus (P:=l.prog) (w:=w) (base:=base) F_surplus T c_parts c_great
 have c_surplus:=gL (P:=l.prog) (w:=w) (base:=base) F_surplus fn_surplus m_surplus b_surplus
 have c_stepof:=S.ok_stepof (P:=l.prog) (w:=w) (base:=base) F_step_of m_step_of b_step_of T
 have c_step:=S.ok_step (P:=l.prog) (w:=w) (base:=base) F_stepped m_stepped b_stepped T c_hasM c_stepof
 have c_may:=S.ok_may (P:=l.prog) (w:=w) (base:=base) F_heaps_that_may m_heaps_that_may b_heaps_that_may T c_heap
 have c_next:=S.ok_next (P:=l.prog) (w:=w) (base:=base) F_next_step m_next_step b_next_step T c_surplus c_step c_may
 have c_ground:=S.ok_ground (P:=l.prog) (w:=w) (base:=base) F_ground_of m_ground_of b_ground_of T c_may c_best
 have c_first:=S.ok_first (P:=l.prog) (w:=w) (base:=base) F_first_prices m_first_prices b_first_prices T
 have c_on:=S.ok_on (P:=l.prog) (w:=w) (base:=base) F_steps_on m_steps_on b_steps_on T c_ground c_next c_step
 have c_steps:=S.ok_steps (P:=l.prog) (w:=w) (base:=base) F_steps_of m_steps_of b_steps_of T c_first c_on
 have c_whole:=oE (P:=l.prog) (w:=w) (base:=base) F_is_whole m_is_whole b_is_whole T
 have c_wholes:=aA (P:=l.prog) (w:=w) (base:=base) F_are_wholes m_are_wholes b_are_wholes T c_whole
 have c_led:=ok_led (P:=l.prog) (w:=w) (base:=base) F_led_by m_led_by b_led_by T c_first c_step
 have c_way:=ok_way (P:=l.prog) (w:=w) (base:=base) F_is_way m_is_way b_is_way T c_wholes
 have c_below:=oO (P:=l.prog) (w:=w) (base:=base) F_is_way_below m_is_way_below b_is_way_below T c_led c_steps
 have fn_shows:=oG (P:=l.prog) (w:=w) (base:=base) F_shows_rising T c_way c_fs c_below
 have c_shows:=gL (P:=l.prog) (w:=w) (base:=base) F_shows_rising fn_shows m_shows_rising b_shows_rising
 have c_refuse:=S.ok_refuse (P:=l.prog) (w:=w) (base:=base) F_refuse_strange m_refuse_strange b_refuse_strange T c_fs
 have fn_rising:=S.ok_rising (P:=l.prog) (w:=w) (base:=base) F_rising T c_refuse c_steps
 have c_rising:=gL (P:=l.prog) (w:=w) (base:=base) F_rising fn_rising m_rising b_rising
 have c_others:=S.ok_others (P:=l.prog) (w:=w) (base:=base) F_other_sides m_other_sides b_other_sides T
 have c_ow:=S.ok_ow (P:=l.prog) (w:=w) (base:=base) F_other_way m_other_way b_other_way T c_others
 have fn_falling:=S.ok_falling (P:=l.prog) (w:=w) (base:=base) F_falling T c_refuse c_ow c_steps
 have c_falling:=gL (P:=l.prog) (w:=w) (base:=base) F_falling fn_falling m_falling b_falling
 have fn_showsF:=aD (P:=l.prog) (w:=w) (base:=base) F_shows_falling T c_way c_fs c_ow c_below
 have c_showsF:=gL (P:=l.prog) (w:=w) (base:=base) F_shows_falling fn_showsF m_shows_falling b_shows_falling
 have c_things:=aB (P:=l.prog) (w:=w) (base:=base) F__law_things m__law_things b__law_things T c_draw
 exact ok_law (P:=l.prog) (w:=w) (base:=base) F_law T c_pot c_ktown c_rising c_falling c_things c_shows c_showsF
theorem walk {l:PySem.W.OpenLaw}{q:Program}{loose:List Str}{XP:(Str→Option Value)→Heap→Prop}{YP:World→Heap→Prop}{d:DefRec}{K:Params→PySem.W.Frag}(hn:l.most=some 63)(hdf:d.params.defaults=[])
  (hY:∀ (w:World) (h:Heap),YP w h→(K w.params).In h)
  (F:∀ (w:World) (mg:Str→Option Value) (fa:Addr) (h:Heap),(K w.params).In h→h.Ns mainGlobals mg→mg d.name=some (.ref fa) →
   ∃ fd:FuncData,(∀ (s:Shared) (u:Value),BindsTo s fd ⟨[u],[]⟩ [("_law_script",u)])∧∀ base:Heap,(K w.params).In base→base.Ns mainGlobals mg→FnOk l.prog w (K w.params) mg base CX0 10 fa fd ["_law_script"] (mR (K w.params))) :
  PySem.W.WalkO q loose XP YP l.row.toRowW d [] (fun f vs=>PySem.call f vs) :=
 L2.walk_of (n:=63) (k:=10) (x := "_law_script") (CX:=fun _=>CX0) (sp:=fun w=>mR (K w.params)) hn (by decide) hdf ⟨rfl,by decide,by decide,rfl⟩ hY F (fun w H a ns hl hO hS=>⟨a,ns,rfl,hS,hl,fun _=>rfl⟩) fun _ _ _ _ _ z=>z
theorem toX {q:Program}{loose:List Str}{XP:(Str→Option Value)→Heap→Prop}{r:PySem.W.RowW}{d:DefRec}{kwd:List (Str × PySem.Expr)}{run:Value→List Value→Sem Value}{K:Params→PySem.W.Frag}{as:List Addr}{n t:Nat}(e:∀ P,as=(K P).map (·.1))(h:PySem.W.WalkO q loose XP (fun w h=>(K w.params).In h) r d kwd run):PySem.W.WalkX q loose XP (PySem.W.X.obsZ as) (PySem.W.X.valZ K n t) r d kwd run :=
 fun w s₀ s₁ mg mb G y a o pm cd doc dV kV ho hd hcd hD hmg hg args vals as2 L hpre hl hrd hwl hlo=>h w s₀ s₁ mg mb G (PySem.W.InK.keeps w _ _ (PySem.W.X.z_facts e y).2.1 L.keeps) a o pm cd doc dV kV ho hd hcd hD hmg hg args vals as2 hpre hl hrd hwl hlo
end K62
end
end
end
section
namespace PySem.W.Tw
def st (i:Nat):PySem.Stmt:=PySem.Challenge.pw_wantprices_k62_steps_of_any_kind.main.body.getD i (.Pass ⟨0,0,0,0⟩)
def view:PySem.Program:={ PySem.Challenge.pw_wantprices_k62_steps_of_any_kind with main:={ PySem.Challenge.pw_wantprices_k62_steps_of_any_kind.main with body:=[st 1,st 2,st 4,st 5,st 6,st 7,st 9,st 10,st 11,st 12,st 13,st 14,st 15,st 16,st 17,st 18,st 19,st 21,st 22,st 23,st 24,st 25,st 27,st 28,st 30,st 31,st 32,st 33,st 35,st 36,st 38,st 39,st 40,st 41,st 42,st 43,st 44,st 46,st 47,st 48,st 49,st 50,st 52,st 53,st 54,st 55,st 56,st 57,st 58,st 59,st 60,st 61,st 62,st 63,st 64] } }
def sts0:List PySem.Stmt:=[st 0,st 1]
def sts1:List PySem.Stmt:=[st 2,st 3,st 4,st 5,st 6,st 7,st 8]
def sts2:List PySem.Stmt:=[st 9,st 10,st 11,st 12,st 13,st 14,st 15,st 16,st 17,st 18,st 19,st 20,st 21]
def sts3:List PySem.Stmt:=[st 22,st 23,st 24,st 25,st 26,st 27,st 28,st 29,st 30,st 31,st 32,st 33,st 34,st 35,st 36,st 37,st 38]
def sts4:List PySem.Stmt:=[st 39,st 40,st 41,st 42,st 43,st 44,st 45,st 46,st 47,st 48,st 49,st 50,st 51,st 52]
def sts5:List PySem.Stmt:=[st 53,st 54,st 55,st 56,st 57,st 58,st 59,st 60,st 61,st 62,st 63,st 64]
end PySem.W.Tw
def PySem.W.Fast.tw12590351724733236818:PySem.Program:=PySem.Challenge.pw_wantprices_k62_steps_of_any_kind
theorem PySem.W.Fast.te12590351724733236818:PySem.Challenge.pw_wantprices_k62_steps_of_any_kind=PySem.W.Fast.tw12590351724733236818:=rfl
def PySem.W.Fast.tw16926569902923600693:PySem.Program:=PySem.W.Tw.view
theorem PySem.W.Fast.te16926569902923600693:PySem.W.Tw.view=PySem.W.Fast.tw16926569902923600693:=rfl
def PySem.W.Fast.tw11468875867927298491:List PySem.Stmt:=PySem.W.Tw.sts0
theorem PySem.W.Fast.te11468875867927298491:PySem.W.Tw.sts0=PySem.W.Fast.tw11468875867927298491:=rfl
def PySem.W.Fast.tw8556031654326494957:List PySem.Stmt:=PySem.W.Tw.sts1
theorem PySem.W.Fast.te8556031654326494957:PySem.W.Tw.sts1=PySem.W.Fast.tw8556031654326494957:=rfl
def PySem.W.Fast.tw12442450228387316622:List PySem.Stmt:=PySem.W.Tw.sts2
theorem PySem.W.Fast.te12442450228387316622:PySem.W.Tw.sts2=PySem.W.Fast.tw12442450228387316622:=rfl
def PySem.W.Fast.tw14068563164330511132:List PySem.Stmt:=PySem.W.Tw.sts3
theorem PySem.W.Fast.te14068563164330511132:PySem.W.Tw.sts3=PySem.W.Fast.tw14068563164330511132:=rfl
def PySem.W.Fast.tw1909137268622470359:List PySem.Stmt:=PySem.W.Tw.sts4
theorem PySem.W.Fast.te1909137268622470359:PySem.W.Tw.sts4=PySem.W.Fast.tw1909137268622470359:=rfl
def PySem.W.Fast.tw7442261973183429881:List PySem.Stmt:=PySem.W.Tw.sts5
theorem PySem.W.Fast.te7442261973183429881:PySem.W.Tw.sts5=PySem.W.Fast.tw7442261973183429881:=rfl
def PySem.W.Fast.tw13754693137648090820:Nat:=0
def PySem.W.Fast.tw8867972786518684291:Nat:=0
def PySem.W.Fast.tw9196394937218407419:Nat:=0
def PySem.W.Fast.tw9219884079407952683:Nat:=0
def PySem.W.Fast.tw893791183633602392:Nat:=0
def PySem.W.Fast.tw16524025097246451550:Nat:=0
def PySem.W.Fast.tw3680297842009956175:Nat:=0
def PySem.W.Fast.tw16695290801846875249:Nat:=0
def PySem.W.Fast.tw15235330042759883372:Nat:=0
end
end
section
set_option Elab.async false
set_option linter.all false
open PySem PySem.W PyProof.Rows
set_option maxRecDepth 100000 in
set_option maxHeartbeats 0 in
theorem PySem.Challenge.cw_wantprices_k62_steps_of_any_kind_holds : PySem.Challenge.rw_wantprices_k62_steps_of_any_kind.Holds := by
 w_on;o_law;z_head;(case hw=>w_witness2)
 k_fill
 refine K62.toX (fun _=>by kernel_rfl) ?_
 refine K62.walk (l:=PySem.Challenge.rw_wantprices_k62_steps_of_any_kind) rfl rfl (fun w h Y=>Y) ?F
 case F =>
  intro w mg fa h KX G hmg
  refine' K62.all_mk KX G hmg ?a0 ?l0 ?c0 ?k0 ?a1 ?l1 ?c1 ?k1 ?a2 ?l2 ?c2 ?k2 ?a3 ?l3 ?c3 ?k3 ?a4 ?l4 ?c4 ?k4 ?a5 ?l5 ?c5 ?k5 ?a6 ?l6 ?c6 ?k6 ?a7 ?l7 ?c7 ?k7 ?a8 ?l8 ?c8 ?k8 ?a9 ?l9 ?c9 ?k9 ?a10 ?l10 ?c10 ?k10 ?a11 ?l11 ?c11 ?k11 ?a12 ?l12 ?c12 ?k12 ?a13 ?l13 ?c13 ?k13 ?a14 ?l14 ?c14 ?k14 ?a15 ?l15 ?c15 ?k15 ?a16 ?l16 ?c16 ?k16 ?a17 ?l17 ?c17 ?k17 ?a18 ?l18 ?c18 ?k18 ?a19 ?l19 ?c19 ?k19 ?a20 ?l20 ?c20 ?k20 ?a21 ?l21 ?c21 ?k21 ?a22 ?l22 ?c22 ?k22 ?a23 ?l23 ?c23 ?k23 ?a24 ?l24 ?c24 ?k24 ?a25 ?l25 ?c25 ?k25 ?a26 ?l26 ?c26 ?k26 ?a27 ?l27 ?c27 ?k27 ?a28 ?l28 ?c28 ?k28 ?a29 ?l29 ?c29 ?k29 ?a30 ?l30 ?c30 ?k30 ?a31 ?l31 ?c31 ?k31 ?a32 ?l32 ?c32 ?k32 ?a33 ?l33 ?c33 ?k33 ?a34 ?l34 ?c34 ?k34 ?a35 ?l35 ?c35 ?k35 ?a36 ?l36 ?c36 ?k36 ?a37 ?l37 ?c37 ?k37 ?a38 ?l38 ?c38 ?k38 ?a39 ?l39 ?c39 ?k39 ?a40 ?l40 ?c40 ?k40 ?a41 ?l41 ?c41 ?k41 ?a42 ?l42 ?c42 ?k42 ?a43 ?l43 ?c43 ?k43 ?a44 ?l44 ?c44 ?k44 ?a45 ?l45 ?c45 ?k45 ?a46 ?l46 ?c46 ?k46 ?a47 ?l47 ?c47 ?k47 ?a48 ?l48 ?c48 ?k48 ?a49 ?l49 ?c49 ?k49 ?a50 ?l50 ?c50 ?k50 ?a51 ?l51 ?c51 ?k51 ?a52 ?l52 ?c52 ?k52 ?z_len ?z_sum ?z_isinstance ?z_abs ?z_max ?z_range ?z_tuple ?z_list ?z_sorted ?z_int ?z_bool ?z_zip ?z_min ?z_all ?z_enumerate
  (case a0=>k_is)
  (case l0=>k_is)
  (case c0=>k_is)
  (case k0=>k_is)
  (case a1=>k_is)
  (case l1=>k_is)
  (case c1=>k_is)
  (case k1=>k_is)
  (case a2=>k_is)
  (case l2=>k_is)
  (case c2=>k_is)
  (case k2=>k_is)
  (case a3=>k_is)
  (case l3=>k_is)
  (case c3=>k_is)
  (case k3=>k_is)
  (case a4=>k_is)
  (case l4=>k_is)
  (case c4=>k_is)
  (case k4=>k_is)
  (case a5=>k_is)
  (case l5=>k_is)
  (case c5=>k_is)
  (case k5=>k_is)
  (case a6=>k_is)
  (case l6=>k_is)
  (case c6=>k_is)
  (case k6=>k_is)
  (case a7=>k_is)
  (case l7=>k_is)
  (case c7=>k_is)
  (case k7=>k_is)
  (case a8=>k_is)
  (case l8=>k_is)
  (case c8=>k_is)
  (case k8=>k_is)
  (case a9=>k_is)
  (case l9=>k_is)
  (case c9=>k_is)
  (case k9=>k_is)
  (case a10=>k_is)
  (case l10=>k_is)
  (case c10=>k_is)
  (case k10=>k_is)
  (case a11=>k_is)
  (case l11=>k_is)
  (case c11=>k_is)
  (case k11=>k_is)
  (case a12=>k_is)
  (case l12=>k_is)
  (case c12=>k_is)
  (case k12=>k_is)
  (case a13=>k_is)
  (case l13=>k_is)
  (case c13=>k_is)
  (case k13=>k_is)
  (case a14=>k_is)
  (case l14=>k_is)
  (case c14=>k_is)
  (case k14=>k_is)
  (case a15=>k_is)
  (case l15=>k_is)
  (case c15=>k_is)
  (case k15=>k_is)
  (case a16=>k_is)
  (case l16=>k_is)
  (case c16=>k_is)
  (case k16=>k_is)
  (case a17=>k_is)
  (case l17=>k_is)
  (case c17=>k_is)
  (case k17=>k_is)
  (case a18=>k_is)
  (case l18=>k_is)
  (case c18=>k_is)
  (case k18=>k_is)
  (case a19=>k_is)
  (case l19=>k_is)
  (case c19=>k_is)
  (case k19=>k_is)
  (case a20=>k_is)
  (case l20=>k_is)
  (case c20=>k_is)
  (case k20=>k_is)
  (case a21=>k_is)
  (case l21=>k_is)
  (case c21=>k_is)
  (case k21=>k_is)
  (case a22=>k_is)
  (case l22=>k_is)
  (case c22=>k_is)
  (case k22=>k_is)
  (case a23=>k_is)
  (case l23=>k_is)
  (case c23=>k_is)
  (case k23=>k_is)
  (case a24=>k_is)
  (case l24=>k_is)
  (case c24=>k_is)
  (case k24=>k_is)
  (case a25=>k_is)
  (case l25=>k_is)
  (case c25=>k_is)
  (case k25=>k_is)
  (case a26=>k_is)
  (case l26=>k_is)
  (case c26=>k_is)
  (case k26=>k_is)
  (case a27=>k_is)
  (case l27=>k_is)
  (case c27=>k_is)
  (case k27=>k_is)
  (case a28=>k_is)
  (case l28=>k_is)
  (case c28=>k_is)
  (case k28=>k_is)
  (case a29=>k_is)
  (case l29=>k_is)
  (case c29=>k_is)
  (case k29=>k_is)
  (case a30=>k_is)
  (case l30=>k_is)
  (case c30=>k_is)
  (case k30=>k_is)
  (case a31=>k_is)
  (case l31=>k_is)
  (case c31=>k_is)
  (case k31=>k_is)
  (case a32=>k_is)
  (case l32=>k_is)
  (case c32=>k_is)
  (case k32=>k_is)
  (case a33=>k_is)
  (case l33=>k_is)
  (case c33=>k_is)
  (case k33=>k_is)
  (case a34=>k_is)
  (case l34=>k_is)
  (case c34=>k_is)
  (case k34=>k_is)
  (case a35=>k_is)
  (case l35=>k_is)
  (case c35=>k_is)
  (case k35=>k_is)
  (case a36=>k_is)
  (case l36=>k_is)
  (case c36=>k_is)
  (case k36=>k_is)
  (case a37=>k_is)
  (case l37=>k_is)
  (case c37=>k_is)
  (case k37=>k_is)
  (case a38=>k_is)
  (case l38=>k_is)
  (case c38=>k_is)
  (case k38=>k_is)
  (case a39=>k_is)
  (case l39=>k_is)
  (case c39=>k_is)
  (case k39=>k_is)
  (case a40=>k_is)
  (case l40=>k_is)
  (case c40=>k_is)
  (case k40=>k_is)
  (case a41=>k_is)
  (case l41=>k_is)
  (case c41=>k_is)
  (case k41=>k_is)
  (case a42=>k_is)
  (case l42=>k_is)
  (case c42=>k_is)
  (case k42=>k_is)
  (case a43=>k_is)
  (case l43=>k_is)
  (case c43=>k_is)
  (case k43=>k_is)
  (case a44=>k_is)
  (case l44=>k_is)
  (case c44=>k_is)
  (case k44=>k_is)
  (case a45=>k_is)
  (case l45=>k_is)
  (case c45=>k_is)
  (case k45=>k_is)
  (case a46=>k_is)
  (case l46=>k_is)
  (case c46=>k_is)
  (case k46=>k_is)
  (case a47=>k_is)
  (case l47=>k_is)
  (case c47=>k_is)
  (case k47=>k_is)
  (case a48=>k_is)
  (case l48=>k_is)
  (case c48=>k_is)
  (case k48=>k_is)
  (case a49=>k_is)
  (case l49=>k_is)
  (case c49=>k_is)
  (case k49=>k_is)
  (case a50=>k_is)
  (case l50=>k_is)
  (case c50=>k_is)
  (case k50=>k_is)
  (case a51=>k_is)
  (case l51=>k_is)
  (case c51=>k_is)
  (case k51=>k_is)
  (case a52=>k_is)
  (case l52=>k_is)
  (case c52=>k_is)
  (case k52=>k_is)
  (case z_len=>k_is)
  (case z_sum=>k_is)
  (case z_isinstance=>k_is)
  (case z_abs=>k_is)
  (case z_max=>k_is)
  (case z_range=>k_is)
  (case z_tuple=>k_is)
  (case z_list=>k_is)
  (case z_sorted=>k_is)
  (case z_int=>k_is)
  (case z_bool=>k_is)
  (case z_zip=>k_is)
  (case z_min=>k_is)
  (case z_all=>k_is)
  (case z_enumerate=>k_is)
end
