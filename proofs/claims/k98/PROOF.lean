import PyProof.Rows.All
import Wide.All
import OpenK.AllK
import Wide.FinOn
import Lean
import PyProof.EqAt
import PyProof.EqKinds
import PyProof.TupleCall
import PyProof.MinMaxWalk
import PySem.Challenge.RW_wantprices_k98_whole_a_hand_more
set_option linter.all false
set_option Elab.async false
set_option maxRecDepth 100000
noncomputable section
set_option compiler.extract_closed false
set_option genSizeOfSpec false
abbrev Aa:=@List.getD_eq_getElem?_getD
abbrev Ab:=@List.length_map
abbrev Ac:=@PySem.Heap.get?_push_of_some
abbrev Ad:=@List.mem_cons_of_mem
abbrev Ae:=@List.mem_map
abbrev Af:=@List.mem_cons_self
abbrev Ag:=@Nat.le_refl
abbrev Ah:=@List.getElem?_map
abbrev Ai:=@List.getElem?_eq_some_iff
abbrev Aj:=@if_neg
abbrev Ak:=@if_pos
abbrev Al:=@decide_eq_false
abbrev Am:=@List.getElem?_eq_getElem
abbrev An:=@Option.map_eq_some_iff
abbrev Ao:=@Nat.pow_le_pow_right
abbrev Ap:=@List.size_toArray
abbrev Aq:=@PySem.Heap.get?_push_size
abbrev Ar:=@decide_eq_true
abbrev As:=@Nat.two_pow_pos
abbrev Au:=@PySem.Heap.lt_size
abbrev Av:=@List.map_cons
abbrev Aw:=@Int.le_refl
abbrev Ax:=@List.mem_cons
abbrev Ay:=@Int.toNat_natCast
abbrev Az:=@List.length_cons
abbrev A0:=@List.mem_of_getElem?
abbrev A2:=@Bool.false_ne_true
abbrev A3:=@Nat.lt_of_lt_of_le
abbrev A4:=@List.map_append
abbrev A5:=@PySem.W.mg_of
abbrev A6:=@List.length_take
abbrev A7:=@List.mem_append_right
abbrev A8:=@List.map_map
abbrev A9:=@List.take_of_length_le
abbrev AA:=@Nat.ne_of_lt
abbrev AB:=@List.take_add_one
abbrev AD:=@List.length_append
abbrev AE:=@decide_eq_true_eq
abbrev AF:=@List.sum_cons
abbrev AG:=@List.mem_append
abbrev AH:=@Option.some.inj
abbrev AI:=@List.mem_range
abbrev AJ:=@List.mem_singleton
abbrev AK:=@Nat.le_trans
abbrev AL:=@Bool.and_eq_true
abbrev AM:=@List.mem_append_left
abbrev AN:=@List.getElem_mem
abbrev AO:=@PySem.PassesOwn.never
abbrev AQ:=@Nat.lt_irrefl
abbrev AR:=@Bool.false_eq_true
abbrev AS:=@List.nodup_cons
abbrev AU:=@List.mem_map_of_mem
abbrev AV:=@List.forall_mem_cons
abbrev AW:=@List.length_replicate
abbrev AX:=@PySem.Heap.get?_update_other
abbrev AY:=@List.length_singleton
abbrev AZ:=@Nat.zero_le
abbrev Ba:=@List.replicate_succ
abbrev Bb:=@List.range_succ
abbrev Bc:=@List.take_length
abbrev Be:=@Nat.lt_succ_self
abbrev Bf:=@PySem.Heap.size_push
abbrev Bg:=@PyProof.Rows.callWith_type1
abbrev Bh:=@PySem.W.mg_none_of
abbrev Bi:=@congrArg
abbrev Bj:=@List.mem_filter
abbrev Bk:=@List.lookup_cons
abbrev Bm:=@Nat.lt_or_ge
abbrev Bn:=@Int.mul_le_mul_of_nonneg_left
abbrev Bo:=@List.length_filter_le
abbrev Bp:=@PySem.AutoSeq1.wpAny_loadPart'
abbrev Bq:=@List.filter_append
abbrev Br:=@Int.eq_ofNat_of_zero_le
abbrev Bs:=@of_decide_eq_true
abbrev Bt:=@PySem.mem_of_lookup
abbrev Bu:=@Bool.eq_iff_iff
abbrev Bv:=@List.append_nil
abbrev Bw:=@List.drop_eq_getElem_cons
abbrev Bx:=@List.getElem?_eq_none
abbrev By:=@Int.le_trans
abbrev Bz:=@List.flatten_cons
abbrev B2:=@PySem.F.slot_zip_next
abbrev B3:=@List.dropLast_concat_getLast
abbrev B4:=@List.getElem?_range
abbrev B5:=@Nat.le_of_lt
abbrev B6:=@PySem.F.plain_min_loop
abbrev B7:=@PySem.F.slot_tuple_iterator_next
abbrev B8:=@List.getElem?_append_right
abbrev BA:=@Classical.byContradiction
abbrev BC:=@List.getElem?_append_left
abbrev BD:=@List.sum_append
abbrev BE:=@if_false
abbrev BF:=@PyProof.Rows.slot_tuple_getitem
abbrev BG:=@List.all_eq_true
abbrev BH:=@List.ext_getElem
abbrev BJ:=@Nat.le_add_right
abbrev BK:=@Option.getD_some
abbrev BL:=@Int.one_mul
abbrev BM:=@List.eq_nil_of_length_eq_zero
abbrev BN:=@List.drop_of_length_le
abbrev BO:=@Nat.xor_lt_two_pow
abbrev BP:=@Nat.not_lt_zero
abbrev BQ:=@Option.map_some
abbrev BR:=@PySem.F.slot_enumerate_next
abbrev BS:=@PySem.Heap.get?_update_self
abbrev BU:=@List.length_range
abbrev BV:=@if_true
abbrev BW:=@Bool.false_and
abbrev BX:=@PySem.F.slot_tuple_mul
abbrev BY:=@List.not_mem_nil
abbrev BZ:=@Bool.true_and
abbrev Ca:=@Int.max_assoc
abbrev Cb:=@List.eq_of_mem_replicate
abbrev Cc:=@Bool.or_eq_true
abbrev Cd:=@List.forIn_cons
abbrev Ce:=@List.map_inj_right
abbrev Cf:=@Nat.lt_of_le_of_lt
abbrev Cg:=@List.getElem?_replicate
abbrev Ci:=@PySem.F.args_zip_next_1
abbrev Cj:=@Int.mul_nonneg
abbrev Ck:=@List.drop_zero
abbrev Cm:=@List.nodup_append
abbrev Cn:=@Nat.lt_succ_of_lt
abbrev Co:=@Ne.symm
abbrev Cp:=@List.mem_of_mem_erase
abbrev Cq:=@PySem.Around.in1_units
abbrev Cr:=@PySem.F.entry_zip_next
abbrev Cs:=@Int.max_eq_right
abbrev Ct:=@List.getElem_map
abbrev Cu:=@beq_self_eq_true
abbrev Cv:=@PySem.Around.under_plainId
abbrev Cw:=@Int.add_mul
abbrev Cy:=@List.mem_iff_getElem
abbrev Cz:=@List.mem_of_mem_take
abbrev C0:=@List.perm_cons_erase
abbrev C1:=@Nat.le_succ
abbrev C2:=@List.length_nil
abbrev C3:=@List.of_mem_zip
abbrev C4:=@PySem.SeqAt.EqAt.same
abbrev C5:=@Array.length_toList
abbrev C6:=@List.filterMap_cons
abbrev C7:=@List.getElem_of_mem
abbrev C8:=@List.map_congr_left
abbrev C9:=@Nat.succ.inj
abbrev CA:=@Nat.xor_zero
abbrev CB:=@PyProof.Rows.IsTup.new
abbrev CD:=@List.forIn_nil
abbrev CH:=@List.all_cons
abbrev CK:=@Nat.xor_assoc
abbrev CL:=@Bool.or_true
abbrev CM:=@Bool.true_or
abbrev CN:=@Int.zero_add
abbrev CO:=@List.map_nil
abbrev CP:=@Nat.min_self
abbrev CQ:=@Nat.mul_comm
abbrev CS:=@Nat.ne_of_gt
abbrev CT:=@Nat.pow_succ
abbrev CU:=@Nat.sub_zero
section
namespace L2
open PySem PySem.Spec PyProof.Rows
abbrev Key:=Sum Int Str
def keyIs:Key→Value→Bool
 | .inl k,v=>Value.isInt k v
 | .inr x,v=>Value.isStrOf x v
def keyH (w:World):Key→Int
 | .inl k=>hashInt k
 | .inr x=>hashStr w x
theorem jP:∀ {k:Key} {v:Value},keyIs k v=true→(∃ i t,k=Sum.inl i∧v=Value.int i t)∨(∃ x t,k=Sum.inr x∧v=Value.str x t)
 | .inl i,v,h=>by
  obtain ⟨t,e⟩:=Value.isInt_shape (k:=i) (v:=v) h
  exact .inl ⟨i,t,rfl,e⟩
 | .inr x,v,h=>by
  obtain ⟨t,e⟩:=Value.isStrOf_shape (x:=x) (v:=v) h
  exact .inr ⟨x,t,rfl,e⟩
theorem key_ll (a b:Int):decide ((Sum.inl a:Key)=Sum.inl b)=(a == b):=by
 by_cases e:a=b
 ·subst e;simp
 ·have h:¬ (Sum.inl a:Key)=Sum.inl b:=fun q=>e (Sum.inl.inj q)
  rw [Al h]
  exact (beq_eq_false_iff_ne.mpr e).symm
theorem key_rr (a b:Str):decide ((Sum.inr a:Key)=Sum.inr b)=decide (a=b):=by
 by_cases e:a=b
 ·subst e;simp
 ·have h:¬ (Sum.inr a:Key)=Sum.inr b:=fun q=>e (Sum.inr.inj q)
  rw [Al h,Al e]
theorem key_lr (a:Int)(b:Str):decide ((Sum.inl a:Key)=Sum.inr b)=false:=Al (fun q=>nomatch q)
theorem key_rl (a:Str)(b:Int):decide ((Sum.inr a:Key)=Sum.inl b)=false:=Al (fun q=>nomatch q)
def iZ (prog:Program)(w:World):PySem.KeyKind prog w Key where
 is:=keyIs
 hash:=keyH w
 inj:=fun v a b ha hb=>by
  rcases jP ha with ⟨i,t,rfl,rfl⟩ | ⟨x,t,rfl,rfl⟩
  ·rcases jP hb with ⟨j,u,rfl,e⟩ | ⟨y,u,rfl,e⟩
   ·injection e with e1 _;rw [e1]
   ·exact nomatch e
  ·rcases jP hb with ⟨j,u,rfl,e⟩ | ⟨y,u,rfl,e⟩
   ·exact nomatch e
   ·injection e with e1 _;rw [e1]
 byValue:=fun k v h=>by
  rcases jP h with ⟨i,t,rfl,rfl⟩ | ⟨x,t,rfl,rfl⟩ <;> rfl
 pyHash:=fun hv h=>by
  rcases jP hv with ⟨i,t,rfl,rfl⟩ | ⟨x,t,rfl,rfl⟩
  ·exact wpAny_pyHash_int h
  ·exact wpAny_pyHash_str h
 eqBool:=fun hu hv h=>by
  rcases jP hu with ⟨i,t,rfl,rfl⟩ | ⟨x,t,rfl,rfl⟩
  ·rcases jP hv with ⟨j,u,rfl,rfl⟩ | ⟨y,u,rfl,rfl⟩
   ·rw [key_ll] at h;exact wpAny_eqBool_int h
   ·rw [key_lr] at h;exact SeqAt.EqAt.int_str i t y u _ _ _ _ h
  ·rcases jP hv with ⟨j,u,rfl,rfl⟩ | ⟨y,u,rfl,rfl⟩
   ·rw [key_rl] at h;exact SeqAt.EqAt.str_int x t j u _ _ _ _ h
   ·rw [key_rr] at h;exact wpAny_eqBool_str h
 «strs» := fun k x t v h=>by
  rcases jP h with ⟨i,u,rfl,e⟩ | ⟨y,u,rfl,e⟩
  ·exact nomatch e
  ·injection e with e1 _
   subst e1
   cases v <;> rfl
end L2
namespace L2
open PySem PySem.Spec PyProof.Rows
inductive V where
 | non | bl (b:Bool) | int (i:Int) | str (x:Str) | byt (b:Array UInt8) | flt (b:UInt64) | ref (a:Addr) | ty (n:String)
 deriving DecidableEq
def RelV:V→Value→Prop
 | .non,u=>u=Value.none
 | .bl b,u=>u=Value.bool b
 | .int i,u=>∃ t,u=Value.int i t
 | .str x,u=>∃ t,u=Value.str x t
 | .byt b,u=>∃ t,u=Value.bytes b t
 | .flt b,u=>∃ t,u=Value.float b t
 | .ref a,u=>u=Value.ref a
 | .ty n,u=>u=Value.type n
abbrev Vals:List V→List Value→Prop:=Paired RelV
theorem Vals.length {xs:List V}{us:List Value}(r:Vals xs us):xs.length=us.length:=Paired.length r
theorem Vals.get:∀ {xs:List V} {us:List Value} {i:Nat} {x:V},Vals xs us→xs[i]? = some x→∃ u,us[i]? = some u∧RelV x u
 | _,_,_,_,.nil,e=>by simp at e
 | _,_,0,_,.cons r _,e=>by simp at e;subst e;exact ⟨_,rfl,r⟩
 | _,_,i + 1,x,.cons _ t,e=>by
  obtain ⟨u,h1,h2⟩:=Vals.get (i:=i) (x:=x) t (by simpa using e)
  exact ⟨u,by simpa using h1,h2⟩
theorem Vals.set {x:V}{u:Value}(r:RelV x u):∀ {xs:List V} {us:List Value} (i:Nat),Vals xs us→Vals (xs.set i x) (us.set i u)
 | _,_,_,.nil=>.nil
 | _,_,0,.cons _ t=>.cons r t
 | _,_,i + 1,.cons q t=>.cons q (Vals.set r i t)
theorem Vals.append:∀ {xs ys:List V} {us ws:List Value},Vals xs us→Vals ys ws→Vals (xs ++ ys) (us ++ ws)
 | _,_,_,_,.nil,s=>s
 | _,_,_,_,.cons r t,s=>.cons r (Vals.append t s)
theorem Vals.take:∀ {xs:List V} {us:List Value} (n:Nat),Vals xs us→Vals (xs.take n) (us.take n)
 | _,_,0,_=>.nil
 | _,_,_ + 1,.nil=>.nil
 | _,_,n + 1,.cons r t=>.cons r (Vals.take n t)
theorem Vals.drop:∀ {xs:List V} {us:List Value} (n:Nat),Vals xs us→Vals (xs.drop n) (us.drop n)
 | _,_,0,r=>r
 | _,_,_ + 1,.nil=>.nil
 | _,_,n + 1,.cons _ t=>Vals.drop n t
def RelO:Option V→Option Value→Prop
 | some v,some u=>RelV v u
 | none,none=>True
 | _,_=>False
def KV {κ:Type}:List (κ × V)→List (κ × Value)→Prop:=Paired fun (p:κ × V) (q:κ × Value)=>p.1=q.1∧RelV p.2 q.2
def kV:Key→V
 | .inl i=>.int i
 | .inr x=>.str x
inductive HO where
 | lst (xs:List V)
 | tup (xs:List V)
 | dK (kvs:List (Key × V)) | dT (kvs:List (List Key × V))
 | set (S:Int→Bool) (n:Nat)
 | ins (C dx:Addr) (fs:List (Str × V))
 | own (x:Addr)
 | xd (fs:List (Str × V))
 | met (f x:Addr)
 | rng (lo hi:Int)
 | frz (o:Obj) (u:HO)
 | tbl (ps:Array Value)
 | ext (φ:Heap→Prop)
abbrev Hp:=Addr→Option HO
def upd (H:Hp)(a:Addr)(o:HO):Hp:=fun b=>if b=a then some o else H b
theorem qG {H:Hp}{a:Addr}{o:HO}:upd H a o a=some o:=by unfold upd;rw [Ak rfl]
theorem qT {H:Hp}{a b:Addr}{o:HO}(h:b ≠ a):upd H a o b=H b:=by unfold upd;rw [Aj h]
theorem upd_upd {H:Hp}{a:Addr}{o u:HO}:upd (upd H a o) a u=upd H a u:=by
 funext b;unfold upd;split <;> rfl
theorem qF {H:Hp}{a b:Addr}{o:HO}(h:H a=some o)(h':H b=none):a ≠ b:=by
 intro e;subst e;rw [h] at h';cases h'
section
variable (P:Program)(w:World)
def ObjOk (H:Hp)(h:Heap)(a:Addr):HO→Prop
 | .lst xs=>xs.length ≤ sizeLine∧∃ (its:List Value) (n:Nat),Vals xs its∧h.get? a=some { cls:=.type "list",data:=.seq its.toArray n }
 | .tup xs=>xs.length ≤ sizeLine∧∃ its:List Value,Vals xs its∧IsTup h a its.toArray
 | .dK kvs=>kvs.length ≤ sizeLine∧(a == sysModules)=false∧∃ vs,KV kvs vs∧h.DictOf (iZ P w) a vs
 | .dT kvs=>kvs.length ≤ sizeLine∧(a == sysModules)=false∧∃ xs:List (List Key × Addr × Value),
   Paired (fun (p:List Key × V) (q:List Key × Addr × Value)=>p.1=q.1∧H q.2.1=some (.tup (p.1.map kV))∧RelV p.2 q.2.2) kvs xs ∧
   ∃ o es ep,h.get? a=some o∧o.ExactDict∧o.data = .dict es ep∧es.toList=xs.map (entryOfKey (tupleKind (iZ P w)))∧(xs.map (·.1)).Nodup
 | .set S n=>h.SetOf (intKind P w) a S n
 | .ins C dx fs=>H dx=some (.own a)∧fs.length ≤ 1000∧dx ≠ a∧h.get? a=some (PySem.W.instObj C dx) ∧
   ∃ mA,h.Ns1 dx mA∧(∀ f,RelO (fs.lookup f) (mA f))∧PySem.Within mA (fs.map (·.1))
 | .own _=>∃ o,h.get? a=some o
 | .xd fs=>∃ mA,h.Ns1 a mA∧∀ f,RelO (fs.lookup f) (mA f)
 | .rng lo hi=>∃ t u v,h.get? a=some { cls:=.type "range",data:=.fields #[.int lo t,.int hi u,.int 1 v] }
 | .frz o u=>h.get? a=some o∧ObjOk H h a u
 | .tbl ps=>h.get? a=some { cls:=.none,data:=.fields ps }
 | .met f x=>h.get? a=some (PySem.W.methodObj (.ref f) (.ref x))
 | .ext φ=>φ h∧(∃ o,h.get? a=some o)∧∀ h1 h2:Heap,φ h1→(∀ o,h1.get? a=some o→h2.get? a=some o)→φ h2
def HOk (H:Hp)(h:Heap):Prop:=∀ a o,H a=some o→ObjOk P w H h a o
end
section
variable {P:Program}{w:World}{H H':Hp}{h h':Heap}{a:Addr}{o:HO}
theorem ObjOk.lt (x:ObjOk P w H h a o):a < h.objs.size:=by
 cases o with
 | lst xs=>obtain ⟨_,_,_,_,e⟩:=x;exact Au e
 | tup xs=>obtain ⟨_,_,_,p⟩:=x;exact p.lt
 | dK kvs=>obtain ⟨_,_,_,_,o,_,_,e,_⟩:=x;exact Au e
 | dT kvs=>obtain ⟨_,_,_,_,o,_,_,e,_⟩:=x;exact Au e
 | set S n=>obtain ⟨o,_,_,_,e,_⟩:=x;exact Au e
 | ins C dx fs=>obtain ⟨_,_,_,e,_⟩:=x;exact Au e
 | own y=>obtain ⟨_,e⟩:=x;exact Au e
 | xd fs=>obtain ⟨_,⟨_,_,_,e,_⟩,_⟩:=x;exact Au e
 | rng lo hi=>obtain ⟨_,_,_,e⟩:=x;exact Au e
 | frz ob u=>obtain ⟨e,_⟩:=x;exact Au e
 | tbl ps=>exact Au (show h.get? a=some _ from x)
 | met f y=>exact Au (show h.get? a=some _ from x)
 | ext φ=>obtain ⟨_,⟨_,e⟩,_⟩:=x;exact Au e
theorem Paired.mapP {α β:Type}{F G:α→β→Prop}:∀ {l₁:List α} {l₂:List β},Paired F l₁ l₂→(∀ a b,F a b→G a b)→Paired G l₁ l₂
 | _,_,.nil,_=>.nil
 | _,_,.cons r t,f=>.cons (f _ _ r) (Paired.mapP t f)
theorem ObjOk.stay (x:ObjOk P w H h a o)(k:∀ b u,(b=a∨H b=some (.own a))→h.get? b=some u→h'.get? b=some u)
  (ho:∀ b,H b=some (.own a)→H' b=some (.own a)) (ht:∀ b xs,H b=some (.tup xs)→H' b=some (.tup xs)):ObjOk P w H' h' a o:=by
 induction o with
 | lst xs=>obtain ⟨z,its,n,r,e⟩:=x;exact ⟨z,its,n,r,k _ _ (.inl rfl) e⟩
 | tup xs=>obtain ⟨z,its,r,ob,e,c⟩:=x;exact ⟨z,its,r,ob,k _ _ (.inl rfl) e,c⟩
 | dK kvs=>obtain ⟨z,y,vs,r,ob,es,ep,e,c⟩:=x;exact ⟨z,y,vs,r,ob,es,ep,k _ _ (.inl rfl) e,c⟩
 | dT kvs =>
  obtain ⟨z,y,xs,r,ob,es,ep,e,c⟩:=x
  exact ⟨z,y,xs,Paired.mapP r fun p q z=>⟨z.1,ht _ _ z.2.1,z.2.2⟩,ob,es,ep,k _ _ (.inl rfl) e,c⟩
 | set S n=>obtain ⟨ob,es,ep,t,e,c⟩:=x;exact ⟨ob,es,ep,t,k _ _ (.inl rfl) e,c⟩
 | ins C dx fs =>
  obtain ⟨d,z,ne,e,mA,⟨od,es,ep,e2,c⟩,r⟩:=x
  exact ⟨ho _ d,z,ne,k _ _ (.inl rfl) e,mA,⟨od,es,ep,k _ _ (.inr d) e2,c⟩,r⟩
 | own y=>obtain ⟨ob,e⟩:=x;exact ⟨ob,k _ _ (.inl rfl) e⟩
 | xd fs=>obtain ⟨mA,⟨od,es,ep,e,c⟩,r⟩:=x;exact ⟨mA,⟨od,es,ep,k _ _ (.inl rfl) e,c⟩,r⟩
 | rng lo hi=>obtain ⟨t,u,v,e⟩:=x;exact ⟨t,u,v,k _ _ (.inl rfl) e⟩
 | frz ob u ih=>obtain ⟨e,q⟩:=x;exact ⟨k _ _ (.inl rfl) e,ih q⟩
 | tbl ps =>
  have e:h.get? a=some { cls:=.none,data:=.fields ps }:=x
  show h'.get? a=some { cls:=.none,data:=.fields ps }
  exact k a _ (.inl rfl) e
 | met f y =>
  have e:h.get? a=some (PySem.W.methodObj (.ref f) (.ref y)):=x
  show h'.get? a=some (PySem.W.methodObj (.ref f) (.ref y))
  exact k a _ (.inl rfl) e
 | ext φ=>obtain ⟨p,⟨o,e⟩,st⟩:=x;exact ⟨st _ _ p fun o q=>k _ _ (.inl rfl) q,⟨o,k _ _ (.inl rfl) e⟩,st⟩
theorem HOk.lt (x:HOk P w H h)(e:H a=some o):a < h.objs.size:=(x a o e).lt
theorem HOk.fresh (x:HOk P w H h)(e:h.objs.size ≤ a):H a=none:=by
 cases q:H a with
 | none=>rfl
 | some u=>exact absurd (A3 (x.lt q) e) (AQ _)
theorem HOk.kept (x:HOk P w H h)(k:∀ b u,h.get? b=some u→h'.get? b=some u):HOk P w H h':=fun a o e =>
 (x a o e).stay (fun b u _ q=>k b u q) (fun _ q=>q) fun _ _ q=>q
theorem HOk.laid (x:HOk P w H h)(k:∀ b u,h.get? b=some u→h'.get? b=some u)(hp:h.objs.size ≤ a)(new:ObjOk P w (upd H a o) h' a o):HOk P w (upd H a o) h':=fun b u e=>by
 have hn:=x.fresh hp
 by_cases hb:b=a
 ·subst hb;rw [qG] at e;cases e;exact new
 ·rw [qT hb] at e
  exact (x b u e).stay (fun c v _ q=>k c v q) (fun c q=>by rw [qT (qF q hn)];exact q) fun c xs q=>by rw [qT (qF q hn)];exact q
end
def Rd (H:Hp)(a:Addr)(u:HO):Prop:=H a=some u∨∃ o,H a=some (.frz o u)
theorem Rd.ok {P:Program}{w:World}{H:Hp}{h:Heap}{a:Addr}{u:HO}(r:Rd H a u)(x:HOk P w H h):ObjOk P w H h a u:=by
 rcases r with r | ⟨o,r⟩
 ·exact x a u r
 ·obtain ⟨_,q⟩:=x a _ r
  exact q
def Mut:Option HO→Prop
 | some (.lst _)=>True
 | some (.dK _)=>True
 | some (.dT _)=>True
 | some (.set _ _)=>True
 | some (.ins _ _ _)=>True
 | some (.ext _)=>True
 | _=>False
section
variable {P:Program}{w:World}{H:Hp}{h h':Heap}{x e:Addr}{o':HO}
theorem HOk.write (ok:HOk P w H h)(mu:Mut (H x))(he:e=x∨H e=some (.own x))(k:∀ b u,b ≠ e→h.get? b=some u→h'.get? b=some u)(heo:∃ u,h'.get? e=some u)
  (new:ObjOk P w (upd H x o') h' x o'):HOk P w (upd H x o') h':=fun b u q=>by
 have nown:∀ c y,H c=some (.own y)→c ≠ x:=fun c y r z=>by subst z;rw [r] at mu;exact mu
 have ntup:∀ c xs,H c=some (.tup xs)→c ≠ x:=fun c xs r z=>by subst z;rw [r] at mu;exact mu
 by_cases hb:b=x
 ·subst hb;rw [qG] at q;cases q;exact new
 ·rw [qT hb] at q
  by_cases hbe:b=e
  ·have q':H b=some (.own x):=by
    rcases he with z | z
    ·exact absurd (hbe.trans z) hb
    ·rw [hbe];exact z
   rw [q] at q';cases q'
   obtain ⟨v,hv⟩:=heo
   exact ⟨v,by rw [hbe];exact hv⟩
  ·refine (ok b u q).stay (fun c v hc r=>k c v ?_ r) (fun c r=>by rw [qT (nown c b r)];exact r) fun c xs r=>by rw [qT (ntup c xs r)];exact r
   rcases hc with rfl | hc
   ·exact hbe
   ·rintro rfl
    rcases he with z | z
    ·exact nown c b hc z
    ·rw [hc] at z;cases z;exact hb rfl
end
structure Un (fs ex:List Addr)(H H':Hp)(h h':Heap):Prop where
 keep:∀ b o,h.get? b=some o→H b=none→b ∉ fs→b ∉ ex→h'.get? b=some o
 slot:∀ b o,h.get? b=some o→H b=none→b ∈ fs→b ∉ ex→∃ sl,h'.get? b=some { o with slots:=sl }
 free:∀ b o,h.get? b=some o→H b=none→b ∉ ex→H' b=none
 there:∀ b o,h.get? b=some o→b ∉ ex→∃ o',h'.get? b=some o'
 tups:∀ b xs,H b=some (.tup xs)→H' b=some (.tup xs)
 frzs:∀ b o u,H b=some (.frz o u)→H' b=some (.frz o u)
 tbls:∀ b ps,H b=some (.tbl ps)→∃ more,H' b=some (.tbl (ps ++ more))
section
variable {fs fs' ex ex':List Addr}{H H1 H2:Hp}{h h1 h2 h':Heap}{a x e:Addr}{o:HO}
theorem Un.any (u:Un fs ex H H1 h h1){b:Addr}{ob:Obj}(q:h.get? b=some ob)(n:H b=none)(hx:b ∉ ex):∃ sl,h1.get? b=some { ob with slots:=sl }:=by
 by_cases hb:b ∈ fs
 ·exact u.slot b ob q n hb hx
 ·exact ⟨ob.slots,u.keep b ob q n hb hx⟩
theorem Un.kept (k:∀ b u,h.get? b=some u→h'.get? b=some u):Un fs ex H H h h' :=
 ⟨fun b ob q _ _ _=>k b ob q,fun b ob q _ _ _=>⟨ob.slots,k b ob q⟩,fun _ _ _ n _=>n,fun b ob q _=>⟨ob,k b ob q⟩,fun _ _ q=>q,fun _ _ _ q=>q,fun _ ps q=>⟨#[],by rw [q];simp⟩⟩
theorem Un.refl:Un fs ex H H h h:=Un.kept fun _ _ q=>q
theorem Un.laid (k:∀ b u,h.get? b=some u→h'.get? b=some u)(hp:h.objs.size ≤ a)(hn:H a=none):Un fs ex H (upd H a o) h h' where
 keep:=fun b u q _ _ _=>k b u q
 slot:=fun b u q _ _ _=>⟨u.slots,k b u q⟩
 free:=fun b u q n _=>by rw [qT (AA (A3 (Au q) hp))];exact n
 there:=fun b u q _=>⟨u,k b u q⟩
 tups:=fun b xs q=>by rw [qT (qF q hn)];exact q
 frzs:=fun b u xs q=>by rw [qT (qF q hn)];exact q
 tbls:=fun b ps q=>⟨#[],by rw [qT (qF q hn),q];simp⟩
theorem Un.write (mu:Mut (H x))(he:e=x∨H e=some (.own x))(k:∀ b u,b ≠ e→h.get? b=some u→h'.get? b=some u)(heo:∃ u,h'.get? e=some u):Un fs ex H (upd H x o) h h':=by
 have hx:∀ b,H b=none→b ≠ x:=fun b n z=>by subst z;rw [n] at mu;exact mu
 have hb:∀ b,H b=none→b ≠ e:=fun b n z=>by
  subst z
  rcases he with r | r
  ·exact hx b n r
  ·rw [n] at r;cases r
 have hm:∀ b u,H b=some u→¬ Mut (some u)→b ≠ x:=fun b u q nm z=>by subst z;rw [q] at mu;exact nm mu
 refine ⟨fun b u q n _ _=>k b u (hb b n) q,fun b u q n _ _=>⟨u.slots,k b u (hb b n) q⟩,fun b u q n _=>by rw [qT (hx b n)];exact n,fun b u q _=>?_,
  fun b xs q=>by rw [qT (hm b _ q fun z=>z)];exact q,fun b u xs q=>by rw [qT (hm b _ q fun z=>z)];exact q,fun b ps q=>⟨#[],by rw [qT (hm b _ q fun z=>z),q];simp⟩⟩
 by_cases hbe:b=e
 ·subst hbe;exact heo
 ·exact ⟨u,k b u hbe q⟩
end
def trk (h:Heap)(H:Hp):List Addr:=(List.range h.objs.size).filter fun a=>(H a).isSome
def rG (h:Heap)(H:Hp):Heap:=PySem.W.hideAll h (trk h H)
theorem hidT_size (h:Heap)(H:Hp):(rG h H).objs.size=h.objs.size:=PySem.W.hideAll_size _ _
theorem hidT_get {h:Heap}{H:Hp}{b:Addr}{o:Obj}(e:h.get? b=some o)(n:H b=none):(rG h H).get? b=some o :=
 PySem.W.hideAll_get _ e fun hm=>by
  have q:(H b).isSome=true:=(Bj.mp hm).2
  rw [n] at q;simp at q
theorem of_hidT {h:Heap}{H:Hp}{b:Addr}{o:Obj}(e:(rG h H).get? b=some o):h.get? b=some o∧H b=none:=by
 have e':h.get? b=some o:=PySem.W.of_hideAll (trk h H) e
 refine ⟨e',?_⟩
 cases q:H b with
 | none=>rfl
 | some x =>
  have hm:b ∈ trk h H:=Bj.mpr ⟨AI.mpr (Au e'),by simp [q]⟩
  have z:(rG h H).get? b=none:=PySem.W.hideAll_none (trk h H) hm
  rw [z] at e;cases e
def allNews (g h:Heap)(L:Addr):List (Addr × Obj):=(List.range h.objs.size).filterMap fun a=>if a=L∨(g.get? a).isSome=true then none else (h.get? a).map fun o=>(a,o)
def rest (g h:Heap)(L d:Addr):List (Addr × Obj):=(allNews g h L).filter fun p=>decide (p.1 ≠ d)
end L2
namespace L2
open PySem PySem.Spec PyProof.Rows
structure Mod (K:PySem.W.Frag)(mg:Str→Option Value)(base:Heap):Prop where
 kin:K.In base
 glob:base.Ns mainGlobals mg
 blt:∃ mb,base.Ns builtinsNs mb∧∀ x:Str,x ≠ "__name__" → mb x=bootBuiltins x
 nolimit:base.NoLimit
structure Cx where
 prog:Program
 w:World
 K:PySem.W.Frag
 mg:Str→Option Value
 base:Heap
 A:Around
 N:List Str
 s₀:Shared
 H₀:Hp
 env:Env
 outer:List Env
 stack:List Env
 ex:List Addr
 fn:Str→Bool
 calm:Bool
 pn:List (Addr × Obj)
 xe:Value→Shared→Prop
def frs (l:List Env):List Addr:=l.filterMap (·.frame)
abbrev Cx.fs (X:Cx):List Addr:=frs X.outer
def Vis (sc:Scope)(x:Str):Prop:=sc.names.lookup x=some .local∨sc.names.lookup x=some .cell∨sc.names.lookup x=some .free
def Loc (sc:Scope)(x:Str):Prop:=sc.names.lookup x=some .local∨sc.names.lookup x=some .cell
def Look (env:Env)(h:Heap)(m:Str→Option Value)(x:Str)(u:Value):Prop :=
 (env.kindOf x=some .local∧m x=some u)∨((env.kindOf x=some .cell∨env.kindOf x=some .free)∧∃ c,env.cells.lookup x=some c∧h.IsCell c (some u))
structure Cx.Ok (X:Cx):Prop where
 mod:Mod X.K X.mg X.base
 kind:X.env.scope.kind = .function
 glob:X.env.globals=mainGlobals
 blt:X.env.builtins=builtinsNs
 above:X.s₀.heap.objs.size ≤ X.env.locals
 inj:∀ x y c,X.env.cells.lookup x=some c→X.env.cells.lookup y=some c→x=y
 has:∀ x,(X.env.kindOf x=some .cell∨X.env.kindOf x=some .free)→∃ c,X.env.cells.lookup x=some c
 cab:∀ x c,X.fn x=true→X.env.cells.lookup x=some c→X.s₀.heap.objs.size ≤ c
 hd:X.calm=true→X.A.handled=none
 frames:X.A.frames=some X.stack
 stk:X.stack=X.outer∨(X.stack=X.env :: X.outer∧X.env.frame=some X.env.locals)
 exf:∀ b ∈ X.ex,b ≠ X.env.locals∧∀ x c,X.env.cells.lookup x=some c→c ≠ b
 bs:∀ b o,X.base.get? b=some o→X.s₀.heap.get? b=some o∧X.H₀ b=none
 bsz:X.base.objs.size ≤ X.s₀.heap.objs.size
 noex:∀ b o,X.base.get? b=some o→b ∉ X.ex
 exfs:∀ b ∈ X.ex,b ∉ X.fs
 funs:X.s₀.heap.FunFrames X.base X.outer
 frf:∀ b ∈ X.fs,X.H₀ b=none
structure Inv (X:Cx)(pins:List (Addr × Obj))(σ:List (Option V))(H:Hp)(s:Shared):Prop where
 ok:X.Ok
 os:s.os=X.s₀.os
 bare:AllBare s.gens
 base:Un X.fs X.ex X.H₀ H X.s₀.heap s.heap
 loc:∃ m,s.heap.Ns X.env.locals m∧∀ (i:Nat) (x:Str) (v:V),X.N[i]? = some x→σ[i]? = some (some v)→Vis X.env.scope x→∃ u,RelV v u∧Look X.env s.heap m x u
 cell:∀ x c,X.env.cells.lookup x=some c→∃ v,s.heap.IsCell c v
 free:H X.env.locals=none
 freeC:∀ x c,X.env.cells.lookup x=some c→H c=none
 pin:∀ p ∈ X.pn ++ pins,s.heap.get? p.1=some p.2∧H p.1=none∧p.1 ≠ X.env.locals∧p.1 ∉ X.fs∧∀ v,p.2.data ≠ .cell v
 hok:HOk X.prog X.w H s.heap
 len:σ.length=X.N.length
section
variable {X:Cx}{pins:List (Addr × Obj)}{σ:List (Option V)}{H H':Hp}{s:Shared}{h':Heap}
theorem Cx.Ok.nofr (ok:X.Ok){b:Addr}{o:Obj}(e:X.base.get? b=some o):b ∉ X.fs:=fun hb=>by
 have:=(ok.funs.mem hb).1
 rw [e] at this;cases this
theorem Inv.bs (I:Inv X pins σ H s):∀ b o,X.base.get? b=some o→s.heap.get? b=some o∧H b=none:=fun b o e =>
 ⟨I.base.keep b o (I.ok.bs b o e).1 (I.ok.bs b o e).2 (I.ok.nofr e) (I.ok.noex b o e),I.base.free b o (I.ok.bs b o e).1 (I.ok.bs b o e).2 (I.ok.noex b o e)⟩
theorem Inv.bk (I:Inv X pins σ H s):∀ b o,X.base.get? b=some o→s.heap.get? b=some o:=fun b o e=>(I.bs b o e).1
theorem Inv.mod (I:Inv X pins σ H s):Mod X.K X.mg X.base:=I.ok.mod
theorem Inv.kIn (I:Inv X pins σ H s):X.K.In s.heap:=I.ok.mod.kin.keeps I.bk
theorem Inv.lt (I:Inv X pins σ H s):X.env.locals < s.heap.objs.size:=let ⟨_,hn,_⟩:=I.loc;hn.lt
theorem Inv.sz (I:Inv X pins σ H s):X.s₀.heap.objs.size ≤ s.heap.objs.size:=AK I.ok.above (B5 I.lt)
theorem Inv.nofs (I:Inv X pins σ H s){a:Addr}(h:s.heap.objs.size ≤ a):a ∉ X.fs:=fun hb=>by
 obtain ⟨_,o,ho,_⟩:=I.ok.funs.mem hb
 exact absurd (A3 (Au ho) (AK I.sz h)) (AQ _)
theorem Inv.cne (I:Inv X pins σ H s):∀ x c,X.env.cells.lookup x=some c→c ≠ X.env.locals:=fun x c e z=>by
 obtain ⟨v,o,ho,hd⟩:=I.cell x c e
 obtain ⟨m,⟨o',es,ep,ho',hd',_⟩,_⟩:=I.loc
 rw [z,ho'] at ho;cases ho;rw [hd'] at hd;cases hd
theorem Inv.funs (I:Inv X pins σ H s):s.heap.FunFrames X.base X.outer:=by
 have all:∀ (l:List Env),(∀ b ∈ frs l,b ∈ X.fs)→X.s₀.heap.FunFrames X.base l→s.heap.FunFrames X.base l:=by
  intro l
  induction l with
  | nil=>intro _ _;trivial
  | cons env r ih =>
   intro hs hl
   obtain ⟨hk,⟨L,o,hf,hn,ho,hd⟩,hr⟩:=hl
   have hL:L ∈ X.fs:=hs L (by unfold frs;rw [C6,hf];exact Af)
   obtain ⟨sl,e⟩:=I.base.slot L o ho (I.ok.frf L hL) hL fun z=>I.ok.exfs L z hL
   exact ⟨hk,⟨L,_,hf,hn,e,hd⟩,ih (fun b hb=>hs b (by unfold frs;rw [C6,hf];exact Ad _ hb)) hr⟩
 exact all X.outer (fun _ hb=>hb) I.ok.funs
theorem Inv.stack (I:Inv X pins σ H s):s.heap.FunFrames X.base X.stack:=by
 rcases I.ok.stk with e | ⟨e,hf⟩
 ·rw [e];exact I.funs
 ·rw [e]
  obtain ⟨m,hn,_⟩:=I.loc
  refine .cons (by rw [I.ok.kind];decide) hf hn ?_ I.funs
  exact Heap.get?_none_of_le (AK I.ok.bsz I.ok.above)
theorem Inv.stkSub (I:Inv X pins σ H s):∀ b ∈ frs X.stack,b ∈ X.env.locals :: X.fs:=fun b hb=>by
 rcases I.ok.stk with e | ⟨e,hf⟩
 ·rw [e] at hb;exact Ad _ hb
 ·rw [e] at hb
  unfold frs at hb
  rw [C6,hf] at hb
  exact hb
theorem Inv.stkFree (I:Inv X pins σ H s):∀ b ∈ frs X.stack,H b=none:=fun b hb=>by
 rcases Ax.mp (I.stkSub b hb) with e | hb
 ·rw [e];exact I.free
 ·obtain ⟨_,o,ho,_⟩:=I.ok.funs.mem hb
  exact I.base.free b o ho (I.ok.frf b hb) fun z=>I.ok.exfs b z hb
theorem Inv.step {g':Array GenState}{t':Nat}{d':Drawn}{ch:List Addr}(I:Inv X pins σ H s)
  (hch:∀ b ∈ ch,(b ∈ X.ex∨X.s₀.heap.objs.size ≤ b)∧b ≠ X.env.locals∧(∀ x c,X.env.cells.lookup x=some c→c ≠ b)∧∀ p ∈ X.pn ++ pins,p.1 ≠ b)
  (keep:∀ b o,b ≠ X.env.locals→b ∉ X.fs→b ∉ ch→s.heap.get? b=some o→H b=none→h'.get? b=some o)
  (slot:∀ b o,b ≠ X.env.locals→b ∈ X.fs→b ∉ ch→s.heap.get? b=some o→H b=none→∃ sl,h'.get? b=some { o with slots:=sl }) (free:∀ b o,b ∉ ch→s.heap.get? b=some o→H b=none→H' b=none)
  (there:∀ b o,b ∉ ch→s.heap.get? b=some o→∃ o',h'.get? b=some o')
  (tups:∀ b xs,H b=some (.tup xs)→H' b=some (.tup xs)) (frzs:∀ b o u,H b=some (.frz o u)→H' b=some (.frz o u)) (tbls:∀ b ps,H b=some (.tbl ps)→∃ more,H' b=some (.tbl (ps ++ more)))
  (ns:∀ m,s.heap.Ns X.env.locals m→h'.Ns X.env.locals m) (hok:HOk X.prog X.w H' h') (hg:AllBare g') :
  Inv X pins σ H' { s with heap:=h',gens:=g',drawn:=d',toks:=t' }:=by
 have neL:∀ b o,X.s₀.heap.get? b=some o→b ≠ X.env.locals:=fun b o e=>AA (A3 (Au e) I.ok.above)
 have neC:∀ b o,X.s₀.heap.get? b=some o→b ∉ X.ex→b ∉ ch:=fun b o e hx hb=>by
  rcases (hch b hb).1 with z | z
  ·exact hx z
  ·exact absurd (A3 (Au e) z) (AQ _)
 have cellK:∀ x c,X.env.cells.lookup x=some c→∀ v,s.heap.IsCell c v→h'.IsCell c v:=fun x c e v ⟨o,ho,hd⟩=>by
  have nch:c ∉ ch:=fun z=>(hch c z).2.2.1 x c e rfl
  by_cases hc:c ∈ X.fs
  ·obtain ⟨sl,q⟩:=slot c o (I.cne x c e) hc nch ho (I.freeC x c e)
   exact ⟨_,q,hd⟩
  ·exact ⟨o,keep c o (I.cne x c e) hc nch ho (I.freeC x c e),hd⟩
 refine ⟨I.ok,I.os,hg,⟨fun b o e n hb hx=>?_,fun b o e n hb hx=>?_,fun b o e n hx=>?_,fun b o e hx=>?_,fun b xs e=>tups b xs (I.base.tups b xs e),fun b o xs e=>frzs b o xs (I.base.frzs b o xs e),fun b ps e=>?_⟩,?_,fun x c e=>?_,?_,fun x c e=>?_,fun p hp=>?_,hok,I.len⟩
 ·exact keep b o (neL b o e) hb (neC b o e hx) (I.base.keep b o e n hb hx) (I.base.free b o e n hx)
 ·obtain ⟨sl,e1⟩:=I.base.slot b o e n hb hx
  obtain ⟨sl',e2⟩:=slot b _ (neL b o e) hb (neC b o e hx) e1 (I.base.free b o e n hx)
  exact ⟨sl',e2⟩
 ·obtain ⟨o',e1⟩:=I.base.there b o e hx
  exact free b o' (neC b o e hx) e1 (I.base.free b o e n hx)
 ·obtain ⟨o',e1⟩:=I.base.there b o e hx
  exact there b o' (neC b o e hx) e1
 ·obtain ⟨m1,e1⟩:=I.base.tbls b ps e
  obtain ⟨m2,e2⟩:=tbls b _ e1
  exact ⟨m1 ++ m2,by rw [e2,Array.append_assoc]⟩
 ·obtain ⟨m,hn,hl⟩:=I.loc
  refine ⟨m,ns m hn,fun i x v e1 e2 e3=>?_⟩
  obtain ⟨u,r,l⟩:=hl i x v e1 e2 e3
  refine ⟨u,r,?_⟩
  rcases l with l | ⟨k,c,e,z⟩
  ·exact .inl l
  ·exact .inr ⟨k,c,e,cellK x c e _ z⟩
 ·obtain ⟨v,z⟩:=I.cell x c e
  exact ⟨v,cellK x c e v z⟩
 ·obtain ⟨m,⟨o,_,_,ho,_⟩,_⟩:=I.loc
  exact free _ o (fun z=>(hch _ z).2.1 rfl) ho I.free
 ·obtain ⟨v,o,ho,hd⟩:=I.cell x c e
  exact free c o (fun z=>(hch c z).2.2.1 x c e rfl) ho (I.freeC x c e)
 ·obtain ⟨e,n,ne,nf,d⟩:=I.pin p hp
  have nch:p.1 ∉ ch:=fun z=>(hch p.1 z).2.2.2 p hp rfl
  exact ⟨keep p.1 p.2 ne nf nch e n,free p.1 p.2 nch e n,ne,nf,d⟩
theorem Inv.un {t':Nat}(I:Inv X pins σ H s)(u:Un X.fs [] H H' s.heap h')(hok:HOk X.prog X.w H' h'):Inv X pins σ H' { s with heap:=h',toks:=t' }:=by
 obtain ⟨m,⟨o,es,ep,ho,r⟩,_⟩:=id I.loc
 obtain ⟨sl,hL⟩:=u.any ho I.free (by simp)
 exact I.step (g':=s.gens) (d':=s.drawn) (ch:=[]) (fun _ z=>nomatch z) (fun b o _ hb _ e n=>u.keep b o e n hb (by simp)) (fun b o _ hb _ e n=>u.slot b o e n hb (by simp)) (fun b o _ e n=>u.free b o e n (by simp)) (fun b o _ e=>u.there b o e (by simp)) u.tups u.frzs u.tbls (fun m' hm=>by
  obtain ⟨o',es',ep',ho',r'⟩:=hm
  rw [ho] at ho';cases ho'
  exact ⟨_,es',ep',hL,r'⟩) hok I.bare
theorem Inv.call {g':Array GenState}{t':Nat}{d':Drawn}{ch:List Addr}(I:Inv X pins σ H s)(u:Un (frs X.stack) ch H H' s.heap h')(hok:HOk X.prog X.w H' h')(hg:AllBare g')
  (hch:∀ b ∈ ch,(b ∈ X.ex∨X.s₀.heap.objs.size ≤ b)∧b ≠ X.env.locals∧(∀ x c,X.env.cells.lookup x=some c→c ≠ b)∧∀ p ∈ X.pn ++ pins,p.1 ≠ b) :
  Inv X pins σ H' { s with heap:=h',gens:=g',drawn:=d',toks:=t' }:=by
 obtain ⟨m,⟨o,es,ep,ho,r⟩,_⟩:=id I.loc
 obtain ⟨sl,hL⟩:=u.any ho I.free fun z=>(hch _ z).2.1 rfl
 exact I.step (ch:=ch) hch (fun b o hL hb hc e n=>u.keep b o e n (fun z=>(Ax.mp (I.stkSub b z)).elim hL hb) hc) (fun b o _ _ hc e n=>u.any e n hc) (fun b o hc e n=>u.free b o e n hc) (fun b o hc e=>u.there b o e hc) u.tups u.frzs u.tbls (fun m' hm=>by
  obtain ⟨o',es',ep',ho',r'⟩:=hm
  rw [ho] at ho';cases ho'
  exact ⟨_,es',ep',hL,r'⟩) hok hg
theorem Inv.turned {t':Nat}{it:Addr}(I:Inv X pins σ H s)(k:∀ b o,b ≠ it→s.heap.get? b=some o→h'.get? b=some o)(hn:H it=none)(hL:it ≠ X.env.locals)
  (h1:it ∈ X.ex∨X.s₀.heap.objs.size ≤ it) (h2:∀ x c,X.env.cells.lookup x=some c→c ≠ it) (h3:∀ p ∈ X.pn ++ pins,p.1 ≠ it):Inv X pins σ H { s with heap:=h',toks:=t' }:=by
 have nit:∀ b u,H b=some u→b ≠ it:=fun b u e z=>by rw [z,hn] at e;cases e
 refine I.step (g':=s.gens) (d':=s.drawn) (ch:=[it]) (fun b hb=>?_) (fun b o _ _ hc e _=>k b o (fun z=>hc (by simp [z])) e) (fun b o _ _ hc e _=>⟨o.slots,k b o (fun z=>hc (by simp [z])) e⟩) (fun _ _ _ _ n=>n)
  (fun b o hc e=>⟨o,k b o (fun z=>hc (by simp [z])) e⟩) (fun _ _ e=>e) (fun _ _ _ e=>e) (fun b ps e=>⟨#[],by rw [e];simp⟩) (fun m hm=>?_) (fun b u e=>?_) I.bare
 ·have e:b=it:=by simpa using hb
  subst e
  exact ⟨h1,hL,h2,h3⟩
 ·obtain ⟨o,es,ep,ho,r⟩:=hm
  exact ⟨o,es,ep,k _ o (Co hL) ho,r⟩
 ·refine (I.hok b u e).stay (fun c v hc q=>k c v ?_ q) (fun _ q=>q) fun _ _ q=>q
  rcases hc with z | z
  ·rw [z];exact nit b u e
  ·exact nit c _ z
theorem Inv.tok (I:Inv X pins σ H s)(t:Nat):Inv X pins σ H { s with toks:=t }:=I.un (h':=s.heap) (t':=t) Un.refl I.hok
theorem Inv.kept {t':Nat}(I:Inv X pins σ H s)(k:∀ b u,s.heap.get? b=some u→h'.get? b=some u):Inv X pins σ H { s with heap:=h',toks:=t' }:=I.un (Un.kept k) (I.hok.kept k)
theorem Inv.laid {a:Addr}{o:HO}{t':Nat}(I:Inv X pins σ H s)(k:∀ b u,s.heap.get? b=some u→h'.get? b=some u)(hp:s.heap.objs.size ≤ a)(new:ObjOk X.prog X.w (upd H a o) h' a o) :
  Inv X pins σ (upd H a o) { s with heap:=h',toks:=t' }:=I.un (Un.laid k hp (I.hok.fresh hp)) (I.hok.laid k hp new)
theorem Inv.write {x e:Addr}{o:HO}{t':Nat}(I:Inv X pins σ H s)(mu:Mut (H x))(he:e=x∨H e=some (.own x))(k:∀ b u,b ≠ e→s.heap.get? b=some u→h'.get? b=some u)(heo:∃ u,h'.get? e=some u)
  (new:ObjOk X.prog X.w (upd H x o) h' x o):Inv X pins σ (upd H x o) { s with heap:=h',toks:=t' }:=I.un (Un.write mu he k heo) (I.hok.write mu he k heo new)
theorem Inv.pins_of {pins':List (Addr × Obj)}(I:Inv X pins σ H s)(h:∀ p ∈ pins',s.heap.get? p.1=some p.2∧H p.1=none∧p.1 ≠ X.env.locals∧p.1 ∉ X.fs∧∀ v,p.2.data ≠ .cell v):Inv X pins' σ H s :=
 ⟨I.ok,I.os,I.bare,I.base,I.loc,I.cell,I.free,I.freeC,fun p hp=>(AG.mp hp).elim (fun z=>I.pin p (AM _ z)) (h p),I.hok,I.len⟩
theorem tL {N:List Str}(hN:N.Nodup){i j:Nat}{x:Str}(a:N[i]? = some x)(b:N[j]? = some x):i=j:=by
 obtain ⟨h1,e1⟩:=Ai.mp a
 obtain ⟨h2,e2⟩:=Ai.mp b
 exact (List.getElem_inj hN).mp (e1.trans e2.symm)
theorem nQ {M:Model}{A:Around}{E:Value→Shared→Prop}{i:Nat}{x:Str}{v:V}{u:Value}{Q:Unit→Shared→Prop}(I:Inv X pins σ H s)(hN:X.N.Nodup)(hi:X.N[i]? = some x)(hx:Loc X.env.scope x)(r:RelV v u)
  (h:∀ s',Inv X pins (σ.set i (some v)) H s'→(∃ a,Heap.SameBut a s.heap s'.heap∧(a=X.env.locals∨X.env.cells.lookup x=some a))→Q () s') (hf:X.fn x=true∨X.env.scope.names.lookup x=some .local:=by first | exact .inl rfl | exact .inr rfl | assumption):wpAny M A (storeName X.env x u) Q E s:=by
 obtain ⟨m,hn,hl⟩:=id I.loc
 have hcls:(X.env.scope.kind == .class || (X.env.scope.kind == .module && X.env.locals != X.env.globals))=false:=by rw [I.ok.kind];rfl
 have hiσ:i < σ.length:=by rw [I.len];exact (Ai.mp hi).1
 have cne:=I.cne
 have tracked:∀ {a:Addr} {h':Heap},(∃ o,s.heap.get? a=some o∧H a=none)→Heap.SameBut a s.heap h'→HOk X.prog X.w H h':=fun {a h'} ha hs b ob e=>by
  obtain ⟨_,_,hfree⟩:=ha
  refine (I.hok b ob e).stay (fun c w' hc q=>(hs.2 c ?_).trans q) (fun _ q=>q) fun _ _ q=>q
  rintro rfl
  rcases hc with rfl | hc
  ·rw [hfree] at e;cases e
  ·rw [hfree] at hc;cases hc
 rcases hx with hk | hk
 ·refine wpAny_storeName_local hk hn (fun h' hn' hs=>?_) hcls
  obtain ⟨oL,_,_,hoL,_⟩:=id hn
  refine h _ ⟨I.ok,I.os,I.bare,⟨fun b o e n hb hx=>?_,fun b o e n hb hx=>?_,I.base.free,fun b o e hx=>?_,I.base.tups,I.base.frzs,I.base.tbls⟩,⟨_,hn',fun j y v' e1 e2 e3=>?_⟩,fun y c e=>?_,I.free,I.freeC,fun p hp=>?_,tracked ⟨oL,hoL,I.free⟩ hs,by simpa using I.len⟩ ⟨_,hs,.inl rfl⟩
  ·exact (hs.2 b (AA (A3 (Au e) I.ok.above))).trans (I.base.keep b o e n hb hx)
  ·obtain ⟨sl,e1⟩:=I.base.slot b o e n hb hx
   exact ⟨sl,(hs.2 b (AA (A3 (Au e) I.ok.above))).trans e1⟩
  ·obtain ⟨o',e1⟩:=I.base.there b o e hx
   exact ⟨o',(hs.2 b (AA (A3 (Au e) I.ok.above))).trans e1⟩
  ·by_cases hj:j=i
   ·subst hj
    rw [hi] at e1;cases e1
    rw [List.getElem?_set_self hiσ] at e2
    cases e2
    exact ⟨u,r,.inl ⟨hk,by simp⟩⟩
   ·rw [List.getElem?_set_ne (Co hj)] at e2
    obtain ⟨u',r',q⟩:=hl j y v' e1 e2 e3
    refine ⟨u',r',?_⟩
    rcases q with ⟨k,e⟩ | ⟨k,c,e,z⟩
    ·refine .inl ⟨k,?_⟩
     have:y ≠ x:=fun e=>hj (tL hN e1 (e ▸ hi))
     simp [this,e]
    ·exact .inr ⟨k,c,e,z.sameBut hs (cne y c e)⟩
  ·obtain ⟨w',z⟩:=I.cell y c e
   exact ⟨w',z.sameBut hs (cne y c e)⟩
  ·obtain ⟨e,n,ne,nf,d⟩:=I.pin p hp
   exact ⟨(hs.2 p.1 ne).trans e,n,ne,nf,d⟩
 ·have hfn:X.fn x=true:=by
   rcases hf with z | z
   ·exact z
   ·rw [z] at hk;cases hk
  obtain ⟨c,hc⟩:=I.ok.has x (.inl hk)
  obtain ⟨w',z⟩:=I.cell x c hc
  refine wpAny_storeName_cell I.ok.kind hk hc z (fun h' hc' hs=>?_)
  obtain ⟨oc,hoc,hocd⟩:=id z
  refine h { s with heap:=h' } ⟨I.ok,I.os,I.bare,⟨fun b o e n hb hx=>?_,fun b o e n hb hx=>?_,I.base.free,fun b o e hx=>?_,I.base.tups,I.base.frzs,I.base.tbls⟩,⟨m,hn.sameBut hs (Co (cne x c hc)),fun j y v' e1 e2 e3=>?_⟩,fun y c' e=>?_,I.free,I.freeC,fun p hp=>?_,tracked ⟨oc,hoc,I.freeC x c hc⟩ hs,by simpa using I.len⟩ ⟨c,hs,.inr hc⟩
  ·exact (hs.2 b (AA (A3 (Au e) (I.ok.cab x c hfn hc)))).trans (I.base.keep b o e n hb hx)
  ·obtain ⟨sl,e1⟩:=I.base.slot b o e n hb hx
   exact ⟨sl,(hs.2 b (AA (A3 (Au e) (I.ok.cab x c hfn hc)))).trans e1⟩
  ·obtain ⟨o',e1⟩:=I.base.there b o e hx
   exact ⟨o',(hs.2 b (AA (A3 (Au e) (I.ok.cab x c hfn hc)))).trans e1⟩
  ·by_cases hj:j=i
   ·subst hj
    rw [hi] at e1;cases e1
    rw [List.getElem?_set_self hiσ] at e2
    cases e2
    exact ⟨u,r,.inr ⟨.inl hk,c,hc,hc'⟩⟩
   ·rw [List.getElem?_set_ne (Co hj)] at e2
    obtain ⟨u',r',q⟩:=hl j y v' e1 e2 e3
    refine ⟨u',r',?_⟩
    rcases q with q | ⟨k,c',e,z'⟩
    ·exact .inl q
    ·refine .inr ⟨k,c',e,z'.sameBut hs ?_⟩
     rintro rfl
     exact hj (tL hN e1 (I.ok.inj _ _ _ e hc ▸ hi))
  ·by_cases hcc:c'=c
   ·subst hcc;exact ⟨_,hc'⟩
   ·obtain ⟨w2,z2⟩:=I.cell y c' e
    exact ⟨w2,z2.sameBut hs hcc⟩
  ·obtain ⟨e,n,ne,nf,d⟩:=I.pin p hp
   refine ⟨(hs.2 p.1 ?_).trans e,n,ne,nf,d⟩
   intro q
   rw [q,hoc] at e
   have q':oc=p.2:=AH e
   exact d w' (by rw [← q'];exact hocd)
theorem fA {M:Model}{A:Around}{E:Value→Shared→Prop}{i:Nat}{x:Str}{v:V}{u:Value}{Q:Unit→Shared→Prop}(I:Inv X pins σ H s)(hN:X.N.Nodup)(hi:X.N[i]? = some x)(hx:Loc X.env.scope x)(r:RelV v u)
  (h:∀ s',Inv X pins (σ.set i (some v)) H s'→Q () s') (hf:X.fn x=true∨X.env.scope.names.lookup x=some .local:=by first | exact .inl rfl | exact .inr rfl | assumption):wpAny M A (storeName X.env x u) Q E s :=
 nQ I hN hi hx r (fun s' I' _=>h s' I') hf
theorem Inv.call' {s':Shared}{ch:List Addr}(I:Inv X pins σ H s)(ho:s'.os=s.os)(u:Un (frs X.stack) ch H H' s.heap s'.heap)(hok:HOk X.prog X.w H' s'.heap)(hg:AllBare s'.gens)
  (hch:∀ b ∈ ch,(b ∈ X.ex∨X.s₀.heap.objs.size ≤ b)∧b ≠ X.env.locals∧(∀ x c,X.env.cells.lookup x=some c→c ≠ b)∧∀ p ∈ X.pn ++ pins,p.1 ≠ b):Inv X pins σ H' s':=by
 obtain ⟨h',g',d',t',o'⟩:=s'
 have e:o'=s.os:=ho
 subst e
 exact I.call (g':=g') (t':=t') (d':=d') u hok hg hch
end
abbrev XK:=Value→Option Addr→Hp→Prop
abbrev St:=List (Option V)
abbrev VK:=V→Hp→Prop
abbrev TE:=St→Hp→VK→Prop
abbrev TT:=St→Hp→(Bool→Hp→Prop)→Prop
abbrev TA:=St→Hp→(List V→Hp→Prop)→Prop
structure Ends where
 nx:St→Hp→Prop
 rt:VK
 bk:St→Hp→Prop:=fun _ _=>False
 ct:St→Hp→Prop:=fun _ _=>False
abbrev TS:=Ends→St→Hp→Prop
def EP (X:Cx)(pins:List (Addr × Obj))(σ:St)(Q:VK)(u:Value)(s':Shared):Prop:=∃ v H',Inv X pins σ H' s'∧RelV v u∧Q v H'
def TP (X:Cx)(pins:List (Addr × Obj))(σ:St)(Q:Bool→Hp→Prop)(b:Bool)(s':Shared):Prop:=∃ H',Inv X pins σ H' s'∧Q b H'
def AP (X:Cx)(pins:List (Addr × Obj))(σ:St)(Q:List V→Hp→Prop)(us:List Value)(s':Shared):Prop:=∃ vs H',Inv X pins σ H' s'∧Vals vs us∧Q vs H'
def SP (X:Cx)(pins:List (Addr × Obj))(D:Ends)(f:Flow)(s':Shared):Prop :=
 match f with
 | .next=>∃ σ' H',Inv X pins σ' H' s'∧D.nx σ' H'
 | .brk=>∃ σ' H',Inv X pins σ' H' s'∧D.bk σ' H'
 | .cont=>∃ σ' H',Inv X pins σ' H' s'∧D.ct σ' H'
 | .ret u=>∃ v σ' H',Inv X pins σ' H' s'∧RelV v u∧D.rt v H'
def PE (X:Cx)(e:Expr)(t:TE):Prop :=
 ∀ (pins:List (Addr × Obj)) (s:Shared) (σ:St) (H:Hp) (Q:VK),Inv X pins σ H s→t σ H Q→wpAny (model X.prog X.w) X.A (eval e X.env) (EP X pins σ Q) X.xe s
def PT (X:Cx)(e:Expr)(t:TT):Prop :=
 ∀ (pins:List (Addr × Obj)) (s:Shared) (σ:St) (H:Hp) (Q:Bool→Hp→Prop),Inv X pins σ H s→t σ H Q→wpAny (model X.prog X.w) X.A (isTrue e X.env (eval e X.env)) (TP X pins σ Q) X.xe s
def PW (X:Cx)(e:Expr)(t:TT):Prop :=
 ∀ (whole:Sem Value) (pins:List (Addr × Obj)) (s:Shared) (σ:St) (H:Hp) (Q:Bool→Hp→Prop),Inv X pins σ H s→t σ H Q→wpAny (model X.prog X.w) X.A (isTrue e X.env whole) (TP X pins σ Q) X.xe s
theorem PW.pt {X:Cx}{e:Expr}{t:TT}(h:PW X e t):PT X e t:=h _
def PA (X:Cx)(es:List Expr)(t:TA):Prop :=
 ∀ (pos:Pos) (pins:List (Addr × Obj)) (s:Shared) (σ:St) (H:Hp) (Q:List V→Hp→Prop),Inv X pins σ H s→t σ H Q→wpAny (model X.prog X.w) X.A (spliced (backTo pos (starEach es X.env))) (AP X pins σ Q) X.xe s
def PS (X:Cx)(st:Stmt)(t:TS):Prop :=
 ∀ (pins:List (Addr × Obj)) (s:Shared) (σ:St) (H:Hp) (D:Ends),Inv X pins σ H s→t D σ H→wpAny (model X.prog X.w) X.A (exec st X.env) (SP X pins D) X.xe s
def PSs (X:Cx)(st:List Stmt)(t:TS):Prop :=
 ∀ (pins:List (Addr × Obj)) (s:Shared) (σ:St) (H:Hp) (D:Ends),Inv X pins σ H s→t D σ H→wpAny (model X.prog X.w) X.A (execs st X.env) (SP X pins D) X.xe s
theorem jU {α:Type}{t:Sem α}{Q Q':α→Shared→Prop}{M:Model}{A:Around}{E:Value→Shared→Prop}{s:Shared}(h:wpAny M A t Q E s)(hQ:∀ a s,Q a s→Q' a s):wpAny M A t Q' E s:=wpAny_mono h hQ fun _ _ x=>x
end L2
namespace L2
open PySem PySem.Spec PyProof.Rows
section
variable {X:Cx}
theorem bin {a b:Expr}{ta tb:TE}(ha:PE X a ta)(hb:PE X b tb){pins:List (Addr × Obj)}{s:Shared}{σ:St}{H:Hp}{R:V→V→Hp→Prop}(I:Inv X pins σ H s)(h:ta σ H fun x H1=>tb σ H1 fun y H2=>R x y H2)
  {α:Type} {Q:α→Shared→Prop} {f:Value→Value→Sem α}
  (hf:∀ v u s2 x y H2,Inv X pins σ H2 s2→RelV x v→RelV y u→R x y H2→wpAny (model X.prog X.w) X.A (f v u) Q X.xe s2) :
  wpAny (model X.prog X.w) X.A (eval a X.env) (fun v s₁=>wpAny (model X.prog X.w) X.A (eval b X.env) (fun u s₂=>wpAny (model X.prog X.w) X.A (f v u) Q X.xe s₂) X.xe s₁) X.xe s:=by
 refine jU (ha pins s σ H _ I h) fun v s1 ⟨x,H1,I1,r1,q1⟩=>?_
 refine jU (hb pins s1 σ H1 _ I1 q1) fun u s2 ⟨y,H2,I2,r2,q2⟩=>?_
 exact hf v u s2 x y H2 I2 r1 r2 q2
def dM (i:Nat):TE:=fun σ H Q=>∃ v,σ[i]? = some (some v)∧Q v H
def tC (v:V):TE:=fun _ H Q=>Q v H
theorem pe_var {i:Nat}{x:Str}{pos:Pos}(hN:X.N[i]? = some x)(hv:Vis X.env.scope x)(hd:(x == ("__debug__" : Str))=false:=by decide) (hcd:(x == ("__classdict__" : Str))=false:=by decide):PE X (.Name x pos) (dM i):=by
 intro pins s σ H Q I h
 obtain ⟨v,e,h⟩:=h
 obtain ⟨m,hn,hl⟩:=I.loc
 obtain ⟨u,r,l⟩:=hl i x v hN e hv
 have fin:EP X pins σ Q u s:=⟨v,H,I,r,h⟩
 rcases l with ⟨hk,hm⟩ | ⟨hk,c,hc,hcell⟩
 ·exact wpAny_Name (wpAny_loadName_local I.ok.kind hk hn hm fin) hd
 ·rcases hk with hk | hk
  ·exact wpAny_Name (wpAny_loadName_cell I.ok.kind hk hc hcell fin) hd
  ·exact wpAny_Name (wpAny_loadName_free I.ok.kind hk hc hcell fin hcd) hd
theorem qH {i j pos}:PE X (.Constant (.int i) j pos) (tC (.int i)):=fun _ _ _ H _ I h=>wpAny_Constant_int ⟨.int i,H,I.tok _,⟨_,rfl⟩,h⟩
theorem tF {b j pos}:PE X (.Constant (.bool b) j pos) (tC (.bl b)):=fun _ _ _ H _ I h=>Constant_bool ⟨.bl b,H,I,rfl,h⟩
theorem wG {j pos}:PE X (.Constant .none j pos) (tC .non):=fun _ _ _ H _ I h=>Constant_none ⟨.non,H,I,rfl,h⟩
theorem pe_str {x j pos}:PE X (.Constant (.str x) j pos) (tC (.str x)):=fun _ _ _ H _ I h=>Calls.Constant_str ⟨.str x,H,I.tok _,⟨_,rfl⟩,h⟩
def Gl (X:Cx)(x:Str):Prop:=X.env.kindOf x=some .globalImplicit
theorem ld_glob {E:Value→Shared→Prop}{pins:List (Addr × Obj)}{s:Shared}{σ:St}{H:Hp}{x:Str}{u:Value}{pos:Pos}{Q:Value→Shared→Prop}(I:Inv X pins σ H s)(hg:Gl X x)(hm:X.mg x=some u)(h:Q u s)
  (hd:(x == ("__debug__" : Str))=false:=by decide):wpAny (model X.prog X.w) X.A (eval (.Name x pos) X.env) Q E s :=
 Calls.Name_function_global I.ok.kind hg (Calls.loadGlobal_global (by rw [I.ok.glob];exact I.mod.glob.keeps I.bk) hm h) hd
theorem dZ {E:Value→Shared→Prop}{pins:List (Addr × Obj)}{s:Shared}{σ:St}{H:Hp}{x:Str}{u:Value}{pos:Pos}{Q:Value→Shared→Prop}(I:Inv X pins σ H s)(hg:Gl X x)(hm:X.mg x=none)(hv:bootBuiltins x=some u)(h:Q u s)
  (hn:x ≠ "__name__" := by decide) (hd:(x == ("__debug__" : Str))=false:=by decide):wpAny (model X.prog X.w) X.A (eval (.Name x pos) X.env) Q E s:=by
 obtain ⟨mb,h1,h2⟩:=I.mod.blt
 exact Calls.Name_function_global I.ok.kind hg (Calls.loadGlobal_builtin (by rw [I.ok.glob];exact I.mod.glob.keeps I.bk) hm (by rw [I.ok.blt];exact h1.keeps I.bk) ((h2 x hn).trans hv) h) hd
def t2I (ta tb:TE)(k:Int→Int→Hp→Prop):St→Hp→Prop:=fun σ H=>ta σ H fun x H1=>tb σ H1 fun y H2=>∃ i j,x = .int i∧y = .int j∧k i j H2
variable {a b:Expr}{ta tb:TE}{pos:Pos}
def PC (X:Cx)(op:CmpOp)(a b:Expr)(t:TE):Prop :=
 ∀ (pins:List (Addr × Obj)) (s:Shared) (σ:St) (H:Hp) (Q:VK),Inv X pins σ H s→t σ H Q →
  wpAny (model X.prog X.w) X.A (eval a X.env) (fun v s₁=>wpAny (model X.prog X.w) X.A (eval b X.env) (fun u s₂=>wpAny (model X.prog X.w) X.A (compareOp op v u) (EP X pins σ Q) X.xe s₂) X.xe s₁) X.xe s
def tCmp (p:Int→Int→Bool)(ta tb:TE):TE:=fun σ H Q=>t2I ta tb (fun i j H2=>Q (.bl (p i j)) H2) σ H
abbrev tLe:TE→TE→TE:=tCmp fun i j=>decide (i ≤ j)
theorem pc_int {op:CmpOp}{p:Int→Int→Bool}(ha:PE X a ta)(hb:PE X b tb)
  (rule:∀ (i j:Int) (t u:Tok) (Q:Value→Shared→Prop) (s:Shared),Q (.bool (p i j)) s→wpAny (model X.prog X.w) X.A (compareOp op (.int i t) (.int j u)) Q X.xe s):PC X op a b (tCmp p ta tb):=by
 intro pins s σ H Q I h
 refine bin ha hb I h fun v u s2 x y H2 I2 rx ry q=>?_
 obtain ⟨i,j,rfl,rfl,q⟩:=q
 obtain ⟨t,rfl⟩:=rx
 obtain ⟨t',rfl⟩:=ry
 exact rule i j t t' _ s2 ⟨.bl _,H2,I2,rfl,q⟩
theorem pc_le (ha:PE X a ta)(hb:PE X b tb):PC X .LtE a b (tLe ta tb):=pc_int ha hb fun _ _ _ _ _ _ h=>le_int h
def tB (t:TE):TT:=fun σ H Q=>t σ H fun x H1=>∃ c,x = .bl c∧Q c H1
theorem yQ {e:Expr}{t:TE}(h:PE X e t)(he:∀ whole,isTrue e X.env whole=(do let v ← whole;standAt e.pos;holding [v] (truthy v)):=by intro _;rfl):PT X e (tB t):=by
 intro pins s σ H Q I hw
 refine isTrue_plain (jU (h pins s σ H _ I hw) fun v s1 ⟨x,H1,I1,r1,q1⟩=>?_) (he _)
 obtain ⟨d,rfl,q⟩:=q1
 cases r1
 exact wpAny_truthy_bool ⟨H1,I1,q⟩
variable {tA tB':TT}{rest:List Expr}
def tAnd (t u:TT):TT:=fun σ H Q=>t σ H fun c H1=>if c=true then u σ H1 Q else Q false H1
def tOr (t u:TT):TT:=fun σ H Q=>t σ H fun c H1=>if c=true then Q true H1 else u σ H1 Q
def tNot (t:TT):TT:=fun σ H Q=>t σ H fun c H1=>Q (!c) H1
theorem gZ (ha:PT X a tA):PW X (.BoolOp .And [a] pos) tA:=by
 intro wh pins s σ H Q I h
 refine isTrue_and (jU (ha pins s σ H Q I h) fun c s1 e=>?_)
 cases c with
 | true=>exact isTrue_and_nil e
 | false=>exact e
theorem pw_or1 (ha:PT X a tA):PW X (.BoolOp .Or [a] pos) tA:=by
 intro wh pins s σ H Q I h
 refine isTrue_or (jU (ha pins s σ H Q I h) fun c s1 e=>?_)
 cases c with
 | false=>exact isTrue_or_nil e
 | true=>exact e
theorem gM (ha:PT X a tA)(hb:PW X (.BoolOp .And (b :: rest) pos) tB'):PW X (.BoolOp .And (a :: b :: rest) pos) (tAnd tA tB'):=by
 intro wh pins s σ H Q I h
 refine isTrue_and (jU (ha pins s σ H _ I h) fun c s1 ⟨H1,I1,q1⟩=>?_)
 cases c with
 | true=>exact hb wh pins s1 σ H1 Q I1 q1
 | false=>exact ⟨H1,I1,q1⟩
theorem pw_or (ha:PT X a tA)(hb:PW X (.BoolOp .Or (b :: rest) pos) tB'):PW X (.BoolOp .Or (a :: b :: rest) pos) (tOr tA tB'):=by
 intro wh pins s σ H Q I h
 refine isTrue_or (jU (ha pins s σ H _ I h) fun c s1 ⟨H1,I1,q1⟩=>?_)
 cases c with
 | true=>exact ⟨H1,I1,q1⟩
 | false=>exact hb wh pins s1 σ H1 Q I1 q1
theorem mF (ha:PT X a tA):PT X (.UnaryOp .Not a pos) (tNot tA):=by
 intro pins s σ H Q I h
 exact isTrue_not (ha pins s σ H (fun c H1=>Q (!c) H1) I h)
def tIf (t:TT)(ta tb:TE):TE:=fun σ H Q=>t σ H fun c H1=>if c=true then ta σ H1 Q else tb σ H1 Q
theorem gN {c:Expr}(hc:PT X c tA)(ha:PE X a ta)(hb:PE X b tb):PE X (.IfExp c a b pos) (tIf tA ta tb):=by
 intro pins s σ H Q I h
 refine wpAny_IfExp (jU (hc pins s σ H _ I h) fun d s1 ⟨H1,I1,q1⟩=>?_)
 cases d with
 | true=>exact ha pins s1 σ H1 Q I1 q1
 | false=>exact hb pins s1 σ H1 Q I1 q1
end
end L2
namespace L2
open PySem PySem.Spec PyProof.Rows
def SqL (K:PySem.W.Frag)(H:Hp)(a:Addr)(xs:List V):Prop :=
 Rd H a (.lst xs) ∨
  ∃ (o:Obj) (its:Array Value) (n:Nat),K.lookup a=some o∧o.cls = .type "list" ∧ o.dict=none∧o.data = .seq its n∧its.size ≤ sizeLine∧Vals xs its.toList
def SqT (K:PySem.W.Frag)(H:Hp)(a:Addr)(xs:List V):Prop :=
 Rd H a (.tup xs) ∨
  ∃ (o:Obj) (its:Array Value) (n:Nat),K.lookup a=some o∧o.cls = .type "tuple" ∧ o.data = .seq its n∧its.size ≤ sizeLine∧Vals xs its.toList
def absV:Value→Option V
 | .none=>some .non
 | .bool b=>some (.bl b)
 | .int i _=>some (.int i)
 | .str x _=>some (.str x)
 | .bytes b _=>some (.byt b)
 | .float b _=>some (.flt b)
 | .ref a=>some (.ref a)
 | .type n=>some (.ty n)
 | _=>none
theorem RelV.abs {x:V}{u:Value}(r:RelV x u):absV u=some x:=by
 cases x with
 | non=>cases r;rfl
 | bl _=>cases r;rfl
 | int _=>obtain ⟨t,rfl⟩:=r;rfl
 | str _=>obtain ⟨t,rfl⟩:=r;rfl
 | byt _=>obtain ⟨t,rfl⟩:=r;rfl
 | flt _=>obtain ⟨t,rfl⟩:=r;rfl
 | ref _=>cases r;rfl
 | ty _=>cases r;rfl
theorem RelV.inj {x y:V}{u:Value}(r:RelV x u)(q:RelV y u):x=y:=AH (r.abs.symm.trans q.abs)
theorem Vals.inj:∀ {xs ys:List V} {us:List Value},Vals xs us→Vals ys us→xs=ys
 | _,_,_,.nil,.nil=>rfl
 | _,_,_,.cons r t,.cons r' t'=>by rw [r.inj r',Vals.inj t t']
section
variable {X:Cx}{pins:List (Addr × Obj)}{σ:St}{H:Hp}{s:Shared}{a:Addr}{xs ys:List V}
theorem SqL.of {K:PySem.W.Frag}(h:H a=some (.lst xs)):SqL K H a xs:=.inl (.inl h)
theorem SqT.of {K:PySem.W.Frag}(h:H a=some (.tup xs)):SqT K H a xs:=.inl (.inl h)
theorem Inv.list (I:Inv X pins σ H s)(h:SqL X.K H a xs):∃ its:List Value,Vals xs its∧PlainL s.heap a its.toArray∧xs.length ≤ sizeLine:=by
 rcases h with h | ⟨o,its,n,hk,hc,hd,hs,hz,r⟩
 ·obtain ⟨z,its,n,r,e⟩:=h.ok I.hok
  exact ⟨its,r,⟨_,n,e,rfl,rfl,rfl⟩,z⟩
 ·refine ⟨its.toList,r,⟨o,n,I.kIn a o hk,hc,hd,by simpa using hs⟩,?_⟩
  have e:=r.length
  simp only [C5] at e
  omega
theorem Inv.tuple (I:Inv X pins σ H s)(h:SqT X.K H a xs):∃ its:List Value,Vals xs its∧IsTup s.heap a its.toArray∧xs.length ≤ sizeLine:=by
 rcases h with h | ⟨o,its,n,hk,hc,hs,hz,r⟩
 ·obtain ⟨z,its,r,p⟩:=h.ok I.hok
  exact ⟨its,r,p,z⟩
 ·refine ⟨its.toList,r,⟨o,I.kIn a o hk,hc,n,by simpa using hs⟩,?_⟩
  have e:=r.length
  simp only [C5] at e
  omega
theorem Inv.list_inj (I:Inv X pins σ H s)(h:SqL X.K H a xs)(h':SqL X.K H a ys):xs=ys:=by
 obtain ⟨its,r,⟨o,n,e,_,_,d⟩,_⟩:=I.list h
 obtain ⟨its',r',⟨o',n',e',_,_,d'⟩,_⟩:=I.list h'
 rw [e] at e';cases e'
 rw [d] at d'
 injection d' with d1 _
 have:its=its':=by simpa using Bi Array.toList d1
 subst this
 exact r.inj r'
theorem Inv.tuple_inj (I:Inv X pins σ H s)(h:SqT X.K H a xs)(h':SqT X.K H a ys):xs=ys:=by
 obtain ⟨its,r,⟨o,e,_,n,d⟩,_⟩:=I.tuple h
 obtain ⟨its',r',⟨o',e',_,n',d'⟩,_⟩:=I.tuple h'
 rw [e] at e';cases e'
 rw [d] at d'
 injection d' with d1 _
 have:its=its':=by simpa using Bi Array.toList d1
 subst this
 exact r.inj r'
end
abbrev Cx.wish (X:Cx)(E:Value→Shared→Prop):Cx:={ X with xe:=E }
abbrev Cx.nox (X:Cx):Cx:=X.wish fun _ _=>False
theorem Cx.Ok.wish {X:Cx}(ok:X.Ok)(E:Value→Shared→Prop):(X.wish E).Ok :=
 ⟨ok.mod,ok.kind,ok.glob,ok.blt,ok.above,ok.inj,ok.has,ok.cab,ok.hd,ok.frames,ok.stk,ok.exf,ok.bs,ok.bsz,ok.noex,ok.exfs,ok.funs,ok.frf⟩
theorem Cx.Ok.unwish {X:Cx}{E:Value→Shared→Prop}(ok:(X.wish E).Ok):X.Ok :=
 ⟨ok.mod,ok.kind,ok.glob,ok.blt,ok.above,ok.inj,ok.has,ok.cab,ok.hd,ok.frames,ok.stk,ok.exf,ok.bs,ok.bsz,ok.noex,ok.exfs,ok.funs,ok.frf⟩
section
variable {X:Cx}{pins:List (Addr × Obj)}{σ:St}{H:Hp}{s:Shared}{E:Value→Shared→Prop}
theorem Inv.wish (I:Inv X pins σ H s)(E:Value→Shared→Prop):Inv (X.wish E) pins σ H s:=⟨I.ok.wish E,I.os,I.bare,I.base,I.loc,I.cell,I.free,I.freeC,I.pin,I.hok,I.len⟩
theorem Inv.unwish (I:Inv (X.wish E) pins σ H s):Inv X pins σ H s:=⟨I.ok.unwish,I.os,I.bare,I.base,I.loc,I.cell,I.free,I.freeC,I.pin,I.hok,I.len⟩
theorem SP.unwish {D:Ends}{f:Flow}{s':Shared}(h:SP (X.wish E) pins D f s'):SP X pins D f s':=by
 cases f with
 | next=>obtain ⟨σ',H',I,q⟩:=h;exact ⟨σ',H',I.unwish,q⟩
 | brk=>obtain ⟨σ',H',I,q⟩:=h;exact ⟨σ',H',I.unwish,q⟩
 | cont=>obtain ⟨σ',H',I,q⟩:=h;exact ⟨σ',H',I.unwish,q⟩
 | ret u=>obtain ⟨v,σ',H',I,r,q⟩:=h;exact ⟨v,σ',H',I.unwish,r,q⟩
theorem PSs.nox {st:List Stmt}{t:TS}(h:PSs X.nox st t):PSs X st t:=fun pins s σ H D I hw =>
 wpAny_mono (h pins s σ H D (I.wish _) hw) (fun _ _ q=>q.unwish) fun _ _ z=>False.elim z
end
section
variable {X:Cx}{st:Stmt}{rest:List Stmt}{t u:TS}{e:Expr}{te:TE}{pos:Pos}
def tNext:TS:=fun D σ H=>D.nx σ H
def tSeq (t u:TS):TS:=fun D σ H=>t { D with nx:=u D } σ H
theorem jJ:PSs X [] tNext:=fun _ _ σ H _ I h=>wpAny_execs_nil ⟨σ,H,I,h⟩
theorem kM (h1:PS X st t)(h2:PSs X rest u):PSs X (st :: rest) (tSeq t u):=by
 intro pins s σ H D I h
 refine wpAny_execs_cons (jU (h1 pins s σ H { D with nx:=u D } I h) fun f s1 q=>?_)
 cases f with
 | next =>
  obtain ⟨σ',H',I',q⟩:=q
  exact h2 pins s1 σ' H' D I' q
 | ret v=>exact q
 | brk=>exact q
 | cont=>exact q
theorem qI (h1:PS X st t):PSs X [st] t:=by
 intro pins s σ H D I h
 refine wpAny_execs_cons (jU (h1 pins s σ H D I h) fun f s1 q=>?_)
 cases f with
 | next=>exact wpAny_execs_nil q
 | ret v=>exact q
 | brk=>exact q
 | cont=>exact q
theorem Inv.quiet {pins:List (Addr × Obj)}{σ:St}{H:Hp}{s:Shared}(I:Inv X pins σ H s):interactive X.env=false:=by simp [interactive,I.ok.kind]
def tDrop (te:TE):TS:=fun D σ H=>te σ H fun _ H1=>D.nx σ H1
theorem zJ (he:PE X e te)(hs:swapsWith e none pos.line X.env=pure false:=by rfl):PS X (.Expr e pos) (tDrop te):=by
 intro pins s σ H D I h
 exact wpAny_Expr_any (jU (he pins s σ H _ I h) fun v s1 ⟨x,H1,I1,r1,q1⟩=>⟨σ,H1,I1,q1⟩) I.quiet hs
def tRet (te:TE):TS:=fun D σ H=>te σ H D.rt
theorem qP (he:PE X e te):PS X (.Return (some e) pos) (tRet te):=by
 intro pins s σ H D I h
 exact wpAny_Return_some (jU (he pins s σ H _ I h) fun v s1 ⟨x,H1,I1,r1,q1⟩=>⟨x,σ,H1,I1,r1,q1⟩)
def tIfS (c:TT)(t u:TS):TS:=fun D σ H=>c σ H fun b H1=>if b=true then t D σ H1 else u D σ H1
theorem zI {c:Expr}{a b:List Stmt}{tc:TT}(hc:PT X c tc)(ha:PSs X a t)(hb:PSs X b u):PS X (.If c a b pos) (tIfS tc t u):=by
 intro pins s σ H D I h
 refine wpAny_If (jU (hc pins s σ H _ I h) fun d s1 ⟨H1,I1,q1⟩=>?_)
 cases d with
 | true=>exact ha pins s1 σ H1 D I1 q1
 | false=>exact hb pins s1 σ H1 D I1 q1
def tNever:TS:=fun _ _ _=>False
theorem tE:PS X st tNever:=fun _ _ _ _ _ _ h=>h.elim
end
abbrev TG:=V→St→Hp→(St→Hp→Prop)→Prop
abbrev TGs:=List V→St→Hp→(St→Hp→Prop)→Prop
def PG (X:Cx)(target:Expr)(t:TG):Prop :=
 ∀ (pins:List (Addr × Obj)) (s:Shared) (σ:St) (H:Hp) (v:V) (u:Value) (Q:St→Hp→Prop),Inv X pins σ H s→RelV v u→t v σ H Q →
  wpAny (model X.prog X.w) X.A (assign target X.env u) (fun _ s'=>∃ σ' H',Inv X pins σ' H' s'∧Q σ' H') X.xe s
def PGs (X:Cx)(ts:List Expr)(t:TGs):Prop :=
 ∀ (pins:List (Addr × Obj)) (s:Shared) (σ:St) (H:Hp) (vs:List V) (us:List Value) (Q:St→Hp→Prop),Inv X pins σ H s→Vals vs us→t vs σ H Q →
  wpAny (model X.prog X.w) X.A (assignInOrder ((assignEach ts X.env).map (·.2)) us) (fun _ s'=>∃ σ' H',Inv X pins σ' H' s'∧Q σ' H') X.xe s
abbrev TSet:=V→V→V→Hp→(Hp→Prop)→Prop
def PSet (X:Cx)(t:TSet):Prop :=
 ∀ (pins:List (Addr × Obj)) (s:Shared) (σ:St) (H:Hp) (o i v:V) (ov iv u:Value) (Q:Hp→Prop),Inv X pins σ H s→RelV o ov→RelV i iv→RelV v u→t o i v H Q →
  wpAny (model X.prog X.w) X.A (setItem ov iv u) (fun _ s'=>∃ H',Inv X pins σ H' s'∧Q H') X.xe s
section
variable {X:Cx}{pos:Pos}
def zU (i:Nat):TG:=fun v σ H Q=>Q (σ.set i (some v)) H
theorem qL {i:Nat}{x:Str}(hN:X.N.Nodup)(hi:X.N[i]? = some x)(hx:Loc X.env.scope x)(hf:X.fn x=true∨X.env.scope.names.lookup x=some .local:=by first | exact .inl rfl | exact .inr rfl | assumption):PG X (.Name x pos) (zU i):=by
 intro pins s σ H v u Q I r h
 exact wpAny_assign_Name (fA I hN hi hx r (fun s' I'=>⟨_,H,I',h⟩) hf)
def gNil:TGs:=fun vs σ H Q=>vs=[]∧Q σ H
def gCons (t:TG)(u:TGs):TGs:=fun vs σ H Q=>∃ v r,vs=v :: r∧t v σ H fun σ' H'=>u r σ' H' Q
theorem kU:PGs X [] gNil:=by
 intro pins s σ H vs us Q I r h
 obtain ⟨e,h⟩:=h
 subst e
 cases r
 exact assignInOrder_nil ⟨σ,H,I,h⟩
theorem qQ {e:Expr}{es:List Expr}{t:TG}{u:TGs}(h1:PG X e t)(h2:PGs X es u)
  (hs:(assignEach (e :: es) X.env).map (·.2)=assign e X.env :: (assignEach es X.env).map (·.2):=by rfl):PGs X (e :: es) (gCons t u):=by
 intro pins s σ H vs us Q I r h
 obtain ⟨v,vr,e1,h⟩:=h
 subst e1
 cases r with
 | cons r rr =>
  rw [hs]
  refine assignInOrder_cons (jU (h1 pins s σ H _ _ _ I r h) fun _ s1 ⟨σ1,H1,I1,q1⟩=>?_)
  exact h2 pins s1 σ1 H1 _ _ Q I1 rr q1
def gTup (K:PySem.W.Frag)(n:Nat)(t:TGs):TG:=fun v σ H Q=>∃ a xs,v = .ref a∧SqT K H a xs∧xs.length=n∧t xs σ H Q
theorem pg_tup {es:List Expr}{k:Nat}{t:TGs}{n:Nat}(hc:X.calm=true)(h:PGs X es t)
  (hn:(assignEach es X.env).length=n:=by rfl) (hst:(assignEach es X.env).findIdx? (·.1)=none:=by rfl):PG X (.Tuple es k pos) (gTup X.K n t):=by
 intro pins s σ H v u Q I r hw
 obtain ⟨a,xs,e1,hq,hl,hw⟩:=hw
 subst e1
 cases r
 obtain ⟨its,rv,ht,hz⟩:=I.tuple hq
 refine assign_Tuple_tuple (I.ok.hd hc) ht (by simp [hn,← hl,rv.length]) hst fun h' hx=>?_
 have I1:Inv X pins σ H { s with heap:=h' }:=I.kept (t':=s.toks) fun b o e=>hx b o (AA (Au e)) e
 exact h pins _ σ H xs _ Q I1 (by simpa using rv) hw
def gSub (to ti:TE)(t:TSet):TG:=fun v σ H Q=>to σ H fun o H1=>ti σ H1 fun i H2=>t o i v H2 fun H3=>Q σ H3
theorem pZ {o i:Expr}{to ti:TE}{t:TSet}(ho:PE X o to)(hi:PE X i ti)(hs:PSet X t)
  (ha:∀ v,assign (.Subscript o i pos) X.env v=(do
   let ov ← holding [v] (eval o X.env)
   let iv ← holding [v,ov] (eval i X.env)
   standAt pos
   holding [v,ov,iv] (setItem ov iv v)
   release [v,ov,iv] []):=by intro _;rfl):PG X (.Subscript o i pos) (gSub to ti t):=by
 intro pins s σ H v u Q I r h
 rw [ha]
 refine wpAny_bind (wpAny_holding (jU (ho pins s σ H _ I h) fun ov s1 ⟨x,H1,I1,r1,q1⟩=>?_))
 refine wpAny_bind (wpAny_holding (jU (hi pins s1 σ H1 _ I1 q1) fun iv s2 ⟨y,H2,I2,r2,q2⟩=>?_))
 refine wpAny_bind (wpAny_standAt (wpAny_bind (wpAny_holding (jU (hs pins s2 σ H2 x y v ov iv u _ I2 r1 r2 r q2) fun _ s3 ⟨H3,I3,q3⟩=>?_))))
 exact wpAny_release ⟨σ,H3,I3,q3⟩
def tAsg (te:TE)(g:TG):TS:=fun D σ H=>te σ H fun x H1=>g x σ H1 D.nx
theorem yR {tg e:Expr}{te:TE}{g:TG}(he:PE X e te)(hg:PG X tg g)(hs:swapsWithSole [tg] e pos.line X.env=pure false:=by rfl)(hw:swappedStores [tg] e X.env=pure none:=by rfl)
  (h1:(assignEach [tg] X.env).map (·.2)=[assign tg X.env]:=by rfl):PS X (.Assign [tg] e pos) (tAsg te g):=by
 intro pins s σ H D I h
 refine wpAny_Assign_stores (jU (he pins s σ H _ I h) fun v s1 ⟨x,H1,I1,r1,q1⟩=>?_) hs hw
 rw [h1]
 exact jU (hg pins s1 σ H1 x v _ I1 r1 q1) fun _ s2 q=>q
theorem q8 {i:Nat}{x:Str}{e:Expr}{te:TE}{pos':Pos}(hN:X.N.Nodup)(hi:X.N[i]? = some x)(hx:Loc X.env.scope x)(he:PE X e te)(hs:swapsWith e (some (.Name x pos')) pos.line X.env=pure false:=by rfl)(hf:X.fn x=true∨X.env.scope.names.lookup x=some .local:=by first | exact .inl rfl | exact .inr rfl | assumption) :
  PS X (.Assign [.Name x pos'] e pos) (tAsg te (zU i)):=by
 intro pins s σ H D I h
 refine wpAny_Assign_Name (jU (he pins s σ H _ I h) fun v s1 ⟨y,H1,I1,r1,q1⟩=>?_) hs
 exact fA I1 hN hi hx r1 (fun s2 I2=>⟨_,H1,I2,q1⟩) hf
def tPar (i j:Nat)(ta:TA):TS:=fun D σ H=>ta σ H fun vs H1=>∃ v w,vs=[v,w]∧D.nx ((σ.set i (some v)).set j (some w)) H1
theorem ps_par {i j:Nat}{x y:Str}{a b:Expr}{ta:TA}{px py pt:Pos}{kt k2 pt2}(hc:X.calm=true)(hN:X.N.Nodup)(hi:X.N[i]? = some x)(hj:X.N[j]? = some y)(hij:i ≠ j)
  (hx:X.env.scope.names.lookup x=some .local) (hy:X.env.scope.names.lookup y=some .local) (ha:PA X [a,b] ta)
  (hw:swappedStores [.Tuple [.Name x px,.Name y py] kt pt] (.Tuple [a,b] k2 pt2) X.env=pure (some [x,y]))
  (hs:swapsWithSole [.Tuple [.Name x px,.Name y py] kt pt] (.Tuple [a,b] k2 pt2) pos.line X.env=pure false:=by rfl) :
  PS X (.Assign [.Tuple [.Name x px,.Name y py] kt pt] (.Tuple [a,b] k2 pt2) pos) (tPar i j ta):=by
 intro pins s σ H D I h
 rw [exec_Assign_arm]
 refine wpAny_bind (wpAny_standAt ?_)
 rw [hs]
 refine wpAny_bind (wpAny_pure ?_)
 rw [Aj (by decide)]
 refine wpAny_bind (Tuple_ (jU (ha _ pins s σ H _ I h) fun us s1 ⟨vs,H1,I1,r1,q1⟩=>?_))
 obtain ⟨v,w,e1,q1⟩:=q1
 subst e1
 obtain ⟨u1,u2,rfl,rv,rw'⟩:∃ u1 u2,us=[u1,u2]∧RelV v u1∧RelV w u2:=by
  cases r1 with
  | cons p q =>
   cases q with
   | cons p' q' =>
    cases q'
    exact ⟨_,_,rfl,p,p'⟩
 refine wpAny_newObj_type ?_ (by show 2 ≤ sizeLine;decide)
 have I2:Inv X pins σ H1 { s1 with heap:=s1.heap.push { cls:=.type "tuple",data:=.seq [u1,u2].toArray } }:=I1.kept (t':=s1.toks) fun b o e=>Ac _ e
 rw [hw]
 refine wpAny_bind (wpAny_pure ?_)
 show wpAny (model X.prog X.w) X.A (do rule "assign.swapped-stores";let items ← unpackItems (.ref s1.heap.objs.size) 2 none;assignInOrder [fun v=>bindName X.env y v,fun v=>bindName X.env x v] items.reverse;pure Flow.next) _ _ _
 refine wpAny_bind (wpAny_rule (wpAny_bind (unpackItems_tuple (items := #[u1,u2]) (I.ok.hd hc) (CB s1.heap _) fun h' hx'=>?_)))
 have I3:=I2.kept (h':=h') (t':=s1.toks) fun b o e=>hx' b o (AA (Au e)) e
 show wpAny _ _ (assignInOrder [fun v=>bindName X.env y v,fun v=>bindName X.env x v] [u2,u1] >>= fun _=>pure Flow.next) _ _ _
 refine wpAny_bind (assignInOrder_cons (wpAny_bindName (fA I3 hN hj (.inl hy) rw' (fun s2 I4=>?_) (.inr hy))))
 refine assignInOrder_cons (wpAny_bindName (fA I4 hN hi (.inl hx) rv (fun s3 I5=>assignInOrder_nil (wpAny_pure ?_)) (.inr hx)))
 rw [List.set_comm _ _ (Co hij)] at I5
 exact ⟨_,H1,I5,q1⟩
end
section
variable {X:Cx}{pos:Pos}
def tWhile (c:TT)(tb:TS):TS:=fun D σ H=>∃ W:Nat→St→Hp→Prop,(∃ m,W m σ H)∧∀ m σ H,W m σ H →
 c σ H fun b H1=>if b=true then ∃ N:St→Hp→Prop,(∀ σ' H',N σ' H'→∃ m',m' < m∧W m' σ' H')∧tb { D with nx:=N,ct:=N,bk:=D.nx } σ H1 else D.nx σ H1
theorem ps_while {c:Expr}{body:List Stmt}{tc:TT}{tb:TS}(hp:PassesOwn (model X.prog X.w) X.A X.env X.xe)(hc:PT X c tc)(hb:PSs X body tb):PS X (.While c body [] pos) (tWhile tc tb):=by
 intro pins s σ H D I h
 obtain ⟨W,⟨m0,w0⟩,turn⟩:=h
 refine wpAny_While (codeAny_whileLoop (fun n s'=>∃ σ' H',Inv X pins σ' H' s'∧W n σ' H') ?_ m0 ⟨σ,H,I,w0⟩)
 rintro n s1 ⟨σ1,H1,I1,w1⟩
 refine wpAny_passesOwn hp (jU (hc pins s1 σ1 H1 _ I1 (turn n σ1 H1 w1)) fun b s2 ⟨H2,I2,q2⟩=>?_)
 cases b with
 | true =>
  obtain ⟨N,hN,q2⟩:=q2
  rw [Ak rfl]
  refine wpAny_passesOwn hp (jU (hb pins s2 σ1 H2 _ I2 q2) fun f s3 q3=>?_)
  cases f with
  | next =>
   obtain ⟨σ3,H3,I3,n3⟩:=q3
   obtain ⟨m',hm,w3⟩:=hN σ3 H3 n3
   exact ⟨m',hm,σ3,H3,I3,w3⟩
  | cont =>
   obtain ⟨σ3,H3,I3,n3⟩:=q3
   obtain ⟨m',hm,w3⟩:=hN σ3 H3 n3
   exact ⟨m',hm,σ3,H3,I3,w3⟩
  | brk=>exact q3
  | ret v=>exact q3
 | false =>
  rw [Aj A2]
  exact wpAny_execs_nil ⟨σ1,H2,I2,q2⟩
end
structure It where
 go:Nat→Hp→Prop
 yld:Nat→Hp→V→Hp→Prop
 stop:Nat→Hp→Prop
def vT (X:Cx)(pins:List (Addr × Obj))(H:Hp)(b:Addr):Prop :=
 H b=none∧b ≠ X.env.locals∧b ∉ X.fs∧(b ∈ X.ex∨X.s₀.heap.objs.size ≤ b)∧(∀ x c,X.env.cells.lookup x=some c→c ≠ b)∧∀ p ∈ X.pn ++ pins,p.1 ≠ b
theorem Inv.fpOk {X:Cx}{pins:List (Addr × Obj)}{σ:St}{H H':Hp}{s:Shared}{b:Addr}(I:Inv X pins σ H s)(hb:s.heap.objs.size ≤ b)(hn:H' b=none):vT X pins H' b:=by
 refine ⟨hn,CS (A3 I.lt hb),I.nofs hb,.inr (AK I.sz hb),fun x c e z=>?_,fun p hp z=>?_⟩
 ·obtain ⟨v,q⟩:=I.cell x c e
  exact absurd (A3 q.lt (by rw [z];exact hb)) (AQ _)
 ·exact absurd (A3 (Au (I.pin p hp).1) (by rw [z];exact hb)) (AQ _)
structure Turn (P:Program)(w:World)(K:PySem.W.Frag)(tg:Expr)(J:It)(fp:List Addr)(it:Addr)(tn:Nat→Heap→Prop):Prop where
 mem:it ∈ fp
 obj:∀ i h,tn i h→∀ b ∈ fp,∃ o,h.get? b=some o∧∀ v,o.data ≠ .cell v
 keep:∀ i h h',tn i h→(∀ b ∈ fp,∀ o,h.get? b=some o→h'.get? b=some o)→tn i h'
 item:∀ (X:Cx),X.prog=P→X.w=w→X.K=K→X.calm=true→∀ (i:Nat) (pins:List (Addr × Obj)) (s:Shared) (σ:St) (H:Hp) (E:Value→Shared→Prop),Inv X pins σ H s→(∀ b ∈ fp,vT X pins H b)→tn i s.heap→J.go i H →
  wpAny (model P w) X.A (pyNext (.ref it)) (fun r s1=>∃ u,r=some u ∧
   wpAny (model P w) X.A (letOwnedTupleGo tg (.ref it) u) (fun _ s2=>∃ x H',Inv X pins σ H' s2∧RelV x u∧J.yld i H x H'∧tn (i + 1) s2.heap∧∀ b ∈ fp,H' b=none) E s1) E s
 done:∀ (X:Cx),X.prog=P→X.w=w→X.K=K→X.calm=true→∀ (i:Nat) (pins:List (Addr × Obj)) (s:Shared) (σ:St) (H:Hp) (E:Value→Shared→Prop),Inv X pins σ H s→(∀ b ∈ fp,vT X pins H b)→tn i s.heap→J.stop i H →
  wpAny (model P w) X.A (pyNext (.ref it)) (fun r s1=>r=none∧Inv X pins σ H s1) E s
 self:∀ (A:Around) (i:Nat) (s:Shared) (Q:Value→Shared→Prop) (E:Value→Shared→Prop),tn i s.heap→Q (.ref it) s→wpAny (model P w) A (pyIter (.ref it)) Q E s
abbrev TI:=St→Hp→(It→Hp→Prop)→Prop
def PIE (X:Cx)(pins:List (Addr × Obj))(σ:St)(tg:Expr)(R:It→Hp→Prop)(itv:Value)(s2:Shared):Prop :=
 ∃ (it:Addr) (fp:List Addr) (tn:Nat→Heap→Prop) (J:It) (H':Hp),itv = .ref it∧Inv X pins σ H' s2∧Turn X.prog X.w X.K tg J fp it tn∧tn 0 s2.heap∧(∀ b ∈ fp,vT X pins H' b)∧R J H'
def PI (X:Cx)(tg iter:Expr)(wi:TI):Prop :=
 ∀ (pins:List (Addr × Obj)) (s:Shared) (σ:St) (H:Hp) (R:It→Hp→Prop),Inv X pins σ H s→wi σ H R →
  wpAny (model X.prog X.w) X.A (eval iter X.env) (fun v s1=>wpAny (model X.prog X.w) X.A (pyIter v) (PIE X pins σ tg R) X.xe s1) X.xe s
theorem go_of {M : Model}{A : Around}{E : Value → Shared → Prop}{s : Shared}{tg : Expr}{it : Addr}{u : Value}{o : Obj}{n : String}{vs : Array Value}{Q : Unit → Shared → Prop}(ho : s.heap.get? it = some o)(hc : o.cls = .type n)(hd : o.data = .fields vs)
    (hn : ["enumerate", "zip", "dict_itemiterator", "dict_reverseitemiterator", "odict_iterator", "itertools.zip_longest", "itertools.pairwise"].contains n = false) (hQ : Q () s) : wpAny M A (letOwnedTupleGo tg (.ref it) u) Q E s := by
  unfold letOwnedTupleGo
  cases tg <;> first
    | exact wpAny_pure hQ
    | (cases u <;> first
        | exact wpAny_pure hQ
        | (refine wpAny_bind (wpAny_load ho ?_)
           rw [hc, hd]
           show wpAny M A (if (["enumerate", "zip", "dict_itemiterator", "dict_reverseitemiterator", "odict_iterator", "itertools.zip_longest", "itertools.pairwise"].contains n && vs[0]? == some (rawInt _)) = true then _ else _) Q E s
           rw [Aj (by intro h; rw [hn, BW] at h; cases h)]
           exact wpAny_pure hQ))
def Itl (K:PySem.W.Frag)(a:Addr):It :=
 ⟨fun i H=>∃ xs x,SqL K H a xs∧xs[i]? = some x,fun i H x H'=>H'=H∧∀ xs,SqL K H a xs→xs[i]? = some x,fun i H=>∃ xs,SqL K H a xs∧xs.length ≤ i⟩
def Itt (K:PySem.W.Frag)(a:Addr):It :=
 ⟨fun i H=>∃ xs x,SqT K H a xs∧xs[i]? = some x,fun i H x H'=>H'=H∧∀ xs,SqT K H a xs→xs[i]? = some x,fun i H=>∃ xs,SqT K H a xs∧xs.length ≤ i⟩
def Itr (lo:Int)(n:Nat):It:=⟨fun i _=>i < n,fun i H x H'=>H'=H∧x = .int (lo + i),fun i _=>n ≤ i⟩
theorem nN {P:Program}{w:World}{K:PySem.W.Frag}{tg:Expr}(a it:Addr):Turn P w K tg (Itl K a) [it] it (fun i h=>h.IsListIter it a i) where
 mem:=by simp
 obj:=fun i h st b hb=>by
  have e:b=it:=by simpa using hb
  subst e
  obtain ⟨o,e,c,d⟩:=st
  exact ⟨o,e,fun v z=>by rw [d] at z;cases z⟩
 keep:=fun i h h' st k=>st.at fun o e=>k it (by simp) o e
 item:=by
  intro X hP hw hK hc i pins s σ H E I hf st hg
  subst hP hw hK
  obtain ⟨xs,x,hq,hx⟩:=hg
  obtain ⟨its,rv,p,hz⟩:=I.list hq
  obtain ⟨u,hu,ru⟩:=rv.get hx
  obtain ⟨f0,f1,f2,f3,f4,f5⟩:=hf it (by simp)
  refine wpAny_pyNext_list_item st p.isList (x:=u) (by simpa using hu) fun h' st' sb=>?_
  have I1:Inv X pins σ H { s with heap:=h' }:=I.turned (t':=s.toks) (fun b o hb e=>(sb.2 b hb).trans e) f0 f1 f3 f4 f5
  obtain ⟨o,e,c,d⟩:=id st'
  exact ⟨u,rfl,go_of (s:={ s with heap:=h' }) e c d (by decide) ⟨x,H,I1,ru,⟨rfl,fun ys hy=>by rw [I.list_inj hy hq];exact hx⟩,st',fun b hb=>(hf b hb).1⟩⟩
 done:=by
  intro X hP hw hK hc i pins s σ H E I hf st hg
  subst hP hw hK
  obtain ⟨xs,hq,hx⟩:=hg
  obtain ⟨its,rv,p,hz⟩:=I.list hq
  obtain ⟨f0,f1,f2,f3,f4,f5⟩:=hf it (by simp)
  have hl:=rv.length
  exact wpAny_pyNext_list_end (I.ok.hd hc) st p.isList (by simp;omega) fun h' eb=>⟨rfl,I.turned (t':=s.toks) (fun b o hb e=>eb b o hb e) f0 f1 f3 f4 f5⟩
 self:=fun _ _ _ _ _ st h=>wpAny_pyIter_listiter st h
theorem cG {P:Program}{w:World}{K:PySem.W.Frag}{tg:Expr}(a it:Addr):Turn P w K tg (Itt K a) [it] it (fun i h=>h.IsTupleIter it a i) where
 mem:=by simp
 obj:=fun i h st b hb=>by
  have e:b=it:=by simpa using hb
  subst e
  obtain ⟨o,e,c,d⟩:=st
  exact ⟨o,e,fun v z=>by rw [d] at z;cases z⟩
 keep:=fun i h h' st k=>st.at fun o e=>k it (by simp) o e
 item:=by
  intro X hP hw hK hc i pins s σ H E I hf st hg
  subst hP hw hK
  obtain ⟨xs,x,hq,hx⟩:=hg
  obtain ⟨its,rv,p,hz⟩:=I.tuple hq
  obtain ⟨u,hu,ru⟩:=rv.get hx
  obtain ⟨f0,f1,f2,f3,f4,f5⟩:=hf it (by simp)
  refine wpAny_pyNext_tuple_item st (show s.heap.IsTuple a its.toArray from p) (x:=u) (by simpa using hu) fun h' st' sb=>?_
  have I1:Inv X pins σ H { s with heap:=h' }:=I.turned (t':=s.toks) (fun b o hb e=>(sb.2 b hb).trans e) f0 f1 f3 f4 f5
  obtain ⟨o,e,c,d⟩:=id st'
  exact ⟨u,rfl,go_of (s:={ s with heap:=h' }) e c d (by decide) ⟨x,H,I1,ru,⟨rfl,fun ys hy=>by rw [I.tuple_inj hy hq];exact hx⟩,st',fun b hb=>(hf b hb).1⟩⟩
 done:=by
  intro X hP hw hK hc i pins s σ H E I hf st hg
  subst hP hw hK
  obtain ⟨xs,hq,hx⟩:=hg
  obtain ⟨its,rv,p,hz⟩:=I.tuple hq
  obtain ⟨f0,f1,f2,f3,f4,f5⟩:=hf it (by simp)
  have hl:=rv.length
  exact wpAny_pyNext_tuple_end (I.ok.hd hc) st (show s.heap.IsTuple a its.toArray from p) (by simp;omega) fun h' eb=>⟨rfl,I.turned (t':=s.toks) (fun b o hb e=>eb b o hb e) f0 f1 f3 f4 f5⟩
 self:=fun _ _ _ _ _ st h=>wpAny_pyIter_tupleiter st h
theorem uI {P:Program}{w:World}{K:PySem.W.Frag}{tg:Expr}(it:Addr)(lo:Int)(n:Nat):Turn P w K tg (Itr lo n) [it] it (fun i h=>IsRangeIter h it (lo + (i:Nat) * 1) ((n:Int) - (i:Nat)) 1) where
 mem:=by simp
 obj:=fun i h st b hb=>by
  have e:b=it:=by simpa using hb
  subst e
  exact ⟨_,st,fun v z=>by
   have z':Data.fields _=Data.cell v:=z
   cases z'⟩
 keep:=fun i h h' st k=>k it (by simp) _ st
 item:=by
  intro X hP hw hK hc i pins s σ H E I hf st hg
  subst hP hw hK
  obtain ⟨f0,f1,f2,f3,f4,f5⟩:=hf it (by simp)
  have W:=Walks.range (prog:=X.prog) (w:=X.w) (I.ok.hd hc) it lo 1 n
  refine W.item i s _ _ hg st fun v h' tk hv st' kk=>?_
  obtain ⟨t,rfl⟩:=hv
  have I1:Inv X pins σ H { s with heap:=h',toks:=tk }:=I.turned (fun b o hb e=>kk b o (by simpa using hb) e) f0 f1 f3 f4 f5
  refine ⟨_,rfl,go_of (s:={ s with heap:=h',toks:=tk }) (n := "range_iterator") st' rfl rfl (by decide) ⟨.int (lo + i),H,I1,⟨t,?_⟩,⟨rfl,rfl⟩,st',fun b hb=>(hf b hb).1⟩⟩
  rw [Int.mul_one]
 done:=by
  intro X hP hw hK hc i pins s σ H E I hf st hg
  subst hP hw hK
  obtain ⟨f0,f1,f2,f3,f4,f5⟩:=hf it (by simp)
  exact wpAny_pyNext_range_end (I.ok.hd hc) st (by have:n ≤ i:=hg;omega) fun h' eb=>⟨rfl,I.turned (t':=s.toks) (fun b o hb e=>eb b o hb e) f0 f1 f3 f4 f5⟩
 self:=fun _ _ _ _ _ st h=>wpAny_pyIter_rangeiter st h
end L2
namespace L2
open PySem PySem.Spec PyProof.Rows
section
variable {X:Cx}{tg:Expr}
theorem range_it {pins:List (Addr × Obj)}{σ:St}{H:Hp}{s:Shared}{R:It→Hp→Prop}{E:Value→Shared→Prop}{lo hi:Int}{t u v:Tok}{tk:Nat}(I:Inv X pins σ H s)(h1 : -(2 ^ 62) ≤ lo)(h2:lo < 2 ^ 62)(h3 : -(2 ^ 62) ≤ hi)(h4:hi < 2 ^ 62)
  (q:R (Itr lo (hi - lo).toNat) H):wpAny (model X.prog X.w) X.A (pyIter (.ref s.heap.objs.size)) (PIE X pins σ tg R) E { s with heap:=s.heap.push { cls:=.type "range",data:=.fields #[.int lo t,.int hi u,.int 1 v] },toks:=tk }:=by
 refine wpAny_pyIter_range (IsRange.new ..) (small_one h1 h2 h3 h4) ?_
 have I1:Inv X pins σ H { s with heap:=s.heap.push { cls:=.type "range",data:=.fields #[.int lo t,.int hi u,.int 1 v] },toks:=tk }:=I.kept fun b o e=>Ac _ e
 refine ⟨(s.heap.push { cls:=.type "range",data:=.fields #[.int lo t,.int hi u,.int 1 v] }).objs.size,[(s.heap.push { cls:=.type "range",data:=.fields #[.int lo t,.int hi u,.int 1 v] }).objs.size],_,_,H,rfl,
  I1.kept (t':=tk) fun b o e=>Ac _ e,uI _ lo (hi - lo).toNat,?_,fun b hb=>?_,q⟩
 ·have e1:lo + ((0:Nat):Int) * 1=lo:=by simp
  have e2:(((hi - lo).toNat:Nat):Int) - ((0:Nat):Int)=Builtin.Range.rangeSize lo hi 1:=by rw [rangeSize_one];split <;> omega
  show IsRangeIter _ _ (lo + ((0:Nat):Int) * 1) ((((hi - lo).toNat:Nat):Int) - ((0:Nat):Int)) 1
  rw [e1,e2]
  exact Aq _ rfl
 ·have e:b=(s.heap.push { cls:=.type "range",data:=.fields #[.int lo t,.int hi u,.int 1 v] }).objs.size:=by simpa using hb
  subst e
  exact I1.fpOk (Ag _) (I1.hok.fresh (Ag _))
def iRng1 (ta:TA):TI:=fun σ H R=>ta σ H fun vs H1=>∃ j:Int,vs=[.int j]∧-(2 ^ 62) ≤ j∧j < 2 ^ 62∧R (Itr 0 j.toNat) H1
theorem jH {a:Expr}{ta:TA}{p pos:Pos}(hg:Gl X "range") (hm:X.mg "range" = none) (ha:PA X [a] ta) (hs:starEach [a] X.env=[(false,eval a X.env)]:=by rfl):PI X tg (.Call (.Name "range" p) [a] [] pos) (iRng1 ta):=by
 intro pins s σ H R I h
 refine Call_ (dZ I hg hm boot_range (Bg (jU (ha pos pins s σ H _ I h) fun us s1 ⟨vs,H1,I1,r1,q1⟩=>?_) hs rfl))
 obtain ⟨j,e,q1,q2,q⟩:=q1
 subst e
 cases r1 with
 | cons r rr =>
  cases rr
  obtain ⟨t,rfl⟩:=r
  exact call_range_1 (range_it I1 (by omega) (by omega) q1 q2 (by simpa using q))
def tFor (wi:TI)(g:TG)(tb:TS):TS:=fun D σ H=>wi σ H fun J H1=>∃ W:Nat→Nat→St→Hp→Prop,(∃ m,W 0 m σ H1)∧∀ i m σ H,W i m σ H →
 (J.stop i H∧D.nx σ H)∨(J.go i H∧∃ N:St→Hp→Prop,(∀ σ' H',N σ' H'→∃ m',m' < m∧W (i + 1) m' σ' H')∧∀ x H',J.yld i H x H'→g x σ H' fun σ2 H2=>tb { D with nx:=N,ct:=N,bk:=D.nx } σ2 H2)
def mG (fp:List Addr)(h:Heap):List (Addr × Obj):=fp.filterMap fun b=>(h.get? b).map fun o=>(b,o)
theorem xW {fp:List Addr}{h:Heap}{b:Addr}{o:Obj}(hb:b ∈ fp)(e:h.get? b=some o):(b,o) ∈ mG fp h:=List.mem_filterMap.mpr ⟨b,hb,by rw [e];rfl⟩
theorem of_pinsAt {fp:List Addr}{h:Heap}{p:Addr × Obj}(hp:p ∈ mG fp h):p.1 ∈ fp∧h.get? p.1=some p.2:=by
 obtain ⟨b,hb,e⟩:=List.mem_filterMap.mp hp
 cases q:h.get? b with
 | none=>rw [q] at e;cases e
 | some o =>
  rw [q] at e
  have e':(b,o)=p:=AH e
  subst e'
  exact ⟨hb,q⟩
theorem Inv.pinned {pins:List (Addr × Obj)}{σ:St}{H:Hp}{s:Shared}{fp:List Addr}(I:Inv X pins σ H s)(hf:∀ b ∈ fp,vT X pins H b)(ho:∀ b ∈ fp,∃ o,s.heap.get? b=some o∧∀ v,o.data ≠ .cell v):Inv X (pins ++ mG fp s.heap) σ H s :=
 I.pins_of fun p hp=>(AG.mp hp).elim (fun z=>I.pin p (A7 _ z)) fun z=>by
  obtain ⟨hb,e⟩:=of_pinsAt z
  obtain ⟨f0,f1,f2,_⟩:=hf p.1 hb
  obtain ⟨o,e',d⟩:=ho p.1 hb
  rw [e] at e';cases e'
  exact ⟨e,f0,f1,f2,d⟩
theorem Inv.unpinned {pins pl:List (Addr × Obj)}{σ:St}{H:Hp}{s:Shared}(I:Inv X (pins ++ pl) σ H s):Inv X pins σ H s:=I.pins_of fun p hp=>I.pin p (A7 _ (AM _ hp))
theorem j9 {iter:Expr}{body:List Stmt}{wi:TI}{g:TG}{tb:TS}{pos:Pos}(hp:PassesOwn (model X.prog X.w) X.A X.env X.xe)(hc:X.calm=true)(hi:PI X tg iter wi)(hg:PG X tg g)(hb:PSs X body tb)
  (hs:∀ x,foldedSetIterable iter X.env x=pure x:=by intro _;rfl):PS X (.For tg iter body [] pos) (tFor wi g tb):=by
 intro pins s σ H D I h
 refine wpAny_For (jU (hi pins s σ H _ I h) fun v s1 h1=>jU h1 fun itv s2 h2=>?_) hs
 obtain ⟨it,fp,tn,J,H2,e,I2,T,st2,f2,W,⟨m0,w0⟩,turn⟩:=h2
 subst e
 have stat:∀ {H':Hp},(∀ b ∈ fp,H' b=none)→∀ b ∈ fp,vT X pins H' b:=fun hn b hb=>⟨hn b hb,(f2 b hb).2⟩
 refine codeAny_forLoop_any (fun n s'=>∃ i σ' H',Inv X pins σ' H' s'∧tn i s'.heap∧(∀ b ∈ fp,H' b=none)∧W i n σ' H') ?_ m0 ⟨0,σ,H2,I2,st2,fun b hb=>(f2 b hb).1,w0⟩
 rintro n s3 ⟨i,σ3,H3,I3,st3,fr3,w3⟩
 rcases turn i n σ3 H3 w3 with ⟨stop,qn⟩ | ⟨go,N,hN,step⟩
 ·refine wpAny_passesOwn hp (jU (T.done X rfl rfl rfl hc i pins s3 σ3 H3 X.xe I3 (stat fr3) st3 stop) fun r s4 ⟨hr,I4⟩=>?_)
  subst hr
  exact wpAny_execs_nil ⟨σ3,H3,I4,qn⟩
 ·refine wpAny_passesOwn hp (jU (T.item X rfl rfl rfl hc i pins s3 σ3 H3 X.xe I3 (stat fr3) st3 go) fun r s4 ⟨u,hr,h4⟩=>?_)
  subst hr
  refine wpAny_passesOwn hp (jU h4 fun _ s5 ⟨x,H5,I5,r5,y5,st5,fr5⟩=>?_)
  have I5':=I5.pinned (stat fr5) (T.obj _ _ st5)
  refine wpAny_passesOwn hp (jU (hg _ s5 σ3 H5 x u _ I5' r5 (step x H5 y5)) fun _ s6 ⟨σ6,H6,I6,q6⟩=>?_)
  refine wpAny_passesOwn hp (jU (hb _ s6 σ6 H6 _ I6 q6) fun f s7 q7=>?_)
  have again:∀ {σ7:St} {H7:Hp},Inv X (pins ++ mG fp s5.heap) σ7 H7 s7→N σ7 H7→∃ m,m < n∧∃ i σ' H',Inv X pins σ' H' s7∧tn i s7.heap∧(∀ b ∈ fp,H' b=none)∧W i m σ' H':=fun {σ7 H7} I7 n7=>by
   obtain ⟨m',hm,w7⟩:=hN σ7 H7 n7
   refine ⟨m',hm,i + 1,σ7,H7,I7.unpinned,T.keep _ _ _ st5 fun b hb o e=>(I7.pin (b,o) (A7 _ (A7 _ (xW hb e)))).1,fun b hb=>?_,w7⟩
   obtain ⟨o,e,d⟩:=T.obj _ _ st5 b hb
   exact (I7.pin (b,o) (A7 _ (A7 _ (xW hb e)))).2.1
  cases f with
  | next=>obtain ⟨σ7,H7,I7,n7⟩:=q7;exact again I7 n7
  | cont=>obtain ⟨σ7,H7,I7,n7⟩:=q7;exact again I7 n7
  | brk=>obtain ⟨σ7,H7,I7,q7⟩:=q7;exact ⟨σ7,H7,I7.unpinned,q7⟩
  | ret v=>obtain ⟨x7,σ7,H7,I7,r7,q7⟩:=q7;exact ⟨x7,σ7,H7,I7.unpinned,r7,q7⟩
end
theorem for_range {lo:Int}{n:Nat}{g:TG}{tb:TS}{D:Ends}{σ:St}{H:Hp}(Pv:Nat→St→Hp→Prop)(h0:Pv 0 σ H)
  (hs:∀ i σ H,i < n→Pv i σ H→g (.int (lo + i)) σ H fun σ2 H2=>tb { D with nx:=Pv (i + 1),ct:=Pv (i + 1),bk:=D.nx } σ2 H2) (hd:∀ σ H,Pv n σ H→D.nx σ H) :
  ∃ W:Nat→Nat→St→Hp→Prop,(∃ m,W 0 m σ H)∧∀ i m σ H,W i m σ H →
   ((Itr lo n).stop i H∧D.nx σ H)∨((Itr lo n).go i H∧∃ N:St→Hp→Prop,(∀ σ' H',N σ' H'→∃ m',m' < m∧W (i + 1) m' σ' H')∧∀ x H',(Itr lo n).yld i H x H'→g x σ H' fun σ2 H2=>tb { D with nx:=N,ct:=N,bk:=D.nx } σ2 H2):=by
 refine ⟨fun i m σ H=>m=n - i∧i ≤ n∧Pv i σ H,⟨n,by simp,AZ _,h0⟩,?_⟩
 rintro i m σ H ⟨rfl,hi,p⟩
 by_cases hlt:i < n
 ·refine .inr ⟨hlt,Pv (i + 1),fun σ' H' p'=>⟨n - (i + 1),by omega,rfl,hlt,p'⟩,fun x H' y=>?_⟩
  obtain ⟨e,y⟩:=y
  subst e y
  exact hs i σ _ hlt p
 ·have e:i=n:=by omega
  subst e
  exact .inl ⟨Ag _,hd σ H p⟩
end L2
namespace L2
open PySem PySem.Spec PyProof.Rows
abbrev R2:=V→V→Hp→VK→Prop
def vU (X:Cx)(f:Value→Value→Sem Value)(r:R2):Prop :=
 ∀ (pins:List (Addr × Obj)) (s:Shared) (σ:St) (H:Hp) (x y:V) (v u:Value) (Q:VK),Inv X pins σ H s→RelV x v→RelV y u→r x y H Q →
  wpAny (model X.prog X.w) X.A (f v u) (EP X pins σ Q) X.xe s
def UnR (X:Cx)(f:Value→Sem Value)(r:V→Hp→VK→Prop):Prop :=
 ∀ (pins:List (Addr × Obj)) (s:Shared) (σ:St) (H:Hp) (x:V) (v:Value) (Q:VK),Inv X pins σ H s→RelV x v→r x H Q →
  wpAny (model X.prog X.w) X.A (f v) (EP X pins σ Q) X.xe s
def zY (X:Cx)(f:Value)(r:List V→Hp→VK→Prop):Prop :=
 ∀ (pins:List (Addr × Obj)) (s:Shared) (σ:St) (H:Hp) (xs:List V) (us:List Value) (Q:VK),Inv X pins σ H s→Vals xs us→r xs H Q →
  wpAny (model X.prog X.w) X.A (call f us) (EP X pins σ Q) X.xe s
def tOp (r:R2)(ta tb:TE):TE:=fun σ H Q=>ta σ H fun x H1=>tb σ H1 fun y H2=>r x y H2 Q
def tUn (r:V→Hp→VK→Prop)(ta:TE):TE:=fun σ H Q=>ta σ H fun x H1=>r x H1 Q
def rI (C:Int→Int→Prop)(g:Int→Int→V):R2:=fun x y H Q=>∃ i j,x = .int i∧y = .int j∧C i j∧Q (g i j) H
def rI0 (g:Int→Int→V):R2:=fun x y H Q=>∃ i j,x = .int i∧y = .int j∧Q (g i j) H
def rU (g:Int→V):V→Hp→VK→Prop:=fun x H Q=>∃ i,x = .int i∧Q (g i) H
section
variable {X:Cx}{a b c:Expr}{ta tb tc:TE}{pos:Pos}
theorem binT (ha:PE X a ta)(hb:PE X b tb){pins:List (Addr × Obj)}{s:Shared}{σ:St}{H:Hp}{R:V→V→Hp→Prop}(I:Inv X pins σ H s)
  (h:ta σ H fun x H1=>tb σ H1 fun y H2=>R x y H2) {Q:Value→Shared→Prop} {f:Value→Value→Sem Value}
  (hf:∀ v u s2 x y H2,Inv X pins σ H2 s2→RelV x v→RelV y u→R x y H2→wpAny (model X.prog X.w) X.A (f v u) Q X.xe s2) :
  wpAny (model X.prog X.w) X.A (eval a X.env) (fun v s₁=>wpAny (model X.prog X.w) X.A (eval b X.env) (fun u s₂=>wpAny (model X.prog X.w) X.A (f v u) Q X.xe s₂) X.xe s₁) X.xe s:=by
 refine jU (ha pins s σ H _ I h) fun v s1 ⟨x,H1,I1,r1,q1⟩=>?_
 refine jU (hb pins s1 σ H1 _ I1 q1) fun u s2 ⟨y,H2,I2,r2,q2⟩=>?_
 exact hf v u s2 x y H2 I2 r1 r2 q2
theorem qV {op:Operator}{r:R2}(ho:vU X (binaryOp op) r)(ha:PE X a ta)(hb:PE X b tb):PE X (.BinOp a op b pos) (tOp r ta tb):=by
 intro pins s σ H Q I h
 exact wpAny_BinOp (binT ha hb I h fun v u s2 x y H2 I2 rx ry q=>ho pins s2 σ H2 x y v u Q I2 rx ry q)
theorem iT {op:UnaryOp}{r:V→Hp→VK→Prop}(ho:UnR X (unaryOp op) r)(ha:PE X a ta):PE X (.UnaryOp op a pos) (tUn r ta):=by
 intro pins s σ H Q I h
 exact UnaryOp_ (jU (ha pins s σ H _ I h) fun v s1 ⟨x,H1,I1,r1,q1⟩=>ho pins s1 σ H1 x v Q I1 r1 q1)
theorem opI {f:Value→Value→Sem Value}{C:Int→Int→Prop}{g:Int→Int→Int}
  (rule:∀ (i j:Int) (t u:Tok) (s:Shared) (Q:Value→Shared→Prop) (E:Value→Shared→Prop),C i j→Q (.int (g i j) s.toks) { s with toks:=s.toks + 1 }→wpAny (model X.prog X.w) X.A (f (.int i t) (.int j u)) Q E s) :
  vU X f (rI C fun i j=>.int (g i j)):=by
 intro pins s σ H x y v u Q I rx ry h
 obtain ⟨i,j,rfl,rfl,hc,q⟩:=h
 obtain ⟨t,rfl⟩:=rx
 obtain ⟨t',rfl⟩:=ry
 exact rule i j t t' s _ _ hc ⟨.int (g i j),H,I.tok _,⟨_,rfl⟩,q⟩
theorem opI0 {f:Value→Value→Sem Value}{g:Int→Int→Int}
  (rule:∀ (i j:Int) (t u:Tok) (s:Shared) (Q:Value→Shared→Prop) (E:Value→Shared→Prop),Q (.int (g i j) s.toks) { s with toks:=s.toks + 1 }→wpAny (model X.prog X.w) X.A (f (.int i t) (.int j u)) Q E s) :
  vU X f (rI0 fun i j=>.int (g i j)):=by
 intro pins s σ H x y v u Q I rx ry h
 obtain ⟨i,j,rfl,rfl,q⟩:=h
 obtain ⟨t,rfl⟩:=rx
 obtain ⟨t',rfl⟩:=ry
 exact rule i j t t' s _ _ ⟨.int (g i j),H,I.tok _,⟨_,rfl⟩,q⟩
theorem opB0 {f:Value→Value→Sem Value}{g:Int→Int→Bool}
  (rule:∀ (i j:Int) (t u:Tok) (s:Shared) (Q:Value→Shared→Prop) (E:Value→Shared→Prop),Q (.bool (g i j)) s→wpAny (model X.prog X.w) X.A (f (.int i t) (.int j u)) Q E s) :
  vU X f (rI0 fun i j=>.bl (g i j)):=by
 intro pins s σ H x y v u Q I rx ry h
 obtain ⟨i,j,rfl,rfl,q⟩:=h
 obtain ⟨t,rfl⟩:=rx
 obtain ⟨t',rfl⟩:=ry
 exact rule i j t t' s _ _ ⟨.bl (g i j),H,I,rfl,q⟩
def CDiv (i j:Int):Prop:=0 < j∧j < 1073741824
def CPow (i j:Int):Prop:=0 ≤ j∧j ≤ 1000000∧i.natAbs < 2 ^ 64
def CMul (i j:Int):Prop:=(-(2 ^ 64) < i∧i < 2 ^ 64)∨(-(2 ^ 64) < j∧j < 2 ^ 64)
theorem CMul.ok {i j:Int}(h:CMul i j):IntMulOk i j:=by
 rcases h with ⟨h1,h2⟩ | ⟨h1,h2⟩
 ·exact .of_left (intBits_le_64 h1 h2)
 ·exact .of_right (intBits_le_64 h1 h2)
theorem uH (k:Nat):(0:Int) ≤ 2 ^ k:=by
 rw [two_pow_cast]
 exact Int.natCast_nonneg _
theorem jD:vU X (binaryOp .Add) (rI0 fun i j=>.int (i + j)):=opI0 fun _ _ _ _ _ _ _ q=>add_int q
theorem yU:vU X (binaryOp .Sub) (rI0 fun i j=>.int (i - j)):=opI0 fun _ _ _ _ _ _ _ q=>sub_int q
theorem dU:vU X (binaryOp .Mult) (rI CMul fun i j=>.int (i * j)):=opI fun _ _ _ _ _ _ _ hc q=>mul_int q hc.ok
theorem g6:vU X (binaryOp .FloorDiv) (rI CDiv fun i j=>.int (i / j)):=opI fun i j _ _ _ _ _ hc q=>by
 have h1:(0:Int) < j:=hc.1
 have h2:j < 1073741824:=hc.2
 exact floordiv_int (by omega) (by rw [Int.fdiv_eq_ediv_of_nonneg i (by omega)];exact q) (.inl (PyProof.noPylong_small (by omega)))
theorem xR:vU X (binaryOp .Mod) (rI (fun _ j=>0 < j) fun i j=>.int (i % j)):=opI fun i j _ _ _ _ _ hc q=>by
 have h1:(0:Int) < j:=hc
 exact mod_int' (by omega) (by rw [Int.fmod_eq_emod_of_nonneg i (by omega)];exact q)
theorem op_pow:vU X (binaryOp .Pow) (rI CPow fun i j=>.int (i ^ j.toNat)):=opI fun _ _ _ _ _ _ _ hc q=>pow_int_small hc.1 hc.2.1 hc.2.2 q
theorem dS:vU X (binaryOp .LShift) (rI CPow fun i j=>.int (i * 2 ^ j.toNat)):=opI fun _ _ _ _ _ _ _ hc q=>lshift_int_small hc.1 hc.2.1 hc.2.2 q
theorem op_shr:vU X (binaryOp .RShift) (rI (fun _ j=>0 ≤ j) fun i j=>.int (i / 2 ^ j.toNat)):=opI fun i j _ _ _ _ _ hc q =>
 rshift_int hc (by rw [Int.fdiv_eq_ediv_of_nonneg i (uH _)];exact q)
theorem p8:vU X (binaryOp .BitAnd) (rI0 fun i j=>.int (Builtin.bitAnd i j)):=opI0 fun _ _ _ _ _ _ _ q=>and_int q
theorem op_or:vU X (binaryOp .BitOr) (rI0 fun i j=>.int (Builtin.bitOr i j)):=opI0 fun _ _ _ _ _ _ _ q=>or_int q
theorem op_xor:vU X (binaryOp .BitXor) (rI0 fun i j=>.int (Builtin.bitXor i j)):=opI0 fun _ _ _ _ _ _ _ q=>xor_int q
theorem unI {f:Value→Sem Value}{g:Int→Int}
  (rule:∀ (i:Int) (t:Tok) (s:Shared) (Q:Value→Shared→Prop) (E:Value→Shared→Prop),Q (.int (g i) s.toks) { s with toks:=s.toks + 1 }→wpAny (model X.prog X.w) X.A (f (.int i t)) Q E s) :
  UnR X f (rU fun i=>.int (g i)):=by
 intro pins s σ H x v Q I rx h
 obtain ⟨i,rfl,q⟩:=h
 obtain ⟨t,rfl⟩:=rx
 exact rule i t s _ _ ⟨.int (g i),H,I.tok _,⟨_,rfl⟩,q⟩
theorem pM:UnR X (unaryOp .USub) (rU fun i=>.int (-i)):=unI fun _ _ _ _ _ q=>neg_int q
end
def xD:V→V→Bool
 | .non,.non=>true | .non,.int _=>true | .int _,.non=>true | .non,.bl _=>true | .bl _,.non=>true | .non,.str _=>true | .str _,.non=>true
 | .int _,.int _=>true | .bl _,.bl _=>true | .str _,.str _=>true | .byt _,.byt _=>true
 | .int _,.str _=>true | .str _,.int _=>true | .bl _,.str _=>true | .str _,.bl _=>true
 | _,_=>false
def rEq:R2:=fun x y H Q=>xD x y=true∧Q (.bl (decide (x=y))) H
def rNe:R2:=fun x y H Q=>xD x y=true∧Q (.bl (!decide (x=y))) H
theorem oS {i j:Int}:decide (V.int i=V.int j)=(i == j):=by
 rw [Bu]
 simp
theorem dec_bl {i j:Bool}:decide (V.bl i=V.bl j)=(i == j):=by
 rw [Bu]
 simp
theorem oR {i j:Str}:decide (V.str i=V.str j)=(i == j):=by
 rw [Bu]
 simp
theorem oT {i j:Array UInt8}:decide (V.byt i=V.byt j)=(i.toList == j.toList):=by
 rw [Bu]
 cases i
 cases j
 simp
section
variable {X:Cx}{a b c:Expr}{ta tb tc:TE}{pos:Pos}
theorem kQ {pins:List (Addr × Obj)}{σ:St}{H:Hp}{s:Shared}{Q:VK}{k k':Bool}(I:Inv X pins σ H s)(q:Q (.bl k) H)(e:k=k'):EP X pins σ Q (.bool k') s:=by
 subst e
 exact ⟨.bl k,H,I,rfl,q⟩
theorem zL:vU X (compareOp .Eq) rEq:=by
 intro pins s σ H x y v u Q I rx ry h
 obtain ⟨hs,q⟩:=h
 cases x with
 | non =>
  cases rx
  cases y with
  | non=>cases ry;exact PySem.EqNone.eq_none_none (kQ I q (by simp))
  | bl j=>cases ry;exact PySem.EqNone.eq_none_bool (kQ I q (by simp))
  | int j=>obtain ⟨t',rfl⟩:=ry;exact PySem.EqNone.eq_none_int (kQ I q (by simp))
  | str j=>obtain ⟨t',rfl⟩:=ry;exact PySem.EqNone.eq_none_str (kQ I q (by simp))
  | _=>exact absurd (show false=true from hs) A2
 | bl i =>
  cases rx
  cases y with
  | non=>cases ry;exact PySem.EqNone.eq_bool_none (kQ I q (by simp))
  | bl j=>cases ry;exact eq_bool (kQ I q dec_bl)
  | str j=>obtain ⟨t',rfl⟩:=ry;exact PySem.EqMixed.eq_bool_str (kQ I q (by simp))
  | _=>exact absurd (show false=true from hs) A2
 | int i =>
  obtain ⟨t,rfl⟩:=rx
  cases y with
  | non=>cases ry;exact PySem.EqNone.eq_int_none (kQ I q (by simp))
  | int j=>obtain ⟨t',rfl⟩:=ry;exact eq_int (kQ I q oS)
  | str j=>obtain ⟨t',rfl⟩:=ry;exact PySem.EqMixed.eq_int_str (kQ I q (by simp))
  | _=>exact absurd (show false=true from hs) A2
 | str i =>
  obtain ⟨t,rfl⟩:=rx
  cases y with
  | non=>cases ry;exact PySem.EqNone.eq_str_none (kQ I q (by simp))
  | bl j=>cases ry;exact PySem.EqMixed.eq_str_bool (kQ I q (by simp))
  | int j=>obtain ⟨t',rfl⟩:=ry;exact PySem.EqMixed.eq_str_int (kQ I q (by simp))
  | str j=>obtain ⟨t',rfl⟩:=ry;exact eq_str (kQ I q oR)
  | _=>exact absurd (show false=true from hs) A2
 | byt i =>
  obtain ⟨t,rfl⟩:=rx
  cases y with
  | byt j=>obtain ⟨t',rfl⟩:=ry;exact PySem.W.eq_bytes (kQ I q oT)
  | _=>exact absurd (show false=true from hs) A2
 | _=>cases y <;> exact absurd (show false=true from hs) A2
theorem op_ne:vU X (compareOp .NotEq) rNe:=by
 intro pins s σ H x y v u Q I rx ry h
 obtain ⟨hs,q⟩:=h
 cases x with
 | non =>
  cases rx
  cases y with
  | non=>cases ry;exact PySem.EqNone.ne_none_none (kQ I q (by simp))
  | bl j=>cases ry;exact PySem.EqNone.ne_none_bool (kQ I q (by simp))
  | int j=>obtain ⟨t',rfl⟩:=ry;exact PySem.EqNone.ne_none_int (kQ I q (by simp))
  | str j=>obtain ⟨t',rfl⟩:=ry;exact PySem.EqNone.ne_none_str (kQ I q (by simp))
  | _=>exact absurd (show false=true from hs) A2
 | bl i =>
  cases rx
  cases y with
  | non=>cases ry;exact PySem.EqNone.ne_bool_none (kQ I q (by simp))
  | bl j=>cases ry;exact ne_bool (kQ I q (Bi not dec_bl))
  | str j=>obtain ⟨t',rfl⟩:=ry;exact PySem.EqMixed.ne_bool_str (kQ I q (by simp))
  | _=>exact absurd (show false=true from hs) A2
 | int i =>
  obtain ⟨t,rfl⟩:=rx
  cases y with
  | non=>cases ry;exact PySem.EqNone.ne_int_none (kQ I q (by simp))
  | int j=>obtain ⟨t',rfl⟩:=ry;exact ne_int (kQ I q (Bi not oS))
  | str j=>obtain ⟨t',rfl⟩:=ry;exact PySem.EqMixed.ne_int_str (kQ I q (by simp))
  | _=>exact absurd (show false=true from hs) A2
 | str i =>
  obtain ⟨t,rfl⟩:=rx
  cases y with
  | non=>cases ry;exact PySem.EqNone.ne_str_none (kQ I q (by simp))
  | bl j=>cases ry;exact PySem.EqMixed.ne_str_bool (kQ I q (by simp))
  | int j=>obtain ⟨t',rfl⟩:=ry;exact PySem.EqMixed.ne_str_int (kQ I q (by simp))
  | str j=>obtain ⟨t',rfl⟩:=ry;exact ne_str (kQ I q (Bi not oR))
  | _=>exact absurd (show false=true from hs) A2
 | byt i =>
  obtain ⟨t,rfl⟩:=rx
  cases y with
  | byt j=>obtain ⟨t',rfl⟩:=ry;exact PySem.W.ne_bytes (kQ I q (Bi not oT))
  | _=>exact absurd (show false=true from hs) A2
 | _=>cases y <;> exact absurd (show false=true from hs) A2
theorem op_lt:vU X (compareOp .Lt) (rI0 fun i j=>.bl (decide (i < j))):=opB0 fun _ _ _ _ _ _ _ q=>lt_int q
theorem op_le:vU X (compareOp .LtE) (rI0 fun i j=>.bl (decide (i ≤ j))):=opB0 fun _ _ _ _ _ _ _ q=>le_int q
theorem lI:vU X (compareOp .Gt) (rI0 fun i j=>.bl (decide (j < i))):=opB0 fun _ _ _ _ _ _ _ q=>gt_int q
theorem op_ge:vU X (compareOp .GtE) (rI0 fun i j=>.bl (decide (j ≤ i))):=opB0 fun _ _ _ _ _ _ _ q=>ge_int q
theorem p7:vU X (compareOp .IsNot) (fun x y H Q=>y = .non∧Q (.bl (!decide (x = .non))) H):=by
 intro pins s σ H x y v u Q I rx ry h
 obtain ⟨rfl,q⟩:=h
 cases ry
 refine isnot_none_gen (kQ I q ?_)
 cases x <;> first
  | (cases rx;rfl)
  | (obtain ⟨t,rfl⟩:=rx;rfl)
theorem kK (b:Expr){op:CmpOp}(h:op ≠ .In:=by decide)(h2:op ≠ .NotIn:=by decide):behindInMarks op b=false:=by
 have e1:(op == CmpOp.In)=false:=by cases op <;> first | rfl | exact absurd rfl h
 have e2:(op == CmpOp.NotIn)=false:=by cases op <;> first | rfl | exact absurd rfl h2
 cases b <;> simp [behindInMarks,e1,e2]
theorem xQ {op:CmpOp}{r:R2}(ho:vU X (compareOp op) r)(ha:PE X a ta)(hb:PE X b tb)(hm:behindInMarks op b=false):PE X (.Compare a [op] [b] pos) (tOp r ta tb):=by
 intro pins s σ H Q I h
 exact wpAny_Compare1 (binT ha hb I h fun v u s2 x y H2 I2 rx ry q=>ho pins s2 σ H2 x y v u Q I2 rx ry q) hm
def tTest (t:TE):TT:=fun σ H Q=>t σ H fun x H'=>∃ k,x = .bl k∧Q k H'
theorem kH {op:CmpOp}{r:R2}(ho:vU X (compareOp op) r)(ha:PE X a ta)(hb:PE X b tb)(hm:behindInMarks op b=false):PT X (.Compare a [op] [b] pos) (tTest (tOp r ta tb)):=by
 intro pins s σ H Q I h
 refine wpAny_isTrue_Compare1 (jU (ha pins s σ H _ I h) fun v s1 ⟨x,H1,I1,r1,q1⟩=>jU (hb pins s1 σ H1 _ I1 q1) fun u s2 ⟨y,H2,I2,r2,q2⟩ =>
  jU (ho pins s2 σ H2 x y v u _ I2 r1 r2 q2) fun c s3 ⟨z,H3,I3,r3,k,e,q3⟩=>?_) hm
 subst e
 cases r3
 exact wpAny_truthy_bool ⟨H3,I3,q3⟩
def tChain (r r':R2)(ta tb tc:TE):TE:=fun σ H Q=>ta σ H fun x H1=>tb σ H1 fun y H2=>r x y H2 fun z H3=>∃ k,z = .bl k ∧
 (if k=true then tc σ H3 fun w' H4=>r' y w' H4 Q else Q (.bl false) H3)
theorem pe_chain {op op':CmpOp}{r r':R2}(ho:vU X (compareOp op) r)(ho':vU X (compareOp op') r')(ha:PE X a ta)(hb:PE X b tb)(hc:PE X c tc)
  (hm:lastMarks [op,op'] [b,c] = false:=by with_unfolding_all rfl):PE X (.Compare a [op,op'] [b,c] pos) (tChain r r' ta tb tc):=by
 intro pins s σ H Q I h
 refine Compare_chain (jU (ha pins s σ H _ I h) fun v s1 ⟨x,H1,I1,r1,q1⟩=>chain_link (jU (hb pins s1 σ H1 _ I1 q1) fun u s2 ⟨y,H2,I2,r2,q2⟩ =>
  jU (ho pins s2 σ H2 x y v u _ I2 r1 r2 q2) fun d s3 ⟨z,H3,I3,r3,k,e,q3⟩=>?_)) hm
 subst e
 cases r3
 refine wpAny_truthy_bool ?_
 cases k with
 | false=>exact ite_ff ⟨.bl false,H3,I3,rfl,q3⟩
 | true=>exact ite_tt (chain_last (jU (hc pins s3 σ H3 _ I3 q3) fun w' s4 ⟨z',H4,I4,r4,q4⟩=>ho' pins s4 σ H4 y z' u w' Q I4 r2 r4 q4))
theorem rB:(sizeLine:Nat) < 2 ^ 63:=by rw [sizeLine_eq];decide
theorem vals1 {x:V}{us:List Value}(r:Vals [x] us):∃ u,us=[u]∧RelV x u:=by
 cases r with
 | cons r1 r2=>cases r2;exact ⟨_,rfl,r1⟩
theorem vals2 {x y:V}{us:List Value}(r:Vals [x,y] us):∃ u w',us=[u,w']∧RelV x u∧RelV y w':=by
 cases r with
 | cons r1 r2 =>
  cases r2 with
  | cons r3 r4=>cases r4;exact ⟨_,_,rfl,r1,r3⟩
theorem uB:zY X (.builtin "abs") (fun xs H Q=>∃ i,xs=[.int i]∧Q (.int (if i < 0 then -i else i)) H):=by
 intro pins s σ H xs us Q I r h
 obtain ⟨i,rfl,q⟩:=h
 obtain ⟨u,rfl,t,rfl⟩:=vals1 r
 exact call_abs_int fun u tk=>⟨.int (if i < 0 then -i else i),H,I.tok _,⟨_,rfl⟩,q⟩
theorem lZ (hc:X.calm=true):zY X (.builtin "max") (fun xs H Q=>∃ i j,xs=[.int i,.int j]∧Q (.int (if j > i then j else i)) H):=by
 intro pins s σ H xs us Q I r h
 obtain ⟨i,j,rfl,q⟩:=h
 obtain ⟨u,w',rfl,⟨t,rfl⟩,⟨t',rfl⟩⟩:=vals2 r
 refine max_two_ints (I.ok.hd hc) fun h' tk k=>⟨_,H,I.kept k,?_,q⟩
 by_cases hj:j > i
 ·rw [Ak hj,Ak hj];exact ⟨_,rfl⟩
 ·rw [Aj hj,Aj hj];exact ⟨_,rfl⟩
end
end L2
namespace L2
open PySem PySem.Spec PyProof.Rows
section
variable {prog:Program}{w:World}{A:Around}{E:Value→Shared→Prop}{s:Shared}{K:PySem.W.Frag}{x dx C f:Addr}{mA:Str→Option Value}{name:Str}{v:Value}
end
section
variable {P:Program}{w:World}{H H':Hp}{h h':Heap}{a C dx:Addr}{fs fs':List (Str × V)}
end
structure Cls (K:PySem.W.Frag)(C:Addr):Prop where
 pg:PySem.W.plainGet K C Str.empty=true
 hd:PySem.W.hasDictIn K C=true
 po:PySem.W.plainOver K C=true
 sa:PySem.W.findIn K (.ref C) "__setattr__" = some (some (.builtin "object.__setattr__"))
section
variable {X:Cx}{pins:List (Addr × Obj)}{σ:St}{H:Hp}{s:Shared}{a C dx:Addr}{fs:List (Str × V)}{f:Str}{v:V}{A:Around}{E:Value→Shared→Prop}
end
section
variable {X:Cx}{o e value:Expr}{f:Str}{pos pos' tpos:Pos}{ta tv:TE}
end
section
variable {X:Cx}{pins:List (Addr × Obj)}{σ:St}{H:Hp}{s:Shared}{A:Around}{E:Value→Shared→Prop}{Q:Value→Shared→Prop}{c:Value}{b:Bool}
inductive TyOf (K:PySem.W.Frag)(H:Hp):V→Value→Prop where
 | non:TyOf K H .non (.type "NoneType")
 | bl (x:Bool):TyOf K H (.bl x) (.type "bool")
 | int (i:Int):TyOf K H (.int i) (.type "int")
 | str (x:Str):TyOf K H (.str x) (.type "str")
 | flt (x:UInt64):TyOf K H (.flt x) (.type "float")
 | lst {a:Addr} {xs:List V} (e:H a=some (.lst xs)):TyOf K H (.ref a) (.type "list")
 | frz {a:Addr} {o:Obj} {xs:List V} (e:H a=some (.frz o (.lst xs))):TyOf K H (.ref a) (.type "list")
 | tup {a:Addr} {xs:List V} (e:H a=some (.tup xs)):TyOf K H (.ref a) (.type "tuple")
 | dK {a:Addr} {kvs:List (Key × V)} (e:H a=some (.dK kvs)):TyOf K H (.ref a) (.type "dict")
 | dT {a:Addr} {kvs:List (List Key × V)} (e:H a=some (.dT kvs)):TyOf K H (.ref a) (.type "dict")
 | ins {a C dx:Addr} {fs:List (Str × V)} (e:H a=some (.ins C dx fs)) (cl:Cls K C) (ha:PySem.W.findIn K (.ref C) "__class__" = some (some (.builtin "object.__class__")))
   (hn:PySem.W.specialIn K (.builtin "object.__class__") "__get__" = some (some (.builtin "getset_descriptor.__get__"))) (htk:PySem.W.takesIn K (.builtin "object.__class__")=some true)
   (hm:PySem.W.mroIn K C (.type "object")=some true):TyOf K H (.ref a) (.ref C)
end
end L2
namespace L2
open PySem PySem.Spec PyProof.Rows
structure Room (k:Nat)(A:Around):Prop where
 hd:A.handled=none
 dp:A.depth + 3 * k + 5 < recursionLimit
 un:A.units + 16 * k + 200 < cLine
 gd:A.guards=some []
theorem Room.mono {j k:Nat}{A:Around}(r:Room k A)(h:j ≤ k):Room j A:=⟨r.hd,by have:=r.dp;omega,by have:=r.un;omega,by first | exact r.gd | (simp [Around.under,Code.guards,Code.isGuard,guardIds];exact r.gd)⟩
theorem Room.deeper {k:Nat}{A:Around}(r:Room (k + 1) A)(env:Env):Room k (A.deeper env) :=
 ⟨r.hd,by have:=r.dp;show A.depth + 1 + 3 * k + 5 < _;omega,by have:=r.un;show A.units + 3 + 16 * k + 200 < _;omega,by first | exact r.gd | (simp [Around.under,Code.guards,Code.isGuard,guardIds];exact r.gd)⟩
theorem Room.depth {k:Nat}{A:Around}(r:Room k A):A.depth < recursionLimit:=by have:=r.dp;omega
theorem Room.units {k:Nat}{A:Around}(r:Room k A):A.units + 64 < cLine:=by have:=r.un;omega
theorem Room.units0 {k:Nat}{A:Around}(r:Room k A):A.units < cLine:=by have:=r.un;omega
def tNil:TA:=fun _ H Q=>Q [] H
def tCons (ta:TE)(tr:TA):TA:=fun σ H Q=>ta σ H fun x H1=>tr σ H1 fun xs H2=>Q (x :: xs) H2
section
variable {X:Cx}{e:Expr}{es:List Expr}{te:TE}{t:TA}{pos:Pos}
theorem qD:PA X [] tNil:=fun _ _ _ _ H Q I h=>Calls.spliced_nil ⟨[],H,I,.nil,h⟩
theorem iV (ha:PE X e te)(hr:PA X es t)(hs:starEach (e :: es) X.env=(false,eval e X.env) :: starEach es X.env:=by rfl):PA X (e :: es) (tCons te t):=by
 intro pos pins s σ H Q I h
 rw [hs]
 show wpAny _ _ (spliced ((false,eval e X.env) :: backTo pos (starEach es X.env))) _ _ s
 refine Calls.spliced_cons (jU (ha pins s σ H _ I h) fun u s1 ⟨x,H1,I1,r1,q1⟩=>?_)
 exact jU (hr pos pins s1 σ H1 _ I1 q1) fun us s2 ⟨xs,H2,I2,r2,q2⟩=>⟨x :: xs,H2,I2,.cons r1 r2,q2⟩
def tLst (t:TA):TE:=fun σ H Q=>t σ H fun xs H1=>xs.length ≤ sizeLine∧∀ p,H1 p=none→Q (.ref p) (upd H1 p (.lst xs))
theorem pe_lst (h:PA X es t):PE X (.List es pos) (tLst t):=by
 intro pins s σ H Q I hq
 refine wpAny_List_spliced (jU (h pos pins s σ H _ I hq) fun us s1 ⟨xs,H1,I1,r,z,q⟩=>⟨by rw [← r.length];exact z,?_⟩)
 have hf:H1 s1.heap.objs.size=none:=I1.hok.fresh (Ag _)
 refine ⟨.ref s1.heap.objs.size,upd H1 s1.heap.objs.size (.lst xs),I1.laid (t':=s1.toks) (fun b u e=>Ac _ e) (Ag _) ?_,rfl,q _ hf⟩
 exact ⟨z,us,0,r,Aq _ rfl⟩
end
abbrev Sp:=List V→Hp→VK→XK→Prop
abbrev CXT:=List Env→Hp→Shared→XK→Value→Shared→Prop
structure Env0 (P:Program)(w:World)(K:PySem.W.Frag)(mg:Str→Option Value)(base:Heap)(A:Around)(outer:List Env)(s:Shared)(H:Hp):Prop where
 frames:A.frames=some outer
 mod:Mod K mg base
 bs:∀ b o,base.get? b=some o→s.heap.get? b=some o∧H b=none
 bsz:base.objs.size ≤ s.heap.objs.size
 funs:s.heap.FunFrames base outer
 frf:∀ b ∈ frs outer,H b=none
 hok:HOk P w H s.heap
 bare:AllBare s.gens
def CE (outer:List Env)(P:Program)(w:World)(H:Hp)(s:Shared)(Q:VK)(u:Value)(s':Shared):Prop :=
 ∃ v H',s'.os=s.os∧AllBare s'.gens∧Un (frs outer) [] H H' s.heap s'.heap∧HOk P w H' s'.heap∧RelV v u∧Q v H'
def CR (CX:CXT)(outer:List Env)(P:Program)(w:World)(H:Hp)(s:Shared)(Q:VK)(E:XK)(r:Result)(s':Shared):Prop :=
 match r with
 | .ok (.ret u)=>CE outer P w H s Q u s'
 | .ok _=>False
 | .error e=>CX outer H s E e s'
structure FnOk (P:Program)(w:World)(K:PySem.W.Frag)(mg:Str→Option Value)(base:Heap)(CX:CXT)(k:Nat)(f:Addr)(fd:FuncData)(ps:List Str)(sp:Sp):Prop where
 len:∀ vs H Q E,sp vs H Q E→vs.length=ps.length
 run:∀ (A:Around) (outer:List Env) (s:Shared) (H:Hp) (args:Args) (us:List Value) (vs:List V) (Q:VK) (E:XK),Room k A→Env0 P w K mg base A outer s H→BindsTo s fd args (ps.zip us)→Vals vs us→sp vs H Q E →
  codeAny (model P w) A (.call (.ref f) args) (CR CX outer P w H s Q E) s
section
variable {X:Cx}{pins:List (Addr × Obj)}{σ:St}{H:Hp}{s s':Shared}
theorem Inv.env0 (I:Inv X pins σ H s):Env0 X.prog X.w X.K X.mg X.base X.A X.stack s H :=
 ⟨I.ok.frames,I.ok.mod,I.bs,AK I.ok.bsz I.sz,I.stack,I.stkFree,I.hok,I.bare⟩
theorem Inv.after {Q:VK}{u:Value}(I:Inv X pins σ H s)(h:CE X.stack X.prog X.w H s Q u s'):EP X pins σ Q u s':=by
 obtain ⟨v,H',os,bare,un,hok,r,q⟩:=h
 obtain ⟨hh,g,d,t,os'⟩:=s'
 obtain rfl:os'=s.os:=os
 exact ⟨v,H',I.call (h':=hh) (g':=g) (d':=d) (t':=t) (ch:=[]) un hok bare (fun b z=>absurd z (by simp)),r,q⟩
end
def tCall (sp:Sp)(dvs:List V)(E:XK)(t:TA):TE:=fun σ H Q=>t σ H fun vs H1=>sp (vs ++ dvs) H1 Q E
def Binds (K:PySem.W.Frag)(fd:FuncData)(ps:List Str)(ds:List Value):Prop :=
 ∀ (s:Shared) (us:List Value),K.In s.heap→(us ++ ds).length=ps.length→BindsTo s fd ⟨us,[]⟩ (ps.zip (us ++ ds))
theorem Binds.all {K:PySem.W.Frag}{fd:FuncData}{ps:List Str}(h:∀ us:List Value,us.length=ps.length→bindArgs fd ⟨us,[]⟩=pure (ps.zip us)):Binds K fd ps []:=fun s us _ hl=>by
 rw [Bv] at hl ⊢
 exact .of_eq (h us hl)
def aZ (CX:CXT)(X:Cx)(E:XK):Prop:=∀ (pins:List (Addr × Obj)) (σ:St) (H:Hp) (s:Shared) (e:Value) (s':Shared),Inv X pins σ H s→CX X.stack H s E e s'→X.xe e s'
section
variable {X:Cx}{CX:CXT}{k:Nat}{f C:Addr}{fd:FuncData}{ps:List Str}{sp:Sp}{dvs:List V}{ds:List Value}{E:XK}{x m:Str}{p pos apos:Pos}{e o:Expr}{es:List Expr}{ta:TE}{t:TA}
theorem run_fn {pins:List (Addr × Obj)}{σ:St}{H:Hp}{s:Shared}{Q:VK}{us:List Value}{vs:List V}(F:FnOk X.prog X.w X.K X.mg X.base CX k f fd ps sp)(hr:Room k X.A)(hb:Binds X.K fd ps ds)(hd:Vals dvs ds)(hx:aZ CX X E)
  (I:Inv X pins σ H s) (r:Vals vs us) (h:sp (vs ++ dvs) H Q E):wpAny (model X.prog X.w) X.A (call (.ref f) us) (EP X pins σ Q) X.xe s:=by
 have r2:Vals (vs ++ dvs) (us ++ ds):=r.append hd
 have hl:(us ++ ds).length=ps.length:=by rw [← r2.length];exact F.len _ _ _ _ h
 refine wpAny_call (codeAny_mono (F.run X.A X.stack s H ⟨us,[]⟩ (us ++ ds) (vs ++ dvs) Q E hr I.env0 (hb s us I.kIn hl) r2 h) fun r s' hq=>?_)
 cases r with
 | error e=>exact hx pins σ H s e s' I hq
 | ok fl =>
  cases fl with
  | ret u=>exact I.after hq
  | next=>exact False.elim hq
  | brk=>exact False.elim hq
  | cont=>exact False.elim hq
theorem pe_call (F:FnOk X.prog X.w X.K X.mg X.base CX k f fd ps sp)(hr:Room k X.A)(hg:Gl X x)(hm:X.mg x=some (.ref f))(hk:PySem.W.keepIn X.K (.ref f)=true)(hb:Binds X.K fd ps ds)(hd:Vals dvs ds)(hx:aZ CX X E)
  (ha:PA X (e :: es) t) (hdb:(x == ("__debug__" : Str))=false:=by decide) (he:starEach (e :: es) X.env=(false,eval e X.env) :: starEach es X.env:=by rfl) (hpl:(backTo pos (starEach es X.env)).any (·.1)=false:=by rfl) :
  PE X (.Call (.Name x p) (e :: es) [] pos) (tCall sp dvs E t):=by
 intro pins s σ H Q I h
 refine wpAny_Call_Name_kw (ld_glob I hg hm ?_ hdb)
 refine PySem.W.callWith_K (h₀:=X.base) I.ok.mod.kin hk (jU (ha pos pins s σ H _ I h) fun us s1 ⟨vs,H1,I1,r,q⟩=>⟨I1.kIn,?_⟩) he hpl
 exact run_fn F hr hb hd hx I1 r q
end
section
variable {X:Cx}{CX:CXT}{k:Nat}{f C:Addr}{fd:FuncData}{ps ks:List Str}{sp:Sp}{E:XK}{x m:Str}{p pos apos kpos:Pos}{e o:Expr}{es:List Expr}{kws:List Keyword}{te ta:TE}{t tk:TA}{nm:Option Str}
variable {g:List Value→List Value→List Value}{gV:List V→List V→List V}
end
structure FnScope (N P:List Str)(sc:Scope):Prop where
 kind:sc.kind = .function
 co:sc.isCoroutine=false
 gen:sc.isGenerator=false
 nd:N.Nodup
 pre:N.take P.length=P
 par:∀ x ∈ P,sc.names.lookup x=some .local∨sc.names.lookup x=some .cell
 nofree:∀ y ∈ sc.names,y.2 ≠ .free
theorem pD {kindOf:Str→Option NameKind}{x:Str}:∀ {binds:List (Str × Value)} {m:Str→Option Value},(∀ v,(x,v) ∉ binds)→bindL kindOf binds m x=m x
 | [],_,_=>rfl
 | (n,v) :: r,m,h=>by
  unfold bindL
  rw [pD fun w hw=>h w (Ad _ hw)]
  split
  ·have:x ≠ n:=by rintro rfl;exact h v Af
   simp [this]
  ·rfl
theorem pF {kindOf:Str→Option NameKind}{x:Str}:∀ {binds:List (Str × Value)} {m:Str→Option Value},(∀ v,(x,v) ∉ binds)→bindC kindOf binds m x=m x
 | [],_,_=>rfl
 | (n,v) :: r,m,h=>by
  unfold bindC
  rw [pF fun w hw=>h w (Ad _ hw)]
  split
  ·rfl
  ·have:x ≠ n:=by rintro rfl;exact h v Af
   simp [this]
theorem pE {kindOf:Str→Option NameKind}{x:Str}{v:Value}:∀ {P:List Str} {vs:List Value} {i:Nat} {m:Str→Option Value},P.Nodup→P[i]? = some x→vs[i]? = some v→kindOf x=some .local →
  bindL kindOf (P.zip vs) m x=some v
 | [],_,_,_,_,h,_,_=>by simp at h
 | _ :: _,[],_,_,_,_,h,_=>by simp at h
 | p :: P,w :: vs,0,m,nd,h1,h2,hk=>by
  simp at h1 h2;subst h1;subst h2
  show bindL kindOf ((p,w) :: P.zip vs) m p=_
  unfold bindL
  rw [pD fun v hv=>(AS.mp nd).1 (C3 hv).1,Ak hk]
  simp
 | p :: P,w :: vs,i + 1,m,nd,h1,h2,hk=>by
  show bindL kindOf ((p,w) :: P.zip vs) m x=_
  unfold bindL
  exact pE (i:=i) (AS.mp nd).2 (by simpa using h1) (by simpa using h2) hk
theorem pG {kindOf:Str→Option NameKind}{x:Str}{v:Value}:∀ {P:List Str} {vs:List Value} {i:Nat} {m:Str→Option Value},P.Nodup→P[i]? = some x→vs[i]? = some v→kindOf x ≠ some .local →
  bindC kindOf (P.zip vs) m x=some v
 | [],_,_,_,_,h,_,_=>by simp at h
 | _ :: _,[],_,_,_,_,h,_=>by simp at h
 | p :: P,w :: vs,0,m,nd,h1,h2,hk=>by
  simp at h1 h2;subst h1;subst h2
  show bindC kindOf ((p,w) :: P.zip vs) m p=_
  unfold bindC
  rw [pF fun v hv=>(AS.mp nd).1 (C3 hv).1,Aj hk]
  simp
 | p :: P,w :: vs,i + 1,m,nd,h1,h2,hk=>by
  show bindC kindOf ((p,w) :: P.zip vs) m x=_
  unfold bindC
  exact pG (i:=i) (AS.mp nd).2 (by simpa using h1) (by simpa using h2) hk
def start (N:List Str)(vs:List V):St:=vs.map some ++ List.replicate (N.length - vs.length) none
def aR (CX:CXT)(P:Program)(w:World)(K:PySem.W.Frag)(mg:Str→Option Value)(base:Heap)(N:List Str)(qual:Str)(scope:Scope)(f:Addr)(cd:Value)(A:Around)(outer:List Env)(s:Shared)(H:Hp)(E:XK):Cx where
 prog:=P
 w:=w
 K:=K
 mg:=mg
 base:=base
 A:=A.deeper (envOfC qual scope s.heap.objs.size f cd)
 N:=N
 s₀:=s
 H₀:=H
 env:=envOfC qual scope s.heap.objs.size f cd
 outer:=outer
 stack:=envOfC qual scope s.heap.objs.size f cd :: outer
 ex:=[]
 calm:=true
 fn:=fun _=>true
 pn:=[]
 xe:=fun e s'=>wpAny (model P w) (A.deeper (envOfC qual scope s.heap.objs.size f cd)) (leaving (envOfC qual scope s.heap.objs.size f cd) e) (fun _ s''=>CX outer H s E e s'') (fun e' s''=>CX outer H s E e' s'') s'
theorem t9 {sc:Scope}{n:Nat}{x:Str}(h:sc.names.lookup x=some .cell):∃ c,(cellsFrom n sc.names []).lookup x=some c:=by
 have q:=PySem.W.cellsFrom_some sc.names n [] (.inl h)
 exact Option.isSome_iff_exists.mp q
theorem inv_start {CX:CXT}{P:Program}{w:World}{K:PySem.W.Frag}{mg:Str→Option Value}{base:Heap}{N ps:List Str}{qual:Str}{scope:Scope}{f:Addr}{cd:Value}{A:Around}{outer:List Env}{s s1:Shared}{H:Hp}{E:XK}{us:List Value}{vs:List V}
  (S:FnScope N ps scope) (hd:A.handled=none) (e0:Env0 P w K mg base A outer s H) (hl:vs.length=ps.length) (r:Vals vs us)
  (x:InCallC s s.heap.objs.size (bindL (envOfC qual scope s.heap.objs.size f cd).kindOf (ps.zip us) fun _=>none) (cellsFrom (s.heap.objs.size + 1) scope.names []) (bindC (envOfC qual scope s.heap.objs.size f cd).kindOf (ps.zip us) fun _=>none) s1) :
  Inv (aR CX P w K mg base N qual scope f cd A outer s H E) [] (start N vs) H s1:=by
 have hpl:ps.length ≤ N.length:=by have:=Bi List.length S.pre;rw [A6] at this;omega
 obtain ⟨h1,tk,rfl,hk⟩:=x.done
 have noA:∀ b:Addr,b ∉ (aR CX P w K mg base N qual scope f cd A outer s H E).ex:=fun b z=>absurd (show b ∈ ([] : List Addr) from z) (by simp)
 refine ⟨⟨e0.mod,S.kind,rfl,rfl,Ag _,fun y z c h1 h2=>?_,fun y hy=>?_,fun y c _ h=>?_,fun _=>hd,Around.frames_deeper e0.frames,.inr ⟨rfl,rfl⟩,fun b z=>absurd z (noA b),e0.bs,e0.bsz,fun b _ _=>noA b,fun b z=>absurd z (noA b),e0.funs,e0.frf⟩,
  rfl,e0.bare,Un.kept hk,⟨_,x.toInCall.ns,fun i y v h1 h2 h3=>?_⟩,fun y c h=>⟨_,x.cell y c h⟩,e0.hok.fresh (Ag _),fun y c h=>?_,fun p hp=>absurd (show p ∈ ([] : List (Addr × Obj)) from hp) (by simp),e0.hok.kept hk,?_⟩
 ·exact name_of_addr x.apart (Bt h1) (Bt h2)
 ·have hy:scope.names.lookup y=some .cell∨scope.names.lookup y=some .free:=hy
  rcases hy with hy | hy
  ·exact t9 hy
  ·exact absurd rfl (S.nofree _ (Bt hy))
 ·exact B5 (x.above y c (Bt h))
 ·have hi:i < vs.length:=by
   unfold start at h2
   by_cases hi:i < vs.length
   ·exact hi
   ·rw [B8 (by simpa using hi)] at h2
    rw [Cg] at h2
    split at h2 <;> cases h2
  have ha:vs[i]? = some v:=by
   unfold start at h2
   rw [BC (by simpa using hi),Ah] at h2
   cases e:vs[i]? with
   | none=>rw [e] at h2;cases h2
   | some a=>rw [e] at h2;cases h2;rfl
  obtain ⟨u,hu,rv⟩:=r.get ha
  have hp:ps[i]? = some y:=by
   rw [← S.pre,List.getElem?_take_of_lt (by omega)];exact h1
  have ndP:ps.Nodup:=by rw [← S.pre];exact S.nd.sublist (List.take_sublist _ _)
  refine ⟨u,rv,?_⟩
  rcases S.par y (A0 hp) with k | k
  ·exact .inl ⟨k,pE ndP hp hu k⟩
  ·obtain ⟨c,e⟩:=t9 (n:=s.heap.objs.size + 1) k
   refine .inr ⟨.inl k,c,e,?_⟩
   have q:=x.cell y c e
   rw [pG ndP hp hu (by show scope.names.lookup y ≠ _;rw [k];decide)] at q
   exact q
 ·exact e0.hok.fresh (B5 (x.above y c (Bt h)))
 ·unfold start
  show _=N.length
  rw [AD,Ab,AW]
  omega
theorem fn_of {CX:CXT}{P:Program}{w:World}{K:PySem.W.Frag}{mg:Str→Option Value}{base:Heap}{k:Nat}{f:Addr}{name qual:Str}{params:Arguments}{body:List Stmt}{scope:Scope}{dV kV doc pm cdv ct oc:Value}{an od:Option Addr}
  {osl:Array (Option Value)} {N ps:List Str} {sp:Sp} (lk:K.lookup f=some ⟨oc,od,.func (PySem.W.fnOf name qual params body scope dV kV doc pm an cdv ct),osl⟩) (hcd:PySem.W.codeIn K cdv qual=true) (S:FnScope N ps scope)
  (len:∀ vs H Q E,sp vs H Q E→vs.length=ps.length)
  (hbody:∀ (A:Around) (outer:List Env) (s:Shared) (H:Hp) (vs:List V) (Q:VK) (E:XK),Room k (A.deeper (envOfC qual scope s.heap.objs.size f cdv))→sp vs H Q E →
   ∃ t,PSs (aR CX P w K mg base N qual scope f cdv A outer s H E) body t∧t { nx:=fun _ H'=>Q .non H',rt:=Q } (start N vs) H) :
  FnOk P w K mg base CX (k + 1) f (PySem.W.fnOf name qual params body scope dV kV doc pm an cdv ct) ps sp:=by
 refine ⟨len,fun A outer s H args us vs Q E hr e0 hb r hsp=>?_⟩
 have hl:=len _ _ _ _ hsp
 have KX:K.In s.heap:=e0.mod.kin.keeps fun b o e=>(e0.bs b o e).1
 have lim:s.heap.NoLimit:=e0.mod.nolimit.keeps fun b o e=>(e0.bs b o e).1
 have hkind:∀ y ∈ ps.zip us,scope.names.lookup y.1=some .local∨(scope.names.lookup y.1=some .cell∧((cellsFrom (s.heap.objs.size + 1) scope.names []).lookup y.1).isSome=true):=fun ⟨n,v⟩ hy=>by
  rcases S.par n (C3 hy).1 with q | q
  ·exact .inl q
  ·exact .inr ⟨q,PySem.W.cellsFrom_some _ _ _ (.inl q)⟩
 refine codeAny_call_function hr.depth (KX _ _ lk) rfl S.co S.gen rfl (PySem.W.codeRec_of KX hcd) (hb _ _ _ _ ?_)
 refine wpAny_newFunctionEnv_cells S.kind hkind fun env he s1 x=>?_
 subst he
 refine ⟨lim.keeps x.toInCall.keep,codeAny_func ?_⟩
 obtain ⟨t,ht,hq⟩:=hbody A outer s H vs Q E (hr.deeper _) hsp
 have I:Inv (aR CX P w K mg base N qual scope f cdv A outer s H E) [] (start N vs) H s1:=inv_start S hr.hd e0 hl r x
 refine wpAny_mono (ht [] s1 (start N vs) H _ I hq) (fun fl s' hs=>?_) fun e s' hs=>hs
 have fin:∀ {σ':St} {H':Hp} {v:V} {u:Value},Inv (aR CX P w K mg base N qual scope f cdv A outer s H E) [] σ' H' s'→RelV v u→Q v H'→CE outer P w H s Q u s' :=
  fun {σ' H' v u} J rv q=>⟨v,H',J.os,J.bare,J.base,J.hok,rv,q⟩
 cases fl with
 | ret u =>
  obtain ⟨v,σ',H',J,rv,q⟩:=hs
  exact fin J rv q
 | next =>
  obtain ⟨σ',H',J,q⟩:=hs
  exact fin (v:=V.non) (u:=Value.none) J rfl q
 | brk =>
  obtain ⟨_,_,_,q⟩:=hs
  exact False.elim q
 | cont =>
  obtain ⟨_,_,_,q⟩:=hs
  exact False.elim q
end L2
namespace L2
open PySem PySem.Spec PyProof.Rows
section
variable {X:Cx}{x:Str}{p pos:Pos}{e:Expr}{es:List Expr}{t:TA}{id T:String}{r:List V→Hp→VK→Prop}
def tCB (r:List V→Hp→VK→Prop)(t:TA):TE:=fun σ H Q=>t σ H fun vs H1=>r vs H1 Q
theorem qX (hc:zY X (.builtin id) r)(hg:Gl X x)(hm:X.mg x=none)(hv:bootBuiltins x=some (.builtin id))(ha:PA X (e :: es) t)(hn:x ≠ "__name__" := by decide) (hdb:(x == ("__debug__" : Str))=false:=by decide)
  (he:starEach (e :: es) X.env=(false,eval e X.env) :: starEach es X.env:=by rfl) (hpl:(backTo pos (starEach es X.env)).any (·.1)=false:=by rfl):PE X (.Call (.Name x p) (e :: es) [] pos) (tCB r t):=by
 intro pins s σ H Q I h
 refine wpAny_Call_Name_kw (dZ I hg hm hv ?_ hn hdb)
 exact PyProof.Rows.callWith_builtin1 (jU (ha pos pins s σ H _ I h) fun us s1 ⟨vs,H1,I1,r1,q1⟩=>hc pins s1 σ H1 vs us Q I1 r1 q1) he hpl
theorem kX (hc:zY X (.type T) r)(hg:Gl X x)(hm:X.mg x=none)(hv:bootBuiltins x=some (.type T))(ha:PA X (e :: es) t)(hn:x ≠ "__name__" := by decide) (hdb:(x == ("__debug__" : Str))=false:=by decide)
  (he:starEach (e :: es) X.env=(false,eval e X.env) :: starEach es X.env:=by rfl) (hpl:(backTo pos (starEach es X.env)).any (·.1)=false:=by rfl):PE X (.Call (.Name x p) (e :: es) [] pos) (tCB r t):=by
 intro pins s σ H Q I h
 refine wpAny_Call_Name_kw (dZ I hg hm hv ?_ hn hdb)
 exact Bg (jU (ha pos pins s σ H _ I h) fun us s1 ⟨vs,H1,I1,r1,q1⟩=>hc pins s1 σ H1 vs us Q I1 r1 q1) he hpl
end
end L2
namespace HT
open PySem PyProof.Rows
def lexLt:List Int→List Int→Bool
 | [],[]=>false
 | [],_ :: _=>true
 | _ :: _,[]=>false
 | x :: xs,y :: ys=>if x=y then lexLt xs ys else decide (x < y)
theorem lexLt_cons (x y:Int)(xs ys:List Int):lexLt (x :: xs) (y :: ys)=if x=y then lexLt xs ys else decide (x < y):=rfl
theorem lexLt_nil_nil:lexLt [] [] = false:=rfl
section
open PySem.SeqAt
open PySem.AutoSeq1 (wpAny_loadPart')
open PySem.MeetsSeq PySem.MeetsSeq2 PySem.MeetsSeq3
end
section
variable {prog:Program}{w:World}{A:Around}{E:Value→Shared→Prop}{s:Shared}
theorem cat_tup {t b:Addr}{vs ws:List Value}{Q:Value→Shared→Prop}(ht:IsTup s.heap t vs.toArray)(hb:IsTup s.heap b ws.toArray)(hv:vs ≠ [])
  (h1:ws=[]→Q (.ref t) s) (h2:ws ≠ []→Q (.ref s.heap.objs.size) { s with heap:=s.heap.push { cls:=.type "tuple",data:=.seq (vs ++ ws).toArray } })
  (hsz:vs.length + ws.length ≤ sizeLine):wpAny (model prog w) A (binaryOp .Add (.ref t) (.ref b)) Q E s:=by
 obtain ⟨⟨cls,dd,data,sl⟩,ho,hc,n,hd⟩:=id ht
 obtain ⟨⟨cls2,dd2,data2,sl2⟩,ho2,hc2,n2,hd2⟩:=id hb
 simp only at hc hd hc2 hd2
 subst hc hd hc2 hd2
 have e:vs.toArray ++ ws.toArray=(vs ++ ws).toArray:=by simp
 by_cases hw:ws=[]
 ·exact concat_meets ⟨_,ho,rfl⟩ ⟨_,ho2,rfl⟩ noFill_tuple_add seq_tuple_add PySem.F.slot_tuple_add PySem.F.entry_tuple_add (PySem.F.args_tuple_add_2 _ _)
   (tuple_addW1 t b vs.toArray ws.toArray n n2 dd dd2 sl sl2 (by simpa using hv) (by simp [hw])) ⟨ho,ho2,h1 hw⟩
 ·refine concat_meets ⟨_,ho,rfl⟩ ⟨_,ho2,rfl⟩ noFill_tuple_add seq_tuple_add PySem.F.slot_tuple_add PySem.F.entry_tuple_add (PySem.F.args_tuple_add_2 _ _)
   (tuple_addW2 t b vs.toArray ws.toArray n n2 dd dd2 sl sl2 (by simpa using hv) (by simpa using hw) (by rw [Ap,Ap];exact hsz)) ⟨ho,ho2,?_⟩
  rw [e]
  exact h2 hw
def sIx (n d:Nat):Option Int→Nat
 | none=>d
 | some v=>if v < 0 then (v + (n:Int)).toNat else min v.toNat n
theorem sIx_none (n d:Nat):sIx n d none=d:=rfl
theorem sIx_nat (n d k:Nat):sIx n d (some (k:Int))=min k n:=by
 show (if (k:Int) < 0 then ((k:Int) + (n:Int)).toNat else min (k:Int).toNat n)=min k n
 rw [Aj (by omega),Ay]
theorem sIx_le (n d:Nat)(hd:d ≤ n)(o:Option Int):sIx n d o ≤ n:=by
 cases o with
 | none=>exact hd
 | some v =>
  show (if v < 0 then (v + (n:Int)).toNat else min v.toNat n) ≤ n
  by_cases hv:v < 0
  ·rw [Ak hv];omega
  ·rw [Aj hv];exact Nat.min_le_right _ _
theorem oV (v:Int)(n d:Nat):(if v < 0 then max (v + (n:Int)) 0 else min v (n:Int))=((sIx n d (some v):Nat):Int):=by
 show (if v < 0 then max (v + (n:Int)) 0 else min v (n:Int))=(((if v < 0 then (v + (n:Int)).toNat else min v.toNat n):Nat):Int)
 by_cases hv:v < 0
 ·simp only [Ak hv];omega
 ·simp only [Aj hv];omega
theorem aV (lo hi:Option Int)(n:Nat):Builtin.Slice.sliceAdjust lo hi 1 (n:Int)=(((sIx n 0 lo:Nat):Int),((sIx n n hi:Nat):Int)):=by
 have h1:¬ ((1:Int) < 0):=by omega
 unfold Builtin.Slice.sliceAdjust
 simp only [h1,BE]
 refine Prod.ext ?_ ?_
 ·cases lo with
  | none=>rfl
  | some v=>exact oV v n 0
 ·cases hi with
  | none=>rfl
  | some v=>exact oV v n n
theorem u4 (i j:Nat):Builtin.Slice.slicePlaces (i:Int) (j:Int) 1=j - i:=by
 unfold Builtin.Slice.slicePlaces
 have h1:(1:Int) > 0:=by omega
 simp only [h1,BV,Int.ediv_one]
 split <;> omega
theorem cV {v:Value}{o:Option Int}{Q:Option Int→Shared→Prop}(p:IsPart v o)(h:Q o s):wpAny (model prog w) A (Builtin.Slice.slicePartIndex v) Q E s:=by
 cases p with
 | none=>exact slicePart_none h
 | int i t=>exact slicePart_int h
theorem sliceApplied_gen {sl:Addr}{vl vu:Value}{lo hi:Option Int}{n:Nat}{Q:Int × Int × Nat→Shared→Prop}(hs:s.heap.IsSliceOf sl vl vu .none)(pl:IsPart vl lo)(pu:IsPart vu hi)
  (h:Q (((sIx n 0 lo:Nat):Int),1,sIx n n hi - sIx n 0 lo) s):wpAny (model prog w) A (Builtin.Slice.sliceApplied (.ref sl) (pure (n:Int))) Q E s:=by
 obtain ⟨os,d5,hcs,hds⟩:=id hs
 unfold Builtin.Slice.sliceApplied Builtin.Slice.sliceFields
 refine wpAny_bind (wpAny_bind (wpAny_field d5 hds (x:=vl) rfl (wpAny_bind (wpAny_field d5 hds (x:=vu) rfl (wpAny_bind (wpAny_field d5 hds (x:=.none) rfl (wpAny_pure ?_)))))))
 refine wpAny_bind (slicePart_none ?_)
 show wpAny _ _ (if ((1:Int) == 0)=true then _ else _) _ _ s
 rw [Aj (by decide)]
 refine wpAny_bind (cV pl (wpAny_bind (cV pu (wpAny_bind (wpAny_pure ?_)))))
 show wpAny _ _ (match Builtin.Slice.sliceAdjust lo hi 1 (n:Int) with | (lo,hi)=>pure (lo,(1:Int),Builtin.Slice.slicePlaces lo hi 1)) _ _ s
 rw [aV lo hi n]
 show wpAny _ _ (pure (((sIx n 0 lo:Nat):Int),(1:Int),Builtin.Slice.slicePlaces ((sIx n 0 lo:Nat):Int) ((sIx n n hi:Nat):Int) 1)) _ _ s
 rw [u4]
 exact wpAny_pure h
theorem pick_gen (xs:Array Value)(i k:Nat):((List.range k).filterMap fun (m:Nat)=>xs[((i:Int) + (m:Int) * 1).toNat]?).toArray=((xs.toList.drop i).take k).toArray:=by
 have e:(fun (m:Nat)=>xs[((i:Int) + (m:Int) * 1).toNat]?)=fun m=>xs[i + m]? := by
  funext m
  have:((i:Int) + (m:Int) * 1).toNat=i + m:=by omega
  rw [this]
 rw [e]
 have:=pick_run xs i k
 rw [List.filterMap_map] at this
 have e2:((fun x=>xs[x]?) ∘ fun x=>i + x)=fun m=>xs[i + m]? := rfl
 rw [e2] at this
 rw [this]
theorem getItem_tuple_cut {t sl:Addr}{items:Array Value}{vl vu:Value}{lo hi:Option Int}{Q:Value→Shared→Prop}(ht:IsTup s.heap t items)(hs:s.heap.IsSliceOf sl vl vu .none)(pl:IsPart vl lo)(pu:IsPart vu hi)
  (hw:¬ (sIx items.size 0 lo=0∧sIx items.size items.size hi=items.size))
  (h:Q (.ref s.heap.objs.size) { s with heap:=s.heap.push { cls:=.type "tuple",data:=.seq ((items.toList.drop (sIx items.size 0 lo)).take (sIx items.size items.size hi - sIx items.size 0 lo)).toArray } })
  (hsz:items.size ≤ sizeLine):wpAny (model prog w) A (getItem (.ref t) (.ref sl)) Q E s:=by
 have htake:sizeOk (.seq ((items.toList.drop (sIx items.size 0 lo)).take (sIx items.size items.size hi - sIx items.size 0 lo)).toArray):=by
  show ((items.toList.drop (sIx items.size 0 lo)).take (sIx items.size items.size hi - sIx items.size 0 lo)).toArray.size ≤ sizeLine
  rw [Ap,A6,List.length_drop,C5]
  omega
 have hj:sIx items.size items.size hi ≤ items.size:=sIx_le _ _ (Ag _) hi
 obtain ⟨os,d5,hcs,hds⟩:=id hs
 have hTs:s.TypeIs (.ref sl) "slice" := ⟨os,d5,hcs⟩
 unfold getItem
 try with_reducible refine wpAny_holding ?_
 first | refine wpAny_bind (wpAny_pure ?_) | skip
 refine wpAny_bind (wpAny_sequenceKey ht.typeIs (by decide) ?_)
 refine wpAny_bind (wpAny_callSpecial?_slot (name:=Str.ofString "__getitem__") ht.typeIs BF
  (wpAny_call_entry BF ht.typeIs entry_tuple_getitem ?_ (args_tuple_getitem _ _)))
 show wpAny _ _ (Builtin.Tuple.tupleItemsOf (.ref t) >>= _) _ _ s
 refine wpAny_bind (tupleItemsOf_ ht ?_)
 refine wpAny_bind (wpAny_typeOf hTs ?_)
 rw [Ak (by decide)]
 refine wpAny_bind (sliceApplied_gen hs pl pu ?_)
 have hno:¬ ((((sIx items.size 0 lo:Nat):Int) == 0 && (1:Int) == 1 && (sIx items.size items.size hi - sIx items.size 0 lo) == items.size)=true):=by
  intro q
  rw [AL,AL] at q
  have q1:((sIx items.size 0 lo:Nat):Int)=0:=eq_of_beq q.1.1
  have q2:sIx items.size items.size hi - sIx items.size 0 lo=items.size:=eq_of_beq q.2
  exact hw ⟨by omega,by omega⟩
 show wpAny _ _ (if (((sIx items.size 0 lo:Nat):Int) == 0 && (1:Int) == 1 && (sIx items.size items.size hi - sIx items.size 0 lo) == items.size)=true then _ else _) _ _ s
 rw [Aj hno,pick_gen]
 first
  | exact wpAny_bind (m:=Builtin.Tuple.tupleExact _) (wpAny_newObj_type (wpAny_pure ⟨_,rfl,wpAny_pure h⟩) htake)
  | exact wpAny_bind (m:=Builtin.Tuple.tupleExact _) (wpAny_newObj_type (wpAny_bind (wpAny_pure (wpAny_pure ⟨_,rfl,wpAny_pure h⟩))) htake)
  | exact wpAny_bind (wpAny_bind (m:=Builtin.Tuple.tupleExact _) (wpAny_newObj_type (wpAny_pure (wpAny_pure ⟨_,rfl,wpAny_pure h⟩)) htake))
  | exact wpAny_bind (wpAny_bind (m:=Builtin.Tuple.tupleExact _) (wpAny_newObj_type (wpAny_pure ⟨_,rfl,wpAny_pure h⟩) htake))
end
end HT
namespace L2
open PySem PySem.Spec PyProof.Rows
abbrev TO:=St→Hp→(Option Int→Hp→Prop)→Prop
def PO (X:Cx)(e:Option Expr)(t:TO):Prop :=
 ∀ (pins:List (Addr × Obj)) (s:Shared) (σ:St) (H:Hp) (Q:Option Int→Hp→Prop),Inv X pins σ H s→t σ H Q →
  wpAny (model X.prog X.w) X.A (evalPart e X.env) (fun u s'=>∃ o H',Inv X pins σ H' s'∧IsPart u o∧Q o H') X.xe s
def eV:TO:=fun _ H Q=>Q none H
def tPart (t:TE):TO:=fun σ H Q=>t σ H fun x H1=>∃ i,x = .int i∧Q (some i) H1
theorem intsAre_of {ns:List Int}:∀ {us:List Value},Vals (ns.map V.int) us→IntsAre us ns:=by
 induction ns with
 | nil=>intro us r;rw [CO] at r;cases r;exact .nil
 | cons n ns ih =>
  intro us r
  rw [Av] at r
  cases r with
  | cons r1 r2 =>
   obtain ⟨t,e⟩:=r1
   subst e
   exact .cons n t (ih r2)
section
variable {X:Cx}{e:Expr}{te:TE}{lo hi:Option Expr}{tl th:TO}{pos p2:Pos}
theorem bR:PO X none eV:=by
 intro pins s σ H Q I h
 rw [evalPart_none]
 exact wpAny_pure ⟨none,H,I,.none,h⟩
theorem bQ (h:PE X e te):PO X (some e) (tPart te):=by
 intro pins s σ H Q I hw
 rw [evalPart_some]
 refine jU (h pins s σ H _ I hw) fun u s1 ⟨x,H1,I1,r1,q1⟩=>?_
 obtain ⟨i,rfl,q⟩:=q1
 obtain ⟨t,rfl⟩:=r1
 exact ⟨some i,H1,I1,.int i t,q⟩
def SlR (X:Cx)(r:V→Option Int→Option Int→Hp→VK→Prop):Prop :=
 ∀ (pins:List (Addr × Obj)) (s:Shared) (σ:St) (H:Hp) (x:V) (v vl vu:Value) (lo hi:Option Int) (sl:Addr) (Q:VK),Inv X pins σ H s→RelV x v→s.heap.IsSliceOf sl vl vu .none→IsPart vl lo→IsPart vu hi→r x lo hi H Q →
  ∃ T id,typeLookup (.type T) "__getitem__" = pure (some (.builtin id))∧s.TypeIs v T∧wpAny (model X.prog X.w) X.A (getItem v (.ref sl)) (EP X pins σ Q) X.xe s
def tSl (r:V→Option Int→Option Int→Hp→VK→Prop)(te:TE)(tl th:TO):TE:=fun σ H Q=>te σ H fun x H1=>tl σ H1 fun l H2=>th σ H2 fun u H3=>r x l u H3 Q
theorem fR {r:V→Option Int→Option Int→Hp→VK→Prop}(hr:SlR X r)(he:PE X e te)(hl:PO X lo tl)(hu:PO X hi th):PE X (.Subscript e (.Slice lo hi none p2) pos) (tSl r te tl th):=by
 intro pins s σ H Q I h
 refine Subscript_ (jU (he pins s σ H _ I h) fun v s1 ⟨x,H1,I1,r1,q1⟩=>?_)
 refine wpAny_Slice (jU (hl pins s1 σ H1 _ I1 q1) fun vl s2 ⟨l,H2,I2,pl,q2⟩=>jU (hu pins s2 σ H2 _ I2 q2) fun vu s3 ⟨u,H3,I3,pu,q3⟩=>?_)
 rw [evalPart_none]
 refine wpAny_pure ?_
 have I4:Inv X pins σ H3 { s3 with heap:=s3.heap.push { cls:=.type "slice",data:=.fields #[vl,vu,.none] } }:=I3.kept (t':=s3.toks) fun b ob q=>Ac _ q
 obtain ⟨T,id,hT,ht,hg⟩:=hr pins { s3 with heap:=s3.heap.push { cls:=.type "slice",data:=.fields #[vl,vu,.none] } } σ H3 x v vl vu l u s3.heap.objs.size Q I4 r1 (Heap.IsSliceOf.new ..) pl pu q3
 show wpAny (model X.prog X.w) X.A (subscriptTail e (.Slice lo hi none p2) v (.ref s3.heap.objs.size)) (EP X pins σ Q) X.xe { s3 with heap:=s3.heap.push { cls:=.type "slice",data:=.fields #[vl,vu,.none] } }
 exact tail_any (ops:=[.ref s3.heap.objs.size,v]) ht hT hg (by with_unfolding_all rfl)
def xN (xs:List V)(lo hi:Option Int):List V:=(xs.drop (HT.sIx xs.length 0 lo)).take (HT.sIx xs.length xs.length hi - HT.sIx xs.length 0 lo)
theorem bL (xs:List V)(lo hi:Option Int):(xN xs lo hi).length ≤ xs.length:=by
 unfold xN
 rw [A6,List.length_drop]
 exact AK (Nat.min_le_right _ _) (Nat.sub_le _ _)
def rSlT (K:PySem.W.Frag):V→Option Int→Option Int→Hp→VK→Prop:=fun x lo hi H Q=>∃ a xs,x = .ref a∧SqT K H a xs ∧
 ¬ (HT.sIx xs.length 0 lo=0∧HT.sIx xs.length xs.length hi=xs.length)∧∀ p,H p=none→Q (.ref p) (upd H p (.tup (xN xs lo hi)))
theorem sl_tup:SlR X (rSlT X.K):=by
 intro pins s σ H x v vl vu lo hi sl Q I rx hs pl pu h
 obtain ⟨a,xs,rfl,hx,hw,q⟩:=h
 cases rx
 obtain ⟨its,r,ht,hz⟩:=I.tuple hx
 have hlen:its.toArray.size=xs.length:=by rw [Ap];exact r.length.symm
 refine ⟨"tuple",_,BF.lookup,ht.typeIs,?_⟩
 refine HT.getItem_tuple_cut ht hs pl pu (by rw [hlen];exact hw) ?_ (by rw [hlen];exact hz)
 rw [hlen]
 refine ⟨.ref s.heap.objs.size,_,I.laid (t':=s.toks) (o:=.tup (xN xs lo hi)) (fun b ob q=>Ac _ q) (Ag _) ?_,rfl,q _ (I.hok.fresh (Ag _))⟩
 exact ⟨AK (bL xs lo hi) hz,_,(r.drop (HT.sIx xs.length 0 lo)).take (HT.sIx xs.length xs.length hi - HT.sIx xs.length 0 lo),CB _ _⟩
def rCatT (K:PySem.W.Frag):R2:=fun x y H Q=>∃ a b xs ys,x = .ref a∧y = .ref b∧SqT K H a xs∧SqT K H b ys∧xs ≠ []∧xs.length + ys.length ≤ sizeLine ∧
 (ys=[]→Q (.ref a) H)∧(ys ≠ []→∀ p,H p=none→Q (.ref p) (upd H p (.tup (xs ++ ys))))
theorem Vals.nil_iff {xs:List V}{us:List Value}(r:Vals xs us):us=[] ↔ xs=[]:=by
 cases r with
 | nil=>simp
 | cons _ _=>simp
theorem op_catT:vU X (binaryOp .Add) (rCatT X.K):=by
 intro pins s σ H x y v u Q I rx ry h
 obtain ⟨a,b,xs,ys,rfl,rfl,ha,hb,hx,hz,q1,q2⟩:=h
 cases rx
 cases ry
 obtain ⟨its,r1,p1,_⟩:=I.tuple ha
 obtain ⟨its2,r2,p2,_⟩:=I.tuple hb
 refine HT.cat_tup p1 p2 (fun z=>hx (r1.nil_iff.mp z)) (fun z=>⟨.ref a,H,I,rfl,q1 (r2.nil_iff.mp z)⟩) (fun z=>?_) (by rw [← r1.length,← r2.length];exact hz)
 refine ⟨.ref s.heap.objs.size,_,I.laid (t':=s.toks) (o:=.tup (xs ++ ys)) (fun b ob q=>Ac _ q) (Ag _) ?_,rfl,q2 (fun w=>z (r2.nil_iff.mpr w)) _ (I.hok.fresh (Ag _))⟩
 exact ⟨by rw [AD];exact hz,_,r1.append r2,CB _ _⟩
end
end L2
namespace L2
open PySem PySem.Spec PyProof.Rows
def rW (n:Nat)(i:Int):Option Nat:=if 0 ≤ i then (if i < n then some i.toNat else none) else if -(n:Int) ≤ i then some (i + n).toNat else none
def vC {α:Type}(xs:List α)(i:Int):Option α:=(rW xs.length i).bind fun j=>xs[j]?
theorem i9 {n:Nat}{i:Int}{j:Nat}(h:rW n i=some j):seqIndex? i n=some j∧j < n∧-(n:Int) ≤ i∧i < n:=by
 unfold rW at h
 by_cases h0:0 ≤ i
 ·rw [Ak h0] at h
  by_cases h1:i < n
  ·rw [Ak h1] at h
   have e:i.toNat=j:=AH h
   exact ⟨by rw [seqIndex_of h0 h1,e],by omega,by omega,h1⟩
  ·rw [Aj h1] at h;cases h
 ·rw [Aj h0] at h
  by_cases h1 : -(n:Int) ≤ i
  ·rw [Ak h1] at h
   have e:(i + n).toNat=j:=AH h
   exact ⟨by rw [seqIndex_neg (by omega) h1,e],by omega,h1,by omega⟩
  ·rw [Aj h1] at h;cases h
theorem oZ {α:Type}{xs:List α}{i:Int}{v:α}(h:vC xs i=some v):∃ j,seqIndex? i xs.length=some j∧xs[j]? = some v∧j < xs.length∧-(xs.length:Int) ≤ i∧i < xs.length:=by
 unfold vC at h
 cases e:rW xs.length i with
 | none=>rw [e] at h;cases h
 | some j =>
  rw [e] at h
  obtain ⟨h1,h2,h3,h4⟩:=i9 e
  exact ⟨j,h1,h,h2,h3,h4⟩
theorem vB {α:Type}{xs:List α}{j:Nat}{v:α}(h:xs[j]? = some v):vC xs (j:Int)=some v:=by
 have hj:j < xs.length:=(Ai.mp h).1
 have e:rW xs.length (j:Int)=some j:=by
  unfold rW
  rw [Ak (by omega),Ak (by omega)];simp
 unfold vC;rw [e];exact h
theorem atI_last {α:Type}(xs:List α)(v:α):vC (xs ++ [v]) (-1)=some v:=by
 have hl:(xs ++ [v]).length=xs.length + 1:=by simp
 have e:rW (xs ++ [v]).length (-1)=some xs.length:=by
  unfold rW
  rw [hl,Aj (by decide),Ak (by omega)]
  congr 1
  omega
 unfold vC
 rw [e]
 show (xs ++ [v])[xs.length]? = some v
 simp
def PlainIx (b:Expr):Prop:=∀ o i,subscripted b false o i=operate [o,i] (getItem o i)
def IxR (X:Cx)(r:R2):Prop :=
 ∀ (value slice:Expr) (pins:List (Addr × Obj)) (s:Shared) (σ:St) (H:Hp) (x y:V) (v u:Value) (Q:VK),Inv X pins σ H s→RelV x v→RelV y u→r x y H Q →
  subscripted slice false v u=operate [v,u] (getItem v u)→wpAny (model X.prog X.w) X.A (subscriptTail value slice v u) (EP X pins σ Q) X.xe s
section
variable {X:Cx}{a b:Expr}{ta tb:TE}{pos:Pos}
theorem kF {r:R2}(hr:IxR X r)(ha:PE X a ta)(hb:PE X b tb)(hs:PlainIx b):PE X (.Subscript a b pos) (tOp r ta tb):=by
 intro pins s σ H Q I h
 exact Subscript_ (binT ha hb I h fun v u s2 x y H2 I2 rx ry q=>hr a b pins s2 σ H2 x y v u Q I2 rx ry q (hs _ _))
def rIxL (K:PySem.W.Frag):R2:=fun x y H Q=>∃ p xs i v,x = .ref p∧y = .int i∧SqL K H p xs∧vC xs i=some v∧Q v H
def rIxT (K:PySem.W.Frag):R2:=fun x y H Q=>∃ p xs i v,x = .ref p∧y = .int i∧SqT K H p xs∧vC xs i=some v∧Q v H
theorem ix_list:IxR X (rIxL X.K):=by
 intro value slice pins s σ H x y v u Q I rx ry h hs
 obtain ⟨p,xs,i,z,rfl,rfl,hq,he,q⟩:=h
 cases rx
 obtain ⟨t,rfl⟩:=ry
 obtain ⟨its,r,pl,hz⟩:=I.list hq
 obtain ⟨j,h1,h2,h3,h4,h5⟩:=oZ he
 obtain ⟨w,ew,rw'⟩:=r.get h2
 have hl:=r.length
 have hn:=rB
 have fin:EP X pins σ Q w s:=⟨z,H,I,rw',q⟩
 by_cases h0:0 ≤ i
 ·have hj:i.toNat=j:=by
   rw [seqIndex_of h0 h5] at h1
   exact AH h1
  exact item_listR pl.isList h0 (by omega) (by rw [hj];simpa using ew) fin hs
 ·have hj:(i + (its.toArray.size:Int)).toNat=j:=by
   rw [seqIndex_neg (by omega) h4] at h1
   rw [Ap,← hl]
   exact AH h1
  exact subscriptTail_builtinR (x:=w) pl.isList.typeIs slot_list_getitem.lookup
   (wpAny_getItem_list_neg (Q:=fun r s'=>r=w∧EP X pins σ Q r s') pl.isList (by omega) (by rw [Ap] <;> omega) (by omega) (by rw [hj];simpa using ew) ⟨rfl,fin⟩) hs
theorem ix_tup:IxR X (rIxT X.K):=by
 intro value slice pins s σ H x y v u Q I rx ry h hs
 obtain ⟨p,xs,i,z,rfl,rfl,hq,he,q⟩:=h
 cases rx
 obtain ⟨t,rfl⟩:=ry
 obtain ⟨its,r,pl,hz⟩:=I.tuple hq
 obtain ⟨j,h1,h2,h3,h4,h5⟩:=oZ he
 obtain ⟨w,ew,rw'⟩:=r.get h2
 have hl:=r.length
 have hn:=rB
 have fin:EP X pins σ Q w s:=⟨z,H,I,rw',q⟩
 exact subscriptTail_builtinR (x:=w) pl.typeIs slot_tuple_getitem.lookup
  (getItem_tuple (j:=j) (Q:=fun r s'=>r=w∧EP X pins σ Q r s') pl (by omega) (by omega) (by rw [Ap,← hl];exact h1) (by simpa using ew) ⟨rfl,fin⟩) hs
theorem aH (its:List Value)(n j:Nat)(u:Value):Obj.mapSeq (·.setIfInBounds j u) { cls:=.type "list",data:=.seq its.toArray n } = { cls:=.type "list",data:=.seq (its.set j u).toArray n }:=by
 simp [Obj.mapSeq]
theorem Inv.lst {pins:List (Addr × Obj)}{σ:St}{H:Hp}{s:Shared}{p:Addr}{xs:List V}(I:Inv X pins σ H s)(h:H p=some (.lst xs)) :
  ∃ (its:List Value) (n:Nat),Vals xs its∧s.heap.get? p=some { cls:=.type "list",data:=.seq its.toArray n }∧xs.length ≤ sizeLine:=by
 obtain ⟨z,its,n,r,e⟩:=I.hok p _ h
 exact ⟨its,n,r,e,z⟩
theorem Inv.lstUpd {pins:List (Addr × Obj)}{σ:St}{H:Hp}{s:Shared}{p:Addr}{xs ys:List V}{its its':List Value}{n n':Nat}{f:Obj→Obj}(I:Inv X pins σ H s)(h:H p=some (.lst xs))
  (ho:s.heap.get? p=some { cls:=.type "list",data:=.seq its.toArray n }) (hf:f { cls:=.type "list",data:=.seq its.toArray n } = { cls:=.type "list",data:=.seq its'.toArray n' }) (r:Vals ys its') (hz:ys.length ≤ sizeLine) (t:Nat) :
  Inv X pins σ (upd H p (.lst ys)) { s with heap:=s.heap.update p f,toks:=t }:=by
 have e:(s.heap.update p f).get? p=some { cls:=.type "list",data:=.seq its'.toArray n' }:=by
  rw [BS f ho (by rw [hf] <;> rfl),hf]
 refine I.write (x:=p) (e:=p) (by rw [h];trivial) (.inl rfl) (fun b u hb q=>(AX _ _ (Co hb)).trans q) ⟨_,e⟩ ?_
 exact ⟨hz,its',n',r,e⟩
def rSetL:V→V→V→Hp→(Hp→Prop)→Prop:=fun o i v H Q=>∃ p xs k j,o = .ref p∧i = .int k∧H p=some (.lst xs)∧rW xs.length k=some j∧Q (upd H p (.lst (xs.set j v)))
theorem set_list:PSet X rSetL:=by
 intro pins s σ H o i v ov iv u Q I ro ri rv h
 obtain ⟨p,xs,k,j,rfl,rfl,hp,hj,q⟩:=h
 cases ro
 obtain ⟨t,rfl⟩:=ri
 obtain ⟨its,n,r,ho,hz⟩:=I.lst hp
 obtain ⟨h1,h2,h3,h4⟩:=i9 hj
 have hl:=r.length
 have hn:=rB
 have I':Inv X pins σ (upd H p (.lst (xs.set j v))) { s with heap:=s.heap.update p (Obj.mapSeq (·.setIfInBounds j u)) } :=
  I.lstUpd hp ho (aH its n j u) (r.set rv j) (by rw [List.length_set];exact hz) s.toks
 by_cases h0:0 ≤ k
 ·have hk:k.toNat=j:=by
   rw [seqIndex_of h0 h4] at h1
   exact AH h1
  exact PySem.W.ki_setAt ho h0 (by omega) (by rw [Ap,← hl];exact h4) (by rw [hk];exact ⟨_,I',q⟩)
 ·have hk:(k + (its.toArray.size:Int)).toNat=j:=by
   rw [seqIndex_neg (by omega) h3] at h1
   rw [Ap,← hl]
   exact AH h1
  exact PySem.W.ki_setBack ho (by omega) (by rw [Ap,← hl];exact h3) (by omega) (by rw [hk];exact ⟨_,I',q⟩)
theorem clip0 (i:Int)(n:Nat):max 0 (min (if i < 0 then i + (n:Int) else i) (n:Int))=(((if i < 0 then (i + (n:Int)).toNat else min i.toNat n):Nat):Int):=by
 by_cases h:i < 0
 ·rw [Ak h,Ak h,Int.min_eq_left (by omega),Int.ofNat_toNat,Int.max_comm]
 ·have z:0 ≤ i:=Int.not_lt.mp h
  obtain ⟨k,rfl⟩:=Br z
  rw [Aj h,Aj h,Ay];exact (Cs (Int.le_min.mpr ⟨z,Int.natCast_nonneg n⟩)).trans (by omega)
theorem pX (lo hi:Option Int)(n:Nat):(sliceBounds lo hi none n).1=((HT.sIx n 0 lo:Nat):Int)∧(sliceBounds lo hi none n).2.1=((HT.sIx n n hi:Nat):Int)∧(sliceBounds lo hi none n).2.2=1:=by
 exact ⟨by cases lo with | none=>simp [sliceBounds,HT.sIx] | some i=>exact clip0 i n,by cases hi with | none=>simp [sliceBounds,HT.sIx] | some i=>exact clip0 i n,rfl⟩
theorem nF (its:List Value)(lo hi:Option Int):slicePick its.toArray lo hi none=((its.drop (HT.sIx its.length 0 lo)).take (HT.sIx its.length its.length hi - HT.sIx its.length 0 lo)).toArray:=by
 obtain ⟨h1,h2,h3⟩:=pX lo hi its.toArray.size
 unfold slicePick
 rw [h1,h2,h3]
 simp only [sliceRange_one,pick_run,Ap] <;> rfl
def rSlL (K:PySem.W.Frag):V→Option Int→Option Int→Hp→VK→Prop:=fun x lo hi H Q=>∃ a xs,x = .ref a∧SqL K H a xs∧∀ p,H p=none→Q (.ref p) (upd H p (.lst (xN xs lo hi)))
theorem sl_list:SlR X (rSlL X.K):=by
 intro pins s σ H x v vl vu lo hi sl Q I rx hs pl pu h
 obtain ⟨a,xs,rfl,hx,q⟩:=h
 cases rx
 obtain ⟨its,r,ht,hz⟩:=I.list hx
 have hlen:=r.length
 refine ⟨"list",_,slot_list_getitem.lookup,ht.isList.typeIs,?_⟩
 refine wpAny_getItem_list_slice ht.isList hs pl pu .none (by simp) ?_ (by rw [Ap] <;> omega)
 rw [nF,← hlen]
 refine ⟨.ref s.heap.objs.size,_,I.laid (t':=s.toks) (o:=.lst (xN xs lo hi)) (fun b ob q=>Ac _ q) (Ag _) ?_,rfl,q _ (I.hok.fresh (Ag _))⟩
 exact ⟨AK (bL xs lo hi) hz,_,0,(r.drop (HT.sIx xs.length 0 lo)).take (HT.sIx xs.length xs.length hi - HT.sIx xs.length 0 lo),Aq _ rfl⟩
def vN:V→Bool
 | .non=>true
 | .bl _=>true
 | .int _=>true
 | .str _=>true
 | _=>false
def aP:V→V→Bool
 | .non,.non=>true
 | .bl a,.bl b=>a == b
 | .bl a,.int b=>(if a then 1 else 0) == b
 | .int a,.bl b=>a == (if b then 1 else 0)
 | .int a,.int b=>a == b
 | .str a,.str b=>a == b
 | _,_=>false
theorem mY {A:Around}{s:Shared}{y x:V}{u v:Value}(ry:RelV y u)(rx:RelV x v)(fy:vN y=true)(fx:vN x=true):SeqAt.EqAt A s u v (aP y x):=by
 cases y with
 | non =>
  cases ry
  cases x with
  | non=>cases rx;exact C4 _
  | bl b=>cases rx;exact SeqAt.EqAt.none_bool b
  | int b=>obtain ⟨t,rfl⟩:=rx;exact SeqAt.EqAt.none_int b t
  | str b=>obtain ⟨t,rfl⟩:=rx;exact SeqAt.EqAt.none_str b t
  | _=>exact absurd (show false=true from fx) A2
 | bl a =>
  cases ry
  cases x with
  | non=>cases rx;exact SeqAt.EqAt.bool_none a
  | bl b=>cases rx;exact SeqAt.EqAt.bool_bool a b
  | int b=>obtain ⟨t,rfl⟩:=rx;exact SeqAt.EqAt.bool_int a b t
  | str b=>obtain ⟨t,rfl⟩:=rx;exact SeqAt.EqAt.bool_str a b t
  | _=>exact absurd (show false=true from fx) A2
 | int a =>
  obtain ⟨t',rfl⟩:=ry
  cases x with
  | non=>cases rx;exact SeqAt.EqAt.int_none a t'
  | bl b=>cases rx;exact SeqAt.EqAt.int_bool a t' b
  | int b=>obtain ⟨t,rfl⟩:=rx;exact SeqAt.EqAt.int_int a t' b t
  | str b=>obtain ⟨t,rfl⟩:=rx;exact SeqAt.EqAt.int_str a t' b t
  | _=>exact absurd (show false=true from fx) A2
 | str a =>
  obtain ⟨t',rfl⟩:=ry
  cases x with
  | non=>cases rx;exact SeqAt.EqAt.str_none a t'
  | bl b=>cases rx;exact SeqAt.EqAt.str_bool a t' b
  | int b=>obtain ⟨t,rfl⟩:=rx;exact SeqAt.EqAt.str_int a t' b t
  | str b=>obtain ⟨t,rfl⟩:=rx;exact SeqAt.EqAt.str_str a t' b t
  | _=>exact absurd (show false=true from fx) A2
 | _=>exact absurd (show false=true from fy) A2
def eqU (x:V)(u:Value):Bool:=match u with
 | .none=>aP .non x
 | .bool b=>aP (.bl b) x
 | .int i _=>aP (.int i) x
 | .str z _=>aP (.str z) x
 | _=>false
theorem eqU_of {x y:V}{u:Value}(r:RelV y u)(f:vN y=true):eqU x u=aP y x:=by
 cases y with
 | non=>cases r;rfl
 | bl b=>cases r;rfl
 | int i=>obtain ⟨t,rfl⟩:=r;rfl
 | str z=>obtain ⟨t,rfl⟩:=r;rfl
 | _=>exact absurd (show false=true from f) A2
theorem rQ {x:V}:∀ {xs:List V} {us:List Value},Vals xs us→xs.all vN=true→us.any (eqU x)=xs.any fun y=>aP y x
 | _,_,.nil,_=>rfl
 | y :: xs,u :: us,.cons r t,f=>by
  rw [CH,AL] at f
  rw [List.any_cons,List.any_cons,eqU_of r f.1,rQ t f.2]
theorem mN {A:Around}{s:Shared}{x:V}{v:Value}(rx:RelV x v)(fx:vN x=true):∀ {xs:List V} {us:List Value},Vals xs us→xs.all vN=true→∀ u ∈ us,SeqAt.EqAt A s u v (eqU x u)
 | _,_,.nil,_=>fun u hu=>by cases hu
 | y :: xs,u :: us,.cons r t,f=>fun u' hu=>by
  rw [CH,AL] at f
  rcases Ax.mp hu with rfl | hu
  ·rw [eqU_of r f.1];exact mY r rx f.1 fx
  ·exact mN rx fx t f.2 u' hu
def inV (x:V)(xs:List V):Bool:=xs.any fun y=>aP y x
def rIn (K:PySem.W.Frag)(neg:Bool):R2:=fun x y H Q=>∃ p xs,y = .ref p∧(SqL K H p xs∨SqT K H p xs)∧vN x=true∧xs.all vN=true∧Q (.bl (if neg then !inV x xs else inV x xs)) H
theorem op_in_seq:vU X (compareOp .In) (rIn X.K false):=by
 intro pins s σ H x y v u Q I rx ry h
 obtain ⟨p,xs,rfl,hq,fx,fs,q⟩:=h
 cases ry
 rcases hq with hq | hq
 ·obtain ⟨its,r,pl,hz⟩:=I.list hq
  refine SeqAt.in_listAt (eqU x) pl.isList (fun w hw=>mN rx fx r fs w (by simpa using hw)) ⟨.bl _,H,I,rfl,?_⟩
  rw [show its.toArray.any (eqU x)=its.any (eqU x) by simp,rQ r fs]
  exact q
 ·obtain ⟨its,r,pl,hz⟩:=I.tuple hq
  refine SeqAt.in_tupleAt (eqU x) pl (fun w hw=>mN rx fx r fs w (by simpa using hw)) ⟨.bl _,H,I,rfl,?_⟩
  rw [show its.toArray.any (eqU x)=its.any (eqU x) by simp,rQ r fs]
  exact q
theorem rO:zY X (.builtin "len") (fun xs H Q=>∃ p ys,xs=[.ref p]∧(SqL X.K H p ys∨SqT X.K H p ys)∧Q (.int ys.length) H):=by
 intro pins s σ H xs us Q I r h
 obtain ⟨p,ys,rfl,hq,q⟩:=h
 obtain ⟨u,rfl,rx⟩:=vals1 r
 cases rx
 have hn:=rB
 rcases hq with hq | hq
 ·obtain ⟨its,r',pl,hz⟩:=I.list hq
  have hlen:=r'.length
  exact Calls.call_len_list pl.isList (by simp only [Ap] <;> omega) ⟨.int ys.length,H,I.tok _,⟨s.toks + 1,by rw [Ap,hlen]⟩,q⟩
 ·obtain ⟨its,r',pl,hz⟩:=I.tuple hq
  have hlen:=r'.length
  exact len_tuple pl (by simp only [Ap] <;> omega) ⟨.int ys.length,H,I.tok _,⟨s.toks + 1,by rw [Ap,hlen]⟩,q⟩
theorem rN:zY X (.type "list") (fun xs H Q=>∃ p ys,xs=[.ref p]∧(SqL X.K H p ys∨SqT X.K H p ys)∧∀ l,H l=none→Q (.ref l) (upd H l (.lst ys))):=by
 intro pins s σ H xs us Q I r h
 obtain ⟨p,ys,rfl,hq,q⟩:=h
 obtain ⟨u,rfl,rx⟩:=vals1 r
 cases rx
 have fin:∀ (its:List Value),Vals ys its→ys.length ≤ sizeLine→∀ (h':Heap) (c':Nat),(∀ b o',s.heap.get? b=some o'→h'.get? b=some o') →
   h'.get? s.heap.objs.size=some { cls:=.type "list",dict:=none,data:=.seq its.toArray c',slots := #[] }→EP X pins σ Q (.ref s.heap.objs.size) { s with heap:=h' }:=fun its r' hz h' c' kp e =>
  ⟨.ref s.heap.objs.size,_,I.laid (t':=s.toks) kp (Ag _) (show ObjOk X.prog X.w _ h' _ (.lst ys) from ⟨hz,its,c',r',e⟩),rfl,q _ (I.hok.fresh (Ag _))⟩
 rcases hq with hq | hq
 ·obtain ⟨its,r',pl,hz⟩:=I.list hq
  have hlen:=r'.length
  obtain ⟨o,ho,hc,n,hd⟩:=pl.isList
  exact call_list_seq p (.inl rfl) ho hc hd (fun h' c' kp e=>fin its r' hz h' c' kp e) (by simp only [Ap] <;> omega)
 ·obtain ⟨its,r',pl,hz⟩:=I.tuple hq
  have hlen:=r'.length
  obtain ⟨o,ho,hc,n,hd⟩:=pl
  exact call_list_seq p (.inr rfl) ho hc hd (fun h' c' kp e=>fin its r' hz h' c' kp e) (by simp only [Ap] <;> omega)
theorem nJ:zY X (.type "tuple") (fun xs H Q=>∃ p ys,xs=[.ref p]∧((SqL X.K H p ys∧∀ l,H l=none→Q (.ref l) (upd H l (.tup ys)))∨(SqT X.K H p ys∧Q (.ref p) H))):=by
 intro pins s σ H xs us Q I r h
 obtain ⟨p,ys,rfl,h⟩:=h
 obtain ⟨u,rfl,rx⟩:=vals1 r
 cases rx
 rcases h with ⟨hq,q⟩ | ⟨hq,q⟩
 ·obtain ⟨its,r',pl,hz⟩:=I.list hq
  have hlen:=r'.length
  refine call_tuple_list pl.isList (fun h' kp=>?_) (by simp only [Ap] <;> omega)
  have I1:Inv X pins σ H { s with heap:=h' }:=I.kept (t':=s.toks) kp
  have I2:Inv X pins σ (upd H h'.objs.size (.tup ys)) { s with heap:=h'.push { cls:=.type "tuple",data:=.seq its.toArray } } :=
   I1.laid (t':=s.toks) (fun b o e=>Ac _ e) (Ag _) (show ObjOk X.prog X.w _ _ _ (.tup ys) from ⟨hz,its,r',CB _ _⟩)
  exact ⟨.ref h'.objs.size,_,I2,rfl,q _ (I1.hok.fresh (Ag _))⟩
 ·obtain ⟨its,r',pl,hz⟩:=I.tuple hq
  exact call_tuple_same pl ⟨.ref p,H,I,rfl,q⟩
def tyV (K:PySem.W.Frag)(T:String)(x:V)(H:Hp):Prop:=match x with
 | .str _=>T = "str"
 | .int _=>T = "int"
 | .ref p=>(T = "list" ∧ ∃ xs,SqL K H p xs)∨(T = "tuple" ∧ ∃ o,K.lookup p=some o∧o.cls = .type "tuple" ∧ o.dict=none) ∨
   (T = "dict" ∧ ((∃ kvs,H p=some (.dK kvs))∨∃ kvs,H p=some (.dT kvs)))∨(T = "set" ∧ ∃ S n,H p=some (.set S n))
 | _=>False
theorem tyV_is {pins:List (Addr × Obj)}{σ:St}{H:Hp}{s:Shared}{T:String}{x:V}{v:Value}(I:Inv X pins σ H s)(r:RelV x v)(ty:tyV X.K T x H) :
  s.TypeIs v T∧∀ a,v = .ref a→∃ ob,s.heap.get? a=some ob∧ob.dict=none:=by
 cases x with
 | str z =>
  obtain ⟨t,rfl⟩:=r
  cases (show T = "str" from ty)
  exact ⟨typeIs_str s z t,fun _ e=>nomatch e⟩
 | int i =>
  obtain ⟨t,rfl⟩:=r
  cases (show T = "int" from ty)
  exact ⟨typeIs_int s i t,fun _ e=>nomatch e⟩
 | ref p =>
  cases r
  rcases ty with ⟨rfl,xs,hq⟩ | ⟨rfl,o,hk,hc,hd⟩ | ⟨rfl,hk⟩ | ⟨rfl,S,n,hk⟩
  ·obtain ⟨its,_,pl,_⟩:=I.list hq
   refine ⟨pl.isList.typeIs,fun a e=>?_⟩
   cases e
   obtain ⟨o,n,e,c,hd,_⟩:=pl
   exact ⟨o,e,hd⟩
  ·refine ⟨⟨o,I.kIn p o hk,hc⟩,fun a e=>?_⟩
   cases e
   exact ⟨o,I.kIn _ o hk,hd⟩
  ·have z:∃ o,s.heap.get? p=some o∧o.ExactDict:=by
    rcases hk with ⟨kvs,hk⟩ | ⟨kvs,hk⟩
    ·obtain ⟨_,_,_,_,o,_,_,e,ex,_⟩:=I.hok p _ hk
     exact ⟨o,e,ex⟩
    ·obtain ⟨_,_,_,_,o,_,_,e,ex,_⟩:=I.hok p _ hk
     exact ⟨o,e,ex⟩
   obtain ⟨o,e,ex⟩:=z
   refine ⟨⟨o,e,ex.1⟩,fun a e2=>?_⟩
   cases e2
   exact ⟨o,e,ex.2.1⟩
  ·obtain ⟨o,_,_,_,e,ex,_⟩:=I.hok p _ hk
   refine ⟨⟨o,e,ex.1⟩,fun a e2=>?_⟩
   cases e2
   exact ⟨o,e,ex.2.1⟩
 | _=>exact False.elim ty
variable {o e:Expr}{es:List Expr}{to:TE}{t:TA}{name:Str}{apos cpos:Pos}{T id:String}{r:V→List V→Hp→VK→Prop}
end
end L2
namespace L2
open PySem PySem.Spec PyProof.Rows
def MtM (X:Cx)(id:String)(r:V→List V→Hp→VK→Prop):Prop :=
 ∀ (pins:List (Addr × Obj)) (s:Shared) (σ:St) (H:Hp) (x:V) (xs:List V) (v:Value) (us:List Value) (Q:VK),Inv X pins σ H s→RelV x v→Vals xs us→r x xs H Q →
  wpAny (model X.prog X.w) X.A (call (.builtin id) (v :: us)) (EP X pins σ Q) X.xe s
theorem Vals.one {x:V}{us:List Value}(h:Vals [x] us):∃ u,us=[u]∧RelV x u:=by
 cases h with
 | cons r t=>cases t;exact ⟨_,rfl,r⟩
theorem Vals.two {x y:V}{us:List Value}(h:Vals [x,y] us):∃ u v,us=[u,v]∧RelV x u∧RelV y v:=by
 cases h with
 | cons r t =>
  cases t with
  | cons q z=>cases z;exact ⟨_,_,rfl,r,q⟩
theorem Vals.eraseIdx:∀ {xs:List V} {us:List Value} (i:Nat),Vals xs us→Vals (xs.eraseIdx i) (us.eraseIdx i)
 | _,_,_,.nil=>.nil
 | _,_,0,.cons _ t=>t
 | _,_,i + 1,.cons r t=>.cons r (Vals.eraseIdx i t)
theorem Vals.reverse {xs:List V}{us:List Value}(h:Vals xs us):Vals xs.reverse us.reverse:=by
 induction h with
 | nil=>exact .nil
 | cons r t ih=>rw [List.reverse_cons,List.reverse_cons];exact Vals.append ih (.cons r .nil)
theorem Vals.rep {xs:List V}{us:List Value}(h:Vals xs us):∀ k:Nat,Vals (List.replicate k xs).flatten (List.replicate k us).flatten
 | 0=>.nil
 | k + 1=>by
  rw [Ba,Ba,Bz,Bz]
  exact Vals.append h (Vals.rep h k)
theorem lO {α:Type}:∀ (l:List α) (i:Nat),(l.eraseIdx i).length ≤ l.length
 | [],_=>Ag _
 | _ :: _,0=>C1 _
 | _ :: r,i + 1=>Nat.succ_le_succ (lO r i)
theorem foldl_rep (its:List Value):∀ (k:Nat) (acc:List Value),
  List.foldl (fun x1 x2=>x1 ++ x2) acc.toArray (List.replicate k its.toArray)=(acc ++ (List.replicate k its).flatten).toArray
 | 0,acc=>by simp
 | k + 1,acc=>by
  have e:acc.toArray ++ its.toArray=(acc ++ its).toArray:=by simp
  have e2:(acc ++ its) ++ (List.replicate k its).flatten=acc ++ (List.replicate (k + 1) its).flatten:=by
   rw [Ba,Bz,List.append_assoc]
  rw [← e2,← foldl_rep its k (acc ++ its),← e,Ba,List.foldl_cons]
section
variable {X:Cx}{pins:List (Addr × Obj)}{σ:St}{H:Hp}{s:Shared}{l b:Addr}{xs ys zs:List V}
theorem Inv.lset {its its':List Value}{n:Nat}{f:Array Value→Array Value}{t':Nat}(I:Inv X pins σ H s)(hH:H l=some (.lst xs))
  (e:s.heap.get? l=some { cls:=.type "list",data:=.seq its.toArray n }) (hf:f its.toArray=its'.toArray) (hv:Vals ys its') (hz:ys.length ≤ sizeLine) :
  Inv X pins σ (upd H l (.lst ys)) { s with heap:=s.heap.update l (Obj.mapSeq f),toks:=t' }:=by
 have q:=PySem.IsL.update e f
 rw [hf] at q
 refine I.write (x:=l) (e:=l) (by rw [hH];exact trivial) (.inl rfl) (fun b' u hb hu=>(AX s.heap (Obj.mapSeq f) (Co hb)).trans hu) ⟨_,q⟩ ?_
 exact ⟨hz,its',_,hv,q⟩
theorem Inv.lnew {its:List Value}{t':Nat}(I:Inv X pins σ H s)(hv:Vals ys its)(hz:ys.length ≤ sizeLine) :
  Inv X pins σ (upd H s.heap.objs.size (.lst ys)) { s with heap:=s.heap.push { cls:=.type "list",data:=.seq its.toArray },toks:=t' } :=
 I.laid (fun _ _ q=>Ac _ q) (Ag _) ⟨hz,its,0,hv,Aq _ rfl⟩
theorem Inv.fresh (I:Inv X pins σ H s):H s.heap.objs.size=none:=I.hok.fresh (Ag _)
theorem Inv.lstM (I:Inv X pins σ H s)(hH:H l=some (.lst xs)):xs.length ≤ sizeLine∧∃ (its:List Value) (n:Nat),Vals xs its∧xs.length=its.length∧s.heap.get? l=some { cls:=.type "list",data:=.seq its.toArray n }:=by
 obtain ⟨z,its,n,r,e⟩:=I.hok l _ hH
 exact ⟨z,its,n,r,r.length,e⟩
end
section
variable {X:Cx}
def rAppend:V→List V→Hp→VK→Prop:=fun x vs H Q=>∃ l xs y,x = .ref l∧vs=[y]∧H l=some (.lst xs)∧xs.length < sizeLine∧Q .non (upd H l (.lst (xs ++ [y])))
theorem lL:MtM X "list.append" rAppend:=by
 intro pins s σ H x vs v us Q I rx rv h
 obtain ⟨l,xs,y,rfl,rfl,hH,hz,q⟩:=h
 cases rx
 obtain ⟨u,rfl,ru⟩:=rv.one
 obtain ⟨z,its,n,r,hl,e⟩:=I.lstM hH
 refine call_meets F.slot_list_append ⟨_,e,rfl⟩ F.entry_list_append (F.args_list_append_2 _ _) (PySem.list_append l its.toArray n u (by rw [Ap];omega)) ⟨e,?_⟩
 refine ⟨.non,_,I.lset (its':=its ++ [u]) hH e (by simp) (r.append (.cons ru .nil)) ?_,rfl,q⟩
 rw [AD,AY]
 omega
def rPopAt:V→List V→Hp→VK→Prop:=fun x vs H Q=>∃ l xs i k y,x = .ref l∧vs=[.int i]∧H l=some (.lst xs)∧-(2 ^ 63) ≤ i∧i < 2 ^ 63∧seqIndex? i xs.length=some k∧xs[k]? = some y∧Q y (upd H l (.lst (xs.eraseIdx k)))
theorem mt_popAt:MtM X "list.pop" rPopAt:=by
 intro pins s σ H x vs v us Q I rx rv h
 obtain ⟨l,xs,i,k,y,rfl,rfl,hH,h1,h2,hk,hy,q⟩:=h
 cases rx
 obtain ⟨u,rfl,ru⟩:=rv.one
 obtain ⟨t,rfl⟩:=ru
 obtain ⟨z,its,n,r,hl,e⟩:=I.lstM hH
 obtain ⟨w,hw,rw'⟩:=r.get hy
 refine call_meets F.slot_list_pop ⟨_,e,rfl⟩ F.entry_list_pop (F.args_list_pop_2 _ _)
  (MeetsSeq.list_pop_at l its.toArray n i t k w (fitsIndex_both h1 h2) (by rw [Ap,← hl];exact hk) (by rw [← Array.getElem?_toList];exact hw) (by rw [Ap];omega)) ⟨e,?_⟩
 refine ⟨y,_,I.lset (its':=its.eraseIdx k) hH e ?_ (r.eraseIdx k) ?_,rw',q⟩
 ·show its.toArray.eraseIdxIfInBounds k=(its.eraseIdx k).toArray
  rw [List.eraseIdxIfInBounds_toArray]
 ·have:=lO xs k
  omega
def rCat:R2:=fun x y H Q=>∃ l b xs zs,x = .ref l∧y = .ref b∧H l=some (.lst xs)∧H b=some (.lst zs)∧xs.length + zs.length ≤ sizeLine∧∀ p,H p=none→Q (.ref p) (upd H p (.lst (xs ++ zs)))
theorem op_cat:vU X (binaryOp .Add) rCat:=by
 intro pins s σ H x y v u Q I rx ry h
 obtain ⟨l,b,xs,zs,rfl,rfl,hH,hB,hz,q⟩:=h
 cases rx
 cases ry
 obtain ⟨z,its,n,r,hl,e⟩:=I.lstM hH
 obtain ⟨z2,its2,n2,r2,hl2,e2⟩:=I.lstM hB
 refine PySem.P.add_list e e2 ?_ (by rw [Ap,Ap];omega)
 have ea:its.toArray ++ its2.toArray=(its ++ its2).toArray:=by simp
 rw [ea]
 exact ⟨.ref _,_,I.lnew (t':=s.toks) (r.append r2) (by rw [AD];omega),rfl,q _ I.fresh⟩
theorem len_rep {α:Type}(xs:List α)(k:Nat):(List.replicate k xs).flatten.length=k * xs.length:=by
 induction k with
 | zero=>simp
 | succ k ih=>rw [Ba,Bz,AD,ih,Nat.succ_mul,Nat.add_comm]
end
section
variable {prog:Program}{w:World}{A:Around}{E:Value→Shared→Prop}{s:Shared}
end
section
variable {X:Cx}
end
end L2
namespace Att
open PySem PySem.W PySem.Calls PyProof.Rows
theorem bM {P:Params}{h:Heap}:∀ (ns:List Int) (vs:List Value),WellAll P h vs (ns.map WData.int)→IntsAre vs ns:=by
 intro ns
 induction ns with
 | nil =>
  intro vs w
  rw [CO] at w
  cases w
  exact .nil
 | cons n ns ih =>
  intro vs w
  rw [Av] at w
  cases w with
  | cons a b =>
   cases a
   exact .cons _ _ (ih _ b)
theorem script_of {l:OpenLaw}{n:Nat}(hn:l.most=some n){P:Params}{h:Heap}{args:List WData}{vals:List Value}
  (hpre:l.row.toRowW.claim.pre args=true) (hwl:WellAll P h vals args) :
  ∃ a vs ns,vals=[Value.ref a]∧args=[WData.list (ns.map WData.int)]∧h.get? a=some { cls:=.type "list",data:=.seq vs.toArray }∧IntsAre vs ns∧ns.length ≤ n:=by
 have hsh:WShape.hasAll [] args [.list .int] = true:=(pre_splitW hpre).1
 have hc:l.pre.holds [] { args:=args } = true:=(pre_splitW hpre).2
 obtain ⟨d,r,rfl,h1,h2⟩:=hasAllW_cons hsh
 obtain rfl:=hasAllW_nil h2
 obtain ⟨xs,rfl,h3⟩:=hasW_list h1
 obtain ⟨ns,rfl⟩:=items_int h3
 have hlen:ns.length ≤ n:=by
  unfold OpenLaw.pre at hc
  have h4:(WTm.not (.lt (.lit (.int (n:Int))) (.len (.arg 0)))).holds [] { args:=[.list (ns.map .int)] } = true:=by
   have h4:=(holds_andW hc).1
   rw [hn] at h4
   exact h4
  have h5:=condW_of h4 (w_not (w_lt w_lit (w_len_list (w_arg rfl))))
  rw [Ab] at h5
  refine Nat.le_of_not_lt fun q=>?_
  have q':(n:Int) < ((ns.length:Nat):Int):=by omega
  first
   | (rw [Ar q'] at h5;exact absurd h5 (by decide))
   | (simp at h5;omega)
 cases hwl with
 | cons w1 w2 =>
  cases w2
  cases w1 with
  | list ho hall=>exact ⟨_,_,ns,rfl,rfl,ho,bM ns _ hall,hlen⟩
theorem post_true (l:OpenLaw)(args:List WData):l.row.toRowW.claim.post args (.bool true) args=true :=
 postW_of (r:=l.row.toRowW) (X:=(true == true))
  (show WShape.has [] (.bool true) .bool=true by first | rfl | decide | simp [WShape.has,WShape.arms,WShape.armsAll])
  (show (WTm.eq .res (.lit (.bool true))).value [] { args:=args,res:=some (.bool true),after:=args } = some (.bool (true == true)) from w_eq_bool (w_res rfl) w_lit) rfl
theorem attach_call {l:OpenLaw}{n:Nat}{q:Program}{loose:List Str}{XP:(Str→Option Value)→Heap→Prop}{YP:World→Heap→Prop}{d:DefRec}
  (hn:l.most=some n) (hdf:d.params.defaults=[])
  (call:∀ (w:World) (s₀ s₁:Shared) (mg mb:Str→Option Value) (fa:Addr) (o:Obj) (pm cd doc:Value) (a:Addr) (vs:List Value) (ns:List Int),
   Ground q loose [] XP w s₀ mg mb s₁.heap→YP w s₁.heap →
   s₁.heap.get? fa=some o→o.data = .func (docDef d.name d.params d.body d.scope pm cd doc)→s₁.heap.CodeRec cd d.name→mg d.name=some (.ref fa) →
   s₁.heap.get? a=some { cls:=.type "list",data:=.seq vs.toArray }→IntsAre vs ns→ns.length ≤ n→s₁.gens = #[] →
   codeAny (model l.prog w) callerA (.call (.ref fa) ⟨[.ref a],[]⟩) (fun r s'=>r = .ok (.ret (.bool true))∧OldK s₁.heap s'.heap∧s'.os=s₁.os∧AllBare s'.gens) s₁) :
  WalkO q loose XP YP l.row.toRowW d [] (fun f vs=>PySem.call f vs):=by
 intro w s₀ s₁ mg mb G Y fa o pm cd doc dV kV ho hd hcd hD hmg hg args vals as hpre hlay hrd hwl hlo
 obtain rfl:dV = .none:=Dflts.none hD hdf
 obtain rfl:kV = .none:=Dflts.noKw hD
 obtain ⟨a,vs,ns,rfl,rfl,hobj,hints,hlen⟩:=script_of hn hpre hwl
 refine enter_call (codeAny_mono (call w s₀ s₁ mg mb fa o pm cd doc a vs ns G Y ho (fd_plain hd) hcd hmg hobj hints hlen hg) fun r s' hq=>?_)
 obtain ⟨rfl,h2,h3,h4⟩:=hq
 exact ⟨.inl ⟨.bool true,.bool true,[],rfl,fun _=>rfl,.bool true,post_true l _,fun _=>⟨List.Pairwise.nil,fun _ hm=>(nomatch hm)⟩⟩,h2,h3,h4⟩
section
variable {prog:Program}{w:World}{A:Around}{E:Value→Shared→Prop}{s:Shared}{K:Frag}
end
end Att
namespace L2
open PySem PySem.Spec PyProof.Rows
theorem wB:∀ {vs:List Value} {ns:List Int},IntsAre vs ns→Vals (ns.map V.int) vs
 | _,_,.nil=>.nil
 | _,_,.cons n t h=>.cons ⟨t,rfl⟩ (wB h)
def Only (H:Hp):Prop:=∀ b,H b=none∨∃ o xs,H b=some (.frz o (.lst xs))
theorem law_call {P:Program}{w:World}{K:PySem.W.Frag}{mg mb:Str→Option Value}{CX:CXT}{k:Nat}{fa a:Addr}{fd:FuncData}{x:Str}{sp:Sp}{s₁:Shared}{vs:List Value}{ns:List Int}
  (KX:K.In s₁.heap) (hns:s₁.heap.Ns mainGlobals mg) (hb:s₁.heap.Ns builtinsNs mb) (hbb:∀ x:Str,x ≠ "__name__" → mb x=bootBuiltins x) (hlim:s₁.heap.NoLimit) (hg:s₁.gens = #[])
  (ha:s₁.heap.get? a=some { cls:=.type "list",data:=.seq vs.toArray }) (hi:IntsAre vs ns) (hl:ns.length ≤ sizeLine) (hr:Room k callerA)
  (F:∀ base:Heap,K.In base→base.Ns mainGlobals mg→FnOk P w K mg base CX k fa fd [x] sp) (hbind:∀ (s:Shared) (u:Value),BindsTo s fd ⟨[u],[]⟩ [(x,u)])
  (hsp:∀ H:Hp,Only H→SqL K H a (ns.map V.int)→sp [.ref a] H (fun v _=>v = .bl true) fun _ _ _=>False)
  (hCX:∀ H e s',CX [] H s₁ (fun _ _ _=>False) e s'→False) :
  codeAny (model P w) callerA (.call (.ref fa) ⟨[.ref a],[]⟩) (fun r s'=>r = .ok (.ret (.bool true))∧OldK s₁.heap s'.heap∧s'.os=s₁.os∧AllBare s'.gens) s₁:=by
 have rv:=wB hi
 have lenV:=hi.length
 have core:∀ H:Hp,Only H→SqL K H a (ns.map V.int)→HOk P w H s₁.heap→(∀ b,H b ≠ none→b=a)→(H a ≠ none→K.lookup a=none) →
   codeAny (model P w) callerA (.call (.ref fa) ⟨[.ref a],[]⟩) (fun r s'=>r = .ok (.ret (.bool true))∧OldK s₁.heap s'.heap∧s'.os=s₁.os∧AllBare s'.gens) s₁:=by
  intro H hO hS hok hA hK
  have base_of:∀ {b:Addr} {o:Obj},s₁.heap.get? b=some o→H b=none→(rG s₁.heap H).get? b=some o:=fun e n=>hidT_get e n
  have noA:∀ {b:Addr} {o:Obj} {es:Array DictEntry} {ep:Nat},s₁.heap.get? b=some o→o.data = .dict es ep→H b=none:=fun {b o es ep} e d=>by
   cases q:H b with
   | none=>rfl
   | some u =>
    have e':b=a:=hA b (by rw [q];simp)
    subst e'
    rw [ha] at e;cases e
    have d':Data.seq vs.toArray _=Data.dict es ep:=d
    cases d'
  have nsK:∀ {b:Addr} {m:Str→Option Value},s₁.heap.Ns b m→(rG s₁.heap H).Ns b m:=fun {b m} ⟨o,es,ep,e,d,r⟩=>⟨o,es,ep,base_of e (noA e d),d,r⟩
  have hKb:K.In (rG s₁.heap H):=fun b o e=>base_of (KX b o e) (by
   cases q:H b with
   | none=>rfl
   | some u =>
    have e':b=a:=hA b (by rw [q];simp)
    subst e'
    rw [hK (by rw [q];simp)] at e;cases e)
  have hM:Mod K mg (rG s₁.heap H):=⟨hKb,nsK hns,⟨mb,nsK hb,hbb⟩,let ⟨mc,h1,h2⟩:=hlim;⟨mc,nsK h1,h2⟩⟩
  have e0:Env0 P w K mg (rG s₁.heap H) callerA [] s₁ H:=⟨rfl,hM,fun b o e=>of_hidT e,Nat.le_of_eq (hidT_size _ _),trivial,fun b hb=>absurd (show b ∈ ([] : List Addr) from hb) (by simp),hok,.of_eq hg⟩
  refine codeAny_mono ((F _ hKb (nsK hns)).run callerA [] s₁ H ⟨[.ref a],[]⟩ [.ref a] [.ref a] _ _ hr e0 (hbind s₁ (.ref a)) (.cons rfl .nil) (hsp H hO hS)) fun r s' h=>?_
  cases r with
  | error e=>exact (hCX H e s' h).elim
  | ok fl =>
   cases fl with
   | next=>exact False.elim h
   | brk=>exact False.elim h
   | cont=>exact False.elim h
   | ret u =>
    obtain ⟨v,H',os,bare,un,hok',r',q⟩:=h
    have q':v = .bl true:=q
    subst q'
    obtain rfl:u=Value.bool true:=r'
    refine ⟨rfl,OldK.of_keep fun b o e=>?_,os,bare⟩
    cases q:H b with
    | none=>exact un.keep b o e q (by intro z;exact absurd (show b ∈ ([] : List Addr) from z) (by simp)) (by simp)
    | some u =>
     rcases hO b with z | ⟨ob,xs,z⟩
     ·rw [q] at z;cases z
     ·have z2:=un.frzs b ob _ z
      obtain ⟨e1,_⟩:=hok b _ z
      obtain ⟨e2,_⟩:=hok' b _ z2
      rw [e] at e1;cases e1
      exact e2
 cases hk:K.lookup a with
 | some o =>
  have e:=KX a o hk
  rw [ha] at e
  cases e
  refine core (fun _=>none) (fun _=>.inl rfl) (.inr ⟨_,vs.toArray,_,hk,rfl,rfl,rfl,by rw [Ap,lenV];exact hl,by simpa using rv⟩) (fun b u z=>by have z':(none:Option HO)=some u:=z;cases z') (fun b z=>absurd rfl z) fun z=>absurd rfl z
 | none =>
  refine core (fun b=>if b=a then some (.frz { cls:=.type "list",data:=.seq vs.toArray } (.lst (ns.map V.int))) else none) (fun b=>?_) (.inl (.inr ⟨{ cls:=.type "list",data:=.seq vs.toArray },Ak rfl⟩)) (fun b u z=>?_) (fun b z=>?_) fun _=>hk
  ·by_cases hb:b=a
   ·exact .inr ⟨_,_,Ak hb⟩
   ·exact .inl (Aj hb)
  ·by_cases hb:b=a
   ·have z':=(Ak hb).symm.trans z
    cases z'
    subst hb
    exact ⟨ha,by rw [Ab];exact hl,vs,_,rv,ha⟩
   ·have z':=(Aj hb).symm.trans z
    cases z'
  ·by_cases hb:b=a
   ·exact hb
   ·exact absurd (Aj hb) z
end L2
namespace L2
open PySem PySem.Spec PyProof.Rows
theorem walk_of {l:PySem.W.OpenLaw}{n k:Nat}{q:Program}{loose:List Str}{XP:(Str→Option Value)→Heap→Prop}{YP:World→Heap→Prop}{d:DefRec}{K:Params→PySem.W.Frag}{CX:World→CXT}{sp:World→Sp}{x:Str}
  (hn:l.most=some n) (hn2:n ≤ sizeLine) (hdf:d.params.defaults=[]) (hr:Room k callerA)
  (hY:∀ (w:World) (h:Heap),YP w h→(K w.params).In h)
  (F:∀ (w:World) (mg:Str→Option Value) (fa:Addr) (h:Heap),(K w.params).In h→h.Ns mainGlobals mg→mg d.name=some (.ref fa) →
   ∃ fd:FuncData,(∀ (s:Shared) (u:Value),BindsTo s fd ⟨[u],[]⟩ [(x,u)]) ∧
    ∀ base:Heap,(K w.params).In base→base.Ns mainGlobals mg→FnOk l.prog w (K w.params) mg base (CX w) k fa fd [x] (sp w))
  (hsp:∀ (w:World) (H:Hp) (a:Addr) (ns:List Int),ns.length ≤ n→Only H→SqL (K w.params) H a (ns.map V.int)→sp w [.ref a] H (fun v _=>v = .bl true) fun _ _ _=>False)
  (hCX:∀ (w:World) (H:Hp) (s:Shared) (e:Value) (s':Shared),CX w [] H s (fun _ _ _=>False) e s'→False) :
  PySem.W.WalkO q loose XP YP l.row.toRowW d [] (fun f vs=>PySem.call f vs):=by
 refine Att.attach_call hn hdf fun w s₀ s₁ mg mb fa o pm cd doc a vs ns G Y ho hd hcd hmg hobj hints hlen hg=>?_
 have KX:=hY w _ Y
 obtain ⟨fd,hb,hF⟩:=F w mg fa _ KX G.T.g hmg
 exact law_call KX G.T.g G.T.b G.T.builtins G.T.nolimit hg hobj hints (AK hlen hn2) hr hF hb (fun H hO hS=>hsp w H a ns hlen hO hS) fun H e s'=>hCX w H s₁ e s'
end L2
namespace L2
open PySem PySem.Spec PyProof.Rows
def qN (s:Stmt):Arguments:=match s with
 | .FunctionDef _ a _ _ _ _ _ _ _ _=>a
 | _=>{ posonlyargs:=[],args:=[],vararg:=none,kwonlyargs:=[],kw_defaults:=[],kwarg:=none,defaults:=[] }
def qM (s:Stmt):List Stmt:=match s with
 | .FunctionDef _ _ b _ _ _ _ _ _ _=>b
 | _=>[]
def qE (s:Stmt):Scope:=match s with
 | .FunctionDef _ _ _ _ _ _ sc _ _ _=>sc
 | _=>{ kind:=.function,names:=[],isGenerator:=false,isCoroutine:=false }
abbrev CX0:CXT:=fun _ _ _ _ _ _=>False
abbrev E0:XK:=fun _ _ _=>False
theorem pass0 {X:Cx}:aZ CX0 X E0:=fun _ _ _ _ _ _ _ h=>h.elim
structure Fun (K:PySem.W.Frag)(x qual:Str)(st:Stmt)(f:Addr)(fd:FuncData):Prop where
 ex:∃ (oc:Value) (od:Option Addr) (kV doc pm:Value) (an:Option Addr) (cdv ct:Value) (osl:Array (Option Value)),
  fd=PySem.W.fnOf x qual (qN st) (qM st) (qE st) .none kV doc pm an cdv ct∧K.lookup f=some ⟨oc,od,.func fd,osl⟩∧PySem.W.codeIn K cdv qual=true
 kp:PySem.W.keepIn K (.ref f)=true
section
variable {P:Program}{w:World}{K:PySem.W.Frag}{mg:Str→Option Value}{base:Heap}
theorem Fun.ok {x qual:Str}{st:Stmt}{f:Addr}{fd:FuncData}{N ps:List Str}{k:Nat}{sp:Sp}(F:Fun K x qual st f fd)(S:FnScope N ps (qE st))(len:∀ vs H Q E,sp vs H Q E→vs.length=ps.length)
  (hbody:∀ (cdv:Value) (A:Around) (outer:List Env) (s:Shared) (H:Hp) (vs:List V) (Q:VK) (E:XK),Room k (A.deeper (envOfC qual (qE st) s.heap.objs.size f cdv))→sp vs H Q E →
   ∃ t,PSs (aR CX0 P w K mg base N qual (qE st) f cdv A outer s H E).nox (qM st) t∧t { nx:=fun _ H'=>Q .non H',rt:=Q } (start N vs) H):FnOk P w K mg base CX0 (k + 1) f fd ps sp:=by
 obtain ⟨oc,od,kV,doc,pm,an,cdv,ct,osl,rfl,lk,hcd⟩:=F.ex
 refine fn_of lk hcd S len fun A outer s H vs Q E hr hsp=>?_
 obtain ⟨t,h,q⟩:=hbody cdv A outer s H vs Q E hr hsp
 exact ⟨t,h.nox,q⟩
theorem Fun.binds {x qual:Str}{st:Stmt}{f:Addr}{fd:FuncData}{ps:List Str}(F:Fun K x qual st f fd)
  (h:∀ (kV doc pm:Value) (an:Option Addr) (cdv ct:Value) (us:List Value),us.length=ps.length→bindArgs (PySem.W.fnOf x qual (qN st) (qM st) (qE st) .none kV doc pm an cdv ct) ⟨us,[]⟩=pure (ps.zip us)):Binds K fd ps []:=by
 obtain ⟨oc,od,kV,doc,pm,an,cdv,ct,osl,rfl,lk,hcd⟩:=F.ex
 exact .all (h kV doc pm an cdv ct)
theorem qU {x qual:Str}{st:Stmt}{f:Addr}{oc:Value}{od an:Option Addr}{osl:Array (Option Value)}{kV doc pm cdv ct:Value}(l:K.lookup f=some ⟨oc,od,.func (PySem.W.fnOf x qual (qN st) (qM st) (qE st) .none kV doc pm an cdv ct),osl⟩)
  (c:PySem.W.codeIn K cdv qual=true) (k:PySem.W.keepIn K (.ref f)=true):Fun K x qual st f (PySem.W.fnOf x qual (qN st) (qM st) (qE st) .none kV doc pm an cdv ct):=⟨⟨oc,od,kV,doc,pm,an,cdv,ct,osl,rfl,l,c⟩,k⟩
end
theorem qR {n:Nat}(h:n ≤ 1000):n < sizeLine:=Cf h (by decide)
section
variable {X:Cx}
theorem pv (i:Nat){x:Str}{pos:Pos}(hN:X.N[i]? = some x:=by rfl)(hv:Vis X.env.scope x:=by first | exact Or.inl rfl | exact Or.inr (Or.inl rfl) | exact Or.inr (Or.inr rfl))(hd:(x == ("__debug__" : Str))=false:=by decide)
  (hcd:(x == ("__classdict__" : Str))=false:=by decide):PE X (.Name x pos) (dM i):=pe_var hN hv hd hcd
end
def Same (H H':Hp):Prop:=∀ b o,H b=some o→H' b=some o
theorem Same.refl (H:Hp):Same H H:=fun _ _ h=>h
theorem Same.trans {H H1 H2:Hp}(a:Same H H1)(b:Same H1 H2):Same H H2:=fun c o h=>b c o (a c o h)
def vS:List (Str × NameKind)→List (Str × Addr)→List (Str × Addr)→Option (List (Str × Addr))
 | [],_,acc=>some acc
 | (n,k) :: r,cs,acc=>if k == .free then (match cs.lookup n with | some c=>vS r cs ((n,c) :: acc) | none=>none) else vS r cs acc
theorem m6 {env:Env}:∀ (names:List (Str × NameKind)) (acc cl:List (Str × Addr)),vS names env.cells acc=some cl →
  (forIn names acc fun (x:Str × NameKind) (cs:List (Str × Addr))=>(if (x.2 == NameKind.free)=true then (do let c ← cellOf env x.1;pure (ForInStep.yield ((x.1,c) :: cs))) else pure (ForInStep.yield cs):Sem (ForInStep (List (Str × Addr)))))=(pure cl:Sem _)
 | [],acc,cl,h=>by
  have e:acc=cl:=AH h
  subst e;rfl
 | (n,k) :: r,acc,cl,h=>by
  unfold vS at h
  rw [Cd]
  cases hk:k == NameKind.free with
  | false =>
   rw [hk] at h
   have ih:=m6 (env:=env) r acc cl (by simpa using h)
   simp only [hk,AR,BE,pure_bind]
   exact ih
  | true =>
   rw [hk] at h
   simp only [BV] at h
   cases hc:env.cells.lookup n with
   | none=>rw [hc] at h;cases h
   | some c =>
    rw [hc] at h
    have ih:=m6 (env:=env) r ((n,c) :: acc) cl h
    have e:cellOf env n=pure c:=by unfold cellOf;rw [hc]
    simp only [hk,BV,e,pure_bind]
    exact ih
theorem vO {scope:Scope}{env:Env}{cl:List (Str × Addr)}(h:vS scope.names env.cells [] = some cl):closureFor scope env=pure cl:=by
 have q:=m6 scope.names [] cl h
 unfold closureFor
 show (do let r ← _;pure r)=_
 refine Eq.trans ?_ (Bi (fun z=>z >>= fun r=>pure r) q) |>.trans ?_
 ·rfl
 ·rfl
theorem m4 {cs:List (Str × Addr)}:∀ (names:List (Str × NameKind)) (acc cl:List (Str × Addr)),vS names cs acc=some cl→(∀ n c,(n,c) ∈ acc→cs.lookup n=some c)→∀ n c,(n,c) ∈ cl→cs.lookup n=some c
 | [],acc,cl,h,ha,n,c,hm=>by
  have e:acc=cl:=AH h
  subst e;exact ha n c hm
 | (n0,k) :: r,acc,cl,h,ha,n,c,hm=>by
  unfold vS at h
  split at h
  ·split at h
   ·rename_i c0 hc
    refine m4 r _ cl h (fun n' c' h'=>?_) n c hm
    rcases Ax.mp h' with e | h'
    ·cases e;exact hc
    ·exact ha n' c' h'
   ·cases h
  ·exact m4 r acc cl h ha n c hm
theorem wX {cs:List (Str × Addr)}:∀ (names:List (Str × NameKind)) (acc cl:List (Str × Addr)),vS names cs acc=some cl→∀ p ∈ acc,p ∈ cl
 | [],acc,cl,h,p,hp=>by
  have e:acc=cl:=AH h
  subst e;exact hp
 | (n0,k) :: r,acc,cl,h,p,hp=>by
  unfold vS at h
  split at h
  ·split at h
   ·exact wX r _ cl h p (Ad _ hp)
   ·cases h
  ·exact wX r acc cl h p hp
theorem fX {cs:List (Str × Addr)}:∀ (names:List (Str × NameKind)) (acc cl:List (Str × Addr)),vS names cs acc=some cl→∀ n,(n,NameKind.free) ∈ names→∃ c,(n,c) ∈ cl
 | (n0,k) :: r,acc,cl,h,n,hn=>by
  unfold vS at h
  rcases Ax.mp hn with e | hn
  ·cases e
   simp only [Cu,BV] at h
   split at h
   ·rename_i c0 hc
    exact ⟨c0,wX r _ cl h _ Af⟩
   ·cases h
  ·split at h
   ·split at h
    ·exact fX r _ cl h n hn
    ·cases h
   ·exact fX r acc cl h n hn
theorem yV {β:Type}:∀ {l:List (Str × β)} {n:Str} {c:β},(n,c) ∈ l→∃ c',l.lookup n=some c'
 | (m,d) :: r,n,c,h=>by
  rw [Bk]
  cases e:n == m with
  | true=>exact ⟨d,rfl⟩
  | false =>
   rcases Ax.mp h with q | q
   ·cases q;simp at e
   ·exact yV q
theorem jQ {cs cl:List (Str × Addr)}{names:List (Str × NameKind)}(h:vS names cs [] = some cl){x:Str}{c:Addr}(q:cl.lookup x=some c):cs.lookup x=some c :=
 m4 names [] cl h (fun _ _ z=>absurd z (by simp)) x c (Bt q)
theorem fP {env : Env} : ∀ {names : List (Str × NameKind)} {x : Str}, (∀ y ∈ names, y.2 ≠ NameKind.cell) →
    ((names.map fun (n, k) => if (k == NameKind.free && env.scope.kind == .function && env.kindOf n == some .cell) then (n, NameKind.cell) else (n, k)).lookup x = some .cell ∨
     (names.map fun (n, k) => if (k == NameKind.free && env.scope.kind == .function && env.kindOf n == some .cell) then (n, NameKind.cell) else (n, k)).lookup x = some .free) → (x, NameKind.free) ∈ names
  | [], x, _, h => by simp at h
  | (n, k) :: r, x, hc, h => by
    have ih := @fP env r x (fun y hy => hc y (Ad _ hy))
    rw [Av] at h
    cases hx : x == n with
    | true =>
      have e : x = n := by simpa using hx
      subst e
      by_cases hk : k = NameKind.free
      · subst hk; exact Af
      · have hb : (k == NameKind.free) = false := by simpa using hk
        simp only [hb, BW, AR, BE, Bk, Cu] at h
        rcases h with h | h
        · exact absurd (AH h) (hc (x, k) Af)
        · exact absurd (AH h) hk
    | false =>
      refine Ad _ (ih ?_)
      by_cases hcnd : (k == NameKind.free && env.scope.kind == .function && env.kindOf n == some .cell) = true
      · simp only [hcnd, BV, Bk, hx] at h; exact h
      · simp only [hcnd, BE, Bk, hx, AR] at h; exact h
theorem relabel_free' {sc:Scope}{env:Env}{x:Str}(hc:∀ y ∈ sc.names,y.2 ≠ NameKind.cell)(h:(relabel sc env).names.lookup x=some .cell∨(relabel sc env).names.lookup x=some .free):(x,NameKind.free) ∈ sc.names:=fP hc h
def cD (X:Cx)(N:List Str)(sc:Scope)(cl:List (Str × Addr))(s:Shared)(H:Hp)(ex:List Addr):Cx where
 prog:=X.prog
 w:=X.w
 K:=X.K
 mg:=X.mg
 base:=X.base
 A:=X.A
 N:=N
 s₀:=s
 H₀:=H
 env:=compEnvC sc cl s.heap.objs.size X.env
 outer:=X.stack
 stack:=X.stack
 ex:=ex
 fn:=fun _=>false
 calm:=X.calm
 pn:=[]
 xe:=fun _ _=>False
def oK (fr:List (Option Nat))(σ:St):St:=fr.map fun o=>o.bind fun j=>(σ[j]?).bind id
def uE (X:Cx)(ifs:List Expr)(t:TT):Prop :=
 ∀ (pins:List (Addr × Obj)) (s:Shared) (σ:St) (H:Hp) (Q:Bool→Hp→Prop),Inv X pins σ H s→t σ H Q →
  wpAny (model X.prog X.w) X.A (forIn ifs true fun c r=>if r=true then do let ok ← isTrue c X.env (eval c X.env);pure (ForInStep.yield ok) else pure (ForInStep.yield r)) (TP X pins σ Q) X.xe s
def tTrue:TT:=fun _ H Q=>Q true H
theorem kZ {X:Cx}:uE X [] tTrue:=fun _ _ _ _ _ I h=>wpAny_tests_nil ⟨_,I,h⟩
theorem zZ {X:Cx}{c:Expr}{t:TT}(h:PT X c t):uE X [c] t:=fun pins s σ H Q I q=>wpAny_tests_one (h pins s σ H Q I q)
abbrev TB:=St→Hp→(St→Hp→Prop)→Prop
def PB (X:Cx)(body:Sem Unit)(t:TB):Prop :=
 ∀ (pins:List (Addr × Obj)) (s:Shared) (σ:St) (H:Hp) (N:St→Hp→Prop),Inv X pins σ H s→t σ H N →
  wpAny (model X.prog X.w) X.A body (fun _ s'=>∃ σ' H',Inv X pins σ' H' s'∧N σ' H') X.xe s
def dC (p:Addr)(te:TE):TB:=fun σ H N=>te σ H fun y H1=>∃ ys,H1 p=some (.lst ys)∧ys.length < sizeLine∧N σ (upd H1 p (.lst (ys ++ [y])))
theorem p6 {X:Cx}{elt:Expr}{te:TE}{p:Addr}(h:PE X elt te):PB X (do let _ ← call (.builtin "list.append") [.ref p,← eval elt X.env]) (dC p te):=by
 intro pins s σ H N I q
 refine wpAny_bind (jU (h pins s σ H _ I q) fun u s1 ⟨y,H1,I1,r,ys,hp,hz,n⟩=>?_)
 refine wpAny_bind (jU (lL (X:=X) pins s1 σ H1 (.ref p) [y] (.ref p) [u] (fun _ H2=>N σ H2) I1 rfl (.cons r .nil) ⟨p,ys,y,rfl,rfl,hp,hz,n⟩) fun _ s2 ⟨_,H2,I2,_,n2⟩=>wpAny_pure ⟨σ,H2,I2,n2⟩)
def uP (J:It)(g:TG)(tc:TT)(tb:TB):(St→Hp→Prop)→St→Hp→Prop:=fun D σ H=>∃ W:Nat→Nat→St→Hp→Prop,(∃ m,W 0 m σ H)∧∀ i m σ H,W i m σ H →
 (J.stop i H∧D σ H)∨(J.go i H∧∃ N:St→Hp→Prop,(∀ σ' H',N σ' H'→∃ m',m' < m∧W (i + 1) m' σ' H')∧∀ x H',J.yld i H x H'→g x σ H' fun σ2 H2=>tc σ2 H2 fun b H3=>if b=true then tb σ2 H3 N else N σ2 H3)
theorem g9 {X:Cx}{e tg:Expr}{d:Nat}{ip:Pos}{ifs:List Expr}{body:Sem Unit}{acc:Value}{it:Addr}{fp:List Addr}{tn:Nat→Heap→Prop}{J:It}{g:TG}{tc:TT}{tb:TB}{D:St→Hp→Prop}{pins:List (Addr × Obj)}{σ:St}{H:Hp}{s:Shared}
  (hc:X.calm=true) (hx:X.xe=fun _ _=>False)
  (heq:compTurn e d (.ref it) acc X.env=(do
   standAt ip
   match ← pyNext (.ref it) with
   | none=>pure (.done .next)
   | some v =>
    letOwnedTupleGo tg (.ref it) v
    assign tg X.env v
    let mut ok:=true
    for c in ifs do
     if ok then ok ← isTrue c X.env (eval c X.env)
    if ok then body
    again (.compLoop e d (.ref it) acc X.env)))
  (hfrm:(Code.compLoop e d (.ref it) acc X.env).isFrame=false) (hund:X.A.under (Code.compLoop e d (.ref it) acc X.env)=X.A) (hq:(Code.compLoop e d (.ref it) acc X.env).quiet=true)
  (T:Turn X.prog X.w X.K tg J fp it tn) (hg:PG X tg g) (hi:uE X ifs tc) (hb:PB X body tb)
  (I:Inv X pins σ H s) (st:tn 0 s.heap) (f:∀ b ∈ fp,vT X pins H b) (h:uP J g tc tb D σ H) :
  codeAny (model X.prog X.w) X.A (.compLoop e d (.ref it) acc X.env) (fun r s'=>r = .ok .next∧∃ σ' H',Inv X pins σ' H' s'∧D σ' H') s:=by
 obtain ⟨W,⟨m0,w0⟩,turn⟩:=h
 have stat:∀ {H':Hp},(∀ b ∈ fp,H' b=none)→∀ b ∈ fp,vT X pins H' b:=fun hn b hb=>⟨hn b hb,(f b hb).2⟩
 refine codeAny_loop hq (fun n s'=>∃ i σ' H',Inv X pins σ' H' s'∧tn i s'.heap∧(∀ b ∈ fp,H' b=none)∧W i n σ' H') ?_ m0 ⟨0,σ,H,I,st,fun b hb=>(f b hb).1,w0⟩
 rintro n s3 ⟨i,σ3,H3,I3,st3,fr3,w3⟩
 rw [hund]
 show wpAny _ X.A (if (Code.compLoop e d (.ref it) acc X.env).isFrame then _ else (compTurn e d (.ref it) acc X.env).onRaise (fun x=>do noteFrame x X.env;theTreesLotGoes x)) _ _ s3
 rw [hfrm]
 show wpAny _ X.A ((compTurn e d (.ref it) acc X.env).onRaise (fun x=>do noteFrame x X.env;theTreesLotGoes x)) _ _ s3
 refine wpAny_noted ?_
 rw [heq]
 have no:∀ {α:Type} {t:Sem α} {Q:α→Shared→Prop} {E:Value→Shared→Prop} {s:Shared},wpAny (model X.prog X.w) X.A t Q X.xe s→wpAny (model X.prog X.w) X.A t Q E s:=fun h=>wpAny_mono h (fun _ _ q=>q) fun _ _ z=>by rw [hx] at z;exact z.elim
 refine wpAny_bind (wpAny_standAt (wpAny_bind ?_))
 rcases turn i n σ3 H3 w3 with ⟨stop,qn⟩ | ⟨go,N,hN,step⟩
 ·refine jU (T.done X rfl rfl rfl hc i pins s3 σ3 H3 _ I3 (stat fr3) st3 stop) fun r s4 ⟨hr,I4⟩=>?_
  subst hr
  exact wpAny_pure ⟨rfl,σ3,H3,I4,qn⟩
 ·refine jU (T.item X rfl rfl rfl hc i pins s3 σ3 H3 _ I3 (stat fr3) st3 go) fun r s4 ⟨u,hr,h4⟩=>?_
  subst hr
  refine wpAny_bind (jU h4 fun _ s5 ⟨x,H5,I5,r5,y5,st5,fr5⟩=>?_)
  have I5':=I5.pinned (stat fr5) (T.obj _ _ st5)
  have again:∀ {s7:Shared} {σ7:St} {H7:Hp},Inv X (pins ++ mG fp s5.heap) σ7 H7 s7→N σ7 H7→∃ m,m < n∧∃ i σ' H',Inv X pins σ' H' s7∧tn i s7.heap∧(∀ b ∈ fp,H' b=none)∧W i m σ' H':=fun {s7 σ7 H7} I7 n7=>by
   obtain ⟨m',hm,w7⟩:=hN σ7 H7 n7
   refine ⟨m',hm,i + 1,σ7,H7,I7.unpinned,T.keep _ _ _ st5 fun b hb o e=>(I7.pin (b,o) (A7 _ (A7 _ (xW hb e)))).1,fun b hb=>?_,w7⟩
   obtain ⟨o,e,d⟩:=T.obj _ _ st5 b hb
   exact (I7.pin (b,o) (A7 _ (A7 _ (xW hb e)))).2.1
  refine wpAny_bind (no (jU (hg _ s5 σ3 H5 x u _ I5' r5 (step x H5 y5)) fun _ s6 ⟨σ6,H6,I6,q6⟩=>?_))
  refine wpAny_bind (no (jU (hi _ s6 σ6 H6 _ I6 q6) fun ok s7 ⟨H7,I7,q7⟩=>?_))
  cases ok with
  | false=>exact wpAny_pure ⟨rfl,again I7 q7⟩
  | true =>
   refine wpAny_bind (no (jU (hb _ s7 σ6 H7 _ I7 q7) fun _ s8 ⟨σ8,H8,I8,n8⟩=>?_))
   exact wpAny_pure ⟨rfl,again I8 n8⟩
theorem zX {env : Env} : ∀ {names : List (Str × NameKind)} {x : Str}, names.lookup x = some .free →
    ((names.map fun (n, k) => if (k == NameKind.free && env.scope.kind == .function && env.kindOf n == some .cell) then (n, NameKind.cell) else (n, k)).lookup x = some .cell ∨
     (names.map fun (n, k) => if (k == NameKind.free && env.scope.kind == .function && env.kindOf n == some .cell) then (n, NameKind.cell) else (n, k)).lookup x = some .free)
  | [], _, h => by simp at h
  | (n, k) :: r, x, h => by
    have ih := @zX env r x
    rw [Av]
    cases hx : x == n with
    | true =>
      simp only [Bk, hx] at h
      cases h
      by_cases hc : (NameKind.free == NameKind.free && env.scope.kind == .function && env.kindOf n == some .cell) = true
      · left; simp only [hc, BV, Bk, hx]
      · right; simp only [hc, BE, Bk, hx, AR]
    | false =>
      simp only [Bk, hx] at h
      by_cases hc : (k == NameKind.free && env.scope.kind == .function && env.kindOf n == some .cell) = true
      · simp only [hc, BV, Bk, hx]; exact ih h
      · simp only [hc, BE, Bk, hx, AR]; exact ih h
structure CScope (X:Cx)(N:List Str)(fr:List (Option Nat))(sc:Scope):Prop where
 kind:sc.kind = .function
 nocell:∀ y ∈ sc.names,y.2 ≠ NameKind.cell
 loc:∀ y ∈ sc.names,y.2 = .local→sc.names.lookup y.1=some .local
 len:fr.length=N.length
 fr:∀ (i j:Nat),fr[i]? = some (some j)→∃ x,N[i]? = some x∧X.N[j]? = some x∧sc.names.lookup x=some .free∧(X.env.kindOf x=some .cell∨X.env.kindOf x=some .free)
def u9 (XN:List Str)(XS names:List (Str × NameKind)):List Str→List (Option Nat)→Bool
 | [],[]=>true
 | x :: N,o :: fr=>(match o with
  | none=>true
  | some j=>XN[j]? == some x && names.lookup x == some .free && (XS.lookup x == some .cell || XS.lookup x == some .free)) && u9 XN XS names N fr
 | _,_=>false
theorem tJ {XN:List Str}{XS names:List (Str × NameKind)}:∀ {N:List Str} {fr:List (Option Nat)},u9 XN XS names N fr=true→fr.length=N.length
 | [],[],_=>rfl
 | x :: N,o :: fr,h=>by
  unfold u9 at h
  rw [AL] at h
  rw [Az,Az,tJ h.2]
 | [],_ :: _,h=>by cases h
 | _ :: _,[],h=>by cases h
theorem tK {XN:List Str}{XS names:List (Str × NameKind)}:∀ {N:List Str} {fr:List (Option Nat)} {i j:Nat},u9 XN XS names N fr=true→fr[i]? = some (some j)→∃ x,N[i]? = some x∧XN[j]? = some x∧names.lookup x=some .free∧(XS.lookup x=some .cell∨XS.lookup x=some .free)
 | [],[],_,_,_,e=>by simp at e
 | x :: N,o :: fr,0,j,h,e=>by
  unfold u9 at h
  rw [AL] at h
  simp at e
  subst e
  have h1:=h.1
  simp only [AL,Cc,beq_iff_eq] at h1
  exact ⟨x,rfl,h1.1.1,h1.1.2,h1.2⟩
 | x :: N,o :: fr,i + 1,j,h,e=>by
  unfold u9 at h
  rw [AL] at h
  obtain ⟨y,q⟩:=tK (i:=i) (j:=j) h.2 (by simpa using e)
  exact ⟨y,by simpa using q.1,q.2⟩
 | [],_ :: _,_,_,h,_=>by cases h
 | _ :: _,[],_,_,h,_=>by cases h
def okLoc (names:List (Str × NameKind)):Bool:=names.all fun y=>!(y.2 == .cell) && (!(y.2 == .local) || names.lookup y.1 == some .local)
theorem CScope.of {X:Cx}{N:List Str}{fr:List (Option Nat)}{sc:Scope}(h1:sc.kind = .function)(h2:okLoc sc.names=true)(h3:u9 X.N X.env.scope.names sc.names N fr=true):CScope X N fr sc:=by
 have h2':=BG.mp h2
 refine ⟨h1,fun y hy e=>?_,fun y hy e=>?_,tJ h3,fun i j e=>tK h3 e⟩
 ·have q:=h2' y hy
  rw [e] at q
  simp at q
 ·have q:=h2' y hy
  rw [e] at q
  simpa using q
theorem frS_get {fr:List (Option Nat)}{σ:St}{i:Nat}{v:V}(h:(oK fr σ)[i]? = some (some v)):∃ j,fr[i]? = some (some j)∧σ[j]? = some (some v):=by
 unfold oK at h
 rw [Ah] at h
 cases e:fr[i]? with
 | none=>rw [e] at h;cases h
 | some o =>
  rw [e] at h
  cases o with
  | none=>cases h
  | some j =>
   refine ⟨j,rfl,?_⟩
   have h':(σ[j]?).bind id=some v:=AH h
   cases q:σ[j]? with
   | none=>rw [q] at h';cases h'
   | some o=>rw [q] at h';exact Bi some h'
section
variable {X:Cx}{pins:List (Addr × Obj)}{σ:St}{H H':Hp}{s:Shared}
theorem Inv.block {N:List Str}{fr:List (Option Nat)}{sc:Scope}{cl:List (Str × Addr)}{ex:List Addr}{h1:Heap}{tk:Nat}(I:Inv X pins σ H s)(S:CScope X N fr sc)(hcl:vS sc.names X.env.cells [] = some cl)
  (hex:∀ b ∈ ex,vT X pins H b∧b < s.heap.objs.size) (hns:h1.Ns s.heap.objs.size (fun _=>none)) (hk:∀ b u,s.heap.get? b=some u→h1.get? b=some u) :
  Inv (cD X N sc cl s H ex) [] (oK fr σ) H { s with heap:=h1,toks:=tk }:=by
 have hfree:H s.heap.objs.size=none:=I.hok.fresh (Ag _)
 have cne:∀ x c,cl.lookup x=some c→c ≠ s.heap.objs.size:=fun x c e z=>by
  obtain ⟨v,q⟩:=I.cell x c (jQ hcl e)
  exact absurd q.lt (by rw [z];exact AQ _)
 refine ⟨⟨I.ok.mod,S.kind,I.ok.glob,I.ok.blt,Ag _,fun x y c h1 h2=>I.ok.inj x y c (jQ hcl h1) (jQ hcl h2),fun x hx=>?_,fun x c z=>absurd (show false=true from z) (by decide),I.ok.hd,I.ok.frames,Or.inl rfl,fun b hb=>?_,I.bs,AK I.ok.bsz I.sz,fun b o e hb=>?_,fun b hb hf=>?_,I.stack,I.stkFree⟩,
  rfl,I.bare,Un.kept hk,⟨_,hns,fun i x v h1 h2 h3=>?_⟩,fun x c e=>?_,hfree,fun x c e=>I.freeC x c (jQ hcl e),fun p hp=>absurd (show p ∈ ([] : List (Addr × Obj)) from hp) (by simp),I.hok.kept hk,?_⟩
 ·have hx':(relabel sc X.env).names.lookup x=some .cell∨(relabel sc X.env).names.lookup x=some .free:=hx
  obtain ⟨c,hc⟩:=fX sc.names [] cl hcl x (relabel_free' S.nocell hx')
  exact yV hc
 ·obtain ⟨⟨f0,f1,f2,f3,f4,f5⟩,lt⟩:=hex b hb
  exact ⟨AA lt,fun x c e=>f4 x c (jQ hcl e)⟩
 ·obtain ⟨⟨f0,f1,f2,f3,f4,f5⟩,lt⟩:=hex b hb
  rcases f3 with f3 | f3
  ·exact I.ok.noex b o e f3
  ·exact absurd (A3 (Au e) I.ok.bsz) (Nat.not_lt.mpr f3)
 ·obtain ⟨⟨f0,f1,f2,f3,f4,f5⟩,lt⟩:=hex b hb
  rcases Ax.mp (I.stkSub b hf) with e | e
  ·exact f1 e
  ·exact f2 e
 ·obtain ⟨j,hj,hv⟩:=frS_get h2
  obtain ⟨x',e1,e2,e3,e4⟩:=S.fr i j hj
  have hN:N[i]? = some x:=h1
  rw [hN] at e1
  cases e1
  obtain ⟨c,hc⟩:=fX sc.names [] cl hcl x (Bt e3)
  obtain ⟨c',hc'⟩:=yV hc
  have hcX:=jQ hcl hc'
  obtain ⟨m,hn,hl⟩:=I.loc
  have kc:(relabel sc X.env).names.lookup x=some .cell∨(relabel sc X.env).names.lookup x=some .free:=zX e3
  have vis:Vis X.env.scope x∧(X.env.kindOf x ≠ some .local):=by
   rcases e4 with q | q
   ·exact ⟨.inr (.inl q),by rw [q];decide⟩
   ·exact ⟨.inr (.inr q),by rw [q];decide⟩
  obtain ⟨u,r,l⟩:=hl j x v e2 hv vis.1
  refine ⟨u,r,.inr ⟨kc,c',hc',?_⟩⟩
  rcases l with ⟨q,_⟩ | ⟨_,d,hd,hcell⟩
  ·exact absurd q vis.2
  ·rw [hcX] at hd
   cases hd
   exact hcell.keeps hk
 ·obtain ⟨v,q⟩:=I.cell x c (jQ hcl e)
  exact ⟨v,q.keeps hk⟩
 ·show (oK fr σ).length=N.length
  unfold oK
  rw [Ab];exact S.len
end
section
variable {X:Cx}{pins:List (Addr × Obj)}{σ:St}{H H':Hp}{s:Shared}
theorem Inv.unblock {N:List Str}{sc:Scope}{cl:List (Str × Addr)}{ex:List Addr}{pins':List (Addr × Obj)}{σ':St}{s':Shared}{h':Heap}(I:Inv X pins σ H s)(J:Inv (cD X N sc cl s H ex) pins' σ' H' s')
  (hex:∀ b ∈ ex,vT X pins H b) (sb:Heap.SameBut s.heap.objs.size s'.heap h'):Inv X pins σ H' { s' with heap:=h' }:=by
 have free:H' s.heap.objs.size=none:=J.free
 have eq:∀ b,b ≠ s.heap.objs.size→h'.get? b=s'.heap.get? b:=sb.2
 have ne:∀ b o,s.heap.get? b=some o→b ≠ s.heap.objs.size:=fun b o e=>AA (Au e)
 have B:Un (frs X.stack) ex H H' s.heap s'.heap:=J.base
 refine I.call' (s':={ s' with heap:=h' }) (ch:=ex) J.os ⟨fun b o q n hb hx=>(eq b (ne b o q)).trans (B.keep b o q n hb hx),fun b o q n hb hx=>?_,B.free,fun b o q hx=>?_,B.tups,B.frzs,B.tbls⟩ (fun a o e=>?_) J.bare (fun b hb=>?_)
 ·obtain ⟨sl,e⟩:=B.slot b o q n hb hx
  exact ⟨sl,(eq b (ne b o q)).trans e⟩
 ·obtain ⟨o',e⟩:=B.there b o q hx
  exact ⟨o',(eq b (ne b o q)).trans e⟩
 ·refine (J.hok a o e).stay (fun b u hb q=>?_) (fun _ q=>q) fun _ _ q=>q
  refine (eq b ?_).trans q
  rcases hb with rfl | hb
  ·exact qF e free
  ·exact qF hb free
 ·obtain ⟨f0,f1,f2,f3,f4,f5⟩:=hex b hb
  exact ⟨f3,f1,f4,f5⟩
end
section
variable {X:Cx}
def tLC (fr:List (Option Nat))(wi:TI)(g:TG)(tc:TT)(te:TE):TE:=fun σ H Q=>wi σ H fun J H1=>∀ p,H1 p=none→uP J g tc (dC p te) (fun _ H2=>Q (.ref p) H2) (oK fr σ) (upd H1 p (.lst []))
theorem tQ {N:List Str}{fr:List (Option Nat)}{e tg iter:Expr}{ifs:List Expr}{gs:List Comprehension}{sc:Scope}{ip:Pos}{cl:List (Str × Addr)}{wi:TI}{D:It→Addr→St→Hp→Prop}{pins:List (Addr × Obj)}{σ:St}{H:Hp}{s:Shared}{Q:VK}
  (he:clausesOf e=⟨tg,iter,ifs,0⟩ :: gs) (hi:PI X tg iter wi) (S:CScope X N fr sc) (hcl:vS sc.names X.env.cells [] = some cl) (I:Inv X pins σ H s)
  (h:wi σ H fun J H1=>∀ p,H1 p=none→D J p (oK fr σ) (upd H1 p (.lst [])))
  (loop:∀ (it p:Addr) (fp:List Addr) (tn:Nat→Heap→Prop) (J:It) (s1 s2:Shared) (H1:Hp) (σ1:St),Turn X.prog X.w X.K tg J fp it tn→Inv (cD X N sc cl s1 H1 fp) [] σ1 H1 s2→tn 0 s2.heap→(∀ b ∈ fp,vT (cD X N sc cl s1 H1 fp) [] H1 b)→D J p σ1 H1 →
   codeAny (model X.prog X.w) X.A (.compStart e 0 (.ref it) (.ref p) (compEnvC sc cl s1.heap.objs.size X.env)) (fun r s'=>r = .ok .next∧∃ σ' H',Inv (cD X N sc cl s1 H1 fp) [] σ' H' s'∧Q (.ref p) H') s2)
  (hs:∀ x,foldedSetIterable iter X.env x=pure x) :
  wpAny (model X.prog X.w) X.A (comprehension e sc X.env ip (newList []) false (eval iter X.env)) (EP X pins σ Q) X.xe s:=by
 refine wpAny_comprehension_free (use:=none) he hs (vO hcl) S.kind S.loc ?_
 refine jU (hi pins s σ H _ I h) fun v s1 h1=>jU h1 fun itv s2 ⟨it,fp,tn,J,H2,e2,I2,T,st2,f2,q⟩=>?_
 subst e2
 refine wpAny_newObj_type ?_
 have hp:H2 s2.heap.objs.size=none:=I2.hok.fresh (Ag _)
 have I3:Inv X pins σ (upd H2 s2.heap.objs.size (.lst [])) { s2 with heap:=s2.heap.push { cls:=.type "list",data:=.seq ([] : List Value).toArray },toks:=s2.toks }:=I2.lnew (its:=[]) (ys:=[]) .nil (AZ _)
 have lt2:∀ b ∈ fp,b < s2.heap.objs.size:=fun b hb=>let ⟨o,e,_⟩:=T.obj 0 _ st2 b hb;Au e
 have f3:∀ b ∈ fp,vT X pins (upd H2 s2.heap.objs.size (.lst [])) b:=fun b hb=>⟨by rw [qT (AA (lt2 b hb))];exact (f2 b hb).1,(f2 b hb).2⟩
 have st3:tn 0 (s2.heap.push { cls:=.type "list",data:=.seq ([] : List Value).toArray }):=T.keep _ _ _ st2 fun b _ o e=>Ac _ e
 refine wpAny_newFunctionEnv S.nocell (by intro y hy;simp at hy) (fun h₁ hns₁ hsb₁=>?_) S.kind
 generalize hs3:({ s2 with heap:=s2.heap.push { cls:=.type "list",data:=.seq ([] : List Value).toArray } }:Shared)=s3 at hns₁ hsb₁ ⊢
 have I3':Inv X pins σ (upd H2 s2.heap.objs.size (.lst [])) s3:=by rw [← hs3];exact I3
 have st3':tn 0 s3.heap:=by rw [← hs3];exact st3
 have lt3:∀ b ∈ fp,b < s3.heap.objs.size:=fun b hb=>let ⟨o,e,_⟩:=T.obj 0 _ st3' b hb;Au e
 have hk:∀ b u,s3.heap.get? b=some u→h₁.get? b=some u:=fun b u e=>hsb₁.extBut b u (AA (Au e)) (Ac _ e)
 have hns:h₁.Ns s3.heap.objs.size (fun _=>none):=by simpa using hns₁
 have B:=I3'.block (N:=N) (fr:=fr) (sc:=sc) (cl:=cl) (ex:=fp) (h1:=h₁) (tk:=s3.toks + ([] : List (Str × Value)).length) S hcl (fun b hb=>⟨f3 b hb,lt3 b hb⟩) hns hk
 have stB:tn 0 h₁:=T.keep _ _ _ st3' fun b _ o e=>hk b o e
 refine codeAny_mono (loop it s2.heap.objs.size fp tn J s3 _ (upd H2 s2.heap.objs.size (.lst [])) (oK fr σ) T B stB (fun b hb=>?_) (q _ hp)) fun r s' hr=>?_
 ·obtain ⟨f0,f1,f2',f3',f4,f5⟩:=f3 b hb
  refine ⟨f0,AA (lt3 b hb),fun z=>?_,.inl hb,fun x c e=>f4 x c (jQ hcl e),fun p hp'=>absurd (show p ∈ ([] : List (Addr × Obj)) from hp') (by simp)⟩
  rcases Ax.mp (I3'.stkSub b z) with e | e
  ·exact f1 e
  ·exact f2' e
 ·obtain ⟨rfl,σ',H',J',q'⟩:=hr
  obtain ⟨m,hn,_⟩:=J'.loc
  exact ⟨m,hn,fun h' sb=>⟨.ref s2.heap.objs.size,H',I3'.unblock J' f3 sb,rfl,q'⟩⟩
theorem jR {N:List Str}{fr:List (Option Nat)}{tg iter elt:Expr}{ifs:List Expr}{sc:Scope}{pos:Pos}{cl:List (Str × Addr)}{wi:TI}{g:TG}{tc:TT}{te:TE}(hc:X.calm=true)(hi:PI X tg iter wi)(S:CScope X N fr sc)(hcl:vS sc.names X.env.cells [] = some cl)
  (hb:∀ s H ex,PG (cD X N sc cl s H ex) tg g∧uE (cD X N sc cl s H ex) ifs tc∧PE (cD X N sc cl s H ex) elt te) (hs:∀ x,foldedSetIterable iter X.env x=pure x:=by intro _;rfl) :
  PE X (.ListComp elt [⟨tg,iter,ifs,0⟩] sc pos) (tLC fr wi g tc te):=by
 intro pins s σ H Q I h
 rw [eval_ListComp]
 refine tQ (D:=fun J p σ H=>uP J g tc (dC p te) (fun _ H2=>Q (.ref p) H2) σ H) rfl hi S hcl I h (fun it p fp tn J s1 s2 H1 σ1 T B st f d=>?_) hs
 obtain ⟨hg,hifs,helt⟩:=hb s1 H1 fp
 have L:=g9 (X:=cD X N sc cl s1 H1 fp) (e:=.ListComp elt [⟨tg,iter,ifs,0⟩] sc pos) (d:=0) (acc:=.ref p) (D:=fun _ H2=>Q (.ref p) H2) (s:=s2) hc rfl (compTurn_list elt tg iter ifs sc pos (.ref it) (.ref p) _) rfl rfl rfl T hg hifs (p6 helt) B st f d
 exact codeAny_compStart_list L (T.self X.A 0 s2 _ _ st L)
end
def sq (H:Hp)(a:Addr):Option (List V):=match H a with
 | some (.lst xs)=>some xs
 | some (.tup xs)=>some xs
 | some (.frz _ (.lst xs))=>some xs
 | some (.frz _ (.tup xs))=>some xs
 | _=>none
theorem jC {H:Hp}{a:Addr}{xs:List V}(h:H a=some (.lst xs)):sq H a=some xs:=by unfold sq;rw [h]
theorem qY {H:Hp}{a:Addr}{xs:List V}(h:H a=some (.tup xs)):sq H a=some xs:=by unfold sq;rw [h]
theorem sq_updL {H:Hp}{a:Addr}{xs:List V}:sq (upd H a (.lst xs)) a=some xs:=jC qG
theorem sq_updT {H:Hp}{a:Addr}{xs:List V}:sq (upd H a (.tup xs)) a=some xs:=qY qG
theorem sq_rd {H:Hp}{a:Addr}{xs:List V}(h:sq H a=some xs):Rd H a (.lst xs)∨Rd H a (.tup xs):=by
 unfold sq at h
 cases e:H a with
 | none=>rw [e] at h;cases h
 | some o =>
  rw [e] at h
  cases o with
  | lst ys=>cases h;exact .inl (.inl e)
  | tup ys=>cases h;exact .inr (.inl e)
  | frz ob u =>
   cases u with
   | lst ys=>cases h;exact .inl (.inr ⟨ob,e⟩)
   | tup ys=>cases h;exact .inr (.inr ⟨ob,e⟩)
   | _=>cases h
  | _=>cases h
theorem cO {K:PySem.W.Frag}{H:Hp}{a:Addr}{xs:List V}(h:sq H a=some xs):SqL K H a xs∨SqT K H a xs:=by
 rcases sq_rd h with h | h
 ·exact .inl (.inl h)
 ·exact .inr (.inl h)
section
variable {X:Cx}
def rIx0:R2:=fun x y H Q=>∃ p xs i v,x = .ref p∧y = .int i∧sq H p=some xs∧vC xs i=some v∧Q v H
theorem zP:IxR X rIx0:=by
 intro value slice pins s σ H x y v u Q I rx ry h hs
 obtain ⟨p,xs,i,z,e1,e2,hq,ha,q⟩:=h
 rcases cO (K:=X.K) hq with k | k
 ·exact ix_list value slice pins s σ H x y v u Q I rx ry ⟨p,xs,i,z,e1,e2,k,ha,q⟩ hs
 ·exact ix_tup value slice pins s σ H x y v u Q I rx ry ⟨p,xs,i,z,e1,e2,k,ha,q⟩ hs
theorem len0:zY X (.builtin "len") (fun xs H Q=>∃ p ys,xs=[.ref p]∧sq H p=some ys∧Q (.int ys.length) H):=by
 intro pins s σ H xs us Q I r h
 obtain ⟨p,ys,e,hq,q⟩:=h
 exact rO pins s σ H xs us Q I r ⟨p,ys,e,cO hq,q⟩
theorem tupL0:zY X (.type "tuple") (fun xs H Q=>∃ p ys,xs=[.ref p]∧H p=some (.lst ys)∧∀ l,H l=none→Q (.ref l) (upd H l (.tup ys))):=by
 intro pins s σ H xs us Q I r h
 obtain ⟨p,ys,e,hq,q⟩:=h
 exact nJ pins s σ H xs us Q I r ⟨p,ys,e,.inl ⟨SqL.of hq,q⟩⟩
def rIn0 (neg:Bool):R2:=fun x y H Q=>∃ p xs,y = .ref p∧sq H p=some xs∧vN x=true∧xs.all vN=true∧Q (.bl (if neg then !inV x xs else inV x xs)) H
theorem in0:vU X (compareOp .In) (rIn0 false):=by
 intro pins s σ H x y v u Q I rx ry h
 obtain ⟨p,xs,e,hq,f1,f2,q⟩:=h
 exact op_in_seq pins s σ H x y v u Q I rx ry ⟨p,xs,e,cO hq,f1,f2,q⟩
def gTup0 (n:Nat)(t:TGs):TG:=fun v σ H Q=>∃ a xs,v = .ref a∧H a=some (.tup xs)∧xs.length=n∧t xs σ H Q
theorem kW {es:List Expr}{k:Nat}{t:TGs}{n:Nat}{pos:Pos}(hc:X.calm=true)(h:PGs X es t)
  (hn:(assignEach es X.env).length=n:=by rfl) (hst:(assignEach es X.env).findIdx? (·.1)=none:=by rfl):PG X (.Tuple es k pos) (gTup0 n t):=by
 intro pins s σ H v u Q I r hw
 obtain ⟨a,xs,e1,hq,hl,hw⟩:=hw
 exact pg_tup hc h hn hst pins s σ H v u Q I r ⟨a,xs,e1,SqT.of hq,hl,hw⟩
def eC (f:Hp→Prop)(xs:List V):It:=⟨fun i H=>f H∧i < xs.length,fun i H x H'=>H'=H∧xs[i]? = some x,fun i H=>f H∧xs.length ≤ i⟩
theorem Turn.weak {P:Program}{w:World}{K:PySem.W.Frag}{tg:Expr}{J J':It}{fp:List Addr}{it:Addr}{tn:Nat→Heap→Prop}(T:Turn P w K tg J fp it tn)(hg:∀ i H,J'.go i H→J.go i H)(hs:∀ i H,J'.stop i H→J.stop i H)
  (hy:∀ i H x H',J'.go i H→J.yld i H x H'→J'.yld i H x H'):Turn P w K tg J' fp it tn where
 mem:=T.mem
 obj:=T.obj
 keep:=T.keep
 item:=fun X h1 h2 h3 hc i pins s σ H E I f st go=>jU (T.item X h1 h2 h3 hc i pins s σ H E I f st (hg i H go)) fun r s1 ⟨u,e,q⟩=>⟨u,e,jU q fun _ s2 ⟨x,H',I2,r2,y,t,n⟩=>⟨x,H',I2,r2,hy i H x H' go y,t,n⟩⟩
 done:=fun X h1 h2 h3 hc i pins s σ H E I f st go=>T.done X h1 h2 h3 hc i pins s σ H E I f st (hs i H go)
 self:=T.self
def iT0 (tl:TE):TI:=fun σ H R=>tl σ H fun x H1=>∃ a xs,x = .ref a∧H1 a=some (.tup xs)∧R (eC (fun H=>H a=some (.tup xs)) xs) H1
def iL0 (tl:TE):TI:=fun σ H R=>tl σ H fun x H1=>∃ a xs,x = .ref a∧H1 a=some (.lst xs)∧R (eC (fun H=>H a=some (.lst xs)) xs) H1
theorem xZ {xs:List V}{i:Nat}(h:i < xs.length):∃ x,xs[i]? = some x:=⟨xs[i],by simp [h]⟩
theorem fQ {tg l:Expr}{tl:TE}(hl:PE X l tl):PI X tg l (iT0 tl):=by
 intro pins s σ H R I h
 refine jU (hl pins s σ H _ I h) fun v s1 ⟨x,H1,I1,r1,q1⟩=>?_
 obtain ⟨a,xs,e,hq,q⟩:=q1
 subst e
 cases r1
 obtain ⟨its,rv,p,hz⟩:=I1.tuple (SqT.of hq)
 refine wpAny_pyIter_tuple (show s1.heap.IsTuple a its.toArray from p) ?_
 refine ⟨s1.heap.objs.size,[s1.heap.objs.size],_,_,H1,rfl,I1.kept (t':=s1.toks) fun b o e=>Ac _ e,(cG a _).weak (J':=eC (fun H=>H a=some (.tup xs)) xs) (fun i H ⟨k,hi⟩=>?_) (fun i H ⟨k,hi⟩=>⟨xs,SqT.of k,hi⟩) (fun i H x H' ⟨k,hi⟩ ⟨y1,y2⟩=>⟨y1,y2 xs (SqT.of k)⟩),⟨_,Aq _ rfl,rfl,rfl⟩,fun b hb=>?_,q⟩
 ·obtain ⟨x,hx⟩:=xZ hi
  exact ⟨xs,x,SqT.of k,hx⟩
 ·have e:b=s1.heap.objs.size:=by simpa using hb
  subst e
  exact I1.fpOk (Ag _) (I1.hok.fresh (Ag _))
theorem dH {tg l:Expr}{tl:TE}(hl:PE X l tl):PI X tg l (iL0 tl):=by
 intro pins s σ H R I h
 refine jU (hl pins s σ H _ I h) fun v s1 ⟨x,H1,I1,r1,q1⟩=>?_
 obtain ⟨a,xs,e,hq,q⟩:=q1
 subst e
 cases r1
 obtain ⟨its,rv,p,hz⟩:=I1.list (SqL.of hq)
 refine wpAny_pyIter_list p.isList ?_
 refine ⟨s1.heap.objs.size,[s1.heap.objs.size],_,_,H1,rfl,I1.kept (t':=s1.toks) fun b o e=>Ac _ e,(nN a _).weak (J':=eC (fun H=>H a=some (.lst xs)) xs) (fun i H ⟨k,hi⟩=>?_) (fun i H ⟨k,hi⟩=>⟨xs,SqL.of k,hi⟩) (fun i H x H' ⟨k,hi⟩ ⟨y1,y2⟩=>⟨y1,y2 xs (SqL.of k)⟩),⟨_,Aq _ rfl,rfl,rfl⟩,fun b hb=>?_,q⟩
 ·obtain ⟨x,hx⟩:=xZ hi
  exact ⟨xs,x,SqL.of k,hx⟩
 ·have e:b=s1.heap.objs.size:=by simpa using hb
  subst e
  exact I1.fpOk (Ag _) (I1.hok.fresh (Ag _))
def kL (P:Program)(w:World)(K:PySem.W.Frag)(mg:Str→Option Value)(base:Heap)(x:Str)(ps:List Str)(k:Nat)(sp:Sp):Prop :=
 ∃ f fd,FnOk P w K mg base CX0 k f fd ps sp∧mg x=some (.ref f)∧PySem.W.keepIn K (.ref f)=true∧Binds K fd ps []
def tCal (sp:Sp)(t:TA):TE:=fun σ H Q=>t σ H fun vs H1=>sp vs H1 Q E0
theorem qJ {k j:Nat}{x:Str}{ps:List Str}{sp:Sp}{t:TA}{e:Expr}{es:List Expr}{p pos:Pos}(c:kL X.prog X.w X.K X.mg X.base x ps k sp)(hr:Room j X.A)(ha:PA X (e :: es) t)(hg:Gl X x:=by rfl)(hk:k ≤ j:=by decide)
  (hdb:(x == ("__debug__" : Str))=false:=by decide) (he:starEach (e :: es) X.env=(false,eval e X.env) :: starEach es X.env:=by rfl) (hpl:(backTo pos (starEach es X.env)).any (·.1)=false:=by rfl) :
  PE X (.Call (.Name x p) (e :: es) [] pos) (tCal sp t):=by
 obtain ⟨f,fd,F,hm,kp,hb⟩:=c
 intro pins s σ H Q I h
 refine pe_call (E:=E0) (dvs:=[]) F (hr.mono hk) hg hm kp hb .nil pass0 ha hdb he hpl pins s σ H Q I ?_
 show t σ H fun vs H1=>sp (vs ++ []) H1 Q E0
 have h':t σ H fun vs H1=>sp vs H1 Q E0:=h
 simpa using h'
theorem qW {P:Program}{w:World}{K:PySem.W.Frag}{mg:Str→Option Value}{base:Heap}{x:Str}{st:Stmt}{f:Addr}{fd:FuncData}{N ps:List Str}{k:Nat}{sp:Sp}(F:Fun K x x st f fd)(hm:mg x=some (.ref f))(hb:Binds K fd ps [])
  (S:FnScope N ps (qE st)) (len:∀ vs H Q E,sp vs H Q E→vs.length=ps.length)
  (hbody:∀ (cdv:Value) (A:Around) (outer:List Env) (s:Shared) (H:Hp) (vs:List V) (Q:VK) (E:XK),Room k (A.deeper (envOfC x (qE st) s.heap.objs.size f cdv))→sp vs H Q E →
   ∃ t,PSs (aR CX0 P w K mg base N x (qE st) f cdv A outer s H E).nox (qM st) t∧t { nx:=fun _ H'=>Q .non H',rt:=Q } (start N vs) H):kL P w K mg base x ps (k + 1) sp :=
 ⟨f,fd,F.ok S len hbody,hm,F.kp,hb⟩
section
variable {pins:List (Addr × Obj)}{σ:St}{H:Hp}{s:Shared}
theorem Inv.walk {p:Addr}{xs:List V}{E:Value→Shared→Prop}{R:Value→Shared→Prop}(I:Inv X pins σ H s)(hc:X.calm=true)(hq:sq H p=some xs)
  (h:∀ (it:Addr) (its:List Value) (s2:Shared) (St:Nat→Heap→Prop) (fp:List Addr),Vals xs its→Walks X.prog X.w X.A.in1 it fp [it] its.length (fun i v=>its[i]? = some v) St→St 0 s2.heap→(∀ b ∈ fp,b < s2.heap.objs.size)→s2.heap.objs.size=it + 1 →
   (∀ h' tk,(∀ b o,b ∉ [it]→s2.heap.get? b=some o→h'.get? b=some o)→Inv X pins σ H { s2 with heap:=h',toks:=tk })→R (.ref it) s2) :
  wpAny (model X.prog X.w) X.A.in1 (pyIter (.ref p)) R E s:=by
 have hd:X.A.in1.handled=none:=I.ok.hd hc
 have key:∀ (ob:Obj),Inv X pins σ H { s with heap:=s.heap.push ob }∧∀ h' tk,(∀ b o,b ∉ [s.heap.objs.size]→(s.heap.push ob).get? b=some o→h'.get? b=some o)→Inv X pins σ H { s with heap:=h',toks:=tk }:=fun ob=>by
  refine ⟨I.kept (t':=s.toks) fun b o e=>Ac _ e,fun h' tk k=>I.kept fun b o e=>k b o (fun z=>?_) (Ac _ e)⟩
  have e':b=s.heap.objs.size:=by simpa using z
  exact AQ _ (e' ▸ Au e)
 rcases cO (K:=X.K) hq with k | k
 ·obtain ⟨its,rv,pl,hz⟩:=I.list k
  have ne:p ≠ s.heap.objs.size:=AA (let ⟨_,e,_⟩:=pl.isList;Au e)
  refine wpAny_pyIter_list pl.isList ?_
  refine h s.heap.objs.size its _ (fun i h=>h.IsListIter s.heap.objs.size p i∧h.IsList p its.toArray) [s.heap.objs.size,p] rv (by simpa using Walks.list hd s.heap.objs.size p ne its.toArray) ⟨⟨_,Aq _ rfl,rfl,rfl⟩,pl.isList.at fun o e=>Ac _ e⟩ (fun b hb=>?_) (Bf ..) (key _).2
  rw [Bf]
  rcases Ax.mp hb with rfl | hb
  ·exact Be _
  ·have e:b=p:=by simpa using hb
   subst e
   exact Cn (let ⟨_,e,_⟩:=pl.isList;Au e)
 ·obtain ⟨its,rv,pl,hz⟩:=I.tuple k
  have lt:p < s.heap.objs.size:=pl.lt
  have ne:p ≠ s.heap.objs.size:=AA lt
  refine wpAny_pyIter_tuple (show s.heap.IsTuple p its.toArray from pl) ?_
  refine h s.heap.objs.size its _ (fun i h=>h.IsTupleIter s.heap.objs.size p i∧h.IsTuple p its.toArray) [s.heap.objs.size,p] rv (by simpa using Walks.tuple hd s.heap.objs.size p ne its.toArray) ⟨⟨_,Aq _ rfl,rfl,rfl⟩,(show s.heap.IsTuple p its.toArray from pl).at fun o e=>Ac _ e⟩ (fun b hb=>?_) (Bf ..) (key _).2
  rw [Bf]
  rcases Ax.mp hb with rfl | hb
  ·exact Be _
  ·have e:b=p:=by simpa using hb
   subst e
   exact Cn lt
end
theorem preSum_eq (ns:List Int):∀ n,n ≤ ns.length→preSum (fun i=>ns.getD i 0) n=(ns.take n).sum
 | 0,_=>rfl
 | n + 1,h=>by
  show preSum (fun i=>ns.getD i 0) n + ns.getD n 0=_
  rw [preSum_eq ns n (by omega),AB,Am (by omega),BD]
  simp [Aa,Am (show n < ns.length by omega)]
theorem jV {ns:List Int}{its:List Value}(r:Vals (ns.map V.int) its){i:Nat}{v:Value}(h:its[i]? = some v):∃ t,v = .int (ns.getD i 0) t:=by
 have hl:=r.length
 rw [Ab] at hl
 have hi:i < ns.length:=by rw [hl];exact (Ai.mp h).1
 obtain ⟨u,hu,t,rfl⟩:=r.get (i:=i) (x:=V.int ns[i]) (by simp [hi])
 rw [h] at hu
 cases hu
 exact ⟨t,by simp [Aa,hi]⟩
def pP (ns:List Int):Prop:=(∀ n ∈ ns,-(2 ^ 62) ≤ n∧n < 2 ^ 62)∧∀ j,j ≤ ns.length→InLong (ns.take j).sum
theorem sum0 (hc:X.calm=true):zY X (.builtin "sum") (fun xs H Q=>∃ (p:Addr) (ns:List Int),xs=[.ref p]∧sq H p=some (ns.map V.int)∧pP ns∧Q (.int ns.sum) H):=by
 intro pins s σ H xs us Q I r h
 obtain ⟨p,ns,rfl,hq,fit,q⟩:=h
 obtain ⟨u,rfl,ru⟩:=r.one
 cases ru
 refine call_sum_walk (I.walk hc hq fun it its s2 St fp rv W st hfp hsz J=>?_)
 have hl:=rv.length
 rw [Ab] at hl
 refine ⟨it,fp,[it],its.length,_,St,fun i=>ns.getD i 0,rfl,W,st,hfp,fun i v hv=>jV rv hv,fun j hj=>⟨?_,?_⟩,fun h' tk t' k=>⟨.int ns.sum,H,J h' tk k,?_,q⟩⟩
 ·have hj':j < ns.length:=by omega
  have e:ns.getD j 0=ns[j]:=by simp [Aa,hj']
  show InLong (ns.getD j 0)
  rw [e]
  obtain ⟨a,b⟩:=fit.1 ns[j] (AN hj')
  exact ⟨by omega,by omega⟩
 ·rw [preSum_eq ns (j + 1) (by omega)]
  exact fit.2 (j + 1) (by omega)
 ·rw [← hl,preSum_eq ns _ (Ag _),Bc]
  exact ⟨_,rfl⟩
theorem rY {bs:List Bool}{its:List Value}(r:Vals (bs.map V.bl) its){i:Nat}{v:Value}(h:its[i]? = some v):v = .bool (bs.getD i true):=by
 have hl:=r.length
 rw [Ab] at hl
 have hi:i < bs.length:=by rw [hl];exact (Ai.mp h).1
 obtain ⟨u,hu,e⟩:=r.get (i:=i) (x:=V.bl bs[i]) (by simp [hi])
 rw [h] at hu
 cases hu
 rw [show v=Value.bool bs[i] from e]
 simp [Aa,hi]
theorem truth_bl {bs:List Bool}{its:List Value}(r:Vals (bs.map V.bl) its)(A:Around):TruthOf X.prog X.w A (fun i v=>its[i]? = some v) (fun i=>bs.getD i true):=fun i v s Q E h q=>by
 rw [rY r h]
 exact wpAny_truthy_bool q
theorem range_all (bs:List Bool):(List.range bs.length).all (fun i=>bs.getD i true)=bs.all id:=by
 rw [Bu,BG,BG]
 constructor
 ·intro h b hb
  obtain ⟨i,hi,rfl⟩:=Cy.mp hb
  have:=h i (AI.mpr hi)
  simpa [Aa,hi] using this
 ·intro h i hi
  have hi':=AI.mp hi
  have:=h bs[i] (AN hi')
  simpa [Aa,hi'] using this
theorem all0 (hc:X.calm=true):zY X (.builtin "all") (fun xs H Q=>∃ (p:Addr) (bs:List Bool),xs=[.ref p]∧sq H p=some (bs.map V.bl)∧Q (.bl (bs.all id)) H):=by
 intro pins s σ H xs us Q I r h
 obtain ⟨p,bs,rfl,hq,q⟩:=h
 obtain ⟨u,rfl,ru⟩:=r.one
 cases ru
 refine call_all_walk (I.walk hc hq fun it its s2 St fp rv W st hfp hsz J=>?_)
 have hl:=rv.length
 rw [Ab] at hl
 refine ⟨it,fp,[it],its.length,_,St,fun i=>bs.getD i true,rfl,W,st,truth_bl rv _,fun h' tk k=>⟨.bl (bs.all id),H,J h' tk k,?_,q⟩⟩
 rw [← hl,range_all]
 exact rfl
def tyN (H:Hp):V→Option String
 | .non=>some "NoneType"
 | .bl _=>some "bool"
 | .int _=>some "int"
 | .str _=>some "str"
 | .ref a=>match H a with
  | some (.lst _)=>some "list"
  | some (.tup _)=>some "tuple"
  | some (.dK _)=>some "dict"
  | _=>none
 | _=>none
def subN (t T:String):Bool:=t == T || (t == "bool" && T == "int")
end
theorem jT:bootBuiltins "len" = some (.builtin "len"):=by decide +kernel
theorem m9:bootBuiltins "sum" = some (.builtin "sum"):=by decide +kernel
theorem bt_all:bootBuiltins "all" = some (.builtin "all"):=by decide +kernel
theorem bt_abs:bootBuiltins "abs" = some (.builtin "abs"):=by decide +kernel
theorem bt_min:bootBuiltins "min" = some (.builtin "min"):=by decide +kernel
theorem gT:bootBuiltins "max" = some (.builtin "max"):=by decide +kernel
theorem bt_sorted:bootBuiltins "sorted" = some (.builtin "sorted"):=by decide +kernel
theorem jM:bootBuiltins "tuple" = some (.type "tuple"):=by decide +kernel
theorem bt_list:bootBuiltins "list" = some (.type "list"):=by decide +kernel
theorem for_seq {f:Hp→Prop}{xs:List V}{g:TG}{tb:TS}{D:Ends}{σ:St}{H:Hp}(Pv:Nat→St→Hp→Prop)(h0:Pv 0 σ H)(hl:∀ i σ H,i ≤ xs.length→Pv i σ H→f H)
  (hs:∀ i x σ H,xs[i]? = some x→Pv i σ H→g x σ H fun σ2 H2=>tb { D with nx:=Pv (i + 1),ct:=Pv (i + 1),bk:=D.nx } σ2 H2) (hd:∀ σ H,Pv xs.length σ H→D.nx σ H) :
  ∃ W:Nat→Nat→St→Hp→Prop,(∃ m,W 0 m σ H)∧∀ i m σ H,W i m σ H →
   ((eC f xs).stop i H∧D.nx σ H)∨((eC f xs).go i H∧∃ N:St→Hp→Prop,(∀ σ' H',N σ' H'→∃ m',m' < m∧W (i + 1) m' σ' H')∧∀ x H',(eC f xs).yld i H x H'→g x σ H' fun σ2 H2=>tb { D with nx:=N,ct:=N,bk:=D.nx } σ2 H2):=by
 refine ⟨fun i m σ H=>m=xs.length - i∧i ≤ xs.length∧Pv i σ H,⟨xs.length,by simp,AZ _,h0⟩,?_⟩
 rintro i m σ H ⟨rfl,hi,p⟩
 have q:=hl i σ H hi p
 by_cases hlt:i < xs.length
 ·refine .inr ⟨⟨q,hlt⟩,Pv (i + 1),fun σ' H' p'=>⟨xs.length - (i + 1),by omega,rfl,hlt,p'⟩,fun x H' y=>?_⟩
  obtain ⟨e,y⟩:=y
  subst e
  exact hs i x σ _ y p
 ·have e:i=xs.length:=by omega
  subst e
  exact .inl ⟨⟨q,Ag _⟩,hd σ H p⟩
theorem zN {f:Hp→Prop}{xs:List V}{g:TG}{tc:TT}{tb:TB}{D:St→Hp→Prop}{σ:St}{H:Hp}(Pv:Nat→St→Hp→Prop)(h0:Pv 0 σ H)(hl:∀ i σ H,i ≤ xs.length→Pv i σ H→f H)
  (hs:∀ i x σ H,xs[i]? = some x→Pv i σ H→g x σ H fun σ2 H2=>tc σ2 H2 fun b H3=>if b=true then tb σ2 H3 (Pv (i + 1)) else Pv (i + 1) σ2 H3) (hd:∀ σ H,Pv xs.length σ H→D σ H):uP (eC f xs) g tc tb D σ H:=by
 refine ⟨fun i m σ H=>m=xs.length - i∧i ≤ xs.length∧Pv i σ H,⟨xs.length,by simp,AZ _,h0⟩,?_⟩
 rintro i m σ H ⟨rfl,hi,p⟩
 have q:=hl i σ H hi p
 by_cases hlt:i < xs.length
 ·refine .inr ⟨⟨q,hlt⟩,Pv (i + 1),fun σ' H' p'=>⟨xs.length - (i + 1),by omega,rfl,hlt,p'⟩,fun x H' y=>?_⟩
  obtain ⟨e,y⟩:=y
  subst e
  exact hs i x σ _ y p
 ·have e:i=xs.length:=by omega
  subst e
  exact .inl ⟨⟨q,Ag _⟩,hd σ H p⟩
theorem zO {lo:Int}{n:Nat}{g:TG}{tc:TT}{tb:TB}{D:St→Hp→Prop}{σ:St}{H:Hp}(Pv:Nat→St→Hp→Prop)(h0:Pv 0 σ H)
  (hs:∀ i σ H,i < n→Pv i σ H→g (.int (lo + i)) σ H fun σ2 H2=>tc σ2 H2 fun b H3=>if b=true then tb σ2 H3 (Pv (i + 1)) else Pv (i + 1) σ2 H3) (hd:∀ σ H,Pv n σ H→D σ H):uP (Itr lo n) g tc tb D σ H:=by
 refine ⟨fun i m σ H=>m=n - i∧i ≤ n∧Pv i σ H,⟨n,by simp,AZ _,h0⟩,?_⟩
 rintro i m σ H ⟨rfl,hi,p⟩
 by_cases hlt:i < n
 ·refine .inr ⟨hlt,Pv (i + 1),fun σ' H' p'=>⟨n - (i + 1),by omega,rfl,hlt,p'⟩,fun x H' y=>?_⟩
  obtain ⟨e,y⟩:=y
  subst e y
  exact hs i σ _ hlt p
 ·have e:i=n:=by omega
  subst e
  exact .inl ⟨Ag _,hd σ H p⟩
def Scr (K:PySem.W.Frag)(a:Addr)(ns:List Int)(H:Hp):Prop:=SqL K H a (ns.map V.int)
theorem jE {H:Hp}{p:Addr}{o:HO}(n:H p=none):Same H (upd H p o):=fun b u e=>by rw [qT (qF e n)];exact e
section
variable {X:Cx}
def tTupA (t:TA):TE:=fun σ H Q=>t σ H fun xs H1=>xs.length ≤ sizeLine∧∀ (p:Addr) (H2:Hp),H1 p=none→Same H1 H2→H2 p=some (.tup xs)→Q (.ref p) H2
theorem jK {es:List Expr}{t:TA}{x1}{pos:Pos}(h:PA X es t):PE X (.Tuple es x1 pos) (tTupA t):=by
 intro pins s σ H Q I hq
 refine Tuple_ (jU (h pos pins s σ H _ I hq) fun us s1 ⟨xs,H1,I1,r,z,q⟩=>?_)
 have hf:H1 s1.heap.objs.size=none:=I1.hok.fresh (Ag _)
 refine wpAny_newObj_type ?_ (by show us.toArray.size ≤ sizeLine;rw [Ap,← r.length];exact z)
 refine ⟨.ref s1.heap.objs.size,upd H1 s1.heap.objs.size (.tup xs),I1.laid (t':=s1.toks) (fun b u e=>Ac _ e) (Ag _) ?_,rfl,q _ _ hf (jE hf) qG⟩
 exact ⟨z,us,r,CB s1.heap _⟩
theorem z9:zY X (.type "tuple") (fun xs H Q=>∃ p ys,xs=[.ref p]∧H p=some (.lst ys)∧∀ (l:Addr) (H2:Hp),H l=none→Same H H2→H2 l=some (.tup ys)→Q (.ref l) H2):=by
 intro pins s σ H xs us Q I r h
 obtain ⟨p,ys,e,hq,q⟩:=h
 exact tupL0 pins s σ H xs us Q I r ⟨p,ys,e,hq,fun l n=>q l _ n (jE n) qG⟩
theorem a_tTupA {t:TA}{σ:St}{H:Hp}{Q:VK}:tTupA t σ H Q=t σ H fun xs H1=>xs.length ≤ sizeLine∧∀ (p:Addr) (H2:Hp),H1 p=none→Same H1 H2→H2 p=some (.tup xs)→Q (.ref p) H2:=rfl
end
section
variable {D:Ends}{σ:St}{H:Hp}{Q:VK}{QB:Bool→Hp→Prop}{QA:List V→Hp→Prop}{QG:St→Hp→Prop}{R:It→Hp→Prop}
theorem a_tSeq {t u:TS}:tSeq t u D σ H=t { D with nx:=u D } σ H:=rfl
theorem a_tRet {te:TE}:tRet te D σ H=te σ H D.rt:=rfl
theorem a_tNext:tNext D σ H=D.nx σ H:=rfl
theorem a_tDrop {te:TE}:tDrop te D σ H=te σ H fun _ H1=>D.nx σ H1:=rfl
theorem a_tAsg {te:TE}{g:TG}:tAsg te g D σ H=te σ H fun x H1=>g x σ H1 D.nx:=rfl
theorem a_tIfS {c:TT}{t u:TS}:tIfS c t u D σ H=c σ H fun b H1=>if b=true then t D σ H1 else u D σ H1:=rfl
theorem a_tPar {i j:Nat}{ta:TA}:tPar i j ta D σ H=ta σ H fun vs H1=>∃ v w,vs=[v,w]∧D.nx ((σ.set i (some v)).set j (some w)) H1:=rfl
theorem a_gName {i:Nat}{v:V}:zU i v σ H QG=QG (σ.set i (some v)) H:=rfl
theorem a_gNil {vs:List V}:gNil vs σ H QG=(vs=[]∧QG σ H):=rfl
theorem a_gCons {t:TG}{u:TGs}{vs:List V}:gCons t u vs σ H QG = ∃ v r,vs=v :: r∧t v σ H fun σ' H'=>u r σ' H' QG:=rfl
theorem a_gTup0 {n:Nat}{t:TGs}{v:V}:gTup0 n t v σ H QG = ∃ a xs,v = .ref a∧H a=some (.tup xs)∧xs.length=n∧t xs σ H QG:=rfl
theorem a_gSub {to ti:TE}{t:TSet}{v:V}:gSub to ti t v σ H QG=to σ H fun o H1=>ti σ H1 fun i H2=>t o i v H2 fun H3=>QG σ H3:=rfl
theorem a_rSetL {o i v:V}{q:Hp→Prop}:rSetL o i v H q = ∃ p xs k j,o = .ref p∧i = .int k∧H p=some (.lst xs)∧rW xs.length k=some j∧q (upd H p (.lst (xs.set j v))):=rfl
theorem a_tAnd {t u:TT}:tAnd t u σ H QB=t σ H fun c H1=>if c=true then u σ H1 QB else QB false H1:=rfl
theorem a_tOr {t u:TT}:tOr t u σ H QB=t σ H fun c H1=>if c=true then QB true H1 else u σ H1 QB:=rfl
theorem a_tNot {t:TT}:tNot t σ H QB=t σ H fun c H1=>QB (!c) H1:=rfl
theorem a_tTest {t:TE}:tTest t σ H QB=t σ H fun x H'=>∃ k,x = .bl k∧QB k H':=rfl
theorem a_tB {t:TE}:tB t σ H QB=t σ H fun x H1=>∃ c,x = .bl c∧QB c H1:=rfl
theorem a_tTrue:tTrue σ H QB=QB true H:=rfl
theorem a_tIf {t:TT}{ta tb:TE}:tIf t ta tb σ H Q=t σ H fun c H1=>if c=true then ta σ H1 Q else tb σ H1 Q:=rfl
theorem a_tOp {r:R2}{ta tb:TE}:tOp r ta tb σ H Q=ta σ H fun x H1=>tb σ H1 fun y H2=>r x y H2 Q:=rfl
theorem a_tUn {r:V→Hp→VK→Prop}{ta:TE}:tUn r ta σ H Q=ta σ H fun x H1=>r x H1 Q:=rfl
theorem a_rU {g:Int→V}{x:V}:rU g x H Q = ∃ i,x = .int i∧Q (g i) H:=rfl
theorem a_tVar {i:Nat}:dM i σ H Q = ∃ v,σ[i]? = some (some v)∧Q v H:=rfl
theorem a_tC {v:V}:tC v σ H Q=Q v H:=rfl
theorem a_rI0 {g:Int→Int→V}{x y:V}:rI0 g x y H Q = ∃ i j,x = .int i∧y = .int j∧Q (g i j) H:=rfl
theorem a_rI {C:Int→Int→Prop}{g:Int→Int→V}{x y:V}:rI C g x y H Q = ∃ i j,x = .int i∧y = .int j∧C i j∧Q (g i j) H:=rfl
theorem a_rEq {x y:V}:rEq x y H Q=(xD x y=true∧Q (.bl (decide (x=y))) H):=rfl
theorem a_rNe {x y:V}:rNe x y H Q=(xD x y=true∧Q (.bl (!decide (x=y))) H):=rfl
theorem a_rIx0 {x y:V}:rIx0 x y H Q = ∃ p xs i v,x = .ref p∧y = .int i∧sq H p=some xs∧vC xs i=some v∧Q v H:=rfl
theorem a_rIn0 {neg:Bool}{x y:V}:rIn0 neg x y H Q = ∃ p xs,y = .ref p∧sq H p=some xs∧vN x=true∧xs.all vN=true∧Q (.bl (if neg then !inV x xs else inV x xs)) H:=rfl
theorem a_tCB {r:List V→Hp→VK→Prop}{t:TA}:tCB r t σ H Q=t σ H fun vs H1=>r vs H1 Q:=rfl
theorem a_tCal {sp:Sp}{t:TA}:tCal sp t σ H Q=t σ H fun vs H1=>sp vs H1 Q E0:=rfl
theorem a_tCons {ta:TE}{tr:TA}:tCons ta tr σ H QA=ta σ H fun x H1=>tr σ H1 fun xs H2=>QA (x :: xs) H2:=rfl
theorem a_tNil:tNil σ H QA=QA [] H:=rfl
theorem a_tLst {t:TA}:tLst t σ H Q=t σ H fun xs H1=>xs.length ≤ sizeLine∧∀ p,H1 p=none→Q (.ref p) (upd H1 p (.lst xs)):=rfl
theorem a_tLC {fr:List (Option Nat)}{wi:TI}{g:TG}{tc:TT}{te:TE}:tLC fr wi g tc te σ H Q=wi σ H fun J H1=>∀ p,H1 p=none→uP J g tc (dC p te) (fun _ H2=>Q (.ref p) H2) (oK fr σ) (upd H1 p (.lst [])):=rfl
theorem a_iRng1 {ta:TA}:iRng1 ta σ H R=ta σ H fun vs H1=>∃ j:Int,vs=[.int j]∧-(2 ^ 62) ≤ j∧j < 2 ^ 62∧R (Itr 0 j.toNat) H1:=rfl
theorem a_iT0 {tl:TE}:iT0 tl σ H R=tl σ H fun x H1=>∃ a xs,x = .ref a∧H1 a=some (.tup xs)∧R (eC (fun H=>H a=some (.tup xs)) xs) H1:=rfl
theorem a_iL0 {tl:TE}:iL0 tl σ H R=tl σ H fun x H1=>∃ a xs,x = .ref a∧H1 a=some (.lst xs)∧R (eC (fun H=>H a=some (.lst xs)) xs) H1:=rfl
theorem a_tEmit {p:Addr}{te:TE}:dC p te σ H QG=te σ H fun y H1=>∃ ys,H1 p=some (.lst ys)∧ys.length < sizeLine∧QG σ (upd H1 p (.lst (ys ++ [y]))):=rfl
end
def FL (J:It)(g:TG)(tb:TS)(D:Ends)(σ:St)(H1:Hp):Prop:=∃ W:Nat→Nat→St→Hp→Prop,(∃ m,W 0 m σ H1)∧∀ i m σ H,W i m σ H →
 (J.stop i H∧D.nx σ H)∨(J.go i H∧∃ N:St→Hp→Prop,(∀ σ' H',N σ' H'→∃ m',m' < m∧W (i + 1) m' σ' H')∧∀ x H',J.yld i H x H'→g x σ H' fun σ2 H2=>tb { D with nx:=N,ct:=N,bk:=D.nx } σ2 H2)
theorem a_tFor {wi:TI}{g:TG}{tb:TS}{D:Ends}{σ:St}{H:Hp}:tFor wi g tb D σ H=wi σ H fun J H1=>FL J g tb D σ H1:=rfl
theorem d6 {f:Hp→Prop}{xs:List V}{g:TG}{tb:TS}{D:Ends}{σ:St}{H:Hp}(Pv:Nat→St→Hp→Prop)(h0:Pv 0 σ H)(hl:∀ i σ H,i ≤ xs.length→Pv i σ H→f H)
  (hs:∀ i x σ H,xs[i]? = some x→Pv i σ H→g x σ H fun σ2 H2=>tb { D with nx:=Pv (i + 1),ct:=Pv (i + 1),bk:=D.nx } σ2 H2) (hd:∀ σ H,Pv xs.length σ H→D.nx σ H):FL (eC f xs) g tb D σ H:=for_seq Pv h0 hl hs hd
theorem gQ {lo:Int}{n:Nat}{g:TG}{tb:TS}{D:Ends}{σ:St}{H:Hp}(Pv:Nat→St→Hp→Prop)(h0:Pv 0 σ H)
  (hs:∀ i σ H,i < n→Pv i σ H→g (.int (lo + i)) σ H fun σ2 H2=>tb { D with nx:=Pv (i + 1),ct:=Pv (i + 1),bk:=D.nx } σ2 H2) (hd:∀ σ H,Pv n σ H→D.nx σ H):FL (Itr lo n) g tb D σ H:=for_range Pv h0 hs hd
def SameX (c:Addr)(H H':Hp):Prop:=∀ b o,b ≠ c→H b=some o→H' b=some o
theorem SameX.refl {c:Addr}{H:Hp}:SameX c H H:=fun _ _ _ h=>h
theorem SameX.trans {c:Addr}{H H1 H2:Hp}(a:SameX c H H1)(b:SameX c H1 H2):SameX c H H2:=fun d o n h=>b d o n (a d o n h)
theorem SameX.upd {c:Addr}{H:Hp}{o:HO}:SameX c H (upd H c o):=fun b u n h=>by rw [qT n];exact h
theorem Same.x {c:Addr}{H H':Hp}(h:Same H H'):SameX c H H':=fun b o _ e=>h b o e
theorem SameX.same {c:Addr}{H H':Hp}(h:SameX c H H')(n:H c=none):Same H H':=fun b o e=>h b o (qF e n) e
theorem a_rIxL {K:PySem.W.Frag}{x y:V}{H:Hp}{Q:VK}:rIxL K x y H Q = ∃ p xs i v,x = .ref p∧y = .int i∧SqL K H p xs∧vC xs i=some v∧Q v H:=rfl
theorem sum_bound {b:Int}:∀ {ns:List Int},(∀ n ∈ ns,-b ≤ n∧n ≤ b)→-(b * (ns.length:Int)) ≤ ns.sum∧ns.sum ≤ b * (ns.length:Int)
 | [],_=>by simp
 | n :: ns,h=>by
  have h1:=h n Af
  have h2:=sum_bound (ns:=ns) fun m hm=>h m (Ad _ hm)
  rw [AF,Az,Int.natCast_add,Int.mul_add]
  simp only [Int.natCast_one,Int.mul_one]
  omega
theorem dN {ns:List Int}(h:∀ n ∈ ns,-(2 ^ 40) ≤ n∧n ≤ 2 ^ 40)(hl:ns.length ≤ 1000):pP ns:=by
 refine ⟨fun n hn=>⟨by have:=(h n hn).1;omega,by have:=(h n hn).2;omega⟩,fun j hj=>?_⟩
 have q:=sum_bound (b:=2 ^ 40) (ns:=ns.take j) fun n hn=>h n (Cz hn)
 have e:(ns.take j).length ≤ 1000:=by rw [A6];omega
 have e':(2:Int) ^ 40 * ((ns.take j).length:Int) ≤ 2 ^ 40 * 1000:=Bn (by omega) (by decide)
 constructor
 ·have:(2:Int) ^ 40 * 1000 < 2 ^ 63:=by decide
  omega
 ·have:(2:Int) ^ 40 * 1000 < 2 ^ 63:=by decide
  omega
theorem ixN30:rW 3 0=some 0:=rfl
theorem ixN31:rW 3 1=some 1:=rfl
theorem ixN32:rW 3 2=some 2:=rfl
theorem atI0 {α:Type}(a:α)(l:List α):vC (a :: l) 0=some a:=vB (j:=0) (xs:=a :: l) rfl
theorem atI1 {α:Type}(a b:α)(l:List α):vC (a :: b :: l) 1=some b:=vB (j:=1) (xs:=a :: b :: l) rfl
theorem atI2 {α:Type}(a b c:α)(l:List α):vC (a :: b :: c :: l) 2=some c:=vB (j:=2) (xs:=a :: b :: c :: l) rfl
def SeqOf (h:Heap)(c:String)(l:Addr)(xs:Array Value):Prop:=(c = "list_iterator" ∧ h.IsList l xs)∨(c = "tuple_iterator" ∧ h.IsTuple l xs)
def Src (h:Heap)(c:String)(it l:Addr)(xs:Array Value)(k:Nat):Prop:=(c = "list_iterator" ∧ h.IsListIter it l k∧h.IsList l xs)∨(c = "tuple_iterator" ∧ h.IsTupleIter it l k∧h.IsTuple l xs)
theorem SeqOf.at {h h':Heap}{c:String}{l:Addr}{xs:Array Value}(x:SeqOf h c l xs)(k:∀ o,h.get? l=some o→h'.get? l=some o):SeqOf h' c l xs:=by
 rcases x with ⟨e,x⟩ | ⟨e,x⟩
 ·exact .inl ⟨e,x.at k⟩
 ·exact .inr ⟨e,x.at k⟩
theorem SeqOf.lt {h:Heap}{c:String}{l:Addr}{xs:Array Value}(x:SeqOf h c l xs):l < h.objs.size:=by
 rcases x with ⟨_,o,e,_⟩ | ⟨_,o,e,_⟩ <;> exact Au e
theorem Src.at {h h':Heap}{c:String}{it l:Addr}{xs:Array Value}{k:Nat}(x:Src h c it l xs k)(k1:∀ o,h.get? it=some o→h'.get? it=some o)(k2:∀ o,h.get? l=some o→h'.get? l=some o):Src h' c it l xs k:=by
 rcases x with ⟨e,⟨o,a,r⟩,y⟩ | ⟨e,⟨o,a,r⟩,y⟩
 ·exact .inl ⟨e,⟨o,k1 o a,r⟩,y.at k2⟩
 ·exact .inr ⟨e,⟨o,k1 o a,r⟩,y.at k2⟩
theorem Src.ext {h h':Heap}{c:String}{it l b:Addr}{xs:Array Value}{k:Nat}(x:Src h c it l xs k)(hs:Heap.SameBut b h h')(n1:it ≠ b)(n2:l ≠ b):Src h' c it l xs k :=
 x.at (fun o e=>hs.extBut _ _ n1 e) fun o e=>hs.extBut _ _ n2 e
theorem Src.itlt {h:Heap}{c:String}{it l:Addr}{xs:Array Value}{k:Nat}(x:Src h c it l xs k):∃ o,h.get? it=some o∧∀ v,o.data ≠ .cell v:=by
 rcases x with ⟨_,⟨o,e,_,d⟩,_⟩ | ⟨_,⟨o,e,_,d⟩,_⟩ <;> exact ⟨o,e,fun v z=>by rw [d] at z;cases z⟩
section
variable {prog:Program}{w:World}{A:Around}{E:Value→Shared→Prop}{s:Shared}
theorem tU {c:String}{l:Addr}{xs:Array Value}{Q:Value→Shared→Prop}(x:SeqOf s.heap c l xs)(h:Q (.ref s.heap.objs.size) { s with heap:=s.heap.push { cls:=.type c,data:=.fields #[.ref l,.int 0 0] } }):wpAny (model prog w) A (pyIter (.ref l)) Q E s:=by
 rcases x with ⟨rfl,x⟩ | ⟨rfl,x⟩
 ·exact wpAny_pyIter_list x h
 ·exact wpAny_pyIter_tuple x h
theorem aE {it l:Addr}{i:Nat}{items:Array Value}{x:Value}{Q:Value→Shared→Prop}(hit:s.heap.IsTupleIter it l i)(ht:s.heap.IsTuple l items)(hx:items[i]? = some x)
  (hQ:∀ h',h'.IsTupleIter it l (i + 1)→Heap.SameBut it s.heap h'→Q x { s with heap:=h' }):wpAny (model prog w) A (Builtin.SmallTypes.nextOf (.ref it)) Q E s:=by
 obtain ⟨o,ho,hc,hd⟩:=id hit
 obtain ⟨ot,hot,_,nt,hdt⟩:=ht
 unfold Builtin.SmallTypes.nextOf
 refine wpAny_bind (wpAny_callSpecial?_slot (name:=Str.ofString "__next__") hit.typeIs B7 (wpAny_call_entry B7 hit.typeIs F.entry_tuple_iterator_next ?_ (F.args_tuple_iterator_next_1 _)))
 refine wpAny_bind (m:=field (.ref it) 0) (wpAny_field ho hd (x:=.ref l) rfl ?_)
 rw [Aj (show ¬ ((Value.ref l == Value.none)=true) from A2)]
 refine wpAny_bind (m:=field (.ref it) 1) (wpAny_field ho hd (x:=.int i 0) rfl ?_)
 refine wpAny_bind (m:=seqItems? (.ref l)) (wpAny_seqItems hot hdt ?_)
 simp only [Ay,hx]
 refine wpAny_bind (wpAny_setField ho hd (by simp) (wpAny_pure ⟨x,rfl,wpAny_pure (hQ _ ?_ (Heap.SameBut.update ..))⟩))
 refine ⟨_,BS _ ho (Obj.isFreed_of_fields (Obj.data_mapFields hd _)),(Obj.cls_mapFields ..).trans hc,?_⟩
 rw [Obj.data_mapFields hd];simp [rawInt]
theorem xV {c:String}{it l:Addr}{xs:Array Value}{k:Nat}{x:Value}{Q:Value→Shared→Prop}(S:Src s.heap c it l xs k)(ne:l ≠ it)(hx:xs[k]? = some x)
  (hQ:∀ h',Src h' c it l xs (k + 1)→Heap.SameBut it s.heap h'→Q x { s with heap:=h' }):wpAny (model prog w) A (Builtin.SmallTypes.nextOf (.ref it)) Q E s:=by
 rcases S with ⟨e,a,b⟩ | ⟨e,a,b⟩
 ·exact wpAny_nextOf_list_item a b hx fun h' a' sb=>hQ h' (.inl ⟨e,a',b.extBut sb.extBut ne⟩) sb
 ·exact aE a b hx fun h' a' sb=>hQ h' (.inr ⟨e,a',b.at fun o q=>sb.extBut _ _ ne q⟩) sb
theorem mM {it l:Addr}{i:Nat}{items:Array Value}{Q:Value→Shared→Prop}(hh:A.handled=none)(hit:s.heap.IsTupleIter it l i)(ht:s.heap.IsTuple l items)(hx:items[i]? = none)
  (hE:∀ h' e,Heap.ExtBut it s.heap h'→(∃ o,h'.get? e=some o∧o.cls = .type "StopIteration")→E (.ref e) { s with heap:=h' }):wpAny (model prog w) A (Builtin.SmallTypes.nextOf (.ref it)) Q E s:=by
 obtain ⟨o,ho,hc,hd⟩:=id hit
 obtain ⟨ot,hot,_,nt,hdt⟩:=ht
 unfold Builtin.SmallTypes.nextOf
 refine wpAny_bind (wpAny_callSpecial?_slot (name:=Str.ofString "__next__") hit.typeIs B7 (wpAny_call_entry B7 hit.typeIs F.entry_tuple_iterator_next ?_ (F.args_tuple_iterator_next_1 _)))
 refine wpAny_bind (m:=field (.ref it) 0) (wpAny_field ho hd (x:=.ref l) rfl ?_)
 rw [Aj (show ¬ ((Value.ref l == Value.none)=true) from A2)]
 refine wpAny_bind (m:=field (.ref it) 1) (wpAny_field ho hd (x:=.int i 0) rfl ?_)
 refine wpAny_bind (m:=seqItems? (.ref l)) (wpAny_seqItems hot hdt ?_)
 simp only [Ay,hx]
 refine wpAny_bind (wpAny_rule (wpAny_bind (wpAny_setField ho hd (by simp) ?_)))
 refine wpAny_bind (m:=newExc (.type "StopIteration") []) ?_
 simp only [newExc,newTuple]
 refine wpAny_bind (wpAny_newObj_type ?_ (by size_fits))
 refine wpAny_bind (m:=firstArgMember _ _) (wpAny_of_eq (a:=Value.none) (by first | rfl | (simp only [firstArgMember];rfl)) ?_)
 refine wpAny_newObj_type ?_ (by size_fits)
 simp only [raiseNew]
 refine wpAny_bind (wpAny_handled ?_)
 first | rw [show A.in1.handled=none from hh] | rw [hh]
 refine wpAny_bind (wpAny_pure (wpAny_throw ?_))
 exact hE _ _ (((Heap.SameBut.update ..).extBut.push _).push _) ⟨_,Aq _ rfl,rfl⟩
theorem mJ {c:String}{it l:Addr}{xs:Array Value}{k:Nat}{Q:Value→Shared→Prop}(hh:A.handled=none)(S:Src s.heap c it l xs k)(hx:xs[k]? = none)
  (hE:∀ h' e,Heap.ExtBut it s.heap h'→(∃ o,h'.get? e=some o∧o.cls = .type "StopIteration")→E (.ref e) { s with heap:=h' }):wpAny (model prog w) A (Builtin.SmallTypes.nextOf (.ref it)) Q E s:=by
 rcases S with ⟨e,a,b⟩ | ⟨e,a,b⟩
 ·exact wpAny_nextOf_list_end hh a b hx hE
 ·exact mM hh a b hx hE
structure Zs (h:Heap)(z TI TO i1 i2:Addr)(c1 c2:String)(l1 l2:Addr)(xs ys:Array Value)(k:Nat):Prop where
 zip:IsZip h z TI TO .none
 ti:IsPair h TI (.ref i1) (.ref i2)
 to:∃ a b,IsPair h TO a b
 s1:Src h c1 i1 l1 xs k
 s2:Src h c2 i2 l2 ys k
def nK (h:Heap)(z TI TO:Addr)(f g:Value):Prop:=h.get? z=some { cls:=.type "zip",dict:=none,data:=.fields #[f,g,.bool false,.ref TI,.ref TO],slots := #[] }
def rV (f:Value):Prop:=f = .none∨∃ n:Nat,f=rawInt (n:Int)
theorem wp_alive {a:Addr}{Q:Option Obj→Shared→Prop}(h:Q (s.heap.get? a) s):wpAny (model prog w) A (loadIfAlive a) Q E s:=fun _ _ _=>h
theorem z_free {z TI TO:Addr}{f g:Value}{Q:Bool→Shared→Prop}(hz:nK s.heap z TI TO f g)(hf:rV f)(h1:Q true s)(h2:∀ h' g',f ≠ .none→nK h' z TI TO f g'→Heap.SameBut z s.heap h'→Q false { s with heap:=h' }):wpAny (model prog w) A (Builtin.SmallTypes.ownedTupleIsFree (.ref z)) Q E s:=by
 unfold Builtin.SmallTypes.ownedTupleIsFree
 refine wpAny_bind (wpAny_field hz rfl (x:=f) rfl ?_)
 rcases hf with rfl | ⟨n,rfl⟩
 ·exact wpAny_pure h1
 ·show wpAny (model prog w) A (loadIfAlive (n:Int).toNat >>= _) _ _ _
  refine wpAny_bind (wp_alive ?_)
  cases e:s.heap.get? (n:Int).toNat with
  | none =>
   show wpAny (model prog w) A (if (none:Option Obj).isNone=true then pure true else _) _ _ _
   rw [Ak (show (none:Option Obj).isNone=true from rfl)]
   exact wpAny_pure h1
  | some o =>
   show wpAny (model prog w) A (if (some o).isNone=true then pure true else _) _ _ _
   rw [Aj (by simp)]
   refine wpAny_bind (wpAny_field hz rfl (x:=g) rfl ?_)
   by_cases c:(g != Value.bool true)=true
   ·simp only [c,BV]
    refine wpAny_bind (wpAny_setField_rec hz (by simp) fun h' hz' hs=>wpAny_pure (h2 h' _ (fun q=>by cases q) hz' hs))
   ·simp only [c,BE]
    refine wpAny_pure ?_
    have:=h2 s.heap g (fun q=>by cases q) hz ⟨rfl,fun _ _=>rfl⟩
    exact this
theorem eG {z TI TO i1 i2 l1 l2:Addr}{c1 c2:String}{k:Nat}{xs ys:Array Value}{x y f g:Value}{Q:Fin→Shared→Prop}(D:ZipApart z TI TO i1 i2 l1 l2)(hz:nK s.heap z TI TO f g)(hf:rV f)(hTI:IsPair s.heap TI (.ref i1) (.ref i2))(hTO:∃ a b,IsPair s.heap TO a b)(h1:Src s.heap c1 i1 l1 xs k)(h2:Src s.heap c2 i2 l2 ys k)(hx:xs[k]? = some x)(hy:ys[k]? = some y)
  (hQ:∀ h' f' g',(f = .none→f'=rawInt s.heap.objs.size∧g' = .bool false∧IsPair h' TO x y)→nK h' z TI TO f' g'→rV f'→IsPair h' TI (.ref i1) (.ref i2)→(∃ a b,IsPair h' TO a b)→Src h' c1 i1 l1 xs (k + 1)→Src h' c2 i2 l2 ys (k + 1)→IsPair h' s.heap.objs.size x y→h'.objs.size=s.heap.objs.size + 1 →
   (∀ c o,c ∉ [z,TO,i1,i2]→s.heap.get? c=some o→h'.get? c=some o)→Q (.done (.ret (.ref s.heap.objs.size))) { s with heap:=h' }):wpAny (model prog w) A (Builtin.«zip.__next__» { pos:=[.ref z] }) Q E s:=by
 obtain ⟨a,b,hTO⟩:=hTO
 refine wpAny_bind (m:=field (.ref z) 2) (wpAny_field hz rfl (x:=.bool false) rfl ?_)
 refine wpAny_bind (m:=field (.ref z) 3) (wpAny_field hz rfl (x:=.ref TI) rfl ?_)
 refine wpAny_bind (wpAny_seqItems hTI rfl ?_)
 refine wpAny_bind (m:=Builtin.SmallTypes.ownedTupleIsFree (.ref z)) (z_free hz hf ?_ fun h0 g' fn hz0 hs0=>?_)
 ·simp only [BV]
  refine wpAny_bind (wpAny_rule ?_)
  refine wpAny_bind (wpAny_field hz rfl (x:=.ref TO) rfl ?_)
  refine wpAny_bind (wpAny_setField_rec hz (by simp) fun ha hza hsa=>?_)
  replace hza:nK ha z TI TO .ellipsis g:=hza
  refine wpAny_bind ?_
  simp only [List.zipIdx_cons,List.zipIdx_nil,Cd,CD]
  refine wpAny_bind (wpAny_bind (wpAny_onRaise ?_))
  refine wpAny_bind (m:=Builtin.SmallTypes.nextOf (.ref i1)) (xV (s:={ s with heap:=ha }) (h1.ext hsa D.i1z D.l1z) D.l1i1 hx fun hb h1b hsb=>wpAny_pure ?_)
  have hTOb:IsPair hb TO a b:=hsb.extBut _ _ D.TOi1 (hsa.extBut _ _ D.TOz hTO)
  refine wpAny_bind (wpAny_seqItems hTOb rfl ?_)
  refine wpAny_bind (wpAny_updateSeq_pair hTOb fun hc hTOc hsc=>?_)
  replace hTOc:IsPair hc TO x b:=hTOc
  refine wpAny_bind (wpAny_letGo (wpAny_pure ?_))
  refine wpAny_bind (wpAny_bind (wpAny_onRaise ?_))
  refine wpAny_bind (m:=Builtin.SmallTypes.nextOf (.ref i2)) (xV (s:={ s with heap:=hc }) (((h2.ext hsa D.i2z D.l2z).ext hsb D.i12.symm D.l2i1).ext hsc D.TOi2.symm D.l2TO) D.l2i2 hy fun hd h2d hsd=>wpAny_pure ?_)
  have hTOd:IsPair hd TO x b:=hsd.extBut _ _ D.TOi2 hTOc
  refine wpAny_bind (wpAny_seqItems hTOd rfl ?_)
  refine wpAny_bind (wpAny_updateSeq_pair hTOd fun he hTOe hse=>?_)
  replace hTOe:IsPair he TO x y:=hTOe
  refine wpAny_bind (wpAny_letGo (wpAny_pure (wpAny_pure ?_)))
  refine wpAny_bind (wpAny_seqItems hTOe rfl ?_)
  refine wpAny_bind (wpAny_newTuple ?_)
  have sz:he.objs.size=s.heap.objs.size:=by rw [hse.1,hsd.1,hsc.1,hsb.1,hsa.1]
  have ze:nK he z TI TO .ellipsis g:=hse.extBut _ _ D.TOz.symm (hsd.extBut _ _ D.i2z.symm (hsc.extBut _ _ D.TOz.symm (hsb.extBut _ _ D.i1z.symm hza)))
  have ke:∀ c o,c ≠ z→c ≠ TO→c ≠ i1→c ≠ i2→s.heap.get? c=some o→he.get? c=some o:=fun c o n1 n2 n3 n4 e=>hse.extBut _ _ n2 (hsd.extBut _ _ n4 (hsc.extBut _ _ n2 (hsb.extBut _ _ n3 (hsa.extBut _ _ n1 e))))
  have h1e:Src he c1 i1 l1 xs (k + 1):=((h1b.ext hsc D.TOi1.symm D.l1TO).ext hsd D.i12 D.l1i2).ext hse D.TOi1.symm D.l1TO
  have h2e:Src he c2 i2 l2 ys (k + 1):=h2d.ext hse D.TOi2.symm D.l2TO
  have zlt:z < he.objs.size:=Au ze
  refine wpAny_bind (m:=Builtin.SmallTypes.ownedTupleHandOut (.ref z) (.ref he.objs.size)) ?_
  unfold Builtin.SmallTypes.ownedTupleHandOut
  refine wpAny_bind (wpAny_setField_rec (show nK (he.push { cls:=.type "tuple",data:=.seq #[x,y] }) z TI TO .ellipsis g from Ac _ ze) (by simp) fun hf' hzf hsf=>?_)
  replace hzf:nK hf' z TI TO (rawInt he.objs.size) g:=hzf
  refine wpAny_setField_rec hzf (by simp) fun hg hzg hsg=>?_
  replace hzg:nK hg z TI TO (rawInt he.objs.size) (.bool false):=hzg
  have up:∀ c o,c ≠ z→he.get? c=some o→hg.get? c=some o:=fun c o n e=>hsg.extBut _ _ n (hsf.extBut _ _ n (Ac _ e))
  have new:IsPair hg he.objs.size x y:=hsg.extBut _ _ (CS zlt) (hsf.extBut _ _ (CS zlt) (Aq _ rfl))
  have szg:hg.objs.size=he.objs.size + 1:=by rw [hsg.1,hsf.1,Bf]
  refine wpAny_pure ?_
  rw [sz] at hzg new szg ⊢
  refine hQ hg _ _ (fun _=>⟨rfl,rfl,up _ _ D.TOz hTOe⟩) hzg (.inr ⟨_,rfl⟩) (up _ _ D.TIz (ke _ _ D.TIz D.TITO D.TIi1 D.TIi2 hTI)) ⟨_,_,up _ _ D.TOz hTOe⟩ (h1e.at (fun o e=>up _ o D.i1z e) fun o e=>up _ o D.l1z e) (h2e.at (fun o e=>up _ o D.i2z e) fun o e=>up _ o D.l2z e) new szg fun c o hc' e=>?_
  have n1:c ≠ z:=fun q=>hc' (by simp [q])
  exact up c o n1 (ke c o n1 (fun q=>hc' (by simp [q])) (fun q=>hc' (by simp [q])) (fun q=>hc' (by simp [q])) e)
 ·simp only [AR,BE]
  rw [← Array.forIn_toList]
  simp only [Cd,CD]
  refine wpAny_bind (wpAny_bind (wpAny_bind (wpAny_holding ?_)))
  refine wpAny_bind (m:=Builtin.SmallTypes.nextOf (.ref i1)) (xV (s:={ s with heap:=h0 }) (h1.ext hs0 D.i1z D.l1z) D.l1i1 hx fun hb h1b hsb=>wpAny_pure ?_)
  refine wpAny_pure ?_
  refine wpAny_bind (wpAny_bind (wpAny_holding ?_))
  refine wpAny_bind (m:=Builtin.SmallTypes.nextOf (.ref i2)) (xV (s:={ s with heap:=hb }) ((h2.ext hs0 D.i2z D.l2z).ext hsb D.i12.symm D.l2i1) D.l2i2 hy fun hd h2d hsd=>wpAny_pure ?_)
  refine wpAny_pure (wpAny_pure ?_)
  refine wpAny_bind (m:=newTuple [x,y]) (wpAny_newTuple ?_)
  have sz:hd.objs.size=s.heap.objs.size:=by rw [hsd.1,hsb.1,hs0.1]
  have ke:∀ c o,c ≠ z→c ≠ i1→c ≠ i2→s.heap.get? c=some o→hd.get? c=some o:=fun c o n1 n3 n4 e=>hsd.extBut _ _ n4 (hsb.extBut _ _ n3 (hs0.extBut _ _ n1 e))
  have zd:nK hd z TI TO f g':=hsd.extBut _ _ D.i2z.symm (hsb.extBut _ _ D.i1z.symm hz0)
  have up:∀ c o,hd.get? c=some o→(hd.push { cls:=.type "tuple",data:=.seq #[x,y] }).get? c=some o:=fun c o e=>Ac _ e
  have new:IsPair (hd.push { cls:=.type "tuple",data:=.seq #[x,y] }) hd.objs.size x y:=Aq _ rfl
  have szg:(hd.push { cls:=.type "tuple",data:=.seq #[x,y] }).objs.size=hd.objs.size + 1:=Bf ..
  refine wpAny_pure ?_
  have h1d:Src hd c1 i1 l1 xs (k + 1):=h1b.ext hsd D.i12 D.l1i2
  rw [sz] at new szg
  show Q (.done (.ret (.ref hd.objs.size))) _
  rw [sz]
  refine hQ _ _ _ (fun q=>absurd q fn) (up _ _ zd) hf (up _ _ (ke _ _ D.TIz D.TIi1 D.TIi2 hTI)) ⟨_,_,up _ _ (ke _ _ D.TOz D.TOi1 D.TOi2 hTO)⟩ (h1d.at (fun o e=>up _ o e) fun o e=>up _ o e) (h2d.at (fun o e=>up _ o e) fun o e=>up _ o e) new szg fun c o hc' e=>?_
  exact up c o (ke c o (fun q=>hc' (by simp [q])) (fun q=>hc' (by simp [q])) (fun q=>hc' (by simp [q])) e)
theorem zb_end {z TI TO i1 i2 l1 l2:Addr}{c1 c2:String}{k:Nat}{xs ys:Array Value}{f g:Value}{Q:Fin→Shared→Prop}(hh:A.handled=none)(D:ZipApart z TI TO i1 i2 l1 l2)(hz:nK s.heap z TI TO f g)(hf:rV f)(hTI:IsPair s.heap TI (.ref i1) (.ref i2))(hTO:∃ a b,IsPair s.heap TO a b)(h1:Src s.heap c1 i1 l1 xs k)(h2:Src s.heap c2 i2 l2 ys k)(hend:xs[k]? = none∨ys[k]? = none)
  (hE:∀ h' e,(∀ c o,c ∉ [z,TO,i1,i2]→s.heap.get? c=some o→h'.get? c=some o)→(∃ o,h'.get? e=some o∧o.cls = .type "StopIteration")→E (.ref e) { s with heap:=h' }):wpAny (model prog w) A (Builtin.«zip.__next__» { pos:=[.ref z] }) Q E s:=by
 obtain ⟨a,b,hTO⟩:=hTO
 have fin:∀ h' e,(∀ c o,c ≠ z→c ≠ TO→c ≠ i1→c ≠ i2→s.heap.get? c=some o→h'.get? c=some o)→(∃ o,h'.get? e=some o∧o.cls = .type "StopIteration")→E (.ref e) { s with heap:=h' }:=fun h' e k ho =>
  hE h' e (fun c o hc' x=>k c o (fun q=>hc' (by simp [q])) (fun q=>hc' (by simp [q])) (fun q=>hc' (by simp [q])) (fun q=>hc' (by simp [q])) x) ho
 refine wpAny_bind (m:=field (.ref z) 2) (wpAny_field hz rfl (x:=.bool false) rfl ?_)
 refine wpAny_bind (m:=field (.ref z) 3) (wpAny_field hz rfl (x:=.ref TI) rfl ?_)
 refine wpAny_bind (wpAny_seqItems hTI rfl ?_)
 refine wpAny_bind (m:=Builtin.SmallTypes.ownedTupleIsFree (.ref z)) (z_free hz hf ?_ fun h0 g' _ hz0 hs0=>?_)
 ·simp only [BV]
  refine wpAny_bind (wpAny_rule ?_)
  refine wpAny_bind (wpAny_field hz rfl (x:=.ref TO) rfl ?_)
  refine wpAny_bind (wpAny_setField_rec hz (by simp) fun ha hza hsa=>?_)
  replace hza:nK ha z TI TO .ellipsis g:=hza
  refine wpAny_bind ?_
  simp only [List.zipIdx_cons,List.zipIdx_nil,Cd,CD]
  refine wpAny_bind (wpAny_bind (wpAny_onRaise ?_))
  cases hx:xs[k]? with
  | none =>
   refine wpAny_bind (m:=Builtin.SmallTypes.nextOf (.ref i1)) (mJ (s:={ s with heap:=ha }) hh (h1.ext hsa D.i1z D.l1z) hx fun hb e hsb he=>?_)
   obtain ⟨oe,hoe,hce⟩:=he
   have hzb:nK hb z TI TO .ellipsis g:=hsb _ _ D.i1z.symm hza
   have hez:e ≠ z:=fun q=>by subst q;unfold nK at hzb;rw [hzb] at hoe;cases hoe;simp at hce
   refine wpAny_setField_rec hzb (by simp) fun hc _ hsc=>fin hc e (fun c o n1 _ n3 _ q=>hsc.extBut _ _ n1 (hsb _ _ n3 (hsa.extBut _ _ n1 q))) ⟨oe,hsc.extBut _ _ hez hoe,hce⟩
  | some x =>
   have hy:ys[k]? = none:=by rcases hend with h | h;rw [hx] at h;cases h;exact h
   refine wpAny_bind (m:=Builtin.SmallTypes.nextOf (.ref i1)) (xV (s:={ s with heap:=ha }) (h1.ext hsa D.i1z D.l1z) D.l1i1 hx fun hb h1b hsb=>wpAny_pure ?_)
   have hTOb:IsPair hb TO a b:=hsb.extBut _ _ D.TOi1 (hsa.extBut _ _ D.TOz hTO)
   refine wpAny_bind (wpAny_seqItems hTOb rfl ?_)
   refine wpAny_bind (wpAny_updateSeq_pair hTOb fun hc hTOc hsc=>?_)
   refine wpAny_bind (wpAny_letGo (wpAny_pure ?_))
   refine wpAny_bind (wpAny_bind (wpAny_onRaise ?_))
   refine wpAny_bind (m:=Builtin.SmallTypes.nextOf (.ref i2)) (mJ (s:={ s with heap:=hc }) hh (((h2.ext hsa D.i2z D.l2z).ext hsb D.i12.symm D.l2i1).ext hsc D.TOi2.symm D.l2TO) hy fun hd e hsd he=>?_)
   obtain ⟨oe,hoe,hce⟩:=he
   have hzd:nK hd z TI TO .ellipsis g:=hsd _ _ D.i2z.symm (hsc.extBut _ _ D.TOz.symm (hsb.extBut _ _ D.i1z.symm hza))
   have hez:e ≠ z:=fun q=>by subst q;unfold nK at hzd;rw [hzd] at hoe;cases hoe;simp at hce
   refine wpAny_setField_rec hzd (by simp) fun he _ hse=>fin he e (fun c o n1 n2 n3 n4 q=>hse.extBut _ _ n1 (hsd _ _ n4 (hsc.extBut _ _ n2 (hsb.extBut _ _ n3 (hsa.extBut _ _ n1 q))))) ⟨oe,hse.extBut _ _ hez hoe,hce⟩
 ·simp only [AR,BE]
  rw [← Array.forIn_toList]
  simp only [Cd,CD]
  refine wpAny_bind (wpAny_bind (wpAny_bind (wpAny_holding ?_)))
  cases hx:xs[k]? with
  | none =>
   refine wpAny_bind (m:=Builtin.SmallTypes.nextOf (.ref i1)) (mJ (s:={ s with heap:=h0 }) hh (h1.ext hs0 D.i1z D.l1z) hx fun hb e hsb he=>?_)
   exact fin hb e (fun c o n1 _ n3 _ q=>hsb _ _ n3 (hs0.extBut _ _ n1 q)) he
  | some x =>
   have hy:ys[k]? = none:=by rcases hend with h | h;rw [hx] at h;cases h;exact h
   refine wpAny_bind (m:=Builtin.SmallTypes.nextOf (.ref i1)) (xV (s:={ s with heap:=h0 }) (h1.ext hs0 D.i1z D.l1z) D.l1i1 hx fun hb h1b hsb=>wpAny_pure ?_)
   refine wpAny_pure ?_
   refine wpAny_bind (wpAny_bind (wpAny_holding ?_))
   refine wpAny_bind (m:=Builtin.SmallTypes.nextOf (.ref i2)) (mJ (s:={ s with heap:=hb }) hh ((h2.ext hs0 D.i2z D.l2z).ext hsb D.i12.symm D.l2i1) hy fun hd e hsd he=>?_)
   exact fin hd e (fun c o n1 _ n3 n4 q=>hsd _ _ n4 (hsb.extBut _ _ n3 (hs0.extBut _ _ n1 q))) he
theorem zs_item {z TI TO i1 i2 l1 l2:Addr}{c1 c2:String}{k:Nat}{xs ys:Array Value}{x y:Value}{Q:Option Value→Shared→Prop}(D:ZipApart z TI TO i1 i2 l1 l2)(Z:Zs s.heap z TI TO i1 i2 c1 c2 l1 l2 xs ys k)(hx:xs[k]? = some x)(hy:ys[k]? = some y)
  (hQ:∀ h',IsZip h' z TI TO (rawInt s.heap.objs.size)→IsPair h' TI (.ref i1) (.ref i2)→IsPair h' TO x y→Src h' c1 i1 l1 xs (k + 1)→Src h' c2 i2 l2 ys (k + 1)→IsPair h' s.heap.objs.size x y→h'.objs.size=s.heap.objs.size + 1 →
   (∀ c o,c ∉ [z,TO,i1,i2]→s.heap.get? c=some o→h'.get? c=some o)→Q (some (.ref s.heap.objs.size)) { s with heap:=h' }):wpAny (model prog w) A (pyNext (.ref z)) Q E s:=by
 refine wpAny_bind (wpAny_attempt (wpAny_callSpecial?_slot (name:=Str.ofString "__next__") ⟨_,Z.zip,rfl⟩ B2 (wpAny_call_entry B2 ⟨_,Z.zip,rfl⟩ Cr (eG D Z.zip (.inl rfl) Z.ti Z.to Z.s1 Z.s2 hx hy fun h' f' g' fn iz _ ti _ s1 s2 new sz k=>?_) (Ci _))))
 obtain ⟨rfl,rfl,to⟩:=fn rfl
 exact ⟨_,rfl,wpAny_pure (hQ h' iz ti to s1 s2 new sz k)⟩
end
section
variable {prog:Program}{w:World}{A:Around}{E:Value→Shared→Prop}{s:Shared}
theorem zs_end {z TI TO i1 i2 l1 l2:Addr}{c1 c2:String}{k:Nat}{xs ys:Array Value}{Q:Option Value→Shared→Prop}(hh:A.handled=none)(D:ZipApart z TI TO i1 i2 l1 l2)(Z:Zs s.heap z TI TO i1 i2 c1 c2 l1 l2 xs ys k)(hend:xs[k]? = none∨ys[k]? = none)
  (hQ:∀ h',(∀ c o,c ∉ [z,TO,i1,i2]→s.heap.get? c=some o→h'.get? c=some o)→Q none { s with heap:=h' }):wpAny (model prog w) A (pyNext (.ref z)) Q E s:=by
 refine wpAny_bind (wpAny_attempt (wpAny_callSpecial?_slot (name:=Str.ofString "__next__") ⟨_,Z.zip,rfl⟩ B2 (wpAny_call_entry B2 ⟨_,Z.zip,rfl⟩ Cr (zb_end hh D Z.zip (.inl rfl) Z.ti Z.to Z.s1 Z.s2 hend fun h' e k ⟨o,ho,hc⟩=>?_) (Ci _))))
 exact wpAny_bind (wpAny_isInstance (T := "StopIteration") (b:=true) ⟨o,ho,hc⟩ isSubtype_stop (wpAny_pure (hQ _ k)))
abbrev zH1 (h:Heap)(c1:String)(l1:Addr):Heap:=h.push { cls:=.type c1,data:=.fields #[.ref l1,.int 0 0] }
abbrev zH2 (h:Heap)(c1 c2:String)(l1 l2:Addr):Heap:=(zH1 h c1 l1).push { cls:=.type c2,data:=.fields #[.ref l2,.int 0 0] }
abbrev zH3 (h:Heap)(c1 c2:String)(l1 l2:Addr):Heap:=(zH2 h c1 c2 l1 l2).push { cls:=.type "tuple",data:=.seq #[.ref h.objs.size,.ref (zH1 h c1 l1).objs.size] }
abbrev zH4 (h:Heap)(c1 c2:String)(l1 l2:Addr):Heap:=(zH3 h c1 c2 l1 l2).push { cls:=.type "tuple",data:=.seq #[.none,.none] }
abbrev zH5 (h:Heap)(c1 c2:String)(l1 l2:Addr):Heap:=(zH4 h c1 c2 l1 l2).push { cls:=.type "zip",data:=.fields #[.none,.bool false,.bool false,.ref (zH2 h c1 c2 l1 l2).objs.size,.ref (zH3 h c1 c2 l1 l2).objs.size] }
theorem meets_zip (c1 c2:String)(l1 l2:Addr)(xs ys:Array Value) :
  Meets (Builtin.«zip.__new__» ⟨[.type "zip",.ref l1,.ref l2],[]⟩) (fun _ R s=>SeqOf s.heap c1 l1 xs∧SeqOf s.heap c2 l2 ys∧R (.ok (.ret (.ref (zH4 s.heap c1 c2 l1 l2).objs.size))) { s with heap:=zH5 s.heap c1 c2 l1 l2 }) :=
 .of_wp fun prog w A R s h=>by
  obtain ⟨hp,g,d,tk,os⟩:=s
  obtain ⟨hl1,hl2,h⟩:=h
  have hsub:=PySem.sub_zip
  have hL1:SeqOf (Shared.heap ⟨hp,g,d,tk,os⟩) c1 l1 xs:=hl1
  have hL2:SeqOf (Shared.heap ⟨hp.push { cls:=.type c1,data:=.fields #[.ref l1,.int 0 0] },g,d,tk,os⟩) c2 l2 ys:=hl2.at fun o e=>Ac _ e
  wp_walk using tU hL1,tU hL2
  exact ⟨_,rfl,h⟩
theorem uA {c1 c2:String}{l1 l2:Addr}{xs ys:Array Value}{Q:Value→Shared→Prop}(hl1:SeqOf s.heap c1 l1 xs)(hl2:SeqOf s.heap c2 l2 ys)
  (h:∀ h',Zs h' (s.heap.objs.size + 4) (s.heap.objs.size + 2) (s.heap.objs.size + 3) s.heap.objs.size (s.heap.objs.size + 1) c1 c2 l1 l2 xs ys 0→h'.objs.size=s.heap.objs.size + 5 →
   (∀ c o,s.heap.get? c=some o→h'.get? c=some o)→Q (.ref (s.heap.objs.size + 4)) { s with heap:=h' }):wpAny (model prog w) A (call (.type "zip") [.ref l1,.ref l2]) Q E s:=by
 refine callType_new F.called_zip (by decide) (F.typeCall_zip_2 _ _) (F.newCall_zip_2 _ _) (fun obj=>F.args_object_init_3 obj _ _) F.entry_zip_new (meets_zip c1 c2 l1 l2 xs ys) ⟨hl1,hl2,?_⟩
 have z1:(zH1 s.heap c1 l1).objs.size=s.heap.objs.size + 1:=Bf ..
 have z2:(zH2 s.heap c1 c2 l1 l2).objs.size=s.heap.objs.size + 2:=by rw [Bf,z1]
 have z3:(zH3 s.heap c1 c2 l1 l2).objs.size=s.heap.objs.size + 3:=by rw [Bf,z2]
 have z4:(zH4 s.heap c1 c2 l1 l2).objs.size=s.heap.objs.size + 4:=by rw [Bf,z3]
 have z5:(zH5 s.heap c1 c2 l1 l2).objs.size=s.heap.objs.size + 5:=by rw [Bf,z4]
 have g5:(zH5 s.heap c1 c2 l1 l2).get? (zH4 s.heap c1 c2 l1 l2).objs.size=some _:=Aq _ rfl
 have g4:(zH5 s.heap c1 c2 l1 l2).get? (zH3 s.heap c1 c2 l1 l2).objs.size=some _:=Ac _ (Aq _ rfl)
 have g3:(zH5 s.heap c1 c2 l1 l2).get? (zH2 s.heap c1 c2 l1 l2).objs.size=some _:=Ac _ (Ac _ (Aq _ rfl))
 have g2:(zH5 s.heap c1 c2 l1 l2).get? (zH1 s.heap c1 l1).objs.size=some _:=Ac _ (Ac _ (Ac _ (Aq _ rfl)))
 have g1:(zH5 s.heap c1 c2 l1 l2).get? s.heap.objs.size=some _:=Ac _ (Ac _ (Ac _ (Ac _ (Aq _ rfl))))
 show _∧_
 rw [z2,z3,z4] at g5
 rw [z1,z2] at g3
 rw [z3] at g4
 rw [z1] at g2
 rw [z4]
 have old:∀ c o,s.heap.get? c=some o→(zH5 s.heap c1 c2 l1 l2).get? c=some o:=fun c o x=>Ac _ (Ac _ (Ac _ (Ac _ (Ac _ x))))
 refine ⟨⟨_,g5,rfl⟩,h _ ⟨g5,g3,⟨_,_,g4⟩,?_,?_⟩ z5 old⟩
 ·rcases hl1 with ⟨rfl,x⟩ | ⟨rfl,x⟩
  ·exact .inl ⟨rfl,⟨_,g1,rfl,rfl⟩,x.at fun o e=>old _ o e⟩
  ·exact .inr ⟨rfl,⟨_,g1,rfl,rfl⟩,x.at fun o e=>old _ o e⟩
 ·rcases hl2 with ⟨rfl,x⟩ | ⟨rfl,x⟩
  ·exact .inl ⟨rfl,⟨_,g2,rfl,rfl⟩,x.at fun o e=>old _ o e⟩
  ·exact .inr ⟨rfl,⟨_,g2,rfl,rfl⟩,x.at fun o e=>old _ o e⟩
end
theorem Inv.turnedT {X:Cx}{pins:List (Addr × Obj)}{σ:St}{H:Hp}{s:Shared}{fp:List Addr}{h':Heap}{T:Addr}{xs:List V}{us:List Value}{t':Nat}(I:Inv X pins σ H s)(f:∀ b ∈ fp,vT X pins H b)
  (k:∀ c o,c ∉ fp→s.heap.get? c=some o→h'.get? c=some o) (hT:s.heap.objs.size ≤ T) (hz:xs.length ≤ sizeLine) (r:Vals xs us) (hp:IsTup h' T us.toArray) (hTf:T ∉ fp) :
  Inv X pins σ (upd H T (.tup xs)) { s with heap:=h',toks:=t' }:=by
 have hn:H T=none:=I.hok.fresh hT
 have nfp:∀ a o,H a=some o→a ∉ fp:=fun a o e hb=>by have:=(f a hb).1;rw [e] at this;cases this
 have hTn:∀ b o,s.heap.get? b=some o→b ≠ T:=fun b o e=>AA (A3 (Au e) hT)
 refine I.call' (s':={ s with heap:=h',toks:=t' }) (ch:=fp) rfl ⟨fun b o q n _ hx=>k b o hx q,fun b o q n _ hx=>⟨o.slots,k b o hx q⟩,fun b o q n _=>by rw [qT (hTn b o q)];exact n,fun b o q hx=>⟨o,k b o hx q⟩,
  fun b ys q=>by rw [qT (qF q hn)];exact q,fun b o ys q=>by rw [qT (qF q hn)];exact q,fun b ps q=>⟨#[],by rw [qT (qF q hn),q];simp⟩⟩ (fun a o e=>?_) I.bare (fun b hb=>?_)
 ·by_cases ha:a=T
  ·subst ha
   rw [qG] at e
   cases e
   exact ⟨hz,us,r,hp⟩
  ·rw [qT ha] at e
   refine (I.hok a o e).stay (fun b u hb q=>k b u ?_ q) (fun b q=>by rw [qT (qF q hn)];exact q) fun b ys q=>by rw [qT (qF q hn)];exact q
   rcases hb with rfl | hb
   ·exact nfp b o e
   ·exact nfp b _ hb
 ·obtain ⟨f0,f1,f2,f3,f4,f5⟩:=f b hb
  exact ⟨f3,f1,f4,f5⟩
theorem Inv.turnedN {X:Cx}{pins:List (Addr × Obj)}{σ:St}{H:Hp}{s:Shared}{fp:List Addr}{h':Heap}{t':Nat}(I:Inv X pins σ H s)(f:∀ b ∈ fp,vT X pins H b)
  (k:∀ c o,c ∉ fp→s.heap.get? c=some o→h'.get? c=some o):Inv X pins σ H { s with heap:=h',toks:=t' }:=by
 have nfp:∀ a o,H a=some o→a ∉ fp:=fun a o e hb=>by have:=(f a hb).1;rw [e] at this;cases this
 refine I.call' (s':={ s with heap:=h',toks:=t' }) (ch:=fp) rfl ⟨fun b o q n _ hx=>k b o hx q,fun b o q n _ hx=>⟨o.slots,k b o hx q⟩,fun b o q n _=>n,fun b o q hx=>⟨o,k b o hx q⟩,fun b ys q=>q,fun b o ys q=>q,fun b ps q=>⟨#[],by rw [q];simp⟩⟩ (fun a o e=>?_) I.bare (fun b hb=>?_)
 ·refine (I.hok a o e).stay (fun b u hb q=>k b u ?_ q) (fun b q=>q) fun b ys q=>q
  rcases hb with rfl | hb
  ·exact nfp b o e
  ·exact nfp b _ hb
 ·obtain ⟨f0,f1,f2,f3,f4,f5⟩:=f b hb
  exact ⟨f3,f1,f4,f5⟩
def wY (H:Hp)(c:String)(a:Addr)(xs:List V):Prop:=(c = "list_iterator" ∧ H a=some (.lst xs))∨(c = "tuple_iterator" ∧ H a=some (.tup xs))
theorem Inv.seqOf {X:Cx}{pins:List (Addr × Obj)}{σ:St}{H:Hp}{s:Shared}{c:String}{a:Addr}{xs:List V}(I:Inv X pins σ H s)(h:wY H c a xs):∃ its:List Value,Vals xs its∧SeqOf s.heap c a its.toArray:=by
 rcases h with ⟨rfl,h⟩ | ⟨rfl,h⟩
 ·obtain ⟨its,r,p,_⟩:=I.list (SqL.of h)
  exact ⟨its,r,.inl ⟨rfl,p.isList⟩⟩
 ·obtain ⟨its,r,p,_⟩:=I.tuple (SqT.of h)
  exact ⟨its,r,.inr ⟨rfl,p⟩⟩
def Itz (c1 c2:String)(a b:Addr)(xs ys:List V):It :=
 ⟨fun i H=>wY H c1 a xs∧wY H c2 b ys∧i < xs.length∧i < ys.length,fun i H x H'=>∃ T u v,x = .ref T∧H T=none∧H'=upd H T (.tup [u,v])∧xs[i]? = some u∧ys[i]? = some v,fun i H=>wY H c1 a xs∧wY H c2 b ys∧(xs.length ≤ i∨ys.length ≤ i)⟩
structure Zt (h:Heap)(z TI TO i1 i2:Addr)(c1 c2:String)(l1 l2:Addr)(k:Nat):Prop where
 zip:IsZip h z TI TO .none
 ti:IsPair h TI (.ref i1) (.ref i2)
 to:∃ a b,IsPair h TO a b
 s1:(c1 = "list_iterator" ∧ h.IsListIter i1 l1 k)∨(c1 = "tuple_iterator" ∧ h.IsTupleIter i1 l1 k)
 s2:(c2 = "list_iterator" ∧ h.IsListIter i2 l2 k)∨(c2 = "tuple_iterator" ∧ h.IsTupleIter i2 l2 k)
theorem yP {h:Heap}{c:String}{it l:Addr}{xs:Array Value}{k:Nat}(a:(c = "list_iterator" ∧ h.IsListIter it l k)∨(c = "tuple_iterator" ∧ h.IsTupleIter it l k)) (b:SeqOf h c l xs):Src h c it l xs k:=by
 rcases a with ⟨rfl,a⟩ | ⟨rfl,a⟩ <;> rcases b with ⟨e,b⟩ | ⟨e,b⟩
 ·exact .inl ⟨rfl,a,b⟩
 ·exact absurd e (by decide)
 ·exact absurd e (by decide)
 ·exact .inr ⟨rfl,a,b⟩
theorem xU {h:Heap}{c:String}{it l:Addr}{xs:Array Value}{k:Nat}(a:Src h c it l xs k):(c = "list_iterator" ∧ h.IsListIter it l k)∨(c = "tuple_iterator" ∧ h.IsTupleIter it l k):=by
 rcases a with ⟨e,a,_⟩ | ⟨e,a,_⟩
 ·exact .inl ⟨e,a⟩
 ·exact .inr ⟨e,a⟩
theorem vL {h h':Heap}{c:String}{it l:Addr}{k:Nat}(a:(c = "list_iterator" ∧ h.IsListIter it l k)∨(c = "tuple_iterator" ∧ h.IsTupleIter it l k)) (q:∀ o,h.get? it=some o→h'.get? it=some o):(c = "list_iterator" ∧ h'.IsListIter it l k)∨(c = "tuple_iterator" ∧ h'.IsTupleIter it l k):=by
 rcases a with ⟨e,o,a,r⟩ | ⟨e,o,a,r⟩
 ·exact .inl ⟨e,o,q o a,r⟩
 ·exact .inr ⟨e,o,q o a,r⟩
theorem wU {h:Heap}{c:String}{it l:Addr}{k:Nat}(a:(c = "list_iterator" ∧ h.IsListIter it l k)∨(c = "tuple_iterator" ∧ h.IsTupleIter it l k)):∃ o,h.get? it=some o∧∀ v,o.data ≠ .cell v:=by
 rcases a with ⟨_,o,e,_,d⟩ | ⟨_,o,e,_,d⟩ <;> exact ⟨o,e,fun v z=>by rw [d] at z;cases z⟩
theorem mm1 {α:Type}{a b:α}{l:List α}:b ∈ a :: b :: l:=.tail _ (.head _)
theorem mm2 {α:Type}{a b c:α}{l:List α}:c ∈ a :: b :: c :: l:=.tail _ mm1
theorem mm3 {α:Type}{a b c d:α}{l:List α}:d ∈ a :: b :: c :: d :: l:=.tail _ mm2
theorem mm4 {α:Type}{a b c d e:α}{l:List α}:e ∈ a :: b :: c :: d :: e :: l:=.tail _ mm3
theorem mm5 {α:Type}{a b c d e f:α}{l:List α}:f ∈ a :: b :: c :: d :: e :: f :: l:=.tail _ mm4
theorem mm45 {α:Type}{c z t:α}{l:List α}(h:c ∈ z :: l):c ∈ z :: t :: l:=by
 cases h with
 | head=>exact .head _
 | tail _ h=>exact .tail _ (.tail _ h)
theorem hU {α:Type}{l:List α}{n i:Nat}(e:n=l.length)(q:n ≤ i):l.toArray[i]? = none:=by subst e;simp;omega
theorem dat_f {v:Option Value}{xs:Array Value}:Data.fields xs ≠ Data.cell v:=fun q=>by cases q
theorem zt_obj {h:Heap}{z TI TO i1 i2 l1 l2:Addr}{c1 c2:String}{i:Nat}(st:Zt h z TI TO i1 i2 c1 c2 l1 l2 i):∀ b ∈ [z,TI,TO,i1,i2],∃ o,h.get? b=some o∧∀ v,o.data ≠ .cell v:=by
 obtain ⟨hz,hti,⟨a,c,hto⟩,h1,h2⟩:=st
 exact AV.2 ⟨⟨_,hz,fun _=>dat_f⟩,AV.2 ⟨⟨_,hti,fun v q=>by cases (show Data.seq _ _=Data.cell v from q)⟩,AV.2 ⟨⟨_,hto,fun v q=>by cases (show Data.seq _ _=Data.cell v from q)⟩,AV.2 ⟨wU h1,AV.2 ⟨wU h2,fun _ q=>nomatch q⟩⟩⟩⟩⟩
theorem ob_lt {h:Heap}{fp:List Addr}(k:∀ b ∈ fp,∃ o,h.get? b=some o∧∀ v,o.data ≠ .cell v):∀ b ∈ fp,b < h.objs.size:=fun b hb=>let ⟨_,e,_⟩:=k b hb;Au e
theorem turn_zip {P:Program}{w:World}{K:PySem.W.Frag}{es:List Expr}{tk:_}{tp:Pos}(z TI TO i1 i2 l1 l2:Addr)(c1 c2:String)(xs ys:List V)(D:ZipApart z TI TO i1 i2 l1 l2) :
  Turn P w K (.Tuple es tk tp) (Itz c1 c2 l1 l2 xs ys) [z,TI,TO,i1,i2] z (fun i h=>Zt h z TI TO i1 i2 c1 c2 l1 l2 i) where
 mem:=.head _
 obj:=fun i h st=>zt_obj st
 keep:=fun i h h' st k=>by
  obtain ⟨hz,hti,⟨a,c,hto⟩,h1,h2⟩:=st
  exact ⟨k z (.head _) _ hz,k TI mm1 _ hti,⟨a,c,k TO mm2 _ hto⟩,vL h1 fun o e=>k i1 mm3 o e,vL h2 fun o e=>k i2 mm4 o e⟩
 item:=by
  intro X hP hw hK hc i pins s σ H E I hf st hg
  subst hP hw hK
  obtain ⟨q1,q2,hi1,hi2⟩:=hg
  obtain ⟨its1,r1,e1⟩:=I.seqOf q1
  obtain ⟨its2,r2,e2⟩:=I.seqOf q2
  obtain ⟨x,hx⟩:=xZ hi1
  obtain ⟨y,hy⟩:=xZ hi2
  obtain ⟨u,hu,ru⟩:=r1.get hx
  obtain ⟨v,hv,rv⟩:=r2.get hy
  obtain ⟨hz,hti,hto,h1,h2⟩:=id st
  refine zs_item D ⟨hz,hti,hto,yP h1 e1,yP h2 e2⟩ (by simpa using hu) (by simpa using hv) fun h' z' ti' to' s1' s2' new szn k=>?_
  have kk:∀ c o,c ∉ [z,TI,TO,i1,i2]→s.heap.get? c=some o→h'.get? c=some o:=fun c o hc e=>k c o (fun q=>hc (mm45 q)) e
  have lt:=ob_lt (zt_obj st)
  refine ⟨_,rfl,wpAny_letOwnedTupleGo_zip z' fun h'' z'' sb=>?_⟩
  have nT:s.heap.objs.size ∉ [z,TI,TO,i1,i2]:=fun hb=>AQ _ (lt _ hb)
  have nTz:s.heap.objs.size ≠ z:=fun q=>nT (q ▸ .head _)
  have J:=I.turnedT (fp:=[z,TI,TO,i1,i2]) (h':=h'') (T:=s.heap.objs.size) (xs:=[x,y]) (us:=[u,v]) (t':=s.toks) hf (fun c o hc e=>sb.extBut _ _ (fun q=>hc (q ▸ .head _)) (kk c o hc e)) (Ag _) (by show 2 ≤ sizeLine;decide) (.cons ru (.cons rv .nil))
   ⟨_,sb.extBut _ _ nTz new,rfl,_,rfl⟩ nT
  refine ⟨.ref s.heap.objs.size,_,J,rfl,⟨_,x,y,rfl,I.hok.fresh (Ag _),rfl,hx,hy⟩,⟨z'',sb.extBut _ _ D.TIz ti',⟨_,_,sb.extBut _ _ D.TOz to'⟩,vL (xU s1') fun o e=>sb.extBut _ _ D.i1z e,vL (xU s2') fun o e=>sb.extBut _ _ D.i2z e⟩,fun b hb=>?_⟩
  rw [qT (AA (lt b hb))]
  exact (hf b hb).1
 done:=by
  intro X hP hw hK hc i pins s σ H E I hf st hg
  subst hP hw hK
  obtain ⟨q1,q2,hend⟩:=hg
  obtain ⟨its1,r1,e1⟩:=I.seqOf q1
  obtain ⟨its2,r2,e2⟩:=I.seqOf q2
  obtain ⟨hz,hti,hto,h1,h2⟩:=id st
  refine zs_end (I.ok.hd hc) D ⟨hz,hti,hto,yP h1 e1,yP h2 e2⟩ (hend.imp (hU r1.length) (hU r2.length)) fun h' k=>?_
  exact ⟨rfl,I.turnedN (fp:=[z,TI,TO,i1,i2]) hf fun c o hc e=>k c o (fun q=>hc (mm45 q)) e⟩
 self:=fun A i s Q E st h=>wpAny_pyIter_zip st.zip h
theorem bt_zip:bootBuiltins "zip" = some (.type "zip"):=by decide +kernel
section
variable {X:Cx}
def iZip (ta:TA):TI:=fun σ H R=>ta σ H fun vs H1=>∃ a b c1 c2 xs ys,vs=[.ref a,.ref b]∧wY H1 c1 a xs∧wY H1 c2 b ys∧R (Itz c1 c2 a b xs ys) H1
theorem pi_zip {es:List Expr}{kk:_}{tp:Pos}{a b:Expr}{ta:TA}{p pos:Pos}(hg:Gl X "zip") (hm:X.mg "zip" = none) (ha:PA X [a,b] ta) (hs:starEach [a,b] X.env=[(false,eval a X.env),(false,eval b X.env)]:=by rfl) (hs2:starEach [b] X.env=[(false,eval b X.env)]:=by rfl) :
  PI X (.Tuple es kk tp) (.Call (.Name "zip" p) [a,b] [] pos) (iZip ta):=by
 intro pins s σ H R I h
 refine Call_ (dZ I hg hm bt_zip (Bg (jU (ha pos pins s σ H _ I h) fun us s1 ⟨vs,H1,I1,r1,q1⟩=>?_) (by rw [hs,hs2]) (by rw [hs2];rfl)))
 obtain ⟨l1,l2,c1,c2,xs,ys,e,k1,k2,q⟩:=q1
 subst e
 obtain ⟨u1,u2,rfl,e1,e2⟩:=r1.two
 cases e1
 cases e2
 obtain ⟨its1,v1,o1⟩:=I1.seqOf k1
 obtain ⟨its2,v2,o2⟩:=I1.seqOf k2
 have lt1:(l1:Nat) < (s1.heap.objs.size:Nat):=o1.lt
 have lt2:(l2:Nat) < (s1.heap.objs.size:Nat):=o2.lt
 refine uA o1 o2 fun h' Z sz old=>wpAny_pyIter_zip Z.zip ?_
 have D:ZipApart (s1.heap.objs.size + 4) (s1.heap.objs.size + 2) (s1.heap.objs.size + 3) s1.heap.objs.size (s1.heap.objs.size + 1) l1 l2:=PySem.W.ktu_apart _ _ _ o1.lt o2.lt
 have J:Inv X pins σ H1 { s1 with heap:=h' }:=I1.kept (t':=s1.toks) old
 refine ⟨s1.heap.objs.size + 4,_,_,_,H1,rfl,J,turn_zip _ _ _ _ _ l1 l2 c1 c2 xs ys D,⟨Z.zip,Z.ti,Z.to,xU Z.s1,xU Z.s2⟩,fun b hb=>?_,q⟩
 have hb':s1.heap.objs.size ≤ b:=by
  simp only [Ax,BY,or_false] at hb
  rcases hb with rfl | rfl | rfl | rfl | rfl <;> omega
 exact I1.fpOk hb' (I1.hok.fresh hb')
theorem a_iZip {ta:TA}{σ:St}{H:Hp}{R:It→Hp→Prop}:iZip ta σ H R=ta σ H fun vs H1=>∃ a b c1 c2 xs ys,vs=[.ref a,.ref b]∧wY H1 c1 a xs∧wY H1 c2 b ys∧R (Itz c1 c2 a b xs ys) H1:=rfl
end
theorem cl_zip {c1 c2:String}{a b:Addr}{xs ys:List V}{g:TG}{tc:TT}{tb:TB}{D:St→Hp→Prop}{σ:St}{H:Hp}(Pv:Nat→St→Hp→Prop)(h0:Pv 0 σ H)(hl:∀ i σ H,Pv i σ H→wY H c1 a xs∧wY H c2 b ys)
  (hs:∀ (i:Nat) u v (T:Addr) σ H H',xs[i]? = some u→ys[i]? = some v→Pv i σ H→H T=none→Same H H'→H' T=some (.tup [u,v])→g (.ref T) σ H' fun σ2 H2=>tc σ2 H2 fun b H3=>if b=true then tb σ2 H3 (Pv (i + 1)) else Pv (i + 1) σ2 H3)
  (hd:∀ σ H,Pv (min xs.length ys.length) σ H→D σ H):uP (Itz c1 c2 a b xs ys) g tc tb D σ H:=by
 refine ⟨fun i m σ H=>m=min xs.length ys.length - i∧i ≤ min xs.length ys.length∧Pv i σ H,⟨min xs.length ys.length,by simp,AZ _,h0⟩,?_⟩
 rintro i m σ H ⟨rfl,hi,p⟩
 obtain ⟨q1,q2⟩:=hl i σ H p
 by_cases hlt:i < min xs.length ys.length
 ·refine .inr ⟨⟨q1,q2,by omega,by omega⟩,Pv (i + 1),fun σ' H' p'=>⟨min xs.length ys.length - (i + 1),by omega,rfl,hlt,p'⟩,fun x H' y=>?_⟩
  obtain ⟨T,u,v,rfl,n,rfl,e1,e2⟩:=y
  exact hs i u v T σ H _ e1 e2 p n (jE n) qG
 ·have e:i=min xs.length ys.length:=by omega
  subst e
  exact .inl ⟨⟨q1,q2,by omega⟩,hd σ H p⟩
section
variable {X:Cx}
def rSlL0:V→Option Int→Option Int→Hp→VK→Prop:=fun x lo hi H Q=>∃ a xs,x = .ref a∧H a=some (.lst xs)∧∀ p,H p=none→Q (.ref p) (upd H p (.lst (xN xs lo hi)))
theorem slL0:SlR X rSlL0:=fun pins s σ H x v vl vu lo hi sl Q I rx hs pl pu h=>by
 obtain ⟨a,xs,e,k,q⟩:=h
 exact sl_list pins s σ H x v vl vu lo hi sl Q I rx hs pl pu ⟨a,xs,e,SqL.of k,q⟩
theorem a_tSl {r:V→Option Int→Option Int→Hp→VK→Prop}{te:TE}{tl th:TO}{σ:St}{H:Hp}{Q:VK}:tSl r te tl th σ H Q=te σ H fun x H1=>tl σ H1 fun l H2=>th σ H2 fun u H3=>r x l u H3 Q:=rfl
theorem a_rSlL0 {x:V}{lo hi:Option Int}{H:Hp}{Q:VK}:rSlL0 x lo hi H Q = ∃ a xs,x = .ref a∧H a=some (.lst xs)∧∀ p,H p=none→Q (.ref p) (upd H p (.lst (xN xs lo hi))):=rfl
theorem a_tNoPart {σ:St}{H:Hp}{q:Option Int→Hp→Prop}:eV σ H q=q none H:=rfl
theorem a_tPart {t:TE}{σ:St}{H:Hp}{q:Option Int→Hp→Prop}:tPart t σ H q=t σ H fun x H1=>∃ i,x = .int i∧q (some i) H1:=rfl
def tApp (to:TE)(t:TA):TE:=fun σ H Q=>to σ H fun x H1=>∃ l xs0,x = .ref l∧H1 l=some (.lst xs0)∧t σ H1 fun vs H2=>∃ xs y,vs=[y]∧H2 l=some (.lst xs)∧xs.length < sizeLine∧Q .non (upd H2 l (.lst (xs ++ [y])))
theorem xK {o e:Expr}{to:TE}{t:TA}{apos cpos:Pos}(ho:PE X o to)(ha:PA X [e] t)(hbase:attributeBase o "append" X.env (eval o X.env)=eval o X.env:=by rfl)
  (hfew:((backTo cpos (starEach [e] X.env)).all (fun x=>!x.1) && (backToKw cpos (keywordEach [] X.env)).all (fun x=>x.1.isSome) && decide ([e].length + ([] : List Keyword).length + (if ([] : List Keyword).isEmpty then 0 else 1) < 30))=true:=by rfl)
  (hline:(apos.endLine == cpos.line)=true:=by rfl) (hs:starEach [e] X.env=(false,eval e X.env) :: starEach [] X.env:=by rfl):PE X (.Call (.Attribute o "append" apos) [e] [] cpos) (tApp to t):=by
 intro pins s σ H Q I h
 refine wpAny_Call_method_late hbase hfew hline rfl (jU (ho pins s σ H _ I h) fun v s1 ⟨x,H1,I1,r1,q1⟩=>?_)
 obtain ⟨l,xs0,rfl,hl,q1⟩:=q1
 have ty:tyV X.K "list" (.ref l) H1:=.inl ⟨rfl,_,SqL.of hl⟩
 obtain ⟨h1,h2⟩:=tyV_is I1 r1 ty
 refine ⟨"list", "list.append",PySem.F.plainAttrs_list,PySem.F.slot_list_append,PySem.F.type_list_append,h1,h2,?_⟩
 have hA:=ha cpos pins s1 σ H1 _ I1 q1
 rw [hs] at hA ⊢
 refine Calls.callWith_builtin (by rfl) (Calls.evalArgs_plain ?_)
 exact jU hA fun us s2 ⟨vs,H2,I2,r2,xs,y,e,k,z,q⟩=>lL pins s2 σ H2 (.ref l) vs v us Q I2 r1 r2 ⟨l,xs,y,rfl,e,k,z,q⟩
theorem a_tApp {to:TE}{t:TA}{σ:St}{H:Hp}{Q:VK}:tApp to t σ H Q=to σ H fun x H1=>∃ l xs0,x = .ref l∧H1 l=some (.lst xs0)∧t σ H1 fun vs H2=>∃ xs y,vs=[y]∧H2 l=some (.lst xs)∧xs.length < sizeLine∧Q .non (upd H2 l (.lst (xs ++ [y]))):=rfl
end
section
variable {X:Cx}
theorem max_gen (hc:X.calm=true){pins:List (Addr × Obj)}{σ:St}{H:Hp}{s:Shared}{p:Addr}{ns:List Int}{Q:VK}(I:Inv X pins σ H s)(hq:sq H p=some (ns.map V.int))(hne:ns ≠ [])
  (q:∀ m,m ∈ ns→(∀ x ∈ ns,x ≤ m)→Q (.int m) H):wpAny (model X.prog X.w) X.A (call (.builtin "max") [.ref p]) (EP X pins σ Q) X.xe s:=by
 have hp:0 < ns.length:=List.length_pos_iff.mpr hne
 refine call_max_walk (I.walk hc hq fun it its s2 St fp rv W st hfp hsz J=>?_)
 have hl:=rv.length
 rw [Ab] at hl
 refine ⟨it,fp,[it],its.length,_,St,_,rfl,W,st,hfp,by omega,CmpOf.ints_gt (fun i=>ns.getD i 0) fun i v hv=>jV rv hv,fun v h' tk hv k=>?_⟩
 obtain ⟨a1,a2⟩:=argBest_gt (fun i=>ns.getD i 0) (its.length - 1)
 obtain ⟨t,rfl⟩:=jV rv hv
 generalize argBest (fun i j=>decide (ns.getD i 0 > ns.getD j 0)) (its.length - 1)=j at a1 a2 hv ⊢
 have hj:j < ns.length:=by omega
 have e:ns.getD j 0=ns[j]:=by simp [Aa,hj]
 refine ⟨.int ns[j],H,J h' tk k,⟨t,by rw [e]⟩,q _ (AN hj) fun x hx=>?_⟩
 obtain ⟨i,hi,rfl⟩:=Cy.mp hx
 have:=a2 i (by omega)
 simp only [Aa,Am hi,Am hj,BK] at this
 exact this
theorem max0 (hc:X.calm=true):zY X (.builtin "max") (fun xs H Q=>∃ (p:Addr) (ns:List Int),xs=[.ref p]∧sq H p=some (ns.map V.int)∧ns ≠ []∧∀ m,m ∈ ns→(∀ x ∈ ns,x ≤ m)→Q (.int m) H):=by
 intro pins s σ H xs us Q I r h
 obtain ⟨p,ns,rfl,hq,hne,q⟩:=h
 obtain ⟨u,rfl,ru⟩:=r.one
 cases ru
 exact max_gen hc I hq hne q
def rCatA:R2:=fun x y H Q=>∃ a b xs ys,x = .ref a∧y = .ref b∧H a=some (.tup xs)∧H b=some (.tup ys)∧xs.length + ys.length ≤ sizeLine∧∀ (p:Addr) (H':Hp),Same H H'→H' p=some (.tup (xs ++ ys))→Q (.ref p) H'
theorem catA0:vU X (binaryOp .Add) rCatA:=by
 intro pins s σ H x y v u Q I rx ry h
 obtain ⟨a,b,xs,ys,rfl,rfl,ha,hb,hz,q⟩:=h
 by_cases hx:xs=[]
 ·cases rx
  cases ry
  obtain ⟨its,r1,p1,_⟩:=I.tuple (SqT.of ha)
  obtain ⟨its2,r2,p2,_⟩:=I.tuple (SqT.of hb)
  have e1:its=[]:=r1.nil_iff.mpr hx
  obtain ⟨⟨c1,d1,da1,sl1⟩,o1,k1,n1,g1⟩:=id p1
  obtain ⟨⟨c2,d2,da2,sl2⟩,o2,k2,n2,g2⟩:=id p2
  simp only at k1 g1 k2 g2
  subst k1 g1 k2 g2
  refine concat_meets ⟨_,o1,rfl⟩ ⟨_,o2,rfl⟩ noFill_tuple_add seq_tuple_add F.slot_tuple_add F.entry_tuple_add (F.args_tuple_add_2 _ _) (tuple_addW0 a b its.toArray its2.toArray n1 n2 d1 d2 sl1 sl2 (by simp [e1])) ⟨o1,o2,?_⟩
  subst hx
  exact ⟨.ref b,H,I,rfl,q b H (Same.refl H) hb⟩
 ·refine op_catT pins s σ H (.ref a) (.ref b) v u Q I rx ry ⟨a,b,xs,ys,rfl,rfl,SqT.of ha,SqT.of hb,hx,hz,fun e=>?_,fun _ p np=>q p _ (jE np) qG⟩
  subst e
  exact q a H (Same.refl H) (by rw [Bv];exact ha)
theorem a_rCatA {x y:V}{H:Hp}{Q:VK}:rCatA x y H Q = ∃ a b xs ys,x = .ref a∧y = .ref b∧H a=some (.tup xs)∧H b=some (.tup ys)∧xs.length + ys.length ≤ sizeLine∧∀ (p:Addr) (H':Hp),Same H H'→H' p=some (.tup (xs ++ ys))→Q (.ref p) H':=rfl
def rCatL:R2:=fun x y H Q=>∃ l b xs zs,x = .ref l∧y = .ref b∧H l=some (.lst xs)∧H b=some (.lst zs)∧xs.length + zs.length ≤ sizeLine∧∀ (p:Addr) (H':Hp),H p=none→Same H H'→H' p=some (.lst (xs ++ zs))→Q (.ref p) H'
theorem catL0:vU X (binaryOp .Add) rCatL:=fun pins s σ H x y v u Q I rx ry h=>by
 obtain ⟨l,b,xs,zs,e1,e2,h1,h2,hz,q⟩:=h
 exact op_cat pins s σ H x y v u Q I rx ry ⟨l,b,xs,zs,e1,e2,h1,h2,hz,fun p np=>q p _ np (jE np) qG⟩
theorem a_rCatL {x y:V}{H:Hp}{Q:VK}:rCatL x y H Q = ∃ l b xs zs,x = .ref l∧y = .ref b∧H l=some (.lst xs)∧H b=some (.lst zs)∧xs.length + zs.length ≤ sizeLine∧∀ (p:Addr) (H':Hp),H p=none→Same H H'→H' p=some (.lst (xs ++ zs))→Q (.ref p) H':=rfl
end
section
variable {prog:Program}{w:World}{A:Around}{E:Value→Shared→Prop}{s:Shared}
theorem tup_whole {t sl:Addr}{items:Array Value}{vl vu:Value}{lo hi:Option Int}{Q:Value→Shared→Prop}(ht:IsTup s.heap t items)(hs:s.heap.IsSliceOf sl vl vu .none)(pl:IsPart vl lo)(pu:IsPart vu hi)
  (hw:HT.sIx items.size 0 lo=0∧HT.sIx items.size items.size hi=items.size) (h:Q (.ref t) s):wpAny (model prog w) A (getItem (.ref t) (.ref sl)) Q E s:=by
 obtain ⟨os,d5,hcs,hds⟩:=id hs
 have kind:s.TypeIs (.ref sl) "slice" := ⟨os,d5,hcs⟩
 unfold getItem
 try with_reducible refine wpAny_holding ?_
 first | refine wpAny_bind (wpAny_pure ?_) | skip
 refine wpAny_bind (wpAny_sequenceKey ht.typeIs (by decide) ?_)
 refine wpAny_bind (wpAny_callSpecial?_slot (name:=Str.ofString "__getitem__") ht.typeIs slot_tuple_getitem (wpAny_call_entry slot_tuple_getitem ht.typeIs entry_tuple_getitem ?_ (args_tuple_getitem _ _)))
 show wpAny _ _ (Builtin.Tuple.tupleItemsOf (.ref t) >>= _) _ _ s
 refine wpAny_bind (tupleItemsOf_ ht (wpAny_bind (wpAny_typeOf kind ?_)))
 rw [Ak (by decide)]
 refine wpAny_bind (HT.sliceApplied_gen hs pl pu ?_)
 rw [hw.1,hw.2]
 have yes:((((0:Nat):Int) == 0 && (1:Int) == 1 && (items.size - 0) == items.size)=true):=by simp
 show wpAny _ _ (if ((((0:Nat):Int) == 0 && (1:Int) == 1 && (items.size - 0) == items.size)=true) then _ else _) _ _ s
 rw [Ak yes]
 unfold Builtin.Tuple.tupleIsExact
 refine wpAny_bind (wpAny_bind (wpAny_typeOf ht.typeIs (wpAny_pure ?_)))
 rw [Ak (by decide)]
 exact wpAny_bind (wpAny_rule (wpAny_pure ⟨_,rfl,wpAny_pure h⟩))
end
section
variable {X:Cx}
def rSlA:V→Option Int→Option Int→Hp→VK→Prop:=fun x lo hi H Q=>∃ a xs,x = .ref a∧H a=some (.tup xs)∧∀ (p:Addr) (H':Hp),Same H H'→H' p=some (.tup (xN xs lo hi))→Q (.ref p) H'
theorem cut_whole {xs:List V}{lo hi:Option Int}(h:HT.sIx xs.length 0 lo=0∧HT.sIx xs.length xs.length hi=xs.length):xN xs lo hi=xs:=by
 unfold xN
 rw [h.1,h.2,Ck,CU,Bc]
theorem slA0:SlR X rSlA:=by
 intro pins s σ H x v vl vu lo hi sl Q I rx hs pl pu h
 obtain ⟨a,xs,rfl,hx,q⟩:=h
 by_cases hw:HT.sIx xs.length 0 lo=0∧HT.sIx xs.length xs.length hi=xs.length
 ·cases rx
  obtain ⟨its,r,ht,hz⟩:=I.tuple (SqT.of hx)
  have hlen:its.toArray.size=xs.length:=by rw [Ap];exact r.length.symm
  refine ⟨"tuple",_,slot_tuple_getitem.lookup,ht.typeIs,tup_whole ht hs pl pu (by rw [hlen];exact hw) ?_⟩
  exact ⟨.ref a,H,I,rfl,q a H (Same.refl H) (by rw [cut_whole hw];exact hx)⟩
 ·exact sl_tup pins s σ H (.ref a) v vl vu lo hi sl Q I rx hs pl pu ⟨a,xs,rfl,SqT.of hx,hw,fun p np=>q p _ (jE np) qG⟩
theorem a_rSlA {x:V}{lo hi:Option Int}{H:Hp}{Q:VK}:rSlA x lo hi H Q = ∃ a xs,x = .ref a∧H a=some (.tup xs)∧∀ (p:Addr) (H':Hp),Same H H'→H' p=some (.tup (xN xs lo hi))→Q (.ref p) H':=rfl
end
section
variable {prog:Program}{w:World}{A:Around}{E:Value→Shared→Prop}{s:Shared}
theorem t8 {t:Addr}{vs:List Value}{Q:List Value→Shared→Prop}(ht:IsTup s.heap t vs.toArray)(hz:vs.length ≤ sizeLine)
  (h:Q vs { s with heap:=(s.heap.push (seqObj "list" #[] 0)).update s.heap.objs.size (Obj.mapSeq (· ++ vs.toArray)) }):wpAny (model prog w) A (collect (.ref t)) Q E s:=by
 obtain ⟨ot,hot,kt,nt,dt⟩:=id ht
 unfold collect
 refine wpAny_bind (wpAny_runValue (codeAny_builtin entry_proto_collect' (show wpAny _ _ (do again (.builtin "list.__iadd__" ⟨[← newList [],.ref t],[]⟩)) _ _ s from ?_)))
 refine wpAny_bind (wpAny_newList (wpAny_pure ⟨Code.quiet_builtin _ (by decide +kernel),codeAny_builtin entry_list_iadd' (show wpAny _ _ (Builtin.List.listExtendWith (.ref s.heap.objs.size) (.ref t) (.ref s.heap.objs.size)) _ _ { s with heap:=s.heap.push (seqObj "list" #[] 0) } from ?_)⟩))
 unfold Builtin.List.listExtendWith
 have old:(s.heap.push (seqObj "list" #[] 0)).get? t=some ot:=Ac _ hot
 refine wpAny_bind (wpAny_typeOf (T := "tuple") ⟨ot,old,kt⟩ ?_)
 have yes:(Value.type "tuple" == Value.type "tuple")=true:=by rfl
 rw [Ak (by rw [yes,CL])]
 refine wpAny_bind (listItems_at old dt (wpAny_bind (listItems_at (xs := #[]) (n:=0) (Aq _ rfl) rfl ?_)))
 rw [Aj (by simp)]
 refine wpAny_bind (listUpdate_at (xs := #[]) (n:=0) (Aq _ rfl) rfl (wpAny_pure ?_) (AZ _) (by show (#[] ++ vs.toArray).size ≤ sizeLine + 1;rw [Array.size_append,Ap];simp;omega))
 show wpAny (model prog w) A (do { let o ← load s.heap.objs.size;match o.data with | .seq xs _=>pure xs.toList | _=>unsupported "internal:collect" }) Q E { s with heap:=(s.heap.push (seqObj "list" #[] 0)).update s.heap.objs.size (Obj.mapSeq (· ++ vs.toArray)) }
 refine wpAny_bind (wpAny_load (get?_update_seq (Aq _ rfl) _) (show wpAny _ _ (pure ((#[] : Array Value) ++ vs.toArray).toList) Q E _ from ?_))
 rw [show ((#[] : Array Value) ++ vs.toArray).toList=vs by simp]
 exact wpAny_pure h
theorem uX {t:Addr}{vs:List Value}{ns:List Int}{Q:Value→Shared→Prop}(ht:IsTup s.heap t vs.toArray)(hI:IntsAre vs ns)(h64:vs.length < 64)
  (h:∀ (out:Array Value) (ms:List Int),IntsAre out.toList ms→ms.Perm ns→ms.Pairwise (· ≤ ·)→Q (.ref (s.heap.objs.size + 1)) { s with heap:=sortedAll s.heap vs out }):wpAny (model prog w) A (call (.builtin "sorted") [.ref t]) Q E s:=by
 refine Calls.call_function_entry kind_sorted plain_sorted entry_sorted (args_sorted1 _) ?_
 unfold Builtin.«sorted»
 refine wpAny_bind (m:=checkCount "sorted" 1 1 _) (wpAny_pure (wpAny_bind (t8 ht (by rw [sizeLine_eq];omega) (wpAny_bind (wpAny_newList ?_)))))
 have size1:((s.heap.push (seqObj "list" #[] 0)).update s.heap.objs.size (Obj.mapSeq (· ++ vs.toArray))).objs.size=s.heap.objs.size + 1:=(Heap.size_update ..).trans (size_push' ..)
 have new1:(((s.heap.push (seqObj "list" #[] 0)).update s.heap.objs.size (Obj.mapSeq (· ++ vs.toArray))).push (seqObj "list" vs.toArray 0)).get? (s.heap.objs.size + 1)=some (seqObj "list" vs.toArray 0):=by rw [← size1];exact Aq _ rfl
 show wpAny _ _ _ _ _ { s with heap:=(((s.heap.push (seqObj "list" #[] 0)).update s.heap.objs.size (Obj.mapSeq (· ++ vs.toArray))).push (seqObj "list" vs.toArray 0)) }
 rw [size1]
 exact wpAny_bind (wpAny_holding (wpAny_call_entry slot_list_sort ⟨_,new1,rfl⟩ entry_list_sort (list_sort_tree new1 hI h64 fun out ms a1 a2 a3=>⟨_,rfl,wpAny_pure ⟨_,rfl,h out ms a1 a2 a3⟩⟩) (args_list_sort _)))
end
section
variable {X:Cx}
theorem sorted0:zY X (.builtin "sorted") (fun xs H Q=>∃ (p:Addr) (ns:List Int),xs=[.ref p]∧sq H p=some (ns.map V.int)∧ns.length < 64∧∀ (l:Addr) (ms:List Int) (H':Hp),H l=none→Same H H'→ms.Perm ns→ms.Pairwise (· ≤ ·)→H' l=some (.lst (ms.map V.int))→Q (.ref l) H'):=by
 intro pins s σ H xs us Q I r h
 obtain ⟨p,ns,rfl,hq,h64,q⟩:=h
 obtain ⟨u,rfl,ru⟩:=r.one
 cases ru
 have hf:H (s.heap.objs.size + 1)=none:=I.hok.fresh (C1 _)
 have fin:∀ (its:List Value) (out:Array Value) (ms:List Int),Vals (ns.map V.int) its→IntsAre out.toList ms→ms.Perm ns→ms.Pairwise (· ≤ ·)→EP X pins σ Q (.ref (s.heap.objs.size + 1)) { s with heap:=sortedAll s.heap its out }:=fun its out ms vi h1 h2 h3=>by
  obtain ⟨e',he'⟩:=sortedAll_at s.heap its out
  have hml:ms.length=ns.length:=h2.length_eq
  refine ⟨.ref (s.heap.objs.size + 1),_,I.laid (o:=.lst (ms.map V.int)) (t':=s.toks) (fun b u e=>sortedAll_old e) (C1 _) ?_,rfl,q _ ms _ hf (jE hf) h2 h3 qG⟩
  exact ⟨by rw [Ab,hml,sizeLine_eq];omega,out.toList,e',wB h1,by simpa [seqObj] using he'⟩
 rcases cO (K:=X.K) hq with k | k
 ·obtain ⟨its,vi,pl,hz⟩:=I.list k
  have hlen:=vi.length
  rw [Ab] at hlen
  exact sorted_ints pl.isList (intsAre_of vi) (by omega) fun out ms h1 h2 h3=>fin its out ms vi h1 h2 h3
 ·obtain ⟨its,vi,pl,hz⟩:=I.tuple k
  have hlen:=vi.length
  rw [Ab] at hlen
  exact uX pl (intsAre_of vi) (by omega) fun out ms h1 h2 h3=>fin its out ms vi h1 h2 h3
end
def g8 (e iter:Expr)(d:Nat)(acc:Value)(env:Env):Sem Unit:=do
 let x ← eval iter env
 standAt iter.pos
 let x ← foldedSetIterable iter env x
 let _ ← runOwn (.compStart e d (← holding [x] (pyIter x)) acc env) env
theorem uJ (elt tg iter tg2 iter2:Expr)(ifs ifs2:List Expr)(rest:List Comprehension)(sc:Scope)(pos:Pos)(it acc:Value)(env:Env) :
  compTurn (.ListComp elt (⟨tg,iter,ifs,0⟩ :: ⟨tg2,iter2,ifs2,0⟩ :: rest) sc pos) 0 it acc env=(do
   standAt iter.pos
   match ← pyNext it with
   | none=>pure (.done .next)
   | some v =>
    letOwnedTupleGo tg it v
    assign tg env v
    let mut ok:=true
    for c in ifs do
     if ok then ok ← isTrue c env (eval c env)
    if ok then g8 (.ListComp elt (⟨tg,iter,ifs,0⟩ :: ⟨tg2,iter2,ifs2,0⟩ :: rest) sc pos) iter2 1 acc env
    again (.compLoop (.ListComp elt (⟨tg,iter,ifs,0⟩ :: ⟨tg2,iter2,ifs2,0⟩ :: rest) sc pos) 0 it acc env)):=by
 unfold g8
 simp only [bind_assoc,pure_bind]
 rfl
theorem uK (elt tg iter tg2 iter2:Expr)(ifs ifs2:List Expr)(sc:Scope)(pos:Pos)(it acc:Value)(env:Env) :
  compTurn (.ListComp elt [⟨tg,iter,ifs,0⟩,⟨tg2,iter2,ifs2,0⟩] sc pos) 1 it acc env=(do
   standAt iter2.pos
   match ← pyNext it with
   | none=>pure (.done .next)
   | some v =>
    letOwnedTupleGo tg2 it v
    assign tg2 env v
    let mut ok:=true
    for c in ifs2 do
     if ok then ok ← isTrue c env (eval c env)
    if ok then (do let _ ← call (.builtin "list.append") [acc,← eval elt env])
    again (.compLoop (.ListComp elt [⟨tg,iter,ifs,0⟩,⟨tg2,iter2,ifs2,0⟩] sc pos) 1 it acc env)):=by rfl
section
variable {prog:Program}{w:World}{A:Around}{R:Result→Shared→Prop}{s:Shared}
theorem sH {elt:Expr}{gs:List Comprehension}{sc:Scope}{pos:Pos}{d:Nat}{g:Comprehension}{it acc:Value}{env:Env}(hg:gs[d]? = some g)(ha:g.is_async=0)
  (h0:codeAny (model prog w) A (.compLoop (.ListComp elt gs sc pos) d it acc env) R s)
  (h:wpAny (model prog w) A (pyIter it) (fun it' s'=>codeAny (model prog w) A (.compLoop (.ListComp elt gs sc pos) d it' acc env) R s') (notedBy (model prog w) A env fun x s'=>R (.error x) s') s) :
  codeAny (model prog w) A (.compStart (.ListComp elt gs sc pos) d it acc env) R s:=by
 refine codeAny_of_tree (show wpAny _ _ ((compStart (.ListComp elt gs sc pos) d it acc env).onRaise (fun x=>do noteFrame x env;standAt theWindowsPlace)) _ _ s from wpAny_notedAt ?_)
 unfold compStart
 have e:(clausesOf (.ListComp elt gs sc pos))[d]? = some g:=hg
 rw [e]
 have ea:(some g).elim false (fun x:Comprehension=>x.is_async != 0)=false:=by show (g.is_async != 0)=false;rw [ha];rfl
 rw [ea]
 refine wpAny_bind (wpAny_askSetting (wpAny_ite ?_))
 split
 ·first
   | exact wpAny_pure ⟨rfl,h0⟩
   | exact wpAny_bind (wpAny_pure (wpAny_pure ⟨rfl,h0⟩))
 ·exact wpAny_bind (wpAny_rule (wpAny_bind (wpAny_standAt (wpAny_bind (wpAny_mono h (fun it' s' h'=>wpAny_pure ⟨rfl,h'⟩) fun _ _ x=>x)))))
end
def cI (wi:TI)(g:TG)(tc:TT)(tb:TB):TB:=fun σ H N=>wi σ H fun J H1=>uP J g tc tb N σ H1
theorem pb_inner {X:Cx}{elt tg iter:Expr}{ifs:List Expr}{gs:List Comprehension}{sc:Scope}{pos:Pos}{d:Nat}{acc:Value}{wi:TI}{g:TG}{tc:TT}{tb:TB}{body:Sem Unit}(hc:X.calm=true)(hx:X.xe=fun _ _=>False)(hgs:gs[d]? = some ⟨tg,iter,ifs,0⟩)
  (hi:PI X tg iter wi) (hg:PG X tg g) (hifs:uE X ifs tc) (hb:PB X body tb)
  (heq:∀ it:Addr,compTurn (.ListComp elt gs sc pos) d (.ref it) acc X.env=(do
   standAt iter.pos
   match ← pyNext (.ref it) with
   | none=>pure (.done .next)
   | some v =>
    letOwnedTupleGo tg (.ref it) v
    assign tg X.env v
    let mut ok:=true
    for c in ifs do
     if ok then ok ← isTrue c X.env (eval c X.env)
    if ok then body
    again (.compLoop (.ListComp elt gs sc pos) d (.ref it) acc X.env)))
  (hs:∀ x,foldedSetIterable iter X.env x=pure x):PB X (g8 (.ListComp elt gs sc pos) iter d acc X.env) (cI wi g tc tb):=by
 intro pins s σ H N I q
 unfold g8
 refine wpAny_bind (jU (hi pins s σ H _ I q) fun v s1 h1=>?_)
 refine wpAny_bind (wpAny_standAt (wpAny_bind (wpAny_of_eq (hs v) (wpAny_bind (wpAny_holding (jU h1 fun itv s2 h2=>?_))))))
 obtain ⟨it,fp,tn,J,H2,e2,I2,T,st2,f2,q2⟩:=h2
 subst e2
 have L:=g9 (X:=X) (e:=.ListComp elt gs sc pos) (d:=d) (acc:=acc) (D:=N) (s:=s2) hc hx (heq it) rfl rfl rfl T hg hifs hb I2 st2 f2 q2
 refine wpAny_bind (wpAny_runOwn (sH hgs rfl ?_ ?_))
 ·refine codeAny_mono L fun r s' hr=>?_
  obtain ⟨rfl,σ',H',J',n'⟩:=hr
  exact wpAny_pure ⟨σ',H',J',n'⟩
 ·refine T.self X.A 0 s2 _ _ st2 ?_
  refine codeAny_mono L fun r s' hr=>?_
  obtain ⟨rfl,σ',H',J',n'⟩:=hr
  exact wpAny_pure ⟨σ',H',J',n'⟩
section
variable {X:Cx}
def tLC2 (fr:List (Option Nat))(wi:TI)(g:TG)(tc:TT)(wi2:TI)(g2:TG)(tc2:TT)(te:TE):TE:=fun σ H Q=>wi σ H fun J H1=>∀ p,H1 p=none→uP J g tc (cI wi2 g2 tc2 (dC p te)) (fun _ H2=>Q (.ref p) H2) (oK fr σ) (upd H1 p (.lst []))
theorem pe_lc2 {N:List Str}{fr:List (Option Nat)}{tg iter tg2 iter2 elt:Expr}{ifs ifs2:List Expr}{sc:Scope}{pos:Pos}{cl:List (Str × Addr)}{wi wi2:TI}{g g2:TG}{tc tc2:TT}{te:TE}(hc:X.calm=true)(hi:PI X tg iter wi)(S:CScope X N fr sc)(hcl:vS sc.names X.env.cells [] = some cl)
  (hb:∀ s H ex,PG (cD X N sc cl s H ex) tg g∧uE (cD X N sc cl s H ex) ifs tc∧PI (cD X N sc cl s H ex) tg2 iter2 wi2∧PG (cD X N sc cl s H ex) tg2 g2∧uE (cD X N sc cl s H ex) ifs2 tc2∧PE (cD X N sc cl s H ex) elt te) (hs:∀ x,foldedSetIterable iter X.env x=pure x:=by intro _;rfl) (hs2:∀ env x,foldedSetIterable iter2 env x=pure x:=by intro _ _;rfl) :
  PE X (.ListComp elt [⟨tg,iter,ifs,0⟩,⟨tg2,iter2,ifs2,0⟩] sc pos) (tLC2 fr wi g tc wi2 g2 tc2 te):=by
 intro pins s σ H Q I h
 rw [eval_ListComp]
 refine tQ (D:=fun J p σ H=>uP J g tc (cI wi2 g2 tc2 (dC p te)) (fun _ H2=>Q (.ref p) H2) σ H) rfl hi S hcl I h (fun it p fp tn J s1 s2 H1 σ1 T B st f d=>?_) hs
 obtain ⟨hg,hifs,hi2,hg2,hifs2,helt⟩:=hb s1 H1 fp
 have inn:=pb_inner (X:=cD X N sc cl s1 H1 fp) (elt:=elt) (gs:=[⟨tg,iter,ifs,0⟩,⟨tg2,iter2,ifs2,0⟩]) (sc:=sc) (pos:=pos) (d:=1) (acc:=.ref p) hc rfl rfl hi2 hg2 hifs2 (p6 (p:=p) helt) (fun it=>uK elt tg iter tg2 iter2 ifs ifs2 sc pos (.ref it) (.ref p) _) (hs2 _)
 have L:=g9 (X:=cD X N sc cl s1 H1 fp) (e:=.ListComp elt [⟨tg,iter,ifs,0⟩,⟨tg2,iter2,ifs2,0⟩] sc pos) (d:=0) (acc:=.ref p) (D:=fun _ H2=>Q (.ref p) H2) (s:=s2) hc rfl (uJ elt tg iter tg2 iter2 ifs ifs2 [] sc pos (.ref it) (.ref p) _) rfl rfl rfl T hg hifs inn B st f d
 exact codeAny_compStart_list L (T.self X.A 0 s2 _ _ st L)
theorem a_tLC2 {fr:List (Option Nat)}{wi wi2:TI}{g g2:TG}{tc tc2:TT}{te:TE}{σ:St}{H:Hp}{Q:VK}:tLC2 fr wi g tc wi2 g2 tc2 te σ H Q=wi σ H fun J H1=>∀ p,H1 p=none→uP J g tc (cI wi2 g2 tc2 (dC p te)) (fun _ H2=>Q (.ref p) H2) (oK fr σ) (upd H1 p (.lst [])):=rfl
theorem a_tInner {wi:TI}{g:TG}{tc:TT}{tb:TB}{σ:St}{H:Hp}{N:St→Hp→Prop}:cI wi g tc tb σ H N=wi σ H fun J H1=>uP J g tc tb N σ H1:=rfl
end
theorem range_drop {n i:Nat}(h:i < n):(List.range n).drop i=i :: (List.range n).drop (i + 1):=by simp [Bw,h]
theorem tuple_neAt (l b:Addr)(items items2:Array Value)(n n2:Nat)(dd dd2:Option Addr)(sl sl2:Array (Option Value))(e:Nat→Bool) :
  Meets (Builtin.«tuple.__ne__» ⟨[.ref l,.ref b],[]⟩) (fun A R s=>s.heap.get? l=some { cls:=.type "tuple",dict:=dd,data:=.seq items n,slots:=sl }∧s.heap.get? b=some { cls:=.type "tuple",dict:=dd2,data:=.seq items2 n2,slots:=sl2 } ∧
    (∀ j (h1:j < items.size) (h2:j < items2.size),SeqAt.EqAt A.in1 s items[j] items2[j] (e j))∧R (.ok (.ret (.bool (!((List.range (min items.size items2.size)).all e && items.size == items2.size))))) s) :=
 .of_wp fun prog w A R s h=>by
  obtain ⟨hp,g,d,tk,os⟩:=s;obtain ⟨hl,hb,he,h⟩:=h
  have f2:=AutoSeq1.sub_tuple_tuple
  have zl:(items.toList.zip items2.toList).length=min items.size items2.size:=by simp
  wp_walk using wpAny_loadPart' hl,wpAny_loadPart' hb,wpAny_forIn_list _ (fun rest b s'=>b.1=none∧s'=⟨hp,g,d,tk,os⟩∧∃ i,rest=(items.toList.zip items2.toList).drop i∧R (.ok (.ret (.bool (!(((List.range (min items.size items2.size)).drop i).all e && items.size == items2.size))))) ⟨hp,g,d,tk,os⟩) _
  case turn =>
   rintro ⟨y,x⟩ rest b s' ⟨hb',rfl,i,hz,hR⟩
   have lt:i < (items.toList.zip items2.toList).length:=by
    rcases Bm i (items.toList.zip items2.toList).length with q | q
    ·exact q
    ·rw [BN q] at hz;cases hz
   have lm:i < min items.size items2.size:=zl ▸ lt
   have l1:i < items.size:=by omega
   have l2:i < items2.size:=by omega
   rw [Bw lt] at hz
   injection hz with z1 z2
   have hy:y=items[i]:=by have:=Bi Prod.fst z1;simpa using this
   have hx:x=items2[i]:=by have:=Bi Prod.snd z1;simpa using this
   subst hy hx
   have dr:=range_drop lm
   refine wpAny_bind (he i l1 l2 prog w _ _ ?_)
   cases hc:e i with
   | true =>
    rw [dr,CH,hc,BZ] at hR
    exact wpAny_pure ⟨rfl,rfl,i + 1,z2,hR⟩
   | false =>
    rw [dr,CH,hc,BW,BW,Bool.not_false] at hR
    wp_walk
    exact ⟨_,rfl,hR⟩
  case fin =>
   rintro ⟨b1,b2⟩ s' ⟨hb',rfl,i,hz,hR⟩
   cases (show b1=none from hb')
   have ge:min items.size items2.size ≤ i:=by
    rcases Bm i (items.toList.zip items2.toList).length with q | q
    ·rw [Bw q] at hz;cases hz
    ·exact zl ▸ q
   rw [BN (by simpa using ge),List.all_nil,BZ] at hR
   wp_walk
   exact ⟨_,rfl,hR⟩
  case h=>exact ⟨rfl,rfl,0,rfl,by rw [Ck];exact h⟩
theorem mS:∀ (ns ms:List Int),((List.range (min ns.length ms.length)).all (fun j=>decide (ns.getD j 0=ms.getD j 0)) && ns.length == ms.length)=decide (ns=ms):=fun ns ms=>by
 rw [Bu,AL,BG,AE,beq_iff_eq]
 constructor
 ·rintro ⟨h1,h2⟩
  apply BH h2
  intro i q1 q2
  have:=h1 i (AI.mpr (by omega))
  simpa [Aa,q1,q2] using this
 ·rintro rfl
  exact ⟨fun j _=>by simp,rfl⟩
section
variable {X:Cx}
theorem eO {pins:List (Addr × Obj)}{σ:St}{H:Hp}{s:Shared}{a b:Addr}{ns ms:List Int}(I:Inv X pins σ H s)(ha:H a=some (.tup (ns.map V.int)))(hb:H b=some (.tup (ms.map V.int))) :
  ∃ its its2:List Value,IsTup s.heap a its.toArray∧IsTup s.heap b its2.toArray∧its.length=ns.length∧its2.length=ms.length∧∀ (A:Around) (j:Nat) (h1:j < its.toArray.size) (h2:j < its2.toArray.size),SeqAt.EqAt A s its.toArray[j] its2.toArray[j] (decide (ns.getD j 0=ms.getD j 0)):=by
 obtain ⟨its,r1,p1,_⟩:=I.tuple (SqT.of ha)
 obtain ⟨its2,r2,p2,_⟩:=I.tuple (SqT.of hb)
 have l1:=r1.length
 have l2:=r2.length
 rw [Ab] at l1 l2
 refine ⟨its,its2,p1,p2,l1.symm,l2.symm,fun A j h1 h2=>?_⟩
 have h1':j < its.length:=by simpa using h1
 have h2':j < its2.length:=by simpa using h2
 obtain ⟨t,e1⟩:=jV r1 (i:=j) (v:=its[j]) (by simp [h1'])
 obtain ⟨u,e2⟩:=jV r2 (i:=j) (v:=its2[j]) (by simp [h2'])
 have key:SeqAt.EqAt A s its[j] its2[j] (aP (.int (ns.getD j 0)) (.int (ms.getD j 0))):=mY ⟨t,e1⟩ ⟨u,e2⟩ rfl rfl
 have e:aP (.int (ns.getD j 0)) (.int (ms.getD j 0))=decide (ns.getD j 0=ms.getD j 0):=by
  show (ns.getD j 0 == ms.getD j 0)=_
  rfl
 rw [e] at key
 simpa using key
def rEqT (neg:Bool):R2:=fun x y H Q=>∃ (a b:Addr) (ns ms:List Int),x = .ref a∧y = .ref b∧H a=some (.tup (ns.map V.int))∧H b=some (.tup (ms.map V.int))∧Q (.bl (if neg then !decide (ns=ms) else decide (ns=ms))) H
theorem neT0 (hu:X.A.units < cLine):vU X (compareOp .NotEq) (rEqT true):=by
 intro pins s σ H x y v u Q I rx ry h
 obtain ⟨a,b,ns,ms,rfl,rfl,ha,hb,q⟩:=h
 cases rx
 cases ry
 obtain ⟨its,its2,p1,p2,l1,l2,he⟩:=eO I ha hb
 obtain ⟨⟨c1,d1,da1,sl1⟩,o1,k1,n1,g1⟩:=id p1
 obtain ⟨⟨c2,d2,da2,sl2⟩,o2,k2,n2,g2⟩:=id p2
 simp only at k1 g1 k2 g2
 subst k1 g1 k2 g2
 refine richCompare_meets_room (op:=.NotEq) ⟨_,o1,rfl⟩ ⟨_,o2,rfl⟩ F.slot_tuple_ne F.entry_tuple_ne (F.args_tuple_ne_2 _ _) (tuple_neAt a b its.toArray its2.toArray n1 n2 d1 d2 sl1 sl2 fun j=>decide (ns.getD j 0=ms.getD j 0)) ⟨o1,o2,fun j h1 h2=>he _ j h1 h2,?_⟩ hu
 refine ⟨(fun z=>nomatch z),⟨.bl (!decide (ns=ms)),H,I,?_,q⟩⟩
 rw [Ap,Ap,l1,l2,mS]
 rfl
theorem a_rEqT {neg:Bool}{x y:V}{H:Hp}{Q:VK}:rEqT neg x y H Q = ∃ (a b:Addr) (ns ms:List Int),x = .ref a∧y = .ref b∧H a=some (.tup (ns.map V.int))∧H b=some (.tup (ms.map V.int))∧Q (.bl (if neg then !decide (ns=ms) else decide (ns=ms))) H:=rfl
end
theorem rmul_tup (a:Int)(t:Tok)(l:Addr)(items:Array Value)(n:Nat)(dd:Option Addr)(sl:Array (Option Value)) :
  Meets (Builtin.«int.__rmul__» ⟨[.int a t,.ref l],[]⟩) (fun _ R s=>s.heap.get? l=some { cls:=.type "tuple",dict:=dd,data:=.seq items n,slots:=sl }∧R (.ok (.ret Value.notImplemented)) s) :=
 .of_wp fun prog w A R s h=>by
  obtain ⟨hp,g,d,tk,os⟩:=s
  obtain ⟨hl,h⟩:=h
  wp_walk
  exact ⟨_,rfl,h⟩
theorem mK:fillsNumberSlot (.type "tuple") "mul" = pure false :=
 PySem.fillsNumberSlot_seq (id := "tuple.__mul__") (r:=some (.builtin "tuple.__rmul__")) BX.lookup (by decide +kernel) F.slot_tuple_rmul.lookup (by decide +kernel)
theorem uZ:seqRepeat? (.type "tuple")=pure (some (.builtin "tuple.__mul__")):=by
 unfold seqRepeat?
 rw [PySem.seqSlot_of (T := "tuple") (name := "__mul__") (id := "tuple.__mul__") BX.lookup (by decide +kernel),PySem.seqSlot_of (T := "tuple") (name := "__rmul__") (id := "tuple.__rmul__") F.slot_tuple_rmul.lookup (by decide +kernel)]
 rfl
theorem mul_one (t:Addr)(items:Array Value)(n:Nat)(dd:Option Addr)(sl:Array (Option Value))(k:Int)(u:Tok)(h1:¬ (decide (k < -(2 ^ 63)) || decide (k ≥ 2 ^ 63))=true)(hc:(items.isEmpty || k == 1)=true) :
  Meets (Builtin.«tuple.__mul__» ⟨[.ref t,.int k u],[]⟩) (fun _ R s=>s.heap.get? t=some { cls:=.type "tuple",dict:=dd,data:=.seq items n,slots:=sl }∧R (.ok (.ret (.ref t))) s) :=
 .of_wp fun prog w A R s h=>by
  obtain ⟨hp,g,d,tk,os⟩:=s
  obtain ⟨hl,h⟩:=h
  wp_walk
  refine wpAny_ite_split (fun q=>absurd q h1) fun _=>?_
  wp_walk
  exact ⟨_,rfl,h⟩
theorem mul_nil (t:Addr)(items:Array Value)(n:Nat)(dd:Option Addr)(sl:Array (Option Value))(k:Int)(u:Tok)(h1:¬ (decide (k < -(2 ^ 63)) || decide (k ≥ 2 ^ 63))=true)(hc:¬ (items.isEmpty || k == 1)=true)(hn:(decide (k ≤ 0) || items.isEmpty)=true) :
  Meets (Builtin.«tuple.__mul__» ⟨[.ref t,.int k u],[]⟩) (fun _ R s=>s.heap.get? t=some { cls:=.type "tuple",dict:=dd,data:=.seq items n,slots:=sl }∧R (.ok (.ret (.ref s.heap.objs.size))) { s with heap:=s.heap.push { cls:=.type "tuple",data:=.seq #[] } }) :=
 .of_wp fun prog w A R s h=>by
  obtain ⟨hp,g,d,tk,os⟩:=s
  obtain ⟨hl,h⟩:=h
  wp_walk
  refine wpAny_ite_split (fun q=>absurd q h1) fun _=>?_
  wp_walk
  exact ⟨_,rfl,h⟩
theorem mul_more (t:Addr)(items:Array Value)(n:Nat)(dd:Option Addr)(sl:Array (Option Value))(k:Int)(u:Tok)(h1:¬ (decide (k < -(2 ^ 63)) || decide (k ≥ 2 ^ 63))=true)(hc:¬ (items.isEmpty || k == 1)=true)(hn:¬ (decide (k ≤ 0) || items.isEmpty)=true)
  (hm:¬ (items.size * k > (2 ^ 63 - 1) / 8)) (hl':¬ Builtin.Tuple.tupleTooMany (items.size * k)=true) (hsz:((List.replicate k.toNat items).foldl (· ++ ·) #[]).size ≤ sizeLine) :
  Meets (Builtin.«tuple.__mul__» ⟨[.ref t,.int k u],[]⟩) (fun _ R s=>s.heap.get? t=some { cls:=.type "tuple",dict:=dd,data:=.seq items n,slots:=sl }∧R (.ok (.ret (.ref s.heap.objs.size))) { s with heap:=s.heap.push { cls:=.type "tuple",data:=.seq ((List.replicate k.toNat items).foldl (· ++ ·) #[]) } }) :=
 .of_wp fun prog w A R s h=>by
  obtain ⟨hp,g,d,tk,os⟩:=s
  obtain ⟨hl,h⟩:=h
  wp_walk
  refine wpAny_ite_split (fun q=>absurd q h1) fun _=>?_
  wp_walk
  refine wpAny_ite_split (fun q=>absurd q hm) fun _=>?_
  wp_walk
  exact ⟨_,rfl,h⟩
section
variable {X:Cx}
def rMulT:R2:=fun x y H Q=>∃ (a:Addr) (k:Nat) (xs:List V),x = .ref a∧y = .int (k:Int)∧H a=some (.tup xs)∧xs.length * k ≤ 1000∧k ≤ 1000∧∀ (p:Addr) (H':Hp),Same H H'→H' p=some (.tup (List.replicate k xs).flatten)→Q (.ref p) H'
theorem mulT0:vU X (binaryOp .Mult) rMulT:=by
 intro pins s σ H x y v u Q I rx ry h
 obtain ⟨a,k,xs,rfl,rfl,ha,hz,hk,q⟩:=h
 cases rx
 obtain ⟨t,rfl⟩:=ry
 obtain ⟨its,r,p1,_⟩:=I.tuple (SqT.of ha)
 have hlen:=r.length
 obtain ⟨⟨c1,d1,da1,sl1⟩,e,k1,n1,g1⟩:=id p1
 simp only at k1 g1
 subst k1 g1
 have h1:¬ (decide ((k:Int) < -(2 ^ 63)) || decide ((k:Int) ≥ 2 ^ 63))=true:=by
  rw [Cc,AE,AE]
  omega
 refine wpAny_binaryOp_repeat_ref (T := "tuple") (U := "int") (by decide) ⟨_,e,rfl⟩ (fun s'=>typeIs_int s' (k:Int) t) mK F.fills_int_mul F.slot_int_rmul uZ F.slot_int_index.lookup
  (call_meets F.slot_int_rmul (typeIs_int s (k:Int) t) F.entry_int_rmul (F.args_int_rmul_2 _ _) (rmul_tup (k:Int) t a its.toArray n1 d1 sl1) ⟨e,rfl,⟨_,e,rfl⟩,?_⟩)
 by_cases hc:(its.toArray.isEmpty || (k:Int) == 1)=true
 ·refine call_meets BX ⟨_,e,rfl⟩ F.entry_tuple_mul (F.args_tuple_mul_2 _ _) (mul_one a its.toArray n1 d1 sl1 (k:Int) t h1 hc) ⟨e,⟨.ref a,H,I,rfl,q a H (Same.refl H) ?_⟩⟩
  rw [ha]
  congr 2
  rw [Cc] at hc
  rcases hc with hc | hc
  ·have:its=[]:=by simpa using hc
   have:xs=[]:=r.nil_iff.mp this
   subst this
   induction k with
   | zero=>simp
   | succ k ih=>simp
  ·have:k=1:=by have:=eq_of_beq hc;omega
   subst this
   simp
 ·have ne:¬ its.toArray.isEmpty=true:=fun z=>hc (by rw [z];rfl)
  by_cases hk0:k=0
  ·subst hk0
   refine call_meets BX ⟨_,e,rfl⟩ F.entry_tuple_mul (F.args_tuple_mul_2 _ _) (mul_nil a its.toArray n1 d1 sl1 ((0:Nat):Int) t h1 hc (by simp)) ⟨e,?_⟩
   have hf:=I.hok.fresh (Ag s.heap.objs.size)
   refine ⟨.ref s.heap.objs.size,upd H s.heap.objs.size (.tup []),I.laid (t':=s.toks) (fun b o z=>Ac _ z) (Ag _) ⟨AZ _,[],.nil,CB _ _⟩,rfl,q _ _ (jE hf) ?_⟩
   rw [qG]
   simp
  ·have fl:(List.replicate (k:Int).toNat its.toArray).foldl (· ++ ·) #[] = (List.replicate k its).flatten.toArray:=by
    have:=foldl_rep its k []
    rw [List.nil_append] at this
    rw [Ay]
    exact this
   have lr:(List.replicate k its).flatten.length=k * its.length:=len_rep its k
   have lx:(List.replicate k xs).flatten.length=k * xs.length:=len_rep xs k
   have hsm:k * its.length ≤ 1000:=by rw [← hlen,CQ];exact hz
   have cast:((its.toArray.size:Nat):Int) * (k:Int)=((its.length * k:Nat):Int):=by rw [Ap];norm_cast
   have hsm2:its.length * k ≤ 1000:=by rw [CQ];exact hsm
   refine call_meets BX ⟨_,e,rfl⟩ F.entry_tuple_mul (F.args_tuple_mul_2 _ _) (mul_more a its.toArray n1 d1 sl1 (k:Int) t h1 hc ?_ ?_ ?_ ?_) ⟨e,?_⟩
   ·rw [Cc,AE]
    rintro (z | z)
    ·omega
    ·exact ne z
   ·rw [cast];omega
   ·unfold Builtin.Tuple.tupleTooMany
    rw [cast,sizeLine_eq,AE]
    omega
   ·rw [fl,Ap,lr,sizeLine_eq]
    omega
   ·rw [fl]
    have hf:=I.hok.fresh (Ag s.heap.objs.size)
    refine ⟨.ref s.heap.objs.size,upd H s.heap.objs.size (.tup (List.replicate k xs).flatten),I.laid (t':=s.toks) (fun b o z=>Ac _ z) (Ag _) ⟨?_,(List.replicate k its).flatten,?_,CB _ _⟩,rfl,q _ _ (jE hf) qG⟩
    ·rw [lx,hlen,sizeLine_eq];omega
    ·exact r.rep k
theorem a_rMulT {x y:V}{H:Hp}{Q:VK}:rMulT x y H Q = ∃ (a:Addr) (k:Nat) (xs:List V),x = .ref a∧y = .int (k:Int)∧H a=some (.tup xs)∧xs.length * k ≤ 1000∧k ≤ 1000∧∀ (p:Addr) (H':Hp),Same H H'→H' p=some (.tup (List.replicate k xs).flatten)→Q (.ref p) H':=rfl
end
section
variable {X:Cx}
def plainE:Expr→Bool
 | .Starred _ _=>false
 | _=>true
theorem star_cons {e:Expr}{es:List Expr}{env:Env}(h:plainE e=true):starEach (e :: es) env=(false,eval e env) :: starEach es env:=by
 cases e <;> first | rfl | cases h
theorem qC {e:Expr}{es:List Expr}{te:TE}{t:TA}(ha:PE X e te)(hr:PA X es t)(hp:plainE e=true:=by rfl):PA X (e :: es) (tCons te t):=iV ha hr (star_cons hp)
theorem a_tChain {r r':R2}{ta tb tc:TE}{σ:St}{H:Hp}{Q:VK}:tChain r r' ta tb tc σ H Q=ta σ H fun x H1=>tb σ H1 fun y H2=>r x y H2 fun z H3=>∃ k,z = .bl k∧(if k=true then tc σ H3 fun w' H4=>r' y w' H4 Q else Q (.bl false) H3):=rfl
def tLstA (t:TA):TE:=fun σ H Q=>t σ H fun xs H1=>xs.length ≤ sizeLine∧∀ (p:Addr) (H2:Hp),H1 p=none→Same H1 H2→H2 p=some (.lst xs)→Q (.ref p) H2
theorem zK {es:List Expr}{t:TA}{pos:Pos}(h:PA X es t):PE X (.List es pos) (tLstA t):=by
 intro pins s σ H Q I hq
 refine wpAny_List_spliced (jU (h pos pins s σ H _ I hq) fun us s1 ⟨xs,H1,I1,r,z,q⟩=>⟨r.length ▸ z,?_⟩)
 have nf:=I1.hok.fresh (Ag s1.heap.objs.size)
 exact ⟨.ref s1.heap.objs.size,upd H1 s1.heap.objs.size (.lst xs),I1.laid (t':=s1.toks) (fun b u e=>Ac _ e) (Ag _) ⟨z,us,0,r,Aq _ rfl⟩,rfl,q _ _ nf (jE nf) qG⟩
theorem a_tLstA {t:TA}{σ:St}{H:Hp}{Q:VK}:tLstA t σ H Q=t σ H fun xs H1=>xs.length ≤ sizeLine∧∀ (p:Addr) (H2:Hp),H1 p=none→Same H1 H2→H2 p=some (.lst xs)→Q (.ref p) H2:=rfl
end
def tSeqL (t u:TS):TS:=tSeq t u
theorem qK {X:Cx}{st:Stmt}{sts:List Stmt}{t u:TS}(h:PS X st t)(hs:PSs X sts u):PSs X (st :: sts) (tSeqL t u):=kM h hs
section
variable {X:Cx}
theorem lc_entryU {N:List Str}{fr:List (Option Nat)}{e tg iter:Expr}{ifs:List Expr}{gs:List Comprehension}{sc:Scope}{ip pos':Pos}{cl:List (Str × Addr)}{wi:TI}{D:It→Addr→St→Hp→Prop}{pins:List (Addr × Obj)}{σ:St}{H:Hp}{s:Shared}{Q:VK}{i:Nat}{x:Str}
  (hN:X.N.Nodup) (hix:X.N[i]? = some x) (hx:Loc X.env.scope x) (hf:X.fn x=true∨X.env.scope.names.lookup x=some .local)
  (he:clausesOf e=⟨tg,iter,ifs,0⟩ :: gs) (hi:PI X tg iter wi) (S:CScope X N fr sc) (hcl:vS sc.names X.env.cells [] = some cl) (I:Inv X pins σ H s)
  (h:wi σ H fun J H1=>∀ p,H1 p=none→D J p (oK fr σ) (upd H1 p (.lst [])))
  (loop:∀ (it p:Addr) (fp:List Addr) (tn:Nat→Heap→Prop) (J:It) (s1 s2:Shared) (H1:Hp) (σ1:St),Turn X.prog X.w X.K tg J fp it tn→Inv (cD X N sc cl s1 H1 fp) [] σ1 H1 s2→tn 0 s2.heap→(∀ b ∈ fp,vT (cD X N sc cl s1 H1 fp) [] H1 b)→D J p σ1 H1 →
   codeAny (model X.prog X.w) X.A (.compStart e 0 (.ref it) (.ref p) (compEnvC sc cl s1.heap.objs.size X.env)) (fun r s'=>r = .ok .next∧∃ σ' H',Inv (cD X N sc cl s1 H1 fp) [] σ' H' s'∧Q (.ref p) H') s2)
  (hs:∀ x,foldedSetIterable iter X.env x=pure x) :
  wpAny (model X.prog X.w) X.A (comprehension e sc X.env ip (newList []) false (eval iter X.env) (some (assign (.Name x pos') X.env))) (fun _ s'=>∃ v H',Inv X pins (σ.set i (some v)) H' s'∧Q v H') X.xe s:=by
 refine wpAny_comprehension_free (use:=some (assign (.Name x pos') X.env)) he hs (vO hcl) S.kind S.loc ?_
 refine jU (hi pins s σ H _ I h) fun v s1 h1=>jU h1 fun itv s2 ⟨it,fp,tn,J,H2,e2,I2,T,st2,f2,q⟩=>?_
 subst e2
 refine wpAny_newObj_type ?_
 have hp:H2 s2.heap.objs.size=none:=I2.hok.fresh (Ag _)
 have I3:Inv X pins σ (upd H2 s2.heap.objs.size (.lst [])) { s2 with heap:=s2.heap.push { cls:=.type "list",data:=.seq ([] : List Value).toArray },toks:=s2.toks }:=I2.lnew (its:=[]) (ys:=[]) .nil (AZ _)
 have lt2:∀ b ∈ fp,b < s2.heap.objs.size:=fun b hb=>let ⟨o,e,_⟩:=T.obj 0 _ st2 b hb;Au e
 have f3:∀ b ∈ fp,vT X pins (upd H2 s2.heap.objs.size (.lst [])) b:=fun b hb=>⟨by rw [qT (AA (lt2 b hb))];exact (f2 b hb).1,(f2 b hb).2⟩
 have st3:tn 0 (s2.heap.push { cls:=.type "list",data:=.seq ([] : List Value).toArray }):=T.keep _ _ _ st2 fun b _ o e=>Ac _ e
 refine wpAny_newFunctionEnv S.nocell (by intro y hy;simp at hy) (fun h₁ hns₁ hsb₁=>?_) S.kind
 generalize hs3:({ s2 with heap:=s2.heap.push { cls:=.type "list",data:=.seq ([] : List Value).toArray } }:Shared)=s3 at hns₁ hsb₁ ⊢
 have I3':Inv X pins σ (upd H2 s2.heap.objs.size (.lst [])) s3:=by rw [← hs3];exact I3
 have st3':tn 0 s3.heap:=by rw [← hs3];exact st3
 have lt3:∀ b ∈ fp,b < s3.heap.objs.size:=fun b hb=>let ⟨o,e,_⟩:=T.obj 0 _ st3' b hb;Au e
 have hk:∀ b u,s3.heap.get? b=some u→h₁.get? b=some u:=fun b u e=>hsb₁.extBut b u (AA (Au e)) (Ac _ e)
 have hns:h₁.Ns s3.heap.objs.size (fun _=>none):=by simpa using hns₁
 have B:=I3'.block (N:=N) (fr:=fr) (sc:=sc) (cl:=cl) (ex:=fp) (h1:=h₁) (tk:=s3.toks + ([] : List (Str × Value)).length) S hcl (fun b hb=>⟨f3 b hb,lt3 b hb⟩) hns hk
 have stB:tn 0 h₁:=T.keep _ _ _ st3' fun b _ o e=>hk b o e
 have fC:vT X pins (upd H2 s2.heap.objs.size (.lst [])) s3.heap.objs.size:=I3'.fpOk (Ag _) (I3'.hok.fresh (Ag _))
 refine codeAny_mono (loop it s2.heap.objs.size fp tn J s3 _ (upd H2 s2.heap.objs.size (.lst [])) (oK fr σ) T B stB (fun b hb=>?_) (q _ hp)) fun r s' hr=>?_
 ·obtain ⟨f0,f1,f2',f3',f4,f5⟩:=f3 b hb
  refine ⟨f0,AA (lt3 b hb),fun z=>?_,.inl hb,fun x c e=>f4 x c (jQ hcl e),fun p hp'=>absurd (show p ∈ ([] : List (Addr × Obj)) from hp') (by simp)⟩
  rcases Ax.mp (I3'.stkSub b z) with e | e
  ·exact f1 e
  ·exact f2' e
 ·obtain ⟨rfl,σ',H',J',q'⟩:=hr
  have I5:Inv X pins σ H' s':=I3'.unblock (h':=s'.heap) J' f3 ⟨rfl,fun _ _=>rfl⟩
  show wpAny _ X.A (assign (.Name x pos') X.env (.ref s2.heap.objs.size)) _ X.xe s'
  refine wpAny_assign_Name (nQ (v:=.ref s2.heap.objs.size) I5 hN hix hx rfl (fun s4 I6 ⟨a,sb,ha⟩=>?_) hf)
  obtain ⟨m,hn,_⟩:=J'.loc
  have free:H' s3.heap.objs.size=none:=J'.free
  obtain ⟨g0,g1,g2,g3,g4,g5⟩:=fC
  have aC:s3.heap.objs.size ≠ a:=by
   rcases ha with rfl | ha
   ·exact g1
   ·exact fun z=>g4 x a ha z.symm
  refine ⟨m,hn.sameBut sb aC,fun h' sb'=>⟨.ref s2.heap.objs.size,H',?_,q'⟩⟩
  refine I6.turnedN (fp:=[s3.heap.objs.size]) (fun b hb=>?_) fun c o hc e=>sb'.extBut _ _ (fun z=>hc (AJ.mpr z)) e
  have eb:b=s3.heap.objs.size:=by simpa using hb
  subst eb
  exact ⟨free,g1,g2,g3,g4,g5⟩
theorem tD {N:List Str}{fr:List (Option Nat)}{tg iter elt:Expr}{ifs:List Expr}{sc:Scope}{pos pos' cpos:Pos}{cl:List (Str × Addr)}{wi:TI}{g:TG}{tc:TT}{te:TE}{i:Nat}{x:Str}(hN:X.N.Nodup)(hix:X.N[i]? = some x)(hx:Loc X.env.scope x)
  (hc:X.calm=true) (hi:PI X tg iter wi) (S:CScope X N fr sc) (hcl:vS sc.names X.env.cells [] = some cl)
  (hb:∀ s H ex,PG (cD X N sc cl s H ex) tg g∧uE (cD X N sc cl s H ex) ifs tc∧PE (cD X N sc cl s H ex) elt te) (hsw:swapsWith (.ListComp elt [⟨tg,iter,ifs,0⟩] sc cpos) (some (.Name x pos')) pos.line X.env=pure true:=by rfl)
  (hs:∀ x,foldedSetIterable iter X.env x=pure x:=by intro _;rfl) (hf:X.fn x=true∨X.env.scope.names.lookup x=some .local:=by first | exact .inl rfl | exact .inr rfl | assumption) :
  PS X (.Assign [.Name x pos'] (.ListComp elt [⟨tg,iter,ifs,0⟩] sc cpos) pos) (tAsg (tLC fr wi g tc te) (zU i)):=by
 intro pins s σ H D I h
 rw [exec_Assign_Name_used _ _ _ _ hsw]
 refine wpAny_bind (wpAny_standAt (wpAny_bind ?_))
 show wpAny _ X.A (do let _ ← comprehension (.ListComp elt [⟨tg,iter,ifs,0⟩] sc cpos) sc X.env _ (newList []) false (eval iter X.env) (some (assign (.Name x pos') X.env))) _ _ s
 refine wpAny_bind (jU (lc_entryU (Q:=fun v H2=>D.nx (σ.set i (some v)) H2) (D:=fun J p σ1 H1=>uP J g tc (dC p te) (fun _ H2=>D.nx (σ.set i (some (.ref p))) H2) σ1 H1) hN hix hx hf rfl hi S hcl I h (fun it p fp tn J s1 s2 H1 σ1 T B st f d=>?_) hs) fun _ s' ⟨v,H',I',q'⟩=>wpAny_pure (wpAny_pure ⟨_,H',I',q'⟩))
 obtain ⟨hg,hifs,helt⟩:=hb s1 H1 fp
 have L:=g9 (X:=cD X N sc cl s1 H1 fp) (e:=.ListComp elt [⟨tg,iter,ifs,0⟩] sc cpos) (d:=0) (acc:=.ref p) (D:=fun _ H2=>D.nx (σ.set i (some (.ref p))) H2) (s:=s2) hc rfl (compTurn_list elt tg iter ifs sc cpos (.ref it) (.ref p) _) rfl rfl rfl T hg hifs (p6 helt) B st f d
 exact codeAny_compStart_list L (T.self X.A 0 s2 _ _ st L)
end
theorem fY:bootBuiltins "enumerate" = some (.type "enumerate"):=by decide +kernel
def Itr1 (h:Heap)(c:String)(it l:Addr)(k:Nat):Prop:=(c = "list_iterator" ∧ h.IsListIter it l k)∨(c = "tuple_iterator" ∧ h.IsTupleIter it l k)
theorem lW {prog:Program}{w:World}{A:Around}(hh:A.handled=none)(c:String)(it l:Addr)(ne:l ≠ it)(xs:Array Value):Draws prog w A it [it,l] xs.size (fun i v=>xs[i]? = some v) (fun i h=>Src h c it l xs i) where
 live:=fun _ _ st=>let ⟨o,ho,_⟩:=st.itlt;⟨o,ho⟩
 frame:=fun _ _ _ st hk=>st.at (fun o e=>hk it (by simp) o e) fun o e=>hk l (by simp) o e
 item:=fun i s Q E hi st hQ=>xV st ne (x:=xs[i]) (by simp [hi]) fun h' st' sb=>hQ _ h' s.toks (by simp [hi]) st' sb
 done:=fun s Q E st hE=>mJ hh st (by simp) hE
theorem enum_newT (l:Addr)(items:Array Value)(n:Nat)(dct:Option Addr)(sl:Array (Option Value)) :
  Meets (Builtin.«enumerate.__new__» ⟨[.type "enumerate",.ref l],[]⟩) (fun _ R s=>s.heap.get? l=some { cls:=.type "tuple",dict:=dct,data:=.seq items n,slots:=sl }∧R (.ok (.ret (.ref (s.heap.push { cls:=.type "tuple_iterator",data:=.fields #[.ref l,.int 0 0] }).objs.size)))
    { s with heap:=(s.heap.push { cls:=.type "tuple_iterator",data:=.fields #[.ref l,.int 0 0] }).push { cls:=.type "enumerate",data:=.fields #[.none,.bool false,.ref s.heap.objs.size,rawInt 0,.none,.none] } }) :=
 .of_wp fun prog w A R s h=>by
  obtain ⟨hp,g,d,tk,os⟩:=s
  obtain ⟨hl,h⟩:=h
  have sub:=sub_enumerate
  have isT:Heap.IsTuple (Shared.heap ⟨hp,g,d,tk,os⟩) l items:=⟨_,hl,rfl,n,rfl⟩
  wp_walk using Bp hl
  refine wpAny_stack_any fun st=>wpAny_pure ?_
  split
  ·rename_i c _ _ _ _ _
   cases (c == Value.type "enumerate") <;> (wp_walk using Bp hl,wpAny_pyIter_tuple isT;exact ⟨_,rfl,h⟩)
  ·wp_walk using Bp hl,wpAny_pyIter_tuple isT
   exact ⟨_,rfl,h⟩
section
variable {prog:Program}{w:World}{A:Around}{E:Value→Shared→Prop}{s:Shared}
theorem call_enum {c:String}{l:Addr}{xs:Array Value}{Q:Value→Shared→Prop}(x:SeqOf s.heap c l xs)
  (h:∀ h',IsEnum h' (s.heap.objs.size + 1) s.heap.objs.size 0 .none→Itr1 h' c s.heap.objs.size l 0→(∀ b o,s.heap.get? b=some o→h'.get? b=some o)→Q (.ref (s.heap.objs.size + 1)) { s with heap:=h' }):wpAny (model prog w) A (call (.type "enumerate") [.ref l]) Q E s:=by
 rcases x with ⟨rfl,x⟩ | ⟨rfl,x⟩
 ·exact call_enumerate_list x fun h' he hi _ k=>h h' he (.inl ⟨rfl,hi⟩) k
 ·obtain ⟨⟨c,dct,dt,sl⟩,hl,hc,n,hd⟩:=x
  cases (show c = .type "tuple" from hc)
  cases (show dt = .seq xs n from hd)
  refine callType_new F.called_enumerate (by decide) (F.typeCall_enumerate_1 _) (F.newCall_enumerate_1 _) (fun obj=>F.args_object_init_2 obj _) F.entry_enumerate_new (enum_newT l xs n dct sl) ⟨hl,?_⟩
  have size1:(s.heap.push { cls:=.type "tuple_iterator",data:=.fields #[.ref l,.int 0 0] }).objs.size=s.heap.objs.size + 1:=Bf ..
  show _∧_
  rw [size1]
  have made:=Aq (s.heap.push { cls:=.type "tuple_iterator",data:=.fields #[.ref l,.int 0 0] }) (o:={ cls:=.type "enumerate",data:=.fields #[.none,.bool false,.ref s.heap.objs.size,rawInt 0,.none,.none] }) rfl
  rw [size1] at made
  exact ⟨⟨_,made,rfl⟩,h _ made (.inr ⟨rfl,_,Ac _ (Aq _ rfl),rfl,rfl⟩) fun b o z=>Ac _ (Ac _ z)⟩
end
def Ite (c:String)(l:Addr)(xs:List V):It:=⟨fun i H=>wY H c l xs∧i < xs.length,fun i H x H'=>∃ T v,x = .ref T∧H T=none∧H'=upd H T (.tup [.int (i:Int),v])∧xs[i]? = some v,fun i H=>wY H c l xs∧i=xs.length⟩
theorem turn_enum {P:Program}{w:World}{K:PySem.W.Frag}{es:List Expr}{tk:_}{tp:Pos}(e it l:Addr)(c:String)(xs:List V)(hei:e ≠ it)(hle:l ≠ e)(hli:l ≠ it) :
  Turn P w K (.Tuple es tk tp) (Ite c l xs) [e,it] e (fun i h=>(∃ old,IsEnum h e it (i:Int) old)∧Itr1 h c it l i) where
 mem:=by simp
 obj:=fun i h st b hb=>by
  obtain ⟨⟨old,he⟩,hi⟩:=st
  simp only [Ax,BY,or_false] at hb
  rcases hb with rfl | rfl
  ·exact ⟨_,he,fun v q=>by cases (show Data.fields _=Data.cell v from q)⟩
  ·exact wU hi
 keep:=fun i h h' st k=>by
  obtain ⟨⟨old,he⟩,hi⟩:=st
  exact ⟨⟨old,k e (by simp) _ he⟩,vL hi fun o q=>k it (by simp) o q⟩
 item:=by
  intro X hP hw hK hc i pins s σ H E I hf st hg
  subst hP hw hK
  obtain ⟨q1,hi1⟩:=hg
  obtain ⟨its,r1,e1⟩:=I.seqOf q1
  obtain ⟨x,hx⟩:=xZ hi1
  obtain ⟨u,hu,ru⟩:=r1.get hx
  obtain ⟨⟨old,he⟩,hi⟩:=id st
  have hl:=r1.length
  have hlt:i < its.toArray.size:=by rw [Ap,← hl];exact hi1
  refine wpAny_pyNext_enum_itemD (lW (A:=X.A.in1) (I.ok.hd hc) c it l hli its.toArray) he (yP hi e1) hlt hei (by simp;exact ⟨hei,hle.symm⟩) fun y h' tk' hy out st' new size k=>?_
  have yu:y=u:=by
   have hu':its.toArray[i]? = some u:=by simpa using hu
   have hy':its.toArray[i]? = some y:=hy
   rw [hu'] at hy'
   exact (AH hy').symm
  subst yu
  refine ⟨_,rfl,wpAny_letOwnedTupleGo_enum out fun h'' z'' sb=>?_⟩
  have lt:∀ b ∈ [e,it],b < s.heap.objs.size:=fun b hb=>by
   simp only [Ax,BY,or_false] at hb
   rcases hb with rfl | rfl
   ·exact Au he
   ·obtain ⟨o,q,_⟩:=wU hi;exact Au q
  have nT:s.heap.objs.size ∉ [e,it]:=fun hb=>AQ _ (lt _ hb)
  have nTe:s.heap.objs.size ≠ e:=fun q=>nT (by simp [q])
  have J:=I.turnedT (fp:=[e,it]) (h':=h'') (T:=s.heap.objs.size) (xs:=[.int (i:Int),x]) (us:=[.int i tk',y]) (t':=tk' + 1) hf (fun b o hb q=>sb.extBut _ _ (fun z=>hb (by simp [z])) (k b o (fun z=>hb (by simp [z])) (fun z=>hb (by simp [z])) q)) (Ag _) (by show 2 ≤ sizeLine;decide) (.cons ⟨tk',rfl⟩ (.cons ru .nil))
   ⟨_,sb.extBut _ _ nTe new,rfl,_,rfl⟩ nT
  refine ⟨.ref s.heap.objs.size,_,J,rfl,⟨_,x,rfl,I.hok.fresh (Ag _),rfl,hx⟩,⟨⟨y,z''⟩,vL (xU st') fun o q=>sb.extBut _ _ hei.symm q⟩,fun b hb=>?_⟩
  rw [qT (AA (lt b hb))]
  exact (hf b hb).1
 done:=by
  intro X hP hw hK hc i pins s σ H E I hf st hg
  subst hP hw hK
  obtain ⟨q1,hend⟩:=hg
  obtain ⟨its,r1,e1⟩:=I.seqOf q1
  obtain ⟨⟨old,he⟩,hi⟩:=id st
  have hl:=r1.length
  have si:Src s.heap c it l its.toArray its.toArray.size:=by
   have:=yP hi e1
   rw [hend,hl] at this
   simpa using this
  refine wpAny_pyNext_enum_endD (lW (A:=X.A.in1) (I.ok.hd hc) c it l hli its.toArray) he si fun h' k=>?_
  exact ⟨rfl,I.turnedN (fp:=[e,it]) hf fun b o hb q=>k b o (fun z=>hb (by simp [z])) q⟩
 self:=fun A i s Q E st h=>by
  obtain ⟨⟨old,he⟩,hi⟩:=st
  exact wpAny_pyIter_enum he h
section
variable {X:Cx}
def iEnum (ta:TA):TI:=fun σ H R=>ta σ H fun vs H1=>∃ l c xs,vs=[.ref l]∧wY H1 c l xs∧R (Ite c l xs) H1
theorem yK {es:List Expr}{kk:_}{tp:Pos}{a:Expr}{ta:TA}{p pos:Pos}(hg:Gl X "enumerate") (hm:X.mg "enumerate" = none) (ha:PA X [a] ta) (hs:starEach [a] X.env=[(false,eval a X.env)]:=by rfl):PI X (.Tuple es kk tp) (.Call (.Name "enumerate" p) [a] [] pos) (iEnum ta):=by
 intro pins s σ H R I h
 refine Call_ (dZ I hg hm fY (Bg (jU (ha pos pins s σ H _ I h) fun us s1 ⟨vs,H1,I1,r1,q1⟩=>?_) hs rfl))
 obtain ⟨l,c,xs,e,k1,q⟩:=q1
 subst e
 obtain ⟨u,rfl,ru⟩:=r1.one
 cases ru
 obtain ⟨its,v1,o1⟩:=I1.seqOf k1
 have lt1:(l:Nat) < (s1.heap.objs.size:Nat):=o1.lt
 refine call_enum o1 fun h' he hi old=>wpAny_pyIter_enum he ?_
 have J:Inv X pins σ H1 { s1 with heap:=h' }:=I1.kept (t':=s1.toks) old
 refine ⟨s1.heap.objs.size + 1,_,_,_,H1,rfl,J,turn_enum (s1.heap.objs.size + 1) s1.heap.objs.size l c xs (Nat.succ_ne_self _) (AA (Cn lt1)) (AA lt1),⟨⟨_,he⟩,hi⟩,fun b hb=>?_,q⟩
 have hb':s1.heap.objs.size ≤ b:=by
  simp only [Ax,BY,or_false] at hb
  rcases hb with rfl | rfl <;> omega
 exact I1.fpOk hb' (I1.hok.fresh hb')
theorem a_iEnum {ta:TA}{σ:St}{H:Hp}{R:It→Hp→Prop}:iEnum ta σ H R=ta σ H fun vs H1=>∃ l c xs,vs=[.ref l]∧wY H1 c l xs∧R (Ite c l xs) H1:=rfl
end
theorem cE {c:String}{l:Addr}{xs:List V}{g:TG}{tc:TT}{tb:TB}{D:St→Hp→Prop}{σ:St}{H:Hp}(Pv:Nat→St→Hp→Prop)(h0:Pv 0 σ H)(hl:∀ i σ H,Pv i σ H→wY H c l xs)
  (hs:∀ (i:Nat) v (T:Addr) σ H H',xs[i]? = some v→Pv i σ H→H T=none→Same H H'→H' T=some (.tup [.int (i:Int),v])→g (.ref T) σ H' fun σ2 H2=>tc σ2 H2 fun b H3=>if b=true then tb σ2 H3 (Pv (i + 1)) else Pv (i + 1) σ2 H3)
  (hd:∀ σ H,Pv xs.length σ H→D σ H):uP (Ite c l xs) g tc tb D σ H:=by
 refine ⟨fun i m σ H=>m=xs.length - i∧i ≤ xs.length∧Pv i σ H,⟨xs.length,by simp,AZ _,h0⟩,?_⟩
 rintro i m σ H ⟨rfl,hi,p⟩
 have q:=hl i σ H p
 by_cases hlt:i < xs.length
 ·refine .inr ⟨⟨q,hlt⟩,Pv (i + 1),fun σ' H' p'=>⟨xs.length - (i + 1),by omega,rfl,hlt,p'⟩,fun x H' y=>?_⟩
  obtain ⟨T,v,rfl,n,rfl,e⟩:=y
  exact hs i v T σ H _ e p n (jE n) qG
 ·have e:i=xs.length:=by omega
  subst e
  exact .inl ⟨⟨q,rfl⟩,hd σ H p⟩
theorem cC {c:String}{l:Addr}{xs:List V}{g:TG}{tb:TS}{D:Ends}{σ:St}{H:Hp}(Pv:Nat→St→Hp→Prop)(h0:Pv 0 σ H)(hl:∀ i σ H,Pv i σ H→wY H c l xs)
  (hs:∀ (i:Nat) v (T:Addr) σ H H',xs[i]? = some v→Pv i σ H→H T=none→Same H H'→H' T=some (.tup [.int (i:Int),v])→g (.ref T) σ H' fun σ2 H2=>tb { D with nx:=Pv (i + 1),ct:=Pv (i + 1),bk:=D.nx } σ2 H2)
  (hd:∀ σ H,Pv xs.length σ H→D.nx σ H):FL (Ite c l xs) g tb D σ H:=by
 refine ⟨fun i m σ H=>m=xs.length - i∧i ≤ xs.length∧Pv i σ H,⟨xs.length,by simp,AZ _,h0⟩,?_⟩
 rintro i m σ H ⟨rfl,hi,p⟩
 have q:=hl i σ H p
 by_cases hlt:i < xs.length
 ·refine .inr ⟨⟨q,hlt⟩,Pv (i + 1),fun σ' H' p'=>⟨xs.length - (i + 1),by omega,rfl,hlt,p'⟩,fun x H' y=>?_⟩
  obtain ⟨T,v,rfl,n,rfl,e⟩:=y
  exact hs i v T σ H _ e p n (jE n) qG
 ·have e:i=xs.length:=by omega
  subst e
  exact .inl ⟨⟨q,rfl⟩,hd σ H p⟩
section
variable {X:Cx}
end
def g1 {α:Type}:List α→List α
 | [a]=>[a]
 | _=>[]
def g2 {α:Type}:List α→List α
 | [a,b]=>[a,b]
 | _=>[]
theorem m8 {P:Program}{w:World}{K:PySem.W.Frag}{mg:Str→Option Value}{base:Heap}{x:Str}{st:Stmt}{f:Addr}{fd:FuncData}{ps:List Str}{k:Nat}{sp:Sp}(F:Fun K x x st f fd)(ok:FnOk P w K mg base CX0 k f fd ps sp)(hm:mg x=some (.ref f))(hb:Binds K fd ps []):kL P w K mg base x ps k sp:=⟨f,fd,ok,hm,F.kp,hb⟩
section
variable {X:Cx}
theorem t4 {pins:List (Addr × Obj)}{σ:St}{H:Hp}{s:Shared}{A:Around}{a b:Addr}{ns ms:List Int}(I:Inv X pins σ H s)(ha:H a=some (.tup (ns.map V.int)))(hb:H b=some (.tup (ms.map V.int)))(hu:A.units < cLine):SeqAt.EqAt A s (.ref a) (.ref b) (decide (ns=ms)):=by
 by_cases hab:a=b
 ·subst hab
  rw [ha] at hb
  have e:ns.map V.int=ms.map V.int:=by injection hb with h;injection h
  have:ns=ms:=Ce (fun _ _ h=>by injection h) |>.mp e
  rw [Ar this]
  exact C4 _
 ·obtain ⟨its,its2,p1,p2,l1,l2,he⟩:=eO I ha hb
  have r:=SeqAt.RcAt.tuples (A:=A) (s:=s) (show s.heap.IsTuple a its.toArray from p1) (show s.heap.IsTuple b its2.toArray from p2) hu (fun j h1 h2=>he _ j h1 h2)
  rw [Ap,Ap,l1,l2,mS] at r
  exact SeqAt.EqAt.of_refs hab r
end
section
variable {X:Cx}
def tPop0 (to:TE)(t:TA):TE:=fun σ H Q=>to σ H fun x H1=>∃ l xs0,x = .ref l∧H1 l=some (.lst xs0)∧t σ H1 fun vs H2=>∃ (y:V) (ys:List V),vs=[.int 0]∧H2 l=some (.lst (y :: ys))∧Q y (upd H2 l (.lst ys))
theorem pe_pop0 {o e:Expr}{to:TE}{t:TA}{apos cpos:Pos}(ho:PE X o to)(ha:PA X [e] t)(hbase:attributeBase o "pop" X.env (eval o X.env)=eval o X.env:=by rfl)
  (hfew:((backTo cpos (starEach [e] X.env)).all (fun x=>!x.1) && (backToKw cpos (keywordEach [] X.env)).all (fun x=>x.1.isSome) && decide ([e].length + ([] : List Keyword).length + (if ([] : List Keyword).isEmpty then 0 else 1) < 30))=true:=by rfl)
  (hline:(apos.endLine == cpos.line)=true:=by rfl) (hs:starEach [e] X.env=(false,eval e X.env) :: starEach [] X.env:=by rfl):PE X (.Call (.Attribute o "pop" apos) [e] [] cpos) (tPop0 to t):=by
 intro pins s σ H Q I h
 refine wpAny_Call_method_late hbase hfew hline rfl (jU (ho pins s σ H _ I h) fun v s1 ⟨x,H1,I1,r1,q1⟩=>?_)
 obtain ⟨l,xs0,rfl,hl,q1⟩:=q1
 have ty:tyV X.K "list" (.ref l) H1:=.inl ⟨rfl,_,SqL.of hl⟩
 obtain ⟨h1,h2⟩:=tyV_is I1 r1 ty
 refine ⟨"list", "list.pop",PySem.F.plainAttrs_list,PySem.F.slot_list_pop,PySem.F.type_list_pop,h1,h2,?_⟩
 have hA:=ha cpos pins s1 σ H1 _ I1 q1
 rw [hs] at hA ⊢
 refine Calls.callWith_builtin (by rfl) (Calls.evalArgs_plain ?_)
 exact jU hA fun us s2 ⟨vs,H2,I2,r2,y,ys,e,k,q⟩=>mt_popAt pins s2 σ H2 (.ref l) vs v us Q I2 r1 r2 ⟨l,y :: ys,0,0,y,rfl,e,k,by decide,by decide,by simp [seqIndex?],rfl,q⟩
theorem a_tPop0 {to:TE}{t:TA}{σ:St}{H:Hp}{Q:VK}:tPop0 to t σ H Q=to σ H fun x H1=>∃ l xs0,x = .ref l∧H1 l=some (.lst xs0)∧t σ H1 fun vs H2=>∃ (y:V) (ys:List V),vs=[.int 0]∧H2 l=some (.lst (y :: ys))∧Q y (upd H2 l (.lst ys)):=rfl
theorem listS0:zY X (.type "list") (fun xs H Q=>∃ p ys,xs=[.ref p]∧SqL X.K H p ys∧∀ (l:Addr) (H2:Hp),H l=none→Same H H2→H2 l=some (.lst ys)→Q (.ref l) H2):=by
 intro pins s σ H xs us Q I r h
 obtain ⟨p,ys,e,hq,q⟩:=h
 exact rN pins s σ H xs us Q I r ⟨p,ys,e,.inl hq,fun l n=>q l _ n (jE n) qG⟩
end
section
variable {X:Cx}
def iS0 (tl:TE):TI:=fun σ H R=>tl σ H fun x H1=>∃ a xs o,x = .ref a∧(o=HO.tup xs∨o=HO.lst xs)∧H1 a=some o∧R (eC (fun H=>H a=some o) xs) H1
theorem pi_s0 {tg l:Expr}{tl:TE}(hl:PE X l tl):PI X tg l (iS0 tl):=by
 intro pins s σ H R I h
 refine jU (hl pins s σ H _ I h) fun v s1 ⟨x,H1,I1,r1,q1⟩=>?_
 obtain ⟨a,xs,o,e,ho,hq,q⟩:=q1
 subst e
 cases r1
 rcases ho with rfl | rfl
 ·skip
  obtain ⟨its,rv,p,hz⟩:=I1.tuple (SqT.of hq)
  refine wpAny_pyIter_tuple (show s1.heap.IsTuple a its.toArray from p) ?_
  refine ⟨s1.heap.objs.size,[s1.heap.objs.size],_,_,H1,rfl,I1.kept (t':=s1.toks) fun b o e=>Ac _ e,(cG a _).weak (J':=eC (fun H=>H a=some (.tup xs)) xs) (fun i H ⟨k,hi⟩=>?_) (fun i H ⟨k,hi⟩=>⟨xs,SqT.of k,hi⟩) (fun i H x H' ⟨k,hi⟩ ⟨y1,y2⟩=>⟨y1,y2 xs (SqT.of k)⟩),⟨_,Aq _ rfl,rfl,rfl⟩,fun b hb=>?_,q⟩
  ·obtain ⟨x,hx⟩:=xZ hi
   exact ⟨xs,x,SqT.of k,hx⟩
  ·have e:b=s1.heap.objs.size:=by simpa using hb
   subst e
   exact I1.fpOk (Ag _) (I1.hok.fresh (Ag _))
 ·skip
  obtain ⟨its,rv,p,hz⟩:=I1.list (SqL.of hq)
  refine wpAny_pyIter_list p.isList ?_
  refine ⟨s1.heap.objs.size,[s1.heap.objs.size],_,_,H1,rfl,I1.kept (t':=s1.toks) fun b o e=>Ac _ e,(nN a _).weak (J':=eC (fun H=>H a=some (.lst xs)) xs) (fun i H ⟨k,hi⟩=>?_) (fun i H ⟨k,hi⟩=>⟨xs,SqL.of k,hi⟩) (fun i H x H' ⟨k,hi⟩ ⟨y1,y2⟩=>⟨y1,y2 xs (SqL.of k)⟩),⟨_,Aq _ rfl,rfl,rfl⟩,fun b hb=>?_,q⟩
  ·obtain ⟨x,hx⟩:=xZ hi
   exact ⟨xs,x,SqL.of k,hx⟩
  ·have e:b=s1.heap.objs.size:=by simpa using hb
   subst e
   exact I1.fpOk (Ag _) (I1.hok.fresh (Ag _))
theorem a_iS0 {tl:TE}{σ:St}{H:Hp}{R:It→Hp→Prop}:iS0 tl σ H R=tl σ H fun x H1=>∃ a xs o,x = .ref a∧(o=HO.tup xs∨o=HO.lst xs)∧H1 a=some o∧R (eC (fun H=>H a=some o) xs) H1:=rfl
end
section
variable {X:Cx}
def tRevL (te:TE):TE:=fun σ H Q=>te σ H fun x H1=>∃ a xs,x = .ref a∧H1 a=some (.lst xs)∧∀ (p:Addr) (H':Hp),H1 p=none→Same H1 H'→H' p=some (.lst xs.reverse)→Q (.ref p) H'
theorem pe_revL {e m:Expr}{te tm:TE}{pos p2:Pos}(he:PE X e te)(hm:PE X m tm)(hv:∀ σ H (Q:VK),Q (.int (-1)) H→tm σ H Q):PE X (.Subscript e (.Slice none none (some m) p2) pos) (tRevL te):=by
 intro pins s σ H Q I h
 refine Subscript_ (jU (he pins s σ H _ I h) fun v s1 ⟨x,H1,I1,r1,q1⟩=>?_)
 refine wpAny_Slice ?_
 rw [evalPart_none]
 refine wpAny_pure (wpAny_pure ?_)
 rw [evalPart_some]
 refine jU (hm pins s1 σ H1 (fun x H2=>x = .int (-1)∧H2=H1) I1 (hv _ _ _ ⟨rfl,rfl⟩)) fun vu s3 ⟨y,H3,I3,r3,e3,e4⟩=>?_
 subst e3 e4
 obtain ⟨tk,rfl⟩:=r3
 obtain ⟨a,xs,rfl,hx,q⟩:=q1
 cases r1
 have I4:Inv X pins σ H3 { s3 with heap:=s3.heap.push { cls:=.type "slice",data:=.fields #[.none,.none,.int (-1) tk] } }:=I3.kept (t':=s3.toks) fun b ob q=>Ac _ q
 obtain ⟨its,r,ht,hz⟩:=I4.list (SqL.of hx)
 have hlen:its.toArray.size=xs.length:=by rw [Ap];exact r.length.symm
 show wpAny (model X.prog X.w) X.A (subscriptTail e (.Slice none none (some m) p2) (.ref a) (.ref s3.heap.objs.size)) (EP X pins σ Q) X.xe { s3 with heap:=s3.heap.push { cls:=.type "slice",data:=.fields #[.none,.none,.int (-1) tk] } }
 refine tail_any (ops:=[.ref a,.ref s3.heap.objs.size]) ht.isList.typeIs slot_list_getitem.lookup (wpAny_getItem_list_slice ht.isList (Heap.IsSliceOf.new ..) .none .none (IsPart.int _ _) (by decide) ?_ (by rw [hlen];exact hz)) (by with_unfolding_all rfl)
 rw [PySem.W.krv_pick]
 have hf:=I4.hok.fresh (Ag _)
 refine ⟨.ref _,_,I4.laid (t':=s3.toks) (o:=.lst xs.reverse) (fun b ob q=>Ac _ q) (Ag _) ?_,rfl,q _ _ hf (jE hf) qG⟩
 exact ⟨by rw [List.length_reverse];exact hz,its.reverse,0,r.reverse,Aq _ rfl⟩
theorem a_tRevL {te:TE}{σ:St}{H:Hp}{Q:VK}:tRevL te σ H Q=te σ H fun x H1=>∃ a xs,x = .ref a∧H1 a=some (.lst xs)∧∀ (p:Addr) (H':Hp),H1 p=none→Same H1 H'→H' p=some (.lst xs.reverse)→Q (.ref p) H':=rfl
end
section
variable {X:Cx}
def rEqNil:R2:=fun x y H Q=>∃ (l b:Addr) (xs:List V),x = .ref l∧y = .ref b∧H l=some (.lst xs)∧H b=some (.lst [])∧Q (.bl xs.isEmpty) H
theorem eqNil0 (hu:X.A.units < cLine):vU X (compareOp .Eq) rEqNil:=by
 intro pins s σ H x y v u Q I rx ry h
 obtain ⟨l,b,xs,rfl,rfl,hl,hb,q⟩:=h
 cases rx
 cases ry
 obtain ⟨its,r1,p1,_⟩:=I.list (SqL.of hl)
 obtain ⟨its2,r2,p2,_⟩:=I.list (SqL.of hb)
 have l1:=r1.length
 have l2:=r2.length
 have e2:its2=[]:=List.length_eq_zero_iff.mp (by simpa using l2.symm)
 subst e2
 cases xs with
 | nil =>
  have e1:its=[]:=List.length_eq_zero_iff.mp (by simpa using l1.symm)
  subst e1
  refine SeqAt.eq_listAt (e:=fun _=>true) p1.isList p2.isList rfl hu (fun j h1 _=>absurd h1 (by simp)) ?_
  exact ⟨.bl true,H,I,rfl,q⟩
 | cons z zs =>
  refine SeqAt.eq_list_lengthsAt p1.isList p2.isList ?_ hu ?_
  ·have:its.length ≠ 0:=by rw [← l1];simp
   simpa using this
  ·exact ⟨.bl false,H,I,rfl,q⟩
theorem a_rEqNil {x y:V}{H:Hp}{Q:VK}:rEqNil x y H Q = ∃ (l b:Addr) (xs:List V),x = .ref l∧y = .ref b∧H l=some (.lst xs)∧H b=some (.lst [])∧Q (.bl xs.isEmpty) H:=rfl
end
def eE (op:CmpOp)(A:Around)(s:Shared)(y x:Value)(b:Bool):Prop:=∀ (prog:Program) (w:World) (E:Value→Shared→Prop) (Q:Value→Shared→Prop),Q (.bool b) s→wpAny (model prog w) A (richCompare op y x) Q E s
def wL (e c:Nat→Bool)(last:Bool):List Nat→Bool
 | []=>last
 | i :: r=>if e i=true then wL e c last r else c i
theorem uM (l b:Addr)(items items2:Array Value)(n n2:Nat)(dd dd2:Option Addr)(sl sl2:Array (Option Value))(e c:Nat→Bool) :
  Meets (Builtin.«tuple.__lt__» ⟨[.ref l,.ref b],[]⟩) (fun A R s=>s.heap.get? l=some { cls:=.type "tuple",dict:=dd,data:=.seq items n,slots:=sl }∧s.heap.get? b=some { cls:=.type "tuple",dict:=dd2,data:=.seq items2 n2,slots:=sl2 } ∧
    (∀ j (h1:j < items.size) (h2:j < items2.size),SeqAt.EqAt A.in1 s items[j] items2[j] (e j))∧(∀ j (h1:j < items.size) (h2:j < items2.size),e j=false→eE .Lt A.in1 s items[j] items2[j] (c j))∧R (.ok (.ret (.bool (wL e c (decide (items.size < items2.size)) (List.range (min items.size items2.size)))))) s) :=
 .of_wp fun prog w A R s h=>by
  obtain ⟨hp,g,d,tk,os⟩:=s;obtain ⟨hl,hb,he,hcp,h⟩:=h
  have f2:=AutoSeq1.sub_tuple_tuple
  have zl:(items.toList.zip items2.toList).length=min items.size items2.size:=by simp
  wp_walk using wpAny_loadPart' hl,wpAny_loadPart' hb,wpAny_forIn_list _ (fun rest b s'=>b.1=none∧s'=⟨hp,g,d,tk,os⟩∧∃ i,rest=(items.toList.zip items2.toList).drop i∧R (.ok (.ret (.bool (wL e c (decide (items.size < items2.size)) ((List.range (min items.size items2.size)).drop i))))) ⟨hp,g,d,tk,os⟩) _
  case turn =>
   rintro ⟨y,x⟩ rest b s' ⟨hb',rfl,i,hz,hR⟩
   have lt:i < (items.toList.zip items2.toList).length:=by
    rcases Bm i (items.toList.zip items2.toList).length with q | q
    ·exact q
    ·rw [BN q] at hz;cases hz
   have lm:i < min items.size items2.size:=zl ▸ lt
   have l1:i < items.size:=by omega
   have l2:i < items2.size:=by omega
   rw [Bw lt] at hz
   injection hz with z1 z2
   have hy:y=items[i]:=by have:=Bi Prod.fst z1;simpa using this
   have hx:x=items2[i]:=by have:=Bi Prod.snd z1;simpa using this
   subst hy hx
   have dr:=range_drop lm
   refine wpAny_bind (he i l1 l2 prog w _ _ ?_)
   cases hc:e i with
   | true =>
    rw [dr,wL,Ak hc] at hR
    exact wpAny_pure ⟨rfl,rfl,i + 1,z2,hR⟩
   | false =>
    rw [dr,wL,Aj (by rw [hc];exact A2)] at hR
    have hq:=hcp i l1 l2 hc prog w
    wp_walk using hq _ _
    exact ⟨_,rfl,hR⟩
  case fin =>
   rintro ⟨b1,b2⟩ s' ⟨hb',rfl,i,hz,hR⟩
   cases (show b1=none from hb')
   have ge:min items.size items2.size ≤ i:=by
    rcases Bm i (items.toList.zip items2.toList).length with q | q
    ·rw [Bw q] at hz;cases hz
    ·exact zl ▸ q
   rw [BN (by simpa using ge),wL] at hR
   wp_walk
   exact ⟨_,rfl,hR⟩
  case h=>exact ⟨rfl,rfl,0,rfl,by rw [Ck];exact h⟩
theorem cp_lt {A:Around}{s:Shared}{a b:Addr}{its its2:List Value}(p1:IsTup s.heap a its.toArray)(p2:IsTup s.heap b its2.toArray)(hu:A.units < cLine)(e c:Nat→Bool)
  (he:∀ j (h1:j < its.length) (h2:j < its2.length),SeqAt.EqAt A.in1 s its[j] its2[j] (e j)) (hc:∀ j (h1:j < its.length) (h2:j < its2.length),e j=false→eE .Lt A.in1 s its[j] its2[j] (c j)) :
  eE .Lt A s (.ref a) (.ref b) (wL e c (decide (its.length < its2.length)) (List.range (min its.length its2.length))):=by
 intro prog w E Q h
 obtain ⟨⟨c1,d1,da1,sl1⟩,o1,k1,n1,g1⟩:=id p1
 obtain ⟨⟨c2,d2,da2,sl2⟩,o2,k2,n2,g2⟩:=id p2
 simp only at k1 g1 k2 g2
 subst k1 g1 k2 g2
 refine richCompare_meets_room (op:=.Lt) ⟨_,o1,rfl⟩ ⟨_,o2,rfl⟩ F.slot_tuple_lt F.entry_tuple_lt (F.args_tuple_lt_2 _ _) (uM a b its.toArray its2.toArray n1 n2 d1 d2 sl1 sl2 e c) ⟨o1,o2,fun j h1 h2=>by simpa using he j (by simpa using h1) (by simpa using h2),fun j h1 h2 z=>by simpa using hc j (by simpa using h1) (by simpa using h2) z,?_⟩ hu
 refine ⟨(fun z=>nomatch z),?_⟩
 simpa using h
inductive Ky where
 | i (n:Int)
 | t (a:Addr) (ns:List Int)
def uG:Ky→V
 | .i n=>.int n
 | .t a _=>.ref a
def nH (H:Hp):Ky→Prop
 | .i _=>True
 | .t a ns=>H a=some (.tup (ns.map V.int))
def kyF:Ky→List Int
 | .i n=>[n]
 | .t _ ns=>ns
def wQ:Ky→Option Nat
 | .i _=>none
 | .t _ ns=>some ns.length
def jL (ks:List Ky):List Int:=(ks.map kyF).flatten
def kEq (k l:Ky):Bool:=decide (kyF k=kyF l)
def kLt (k l:Ky):Bool:=HT.lexLt (kyF k) (kyF l)
def lexL:List Ky→List Ky→Bool
 | k :: ks,l :: ls=>if kEq k l=true then lexL ks ls else kLt k l
 | _,_=>false
theorem i6:∀ (a b x y:List Int),a.length=b.length→HT.lexLt (a ++ x) (b ++ y)=if a=b then HT.lexLt x y else HT.lexLt a b
 | [],[],x,y,_=>by simp
 | p :: a,q :: b,x,y,h=>by
  have ih:=i6 a b x y (by simpa using h)
  rw [List.cons_append,List.cons_append,HT.lexLt_cons,HT.lexLt_cons,ih]
  by_cases e:p=q
  ·subst e
   simp
  ·simp [e]
 | [],_ :: _,_,_,h=>by simp at h
 | _ :: _,[],_,_,h=>by simp at h
theorem i8 {k l:Ky}(h:wQ k=wQ l):(kyF k).length=(kyF l).length:=by
 cases k <;> cases l <;> simp_all [wQ,kyF]
theorem wK:∀ (ks ls:List Ky),ks.map wQ=ls.map wQ→lexL ks ls=HT.lexLt (jL ks) (jL ls)
 | [],[],_=>by simp [lexL,jL,HT.lexLt_nil_nil]
 | k :: ks,l :: ls,h=>by
  have h1:wQ k=wQ l:=by simpa using Bi List.head? h
  have h2:ks.map wQ=ls.map wQ:=by simpa using Bi List.tail h
  have ih:=wK ks ls h2
  have e1:jL (k :: ks)=kyF k ++ jL ks:=by simp [jL]
  have e2:jL (l :: ls)=kyF l ++ jL ls:=by simp [jL]
  rw [e1,e2,i6 _ _ _ _ (i8 h1),lexL,ih]
  by_cases z:kyF k=kyF l <;> simp [kEq,kLt,z]
 | [],_ :: _,h=>by simp at h
 | _ :: _,[],h=>by simp at h
theorem tP (e c:Nat→Bool)(last:Bool):∀ l:List Nat,wL e c last (l.map Nat.succ)=wL (fun j=>e (j + 1)) (fun j=>c (j + 1)) last l
 | []=>rfl
 | i :: r=>by rw [Av,wL,wL,tP e c last r]
def k0:Ky:=.i 0
theorem aI:∀ (ks ls:List Ky),ks.length=ls.length→wL (fun j=>kEq (ks.getD j k0) (ls.getD j k0)) (fun j=>kLt (ks.getD j k0) (ls.getD j k0)) false (List.range ks.length)=lexL ks ls
 | [],[],_=>rfl
 | k :: ks,l :: ls,h=>by
  have ih:=aI ks ls (by simpa using h)
  rw [Az,List.range_succ_eq_map,wL,tP,lexL]
  simp only [List.getD_cons_zero,List.getD_cons_succ]
  rw [ih]
 | [],_ :: _,h=>by simp at h
 | _ :: _,[],h=>by simp at h
section
variable {X:Cx}
theorem bJ {ks:List Ky}{its:List Value}(r:Vals (ks.map uG) its){j:Nat}(h:j < its.length):RelV (uG (ks.getD j k0)) its[j]:=by
 have hl:=r.length
 rw [Ab] at hl
 obtain ⟨u,hu,ru⟩:=r.get (i:=j) (x:=uG (ks[j]'(by omega))) (by simp [show j < ks.length by omega])
 rw [Am h] at hu
 cases hu
 have:ks.getD j k0=ks[j]'(by omega):=by simp [Aa,show j < ks.length by omega]
 rw [this]
 exact ru
theorem kyS_at {ks ls:List Ky}(h:ks.map wQ=ls.map wQ)(j:Nat):wQ (ks.getD j k0)=wQ (ls.getD j k0):=by
 have:=Bi (fun l=>l[j]?) h
 simp only [Ah] at this
 rw [Aa,Aa]
 cases e:ks[j]? <;> cases e2:ls[j]? <;> simp_all
theorem bW {H:Hp}{ks:List Ky}(h:∀ k ∈ ks,nH H k)(j:Nat):nH H (ks.getD j k0):=by
 rw [Aa]
 cases e:ks[j]? with
 | none=>trivial
 | some k=>exact h k (A0 e)
theorem ky_eq {pins:List (Addr × Obj)}{σ:St}{H:Hp}{s:Shared}{A:Around}(I:Inv X pins σ H s)(hu:A.units < cLine){k l:Ky}{u v:Value}(ru:RelV (uG k) u)(rv:RelV (uG l) v)(ok:nH H k)(ol:nH H l)(sh:wQ k=wQ l):SeqAt.EqAt A s u v (kEq k l):=by
 cases k with
 | i n =>
  cases l with
  | i m =>
   have:=mY (A:=A) (s:=s) ru rv rfl rfl
   have e:aP (uG (.i n)) (uG (.i m))=kEq (.i n) (.i m):=by
    show (n == m)=decide ([n] = [m])
    rw [Bu]
    simp
   rw [e] at this
   exact this
  | t b ms=>simp [wQ] at sh
 | t a ns =>
  cases l with
  | i m=>simp [wQ] at sh
  | t b ms =>
   cases ru
   cases rv
   exact t4 I ok ol hu
theorem dec_lt (n m:Int):(n == m)=decide ([n] = [m]):=by rw [Bu];simp
theorem one_lt (n m:Int):decide (n < m)=HT.lexLt [n] [m]:=by
 rw [HT.lexLt_cons,HT.lexLt_nil_nil]
 by_cases z:n=m
 ·rw [Ak z]
  exact Al (by omega)
 ·rw [Aj z]
theorem wO (ns:List Int)(j:Nat){a:Addr}{xs:List Int}:(ns.map Ky.i).getD j k0 ≠ .t a xs:=by
 rw [Aa,Ah]
 cases ns[j]? <;> simp [k0]
theorem int_lt {A:Around}{s:Shared}{n m:Int}{u v:Value}(ru:RelV (.int n) u)(rv:RelV (.int m) v):eE .Lt A s u v (decide (n < m)):=by
 intro prog w E Q h
 obtain ⟨t,rfl⟩:=ru
 obtain ⟨t',rfl⟩:=rv
 exact CmpOf.ints_lt (P:=fun i v=>∃ t,v = .int (if i=0 then n else m) t) (fun i=>if i=0 then n else m) (fun i v h=>h) 0 1 _ _ s Q E ⟨t,rfl⟩ ⟨t',rfl⟩ h
theorem ints_lt {pins:List (Addr × Obj)}{σ:St}{H:Hp}{s:Shared}{A:Around}{a b:Addr}{ns ms:List Int}(I:Inv X pins σ H s)(ha:H a=some (.tup (ns.map V.int)))(hb:H b=some (.tup (ms.map V.int)))(hl:ns.length=ms.length)(hu:A.units < cLine):eE .Lt A s (.ref a) (.ref b) (HT.lexLt ns ms):=by
 obtain ⟨its,r1,p1,_⟩:=I.tuple (SqT.of ha)
 obtain ⟨its2,r2,p2,_⟩:=I.tuple (SqT.of hb)
 have r1':Vals ((ns.map Ky.i).map uG) its:=by rw [A8];exact r1
 have r2':Vals ((ms.map Ky.i).map uG) its2:=by rw [A8];exact r2
 have l1:=r1.length
 have l2:=r2.length
 rw [Ab] at l1 l2
 have sh:(ns.map Ky.i).map wQ=(ms.map Ky.i).map wQ:=by
  rw [A8,A8]
  show ns.map (fun _=>none)=ms.map fun _=>none
  rw [List.map_const',List.map_const',hl]
 have ok:∀ (xs:List Int) k,k ∈ xs.map Ky.i→nH H k:=fun xs k hk=>by
  obtain ⟨x,_,rfl⟩:=Ae.mp hk
  trivial
 have fl:∀ xs:List Int,jL (xs.map Ky.i)=xs:=fun xs=>by
  unfold jL
  rw [A8]
  show (xs.map fun x=>[x]).flatten=xs
  induction xs with
  | nil=>rfl
  | cons x xs ih=>rw [Av,Bz,ih];rfl
 have key:=cp_lt (A:=A) p1 p2 hu (fun j=>kEq ((ns.map Ky.i).getD j k0) ((ms.map Ky.i).getD j k0)) (fun j=>kLt ((ns.map Ky.i).getD j k0) ((ms.map Ky.i).getD j k0)) (fun j h1 h2=>?_) fun j h1 h2 _=>?_
 ·rw [show min its.length its2.length=(ns.map Ky.i).length by rw [Ab];omega,show decide (its.length < its2.length)=false from Al (by omega),aI _ _ (by simp [hl]),wK _ _ sh,fl,fl] at key
  exact key
 ·have:=mY (A:=A.in1) (s:=s) (bJ r1' h1) (bJ r2' h2) (by cases e:(ns.map Ky.i).getD j k0 with | i n=>rfl | t a xs=>exact absurd e (wO ns j)) (by cases e:(ms.map Ky.i).getD j k0 with | i n=>rfl | t a xs=>exact absurd e (wO ms j))
  revert this
  cases e1:(ns.map Ky.i).getD j k0 with
  | t a xs=>exact absurd e1 (wO ns j)
  | i n =>
   cases e2:(ms.map Ky.i).getD j k0 with
   | t a xs=>exact absurd e2 (wO ms j)
   | i m =>
    intro this
    have e:aP (uG (.i n)) (uG (.i m))=kEq (.i n) (.i m):=by
     exact dec_lt n m
    rw [e] at this
    exact this
 ·have q1:=bJ r1' h1
  have q2:=bJ r2' h2
  revert q1 q2
  cases e1:(ns.map Ky.i).getD j k0 with
  | t a xs=>exact absurd e1 (wO ns j)
  | i n =>
   cases e2:(ms.map Ky.i).getD j k0 with
   | t a xs=>exact absurd e2 (wO ms j)
   | i m =>
    intro q1 q2
    have:=int_lt (A:=A.in1) (s:=s) q1 q2
    have e:decide (n < m)=kLt (.i n) (.i m):=by
     exact one_lt n m
    rw [e] at this
    exact this
theorem ky_lt {pins:List (Addr × Obj)}{σ:St}{H:Hp}{s:Shared}{A:Around}(I:Inv X pins σ H s)(hu:A.units < cLine){k l:Ky}{u v:Value}(q1:RelV (uG k) u)(q2:RelV (uG l) v)(o1:nH H k)(o2:nH H l)(hs:wQ k=wQ l):eE .Lt A s u v (kLt k l):=by
 cases k with
 | i n =>
  cases l with
  | t b ms=>simp [wQ] at hs
  | i m =>
   have:=int_lt (A:=A) (s:=s) q1 q2
   have e:decide (n < m)=kLt (.i n) (.i m):=by
    exact one_lt n m
   rw [e] at this
   exact this
 | t a ns =>
  cases l with
  | i m=>simp [wQ] at hs
  | t b ms =>
   cases q1
   cases q2
   exact ints_lt I o1 o2 (i8 hs) hu
theorem rows_lt {pins:List (Addr × Obj)}{σ:St}{H:Hp}{s:Shared}{A:Around}{a b:Addr}{ks ls:List Ky}(I:Inv X pins σ H s)(ha:H a=some (.tup (ks.map uG)))(hb:H b=some (.tup (ls.map uG)))(ok:∀ k ∈ ks,nH H k)(ol:∀ k ∈ ls,nH H k)(sh:ks.map wQ=ls.map wQ)(hu:A.units + 64 < cLine):eE .Lt A s (.ref a) (.ref b) (HT.lexLt (jL ks) (jL ls)):=by
 obtain ⟨its,r1,p1,_⟩:=I.tuple (SqT.of ha)
 obtain ⟨its2,r2,p2,_⟩:=I.tuple (SqT.of hb)
 have l1:=r1.length
 have l2:=r2.length
 rw [Ab] at l1 l2
 have hl:ks.length=ls.length:=by simpa using Bi List.length sh
 have hu1:A.in1.units < cLine:=by simp only [Cq];omega
 have key:=cp_lt (A:=A) p1 p2 (by omega) (fun j=>kEq (ks.getD j k0) (ls.getD j k0)) (fun j=>kLt (ks.getD j k0) (ls.getD j k0)) (fun j h1 h2=>?_) fun j h1 h2 _=>?_
 ·rw [show min its.length its2.length=ks.length by omega,show decide (its.length < its2.length)=false from Al (by omega),aI _ _ (by omega),wK _ _ sh] at key
  exact key
 ·have:=ky_eq I hu1 (bJ r1 h1) (bJ r2 h2) (bW ok j) (bW ol j) (kyS_at sh j)
  skip
  exact this
 ·exact ky_lt I hu1 (bJ r1 h1) (bJ r2 h2) (bW ok j) (bW ol j) (kyS_at sh j)
end
section
variable {prog:Program}{w:World}{A:Around}{R:Result→Shared→Prop}{it:Addr}{fp wr:List Addr}{n:Nat}{Pv:Nat→Value→Prop}{St:Nat→Heap→Prop}{D:Shared→Prop}
theorem min_loopD (W:Walks prog w A.in1 it fp wr n Pv St)(bt:Nat→Nat→Bool)(hc:∀ i j x y (s:Shared) (Q E:Value→Shared→Prop),D s→Pv i x→Pv j y→Q (.bool (bt i j)) s→wpAny (model prog w) A.in1 (richCompare .Lt x y) Q E s)(Z:Addr)(zf:Z ∉ fp) :
  ∀ (k j:Nat) (s:Shared) (x:Value) (c:Nat),n - (j + 1)=k→j + 1 ≤ n→St (j + 1) s.heap→Pv (argBest bt j) x →
  s.heap.get? Z=some { cls:=.type "list",dict:=none,data:=.seq #[x,x] c,slots := #[] }→(∀ h' tk,(∀ b o,b ∉ wr→b ≠ Z→s.heap.get? b=some o→h'.get? b=some o)→D { s with heap:=h',toks:=tk }) →
  (∀ v h' tk,Pv (argBest bt (n - 1)) v→(∀ b o,b ∉ wr→b ≠ Z→s.heap.get? b=some o→h'.get? b=some o)→R (.ok (.ret v)) { s with heap:=h',toks:=tk }) →
  codeAny (model prog w) A (.builtin "min.loop" ⟨[.ref it,.none,.ref Z],[]⟩) R s:=by
 have zw:Z ∉ wr:=fun h=>zf (W.sub _ h)
 have nm:(toString "min" ++ toString ".loop" : String) = "min.loop" := by decide
 intro k
 induction k with
 | zero =>
  intro j s x c hk hj st px ez dd hR
  have jn:j + 1=n:=by omega
  refine codeAny_builtin F.entry_min_loop ?_
  rw [Cv B6 _]
  show wpAny (model prog w) A.in1 (seqItems? (.ref Z) >>= _) _ _ s
  refine wpAny_bind (wpAny_seqItems ez rfl ?_)
  show wpAny (model prog w) A.in1 (tryCatch (pyNext (.ref it)) _ >>= _) _ _ s
  refine wpAny_bind (wpAny_tryCatch (W.done s _ _ (jn ▸ st) fun h' tk keep=>?_))
  have ez':=keep Z _ zw ez
  show wpAny (model prog w) A.in1 (updateSeq Z (fun _ => #[]) >>= _) _ _ _
  refine wpAny_bind ?_
  refine wpAny_updateSeq ez' rfl (wpAny_bind (wpAny_letGo (wpAny_pure ?_)))
  exact hR x _ tk (by rw [← jn];exact px) fun b o b1 b2 e=>(AX _ _ (Co b2)).trans (keep b o b1 e)
 | succ k ih =>
  intro j s x c hk hj st px ez dd hR
  have jl:j + 1 < n:=by omega
  refine codeAny_builtin F.entry_min_loop ?_
  rw [Cv B6 _]
  show wpAny (model prog w) A.in1 (seqItems? (.ref Z) >>= _) _ _ s
  refine wpAny_bind (wpAny_seqItems ez rfl ?_)
  show wpAny (model prog w) A.in1 (tryCatch (pyNext (.ref it)) _ >>= _) _ _ s
  refine wpAny_bind (wpAny_tryCatch (W.item (j + 1) s _ _ jl st fun v h' tk pv st' keep=>?_))
  have ez':=keep Z _ zw ez
  show wpAny (model prog w) A.in1 (tryCatch (holding [v,v] (richCompare .Lt v x >>= _)) _ >>= _) _ _ _
  refine wpAny_bind (wpAny_tryCatch (wpAny_holding (wpAny_bind (hc (j + 1) (argBest bt j) v x _ _ _ (dd h' tk fun b o b1 _ e=>keep b o b1 e) pv px ?_))))
  refine wpAny_bind (wpAny_holding (wpAny_truthy_bool ?_))
  refine wpAny_bind (wpAny_letGo (wpAny_pure ?_))
  cases hb:bt (j + 1) (argBest bt j) with
  | true =>
   simp only [BV]
   refine wpAny_bind ?_
   refine wpAny_updateSeq ez' rfl (wpAny_bind (wpAny_letGo ?_))
   rw [nm]
   refine wpAny_pure ⟨plainId_quiet B6 _,ih (j + 1) _ v _ (by omega) jl (W.frame _ _ _ st' fun b bf o e=>?_) (by simp only [argBest,hb,BV];exact pv) (BS _ ez' rfl) (fun h2 t2 k2=>dd h2 t2 fun b o b1 b2 e=>k2 b o b1 b2 ((AX _ _ (Co b2)).trans (keep b o b1 e))) fun v2 h2 t2 p2 k2=>?_⟩
   ·exact (AX _ _ (fun h:Z=b=>zf (by rw [h];exact bf))).trans e
   ·exact hR v2 h2 t2 p2 fun b o b1 b2 e=>k2 b o b1 b2 ((AX _ _ (Co b2)).trans (keep b o b1 e))
  | false =>
   simp only [AR,BE]
   refine wpAny_bind (wpAny_letGo ?_)
   rw [nm]
   refine wpAny_pure ⟨plainId_quiet B6 _,ih (j + 1) _ x c (by omega) jl st' (by simp only [argBest,hb,AR,BE];exact px) ez' (fun h2 t2 k2=>dd h2 t2 fun b o b1 b2 e=>k2 b o b1 b2 (keep b o b1 e)) fun v2 h2 t2 p2 k2=>?_⟩
   exact hR v2 h2 t2 p2 fun b o b1 b2 e=>k2 b o b1 b2 (keep b o b1 e)
theorem aF (W:Walks prog w A.in1 it fp wr n Pv St)(bt:Nat→Nat→Bool)(hc:∀ i j x y (s:Shared) (Q E:Value→Shared→Prop),D s→Pv i x→Pv j y→Q (.bool (bt i j)) s→wpAny (model prog w) A.in1 (richCompare .Lt x y) Q E s)(Z:Addr)(zf:Z ∉ fp)(n0:0 < n){s:Shared}{c:Nat}(st:St 0 s.heap)
  (ez:s.heap.get? Z=some { cls:=.type "list",dict:=none,data:=.seq #[] c,slots := #[] }) (dd:∀ h' tk,(∀ b o,b ∉ wr→b ≠ Z→s.heap.get? b=some o→h'.get? b=some o)→D { s with heap:=h',toks:=tk })
  (hR:∀ v h' tk,Pv (argBest bt (n - 1)) v→(∀ b o,b ∉ wr→b ≠ Z→s.heap.get? b=some o→h'.get? b=some o)→R (.ok (.ret v)) { s with heap:=h',toks:=tk }) :
  codeAny (model prog w) A (.builtin "min.loop" ⟨[.ref it,.none,.ref Z],[]⟩) R s:=by
 have zw:Z ∉ wr:=fun h=>zf (W.sub _ h)
 have nm:(toString "min" ++ toString ".loop" : String) = "min.loop" := by decide
 refine codeAny_builtin F.entry_min_loop ?_
 rw [Cv B6 _]
 show wpAny (model prog w) A.in1 (seqItems? (.ref Z) >>= _) _ _ s
 refine wpAny_bind (wpAny_seqItems ez rfl ?_)
 show wpAny (model prog w) A.in1 (tryCatch (pyNext (.ref it)) _ >>= _) _ _ s
 refine wpAny_bind (wpAny_tryCatch (W.item 0 s _ _ n0 st fun v h' tk pv st' keep=>?_))
 have ez':=keep Z _ zw ez
 show wpAny (model prog w) A.in1 (updateSeq Z (fun _ => #[v,v]) >>= _) _ _ _
 refine wpAny_bind ?_
 refine wpAny_updateSeq ez' rfl ?_
 rw [nm]
 refine wpAny_pure ⟨plainId_quiet B6 _,min_loopD W bt hc Z zf _ 0 _ v _ rfl n0 (W.frame _ _ _ st' fun b bf o e=>?_) pv (BS _ ez' rfl) (fun h2 t2 k2=>dd h2 t2 fun b o b1 b2 e=>k2 b o b1 b2 ((AX _ _ (Co b2)).trans (keep b o b1 e))) fun v2 h2 t2 p2 k2=>?_⟩
 ·exact (AX _ _ (fun h:Z=b=>zf (by rw [h];exact bf))).trans e
 ·exact hR v2 h2 t2 p2 fun b o b1 b2 e=>k2 b o b1 b2 ((AX _ _ (Co b2)).trans (keep b o b1 e))
end
theorem min_walkD {prog:Program}{w:World}{A:Around}{E:Value→Shared→Prop}{s:Shared}{x:Value}{Q:Value→Shared→Prop}
  (h:wpAny (model prog w) A.in1 (pyIter x) (fun v s2=>∃ it fp wr n Pv St bt,∃ D:Shared→Prop,v = .ref it∧Walks prog w A.in1 it fp wr n Pv St∧St 0 s2.heap∧(∀ b ∈ fp,b < s2.heap.objs.size)∧0 < n ∧
   (∀ i j x y (s:Shared) (Q E:Value→Shared→Prop),D s→Pv i x→Pv j y→Q (.bool (bt i j)) s→wpAny (model prog w) A.in1 (richCompare .Lt x y) Q E s)∧(∀ h' tk,(∀ b o,b ∉ wr→s2.heap.get? b=some o→h'.get? b=some o)→D { s2 with heap:=h',toks:=tk }) ∧
   ∀ v h' tk,Pv (argBest bt (n - 1)) v→(∀ b o,b ∉ wr→s2.heap.get? b=some o→h'.get? b=some o)→Q v { s2 with heap:=h',toks:=tk }) E s) :
  wpAny (model prog w) A (call (.builtin "min") [x]) Q E s:=by
 have nm:(toString "min" ++ toString ".loop" : String) = "min.loop" := by decide
 refine call_function_tree F.kind_min F.plain_min F.entry_min (F.args_min1 _) ?_
 show wpAny (model prog w) A.in1 (Builtin.Builtins.bindParams "min" ["key", "default"] 0 ⟨[],[]⟩ >>= _) _ _ s
 refine wpAny_bind (wpAny_of_eq (show Builtin.Builtins.bindParams "min" ["key", "default"] 0 ⟨[],[]⟩=pure [none,none] by rfl) ?_)
 refine wpAny_bind (wpAny_pure ?_)
 refine wpAny_bind (wpAny_mono h (fun v s2 h2=>?_) fun _ _ e=>e)
 obtain ⟨it,fp,wr,n,Pv,St,bt,D,rfl,W,st,hfp,n0,hc,dd,hQ⟩:=h2
 refine wpAny_bind (wpAny_newObj_type ?_)
 have zf:s2.heap.objs.size ∉ fp:=fun hm=>AQ _ (hfp _ hm)
 rw [nm]
 refine wpAny_pure ⟨plainId_quiet B6 _,aF (D:=D) W bt hc s2.heap.objs.size zf n0 (W.frame _ _ _ st fun b _ o e=>Ac _ e) (Aq _ rfl) (fun h' tk k=>dd h' tk fun b o b1 e=>k b o b1 (AA (Au e)) (Ac _ e)) fun v h' tk pv k=>?_⟩
 exact hQ v h' tk pv fun b o b1 e=>k b o b1 (AA (Au e)) (Ac _ e)
section
variable {prog:Program}{w:World}{A:Around}{R:Result→Shared→Prop}{it:Addr}{fp wr:List Addr}{n:Nat}{Pv:Nat→Value→Prop}{St:Nat→Heap→Prop}{D:Shared→Prop}
end
theorem tZ:∀ ks:List Ky,(jL ks).length=((ks.map wQ).map fun o=>o.getD 1).sum
 | []=>rfl
 | k :: ks=>by
  have ih:=tZ ks
  have e:jL (k :: ks)=kyF k ++ jL ks:=by simp [jL]
  rw [e,AD,ih,Av,Av,AF]
  cases k <;> rfl
theorem lex_irrefl:∀ a:List Int,HT.lexLt a a=false
 | []=>HT.lexLt_nil_nil
 | x :: a=>by rw [HT.lexLt_cons,Ak rfl];exact lex_irrefl a
theorem lex_trans:∀ a b c:List Int,a.length=b.length→b.length=c.length→HT.lexLt a b=true→HT.lexLt b c=true→HT.lexLt a c=true
 | [],[],[],_,_,h,_=>by rw [HT.lexLt_nil_nil] at h;cases h
 | x :: a,y :: b,z :: c,l1,l2,h1,h2=>by
  rw [HT.lexLt_cons] at h1 h2 ⊢
  by_cases e1:x=y
  ·subst e1
   rw [Ak rfl] at h1
   by_cases e2:x=z
   ·subst e2
    rw [Ak rfl] at h2 ⊢
    exact lex_trans a b c (by simpa using l1) (by simpa using l2) h1 h2
   ·rw [Aj e2] at h2 ⊢
    exact h2
  ·rw [Aj e1] at h1
   have h1':=Bs h1
   by_cases e2:y=z
   ·subst e2
    rw [Aj e1]
    exact h1
   ·rw [Aj e2] at h2
    have h2':=Bs h2
    rw [Aj (by omega)]
    exact Ar (by omega)
 | [],_ :: _,_,l1,_,_,_=>by simp at l1
 | _ :: _,[],_,l1,_,_,_=>by simp at l1
 | [],[],_ :: _,_,l2,_,_=>by simp at l2
 | _ :: _,_ :: _,[],_,l2,_,_=>by simp at l2
theorem oX (val:Nat→List Int)(n:Nat):∀ k,(∀ i,i ≤ k→(val i).length=n)→argBest (fun i j=>HT.lexLt (val i) (val j)) k ≤ k∧∀ j,j ≤ k→HT.lexLt (val j) (val (argBest (fun i j=>HT.lexLt (val i) (val j)) k))=false
 | 0,_=>⟨Ag _,fun j hj=>by
  have:j=0:=by omega
  subst this
  exact lex_irrefl _⟩
 | k + 1,hl=>by
  obtain ⟨i1,i2⟩:=oX val n k fun i hi=>hl i (by omega)
  have lb:=hl _ (AK i1 (C1 k))
  have ln:=hl (k + 1) (Ag _)
  rw [argBest]
  generalize argBest (fun i j=>HT.lexLt (val i) (val j)) k=b at *
  cases e:HT.lexLt (val (k + 1)) (val b) with
  | true =>
   rw [Ak rfl]
   refine ⟨Ag _,fun j hj=>?_⟩
   rcases Bm j (k + 1) with z | z
   ·cases e2:HT.lexLt (val j) (val (k + 1)) with
    | false=>rfl
    | true =>
     have lj:=hl j (by omega)
     have:=lex_trans _ _ _ (by omega) (by omega) e2 e
     rw [i2 j (by omega)] at this
     cases this
   ·have:j=k + 1:=by omega
    subst this
    exact lex_irrefl _
  | false =>
   rw [Aj A2]
   refine ⟨by omega,fun j hj=>?_⟩
   rcases Bm j (k + 1) with z | z
   ·exact i2 j (by omega)
   ·have:j=k + 1:=by omega
    subst this
    exact e
section
variable {X:Cx}
def RowsK (H:Hp)(rs:List (Addr × List Ky)):Prop:=(∀ r ∈ rs,H r.1=some (.tup (r.2.map uG))∧∀ k ∈ r.2,nH H k)∧∃ sh,∀ r ∈ rs,r.2.map wQ=sh
theorem minP0 (hc:X.calm=true)(hu:X.A.units + 128 < cLine):zY X (.builtin "min") (fun xs H Q=>∃ (p:Addr) (rs:List (Addr × List Ky)),xs=[.ref p]∧sq H p=some (rs.map fun r=>V.ref r.1)∧RowsK H rs∧rs ≠ []∧∀ m,m ∈ rs→(∀ r ∈ rs,HT.lexLt (jL r.2) (jL m.2)=false)→Q (.ref m.1) H):=by
 intro pins s σ H xs us Q I r h
 obtain ⟨p,rs,rfl,hq,⟨rk,sh,hsh⟩,hne,q⟩:=h
 obtain ⟨u,rfl,ru⟩:=r.one
 cases ru
 have hp:0 < rs.length:=List.length_pos_iff.mpr hne
 refine min_walkD (I.walk hc hq fun it its s2 St fp rv W st hfp hsz J=>?_)
 have hl:=rv.length
 rw [Ab] at hl
 have at_:∀ i v,its[i]? = some v→i < rs.length∧∃ r ∈ rs,rs[i]? = some r∧v = .ref r.1:=fun i v hv=>by
  have hi:i < rs.length:=by rw [hl];exact (Ai.mp hv).1
  obtain ⟨u,hu',ru⟩:=rv.get (i:=i) (x:=V.ref rs[i].1) (by simp [hi])
  rw [hv] at hu'
  cases hu'
  cases ru
  exact ⟨hi,rs[i],AN hi,Am hi,rfl⟩
 let val:Nat→List Int:=fun i=>jL ((rs[i]?.map fun r=>r.2).getD [])
 refine ⟨it,fp,[it],its.length,_,St,fun i j=>HT.lexLt (val i) (val j),fun s=>Inv X pins σ H s,rfl,W,st,hfp,by omega,fun i j x y s' Q' E' D hi hj hQ=>?_,fun h' tk k=>J h' tk k,fun v h' tk hv k=>?_⟩
 ·obtain ⟨_,r1,m1,e1,rfl⟩:=at_ i x hi
  obtain ⟨_,r2,m2,e2,rfl⟩:=at_ j y hj
  have key:=rows_lt D (rk r1 m1).1 (rk r2 m2).1 (rk r1 m1).2 (rk r2 m2).2 ((hsh r1 m1).trans (hsh r2 m2).symm) (A:=X.A.in1) (by simp only [Cq];omega)
  refine key _ _ E' Q' ?_
  have v1:val i=jL r1.2:=by simp only [val,e1,BQ,BK]
  have v2:val j=jL r2.2:=by simp only [val,e2,BQ,BK]
  rw [← v1,← v2]
  exact hQ
 ·have lens:∀ i,i < rs.length→(val i).length=(sh.map fun o=>o.getD 1).sum:=fun i hi=>by
   have e:val i=jL rs[i].2:=by simp only [val,Am hi,BQ,BK]
   rw [e,← hsh rs[i] (AN hi)]
   exact tZ _
  obtain ⟨b1,b2⟩:=oX val (sh.map fun o=>o.getD 1).sum (its.length - 1) fun i hi=>lens i (by omega)
  obtain ⟨hj,r,mr,er,rfl⟩:=at_ _ v hv
  refine ⟨.ref r.1,H,J h' tk k,rfl,q r mr fun r' hr'=>?_⟩
  obtain ⟨i,hi,rfl⟩:=Cy.mp hr'
  have v1:val (argBest (fun i j=>HT.lexLt (val i) (val j)) (its.length - 1))=jL r.2:=by simp only [val,er,BQ,BK]
  have v2:val i=jL rs[i].2:=by simp only [val,Am hi,BQ,BK]
  rw [← v1,← v2]
  exact b2 i (by omega)
end
theorem hu128 {A:Around}{k:Nat}(hr:Room k A):A.units + 128 < cLine:=by have:=hr.un;omega
section
variable {prog:Program}{w:World}{A:Around}{E:Value→Shared→Prop}{s:Shared}
theorem zn_item {z TI TO i1 i2 l1 l2:Addr}{c1 c2:String}{k:Nat}{xs ys:Array Value}{x y f g:Value}{Q:Value→Shared→Prop}(D:ZipApart z TI TO i1 i2 l1 l2)(hz:nK s.heap z TI TO f g)(hf:rV f)(hTI:IsPair s.heap TI (.ref i1) (.ref i2))(hTO:∃ a b,IsPair s.heap TO a b)(h1:Src s.heap c1 i1 l1 xs k)(h2:Src s.heap c2 i2 l2 ys k)(hx:xs[k]? = some x)(hy:ys[k]? = some y)
  (hQ:∀ h' f' g',nK h' z TI TO f' g'→rV f'→IsPair h' TI (.ref i1) (.ref i2)→(∃ a b,IsPair h' TO a b)→Src h' c1 i1 l1 xs (k + 1)→Src h' c2 i2 l2 ys (k + 1)→IsPair h' s.heap.objs.size x y→h'.objs.size=s.heap.objs.size + 1 →
   (∀ c o,c ∉ [z,TO,i1,i2]→s.heap.get? c=some o→h'.get? c=some o)→Q (.ref s.heap.objs.size) { s with heap:=h' }):wpAny (model prog w) A (Builtin.SmallTypes.nextOf (.ref z)) Q E s:=by
 exact wpAny_bind (wpAny_callSpecial?_slot (name:=Str.ofString "__next__") ⟨_,hz,rfl⟩ B2 (wpAny_call_entry B2 ⟨_,hz,rfl⟩ Cr (eG D hz hf hTI hTO h1 h2 hx hy fun h' f' g' _ iz of ti to s1 s2 new sz k=>⟨_,rfl,wpAny_pure (hQ h' f' g' iz of ti to s1 s2 new sz k)⟩) (Ci _)))
theorem zn_end {z TI TO i1 i2 l1 l2:Addr}{c1 c2:String}{k:Nat}{xs ys:Array Value}{f g:Value}{Q:Value→Shared→Prop}(hh:A.handled=none)(D:ZipApart z TI TO i1 i2 l1 l2)(hz:nK s.heap z TI TO f g)(hf:rV f)(hTI:IsPair s.heap TI (.ref i1) (.ref i2))(hTO:∃ a b,IsPair s.heap TO a b)(h1:Src s.heap c1 i1 l1 xs k)(h2:Src s.heap c2 i2 l2 ys k)(hend:xs[k]? = none∨ys[k]? = none)
  (hE:∀ h' e,(∀ c o,c ∉ [z,TO,i1,i2]→s.heap.get? c=some o→h'.get? c=some o)→(∃ o,h'.get? e=some o∧o.cls = .type "StopIteration")→E (.ref e) { s with heap:=h' }):wpAny (model prog w) A (Builtin.SmallTypes.nextOf (.ref z)) Q E s:=by
 exact wpAny_bind (wpAny_callSpecial?_slot (name:=Str.ofString "__next__") ⟨_,hz,rfl⟩ B2 (wpAny_call_entry B2 ⟨_,hz,rfl⟩ Cr (zb_end hh D hz hf hTI hTO h1 h2 hend hE) (Ci _)))
theorem en_item {e it:Addr}{i:Nat}{old:Value}{Q:Option Value→Shared→Prop}{RR:Value→Heap→Prop}(he:IsEnum s.heap e it i old)
  (hin:∀ (Q':Value→Shared→Prop) (E':Value→Shared→Prop),(∀ x h1,RR x h1→Q' x { s with heap:=h1 })→wpAny (model prog w) A.in1 (Builtin.SmallTypes.nextOf (.ref it)) Q' E' s)
  (hR:∀ x h1,RR x h1→IsEnum h1 e it i old)
  (hQ:∀ x h1 h',RR x h1→IsEnumOut h' e it ((i:Int) + 1) x h1.objs.size→h'.get? h1.objs.size=some { cls:=.type "tuple",data:=.seq #[.int i s.toks,x] }→h'.objs.size=h1.objs.size + 1 →
   (∀ b o,b ≠ e→h1.get? b=some o→h'.get? b=some o)→Q (some (.ref h1.objs.size)) { s with heap:=h',toks:=s.toks + 1 }):wpAny (model prog w) A (pyNext (.ref e)) Q E s:=by
 obtain ⟨hp,gn,d,tk,os⟩:=s
 have hT:Shared.TypeIs ⟨hp,gn,d,tk,os⟩ (.ref e) "enumerate" := ⟨_,he,rfl⟩
 unfold pyNext
 refine wpAny_bind (wpAny_attempt (wpAny_callSpecial?_slot (name:=Str.ofString "__next__") hT BR (wpAny_call_entry BR hT F.entry_enumerate_next ?_ (F.args_enumerate_next_1 _))))
 refine wpAny_bind (m:=field (.ref e) 2) (wpAny_field he rfl (x:=.ref it) rfl ?_)
 refine wpAny_bind (hin _ _ fun x h1 rr=>?_)
 have e1:=hR x h1 rr
 refine wpAny_bind (m:=field (.ref e) 3) (wpAny_field e1 rfl (x:=rawInt i) rfl ?_)
 refine wpAny_bind (m:=field (.ref e) 4) (wpAny_field e1 rfl (x:=.none) rfl ?_)
 refine wpAny_bind (m:=mkInt i) (wpAny_mkInt ?_)
 refine wpAny_bind (m:=setField (.ref e) 3 (rawInt ((i:Int) + 1))) (wpAny_setField_rec e1 (by simp) fun h2 e2 s2=>?_)
 replace e2:IsEnum h2 e it ((i:Int) + 1) old:=e2
 refine wpAny_bind (m:=setField (.ref e) 4 .none) (wpAny_setField_rec e2 (by simp) fun h3 e3 s3=>?_)
 replace e3:IsEnum h3 e it ((i:Int) + 1) old:=e3
 refine wpAny_bind (m:=newTuple [.int i tk,x]) (wpAny_newTuple ?_)
 have z3:h3.objs.size=h1.objs.size:=by rw [s3.1,s2.1]
 have elt:e < h3.objs.size:=Au e3
 have e4:IsEnum (h3.push { cls:=.type "tuple",data:=.seq #[.int i tk,x] }) e it ((i:Int) + 1) old:=Ac _ e3
 refine wpAny_bind (m:=Builtin.SmallTypes.ownedTupleIsFree (.ref e)) ?_
 unfold Builtin.SmallTypes.ownedTupleIsFree
 refine wpAny_bind (wpAny_field e4 rfl (x:=.none) rfl (wpAny_pure ?_))
 simp only [BV]
 refine wpAny_bind (wpAny_rule ?_)
 refine wpAny_bind (wpAny_field e4 rfl (x:=old) rfl ?_)
 refine wpAny_bind (wpAny_setField_rec e4 (by simp) fun h5 e5 s5=>?_)
 replace e5:IsEnum h5 e it ((i:Int) + 1) x:=e5
 refine wpAny_bind (m:=Builtin.SmallTypes.ownedTupleHandOut (.ref e) (.ref h3.objs.size)) ?_
 unfold Builtin.SmallTypes.ownedTupleHandOut
 refine wpAny_bind (wpAny_setField_rec e5 (by simp) fun h6 e6 s6=>?_)
 replace e6:IsEnumOut h6 e it ((i:Int) + 1) x h3.objs.size:=e6
 refine wpAny_setField_rec e6 (by simp) fun h7 e7 s7=>?_
 replace e7:IsEnumOut h7 e it ((i:Int) + 1) x h3.objs.size:=e7
 have up:∀ b o,b ≠ e→(h3.push { cls:=.type "tuple",data:=.seq #[.int i tk,x] }).get? b=some o→h7.get? b=some o:=fun b o n q=>s7.extBut _ _ n (s6.extBut _ _ n (s5.extBut _ _ n q))
 have new:h7.get? h3.objs.size=some { cls:=.type "tuple",data:=.seq #[.int i tk,x] }:=up _ _ (CS elt) (Aq _ rfl)
 have sz:h7.objs.size=h3.objs.size + 1:=by rw [s7.1,s6.1,s5.1,Bf]
 refine wpAny_bind (wpAny_letGo (wpAny_pure ⟨_,rfl,wpAny_pure ?_⟩))
 rw [z3] at e7 new sz
 show Q (some (.ref h3.objs.size)) _
 rw [z3]
 exact hQ x h1 h7 rr e7 new sz fun b o n q=>up b o n (Ac _ (s3.extBut _ _ n (s2.extBut _ _ n q)))
theorem en_end {e it:Addr}{i:Int}{old:Value}{Q:Option Value→Shared→Prop}{RE:Heap→Prop}(he:IsEnum s.heap e it i old)
  (hin:∀ (Q':Value→Shared→Prop) (E':Value→Shared→Prop),(∀ h' x,RE h'→(∃ o,h'.get? x=some o∧o.cls = .type "StopIteration")→E' (.ref x) { s with heap:=h' })→wpAny (model prog w) A.in1 (Builtin.SmallTypes.nextOf (.ref it)) Q' E' s)
  (hQ:∀ h',RE h'→Q none { s with heap:=h' }):wpAny (model prog w) A (pyNext (.ref e)) Q E s:=by
 have hT:s.TypeIs (.ref e) "enumerate" := ⟨_,he,rfl⟩
 unfold pyNext
 refine wpAny_bind (wpAny_attempt (wpAny_callSpecial?_slot (name:=Str.ofString "__next__") hT BR (wpAny_call_entry BR hT F.entry_enumerate_next ?_ (F.args_enumerate_next_1 _))))
 refine wpAny_bind (m:=field (.ref e) 2) (wpAny_field he rfl (x:=.ref it) rfl ?_)
 refine wpAny_bind (hin _ _ fun h' x re hx=>?_)
 obtain ⟨o,ho,hc⟩:=hx
 refine wpAny_bind (wpAny_isInstance (T := "StopIteration") (b:=true) ⟨o,ho,hc⟩ isSubtype_stop ?_)
 exact wpAny_pure (hQ _ re)
theorem enum_newZ (z TI TO:Addr) :
  Meets (Builtin.«enumerate.__new__» ⟨[.type "enumerate",.ref z],[]⟩) (fun _ R s=>IsZip s.heap z TI TO .none∧R (.ok (.ret (.ref s.heap.objs.size)))
    { s with heap:=s.heap.push { cls:=.type "enumerate",data:=.fields #[.none,.bool false,.ref z,rawInt 0,.none,.none] } }) :=
 .of_wp fun prog w A R s h=>by
  obtain ⟨hp,gn,d,tk,os⟩:=s
  obtain ⟨hl,h⟩:=h
  have sub:=sub_enumerate
  have itz:∀ {A':Around} {Q:Value→Shared→Prop} {E:Value→Shared→Prop},Q (.ref z) ⟨hp,gn,d,tk,os⟩→wpAny (model prog w) A' (pyIter (.ref z)) Q E ⟨hp,gn,d,tk,os⟩:=fun hq=>wpAny_pyIter_zip (s:=⟨hp,gn,d,tk,os⟩) hl hq
  wp_walk using Bp hl
  refine wpAny_stack_any fun st=>wpAny_pure ?_
  split
  ·rename_i c _ _ _ _ _
   cases (c == Value.type "enumerate") <;> (wp_walk using Bp hl,itz;exact ⟨_,rfl,h⟩)
  ·wp_walk using Bp hl,itz
   exact ⟨_,rfl,h⟩
theorem aS {z TI TO:Addr}{Q:Value→Shared→Prop}(hz:IsZip s.heap z TI TO .none)
  (h:∀ h',IsEnum h' s.heap.objs.size z 0 .none→(∀ b o,s.heap.get? b=some o→h'.get? b=some o)→Q (.ref s.heap.objs.size) { s with heap:=h' }):wpAny (model prog w) A (call (.type "enumerate") [.ref z]) Q E s:=by
 refine callType_new F.called_enumerate (by decide) (F.typeCall_enumerate_1 _) (F.newCall_enumerate_1 _) (fun obj=>F.args_object_init_2 obj _) F.entry_enumerate_new (enum_newZ z TI TO) ⟨hz,?_⟩
 have made:=Aq s.heap (o:={ cls:=.type "enumerate",data:=.fields #[.none,.bool false,.ref z,rawInt 0,.none,.none] }) rfl
 exact ⟨⟨_,made,rfl⟩,h _ made fun b o q=>Ac _ q⟩
end
def Itez (c1 c2:String)(a b:Addr)(xs ys:List V):It :=
 ⟨fun i H=>wY H c1 a xs∧wY H c2 b ys∧i < xs.length∧i < ys.length,fun i H x H'=>∃ T1 T2 u v,x = .ref T2∧H T1=none∧H T2=none∧T2 ≠ T1∧H'=upd (upd H T1 (.tup [u,v])) T2 (.tup [.int (i:Int),.ref T1])∧xs[i]? = some u∧ys[i]? = some v,fun i H=>wY H c1 a xs∧wY H c2 b ys∧(xs.length ≤ i∨ys.length ≤ i)⟩
structure Ez (h:Heap)(e z TI TO i1 i2:Addr)(c1 c2:String)(l1 l2:Addr)(k:Nat):Prop where
 en:∃ old,IsEnum h e z (k:Int) old
 zip:∃ f g,nK h z TI TO f g∧rV f
 ti:IsPair h TI (.ref i1) (.ref i2)
 to:∃ a b,IsPair h TO a b
 s1:(c1 = "list_iterator" ∧ h.IsListIter i1 l1 k)∨(c1 = "tuple_iterator" ∧ h.IsTupleIter i1 l1 k)
 s2:(c2 = "list_iterator" ∧ h.IsListIter i2 l2 k)∨(c2 = "tuple_iterator" ∧ h.IsTupleIter i2 l2 k)
theorem ez_obj {h:Heap}{e z TI TO i1 i2 l1 l2:Addr}{c1 c2:String}{i:Nat}(st:Ez h e z TI TO i1 i2 c1 c2 l1 l2 i):∀ b ∈ [e,z,TI,TO,i1,i2],∃ o,h.get? b=some o∧∀ v,o.data ≠ .cell v:=by
 obtain ⟨⟨old,he⟩,⟨f,g,hz,_⟩,hti,⟨a,c,hto⟩,h1,h2⟩:=st
 exact AV.2 ⟨⟨_,he,fun _=>dat_f⟩,AV.2 ⟨⟨_,hz,fun _=>dat_f⟩,AV.2 ⟨⟨_,hti,fun v q=>by cases (show Data.seq _ _=Data.cell v from q)⟩,AV.2 ⟨⟨_,hto,fun v q=>by cases (show Data.seq _ _=Data.cell v from q)⟩,AV.2 ⟨wU h1,AV.2 ⟨wU h2,fun _ q=>nomatch q⟩⟩⟩⟩⟩⟩
theorem turn_ez {P:Program}{w:World}{K:PySem.W.Frag}{es:List Expr}{tk:_}{tp:Pos}(e z TI TO i1 i2 l1 l2:Addr)(c1 c2:String)(xs ys:List V)(D:ZipApart z TI TO i1 i2 l1 l2)(ne:e ∉ [z,TI,TO,i1,i2]) :
  Turn P w K (.Tuple es tk tp) (Itez c1 c2 l1 l2 xs ys) [e,z,TI,TO,i1,i2] e (fun i h=>Ez h e z TI TO i1 i2 c1 c2 l1 l2 i) where
 mem:=.head _
 obj:=fun i h st=>ez_obj st
 keep:=fun i h h' st k=>by
  obtain ⟨⟨old,he⟩,⟨f,g,hz,hf⟩,hti,⟨a,c,hto⟩,h1,h2⟩:=st
  exact ⟨⟨old,k e (.head _) _ he⟩,⟨f,g,k z mm1 _ hz,hf⟩,k TI mm2 _ hti,⟨a,c,k TO mm3 _ hto⟩,vL h1 fun o q=>k i1 mm4 o q,vL h2 fun o q=>k i2 mm5 o q⟩
 item:=by
  intro X hP hw hK hc i pins s σ H E I hf st hg
  subst hP hw hK
  obtain ⟨q1,q2,hi1,hi2⟩:=hg
  obtain ⟨its1,r1,o1⟩:=I.seqOf q1
  obtain ⟨its2,r2,o2⟩:=I.seqOf q2
  obtain ⟨x,hx⟩:=xZ hi1
  obtain ⟨y,hy⟩:=xZ hi2
  obtain ⟨u,hu,ru⟩:=r1.get hx
  obtain ⟨v,hv,rv⟩:=r2.get hy
  obtain ⟨⟨old,he⟩,⟨f,g,hz,hfo⟩,hti,hto,h1,h2⟩:=id st
  have lt:=ob_lt (ez_obj st)
  refine en_item (RR:=fun x' h1'=>x' = .ref s.heap.objs.size∧(∃ f' g',nK h1' z TI TO f' g'∧rV f')∧IsPair h1' TI (.ref i1) (.ref i2)∧(∃ a b,IsPair h1' TO a b)∧Src h1' c1 i1 l1 its1.toArray (i + 1)∧Src h1' c2 i2 l2 its2.toArray (i + 1)∧IsPair h1' s.heap.objs.size u v∧h1'.objs.size=s.heap.objs.size + 1∧∀ c o,c ∉ [z,TO,i1,i2]→s.heap.get? c=some o→h1'.get? c=some o) he
   (fun Q' E' hq=>zn_item D hz hfo hti hto (yP h1 o1) (yP h2 o2) (by simpa using hu) (by simpa using hv) fun h' f' g' a1 a2 a3 a4 a5 a6 a7 a8 a9=>hq _ h' ⟨rfl,⟨f',g',a1,a2⟩,a3,a4,a5,a6,a7,a8,a9⟩)
   (fun x' h1' rr=>rr.2.2.2.2.2.2.2.2 e _ (fun q=>ne (mm45 q)) he)
   fun x' h1' h' rr out new size k=>?_
  obtain ⟨rfl,⟨f',g',zz,ff⟩,ti',to',s1',s2',pr,sz1,k1⟩:=rr
  refine ⟨_,rfl,wpAny_letOwnedTupleGo_enum out fun h'' z'' sb=>?_⟩
  have nT1:s.heap.objs.size ∉ [e,z,TI,TO,i1,i2]:=fun hb=>AQ _ (lt _ hb)
  have nT2:h1'.objs.size ∉ [e,z,TI,TO,i1,i2]:=fun hb=>absurd (lt _ hb) (by rw [sz1];exact Nat.not_lt_of_le (C1 _))
  have nm:∀ {c:Addr},c ∉ [e,z,TI,TO,i1,i2]→c ∉ [z,TO,i1,i2]∧c ≠ e:=fun h=>⟨fun q=>h (.tail _ (mm45 q)),fun q=>h (q ▸ .head _)⟩
  have kk:∀ c o,c ≠ e→h1'.get? c=some o→h''.get? c=some o:=fun c o n q=>sb.extBut _ _ n (k c o n q)
  have J1:=I.turnedT (fp:=[e,z,TI,TO,i1,i2]) (h':=h1') (T:=s.heap.objs.size) (xs:=[x,y]) (us:=[u,v]) (t':=s.toks) hf (fun c o hc' q=>k1 c o (nm hc').1 q) (Ag _) (by show 2 ≤ sizeLine;decide) (.cons ru (.cons rv .nil)) ⟨_,pr,rfl,_,rfl⟩ nT1
  have hf1:∀ b ∈ [e,z,TI,TO,i1,i2],vT X pins (upd H s.heap.objs.size (.tup [x,y])) b:=fun b hb=>⟨by rw [qT (AA (lt b hb))];exact (hf b hb).1,(hf b hb).2⟩
  have J2:=J1.turnedT (fp:=[e,z,TI,TO,i1,i2]) (h':=h'') (T:=h1'.objs.size) (xs:=[.int (i:Int),.ref s.heap.objs.size]) (us:=[.int i s.toks,.ref s.heap.objs.size]) (t':=s.toks + 1) hf1 (fun c o hc' q=>kk c o (nm hc').2 q) (Ag _) (by show 2 ≤ sizeLine;decide) (.cons ⟨s.toks,rfl⟩ (.cons rfl .nil)) ⟨_,sb.extBut _ _ (nm nT2).2 new,rfl,_,rfl⟩ nT2
  have ez:∀ {c:Addr},c ∈ [z,TI,TO,i1,i2]→c ≠ e:=fun h q=>ne (q ▸ h)
  refine ⟨.ref h1'.objs.size,_,J2,rfl,⟨s.heap.objs.size,h1'.objs.size,x,y,rfl,I.hok.fresh (Ag _),I.hok.fresh (by rw [sz1];exact C1 _),by rw [sz1];exact Nat.succ_ne_self _,rfl,hx,hy⟩,⟨⟨_,z''⟩,⟨f',g',kk _ _ (ez (.head _)) zz,ff⟩,kk _ _ (ez mm1) ti',?_,vL (xU s1') fun o q=>kk _ _ (ez mm3) q,vL (xU s2') fun o q=>kk _ _ (ez mm4) q⟩,fun b hb=>?_⟩
  ·obtain ⟨a,c,q⟩:=to'
   exact ⟨a,c,kk _ _ (ez mm2) q⟩
  ·have hlt:=lt b hb
   rw [qT (AA (by rw [sz1];exact Cn hlt)),qT (AA hlt)]
   exact (hf b hb).1
 done:=by
  intro X hP hw hK hc i pins s σ H E I hf st hg
  subst hP hw hK
  obtain ⟨q1,q2,hend⟩:=hg
  obtain ⟨its1,r1,o1⟩:=I.seqOf q1
  obtain ⟨its2,r2,o2⟩:=I.seqOf q2
  obtain ⟨⟨old,he⟩,⟨f,g,hz,hfo⟩,hti,hto,h1,h2⟩:=id st
  refine en_end (RE:=fun h'=>∀ c o,c ∉ [z,TO,i1,i2]→s.heap.get? c=some o→h'.get? c=some o) he (fun Q' E' hE=>zn_end (I.ok.hd hc) D hz hfo hti hto (yP h1 o1) (yP h2 o2) (hend.imp (hU r1.length) (hU r2.length)) fun h' x k hx=>hE h' x k hx) fun h' k=>?_
  exact ⟨rfl,I.turnedN (fp:=[e,z,TI,TO,i1,i2]) hf fun c o hc' q=>k c o (fun q=>hc' (.tail _ (mm45 q))) q⟩
 self:=fun A i s Q E st h=>by
  obtain ⟨⟨old,he⟩,_⟩:=st
  exact wpAny_pyIter_enum he h
section
variable {X:Cx}
def iEz (ta:TA):TI:=fun σ H R=>ta σ H fun vs H1=>∃ a b c1 c2 xs ys,vs=[.ref a,.ref b]∧wY H1 c1 a xs∧wY H1 c2 b ys∧R (Itez c1 c2 a b xs ys) H1
theorem pi_ez {es:List Expr}{kk:_}{tp:Pos}{a b:Expr}{ta:TA}{p pos p2 pos2:Pos}(hg:Gl X "enumerate") (hm:X.mg "enumerate" = none) (hg2:Gl X "zip") (hm2:X.mg "zip" = none) (ha:PA X [a,b] ta) (hs:starEach [a,b] X.env=[(false,eval a X.env),(false,eval b X.env)]:=by rfl) (hs2:starEach [b] X.env=[(false,eval b X.env)]:=by rfl)
  (hs3:starEach [.Call (.Name "zip" p2) [a,b] [] pos2] X.env=[(false,eval (.Call (.Name "zip" p2) [a,b] [] pos2) X.env)]:=by rfl) :
  PI X (.Tuple es kk tp) (.Call (.Name "enumerate" p) [.Call (.Name "zip" p2) [a,b] [] pos2] [] pos) (iEz ta):=by
 intro pins s σ H R I h
 refine Call_ (dZ I hg hm fY (Bg ?_ hs3 rfl))
 rw [hs3]
 show wpAny _ _ (spliced ((false,eval (.Call (.Name "zip" p2) [a,b] [] pos2) X.env) :: backTo pos [])) _ _ s
 refine Calls.spliced_cons ?_
 refine Call_ (dZ I hg2 hm2 bt_zip (Bg (jU (ha pos2 pins s σ H _ I h) fun us s1 ⟨vs,H1,I1,r1,q1⟩=>?_) (by rw [hs,hs2]) (by rw [hs2];rfl)))
 obtain ⟨l1,l2,c1,c2,xs,ys,ee,k1,k2,q⟩:=q1
 subst ee
 obtain ⟨u1,u2,rfl,e1,e2⟩:=r1.two
 cases e1
 cases e2
 obtain ⟨its1,v1,o1⟩:=I1.seqOf k1
 obtain ⟨its2,v2,o2⟩:=I1.seqOf k2
 have lt1:(l1:Nat) < (s1.heap.objs.size:Nat):=o1.lt
 have lt2:(l2:Nat) < (s1.heap.objs.size:Nat):=o2.lt
 refine uA o1 o2 fun h' Z sz old=>?_
 refine wpAny_pure ?_
 refine aS Z.zip fun h2 he2 old2=>?_
 refine wpAny_pyIter_enum he2 ?_
 have D:ZipApart (s1.heap.objs.size + 4) (s1.heap.objs.size + 2) (s1.heap.objs.size + 3) s1.heap.objs.size (s1.heap.objs.size + 1) l1 l2:=PySem.W.ktu_apart _ _ _ o1.lt o2.lt
 have J:Inv X pins σ H1 { s1 with heap:=h2 }:=I1.kept (t':=s1.toks) fun b o q=>old2 b o (old b o q)
 have eh:({ s1 with heap:=h' }:Shared).heap.objs.size=s1.heap.objs.size + 5:=sz
 rw [eh] at he2
 refine ⟨s1.heap.objs.size + 5,_,_,_,H1,by rw [eh],J,turn_ez (s1.heap.objs.size + 5) (s1.heap.objs.size + 4) (s1.heap.objs.size + 2) (s1.heap.objs.size + 3) s1.heap.objs.size (s1.heap.objs.size + 1) l1 l2 c1 c2 xs ys D (by simp),⟨⟨_,he2⟩,⟨_,_,old2 _ _ Z.zip,.inl rfl⟩,old2 _ _ Z.ti,?_,vL (xU Z.s1) fun o q=>old2 _ o q,vL (xU Z.s2) fun o q=>old2 _ o q⟩,fun b hb=>?_,q⟩
 ·obtain ⟨x,y,q⟩:=Z.to
  exact ⟨x,y,old2 _ _ q⟩
 ·have hb':s1.heap.objs.size ≤ b:=by
   simp only [Ax,BY,or_false] at hb
   rcases hb with rfl | rfl | rfl | rfl | rfl | rfl <;> first | exact BJ _ _ | exact Ag _
  exact I1.fpOk hb' (I1.hok.fresh hb')
theorem cl_ez {c1 c2:String}{a b:Addr}{xs ys:List V}{g:TG}{tc:TT}{tb:TB}{D:St→Hp→Prop}{σ:St}{H:Hp}(Pv:Nat→St→Hp→Prop)(h0:Pv 0 σ H)(hl:∀ i σ H,Pv i σ H→wY H c1 a xs∧wY H c2 b ys)
  (hs:∀ (i:Nat) u v (T1 T2:Addr) σ H H',xs[i]? = some u→ys[i]? = some v→Pv i σ H→Same H H'→H' T1=some (.tup [u,v])→H' T2=some (.tup [.int (i:Int),.ref T1])→g (.ref T2) σ H' fun σ2 H2=>tc σ2 H2 fun b H3=>if b=true then tb σ2 H3 (Pv (i + 1)) else Pv (i + 1) σ2 H3)
  (hd:∀ σ H,Pv (min xs.length ys.length) σ H→D σ H):uP (Itez c1 c2 a b xs ys) g tc tb D σ H:=by
 refine ⟨fun i m σ H=>m=min xs.length ys.length - i∧i ≤ min xs.length ys.length∧Pv i σ H,⟨min xs.length ys.length,by simp,AZ _,h0⟩,?_⟩
 rintro i m σ H ⟨rfl,hi,p⟩
 obtain ⟨q1,q2⟩:=hl i σ H p
 by_cases hlt:i < min xs.length ys.length
 ·refine .inr ⟨⟨q1,q2,by omega,by omega⟩,Pv (i + 1),fun σ' H' p'=>⟨min xs.length ys.length - (i + 1),by omega,rfl,hlt,p'⟩,fun x H' y=>?_⟩
  obtain ⟨T1,T2,u,v,rfl,n1,n2,nn,rfl,e1,e2⟩:=y
  have n2':upd H T1 (.tup [u,v]) T2=none:=by rw [qT nn];exact n2
  exact hs i u v T1 T2 σ H _ e1 e2 p ((jE n1).trans (jE n2')) (by rw [qT nn.symm,qG]) qG
 ·have e:i=min xs.length ys.length:=by omega
  subst e
  exact .inl ⟨⟨q1,q2,by omega⟩,hd σ H p⟩
theorem a_iEz {ta:TA}{σ:St}{H:Hp}{R:It→Hp→Prop}:iEz ta σ H R=ta σ H fun vs H1=>∃ a b c1 c2 xs ys,vs=[.ref a,.ref b]∧wY H1 c1 a xs∧wY H1 c2 b ys∧R (Itez c1 c2 a b xs ys) H1:=rfl
end
end L2
end
section
namespace L2
open PySem
section
variable {D:Ends}{σ:St}{H:Hp}{Q:VK}{QB:Bool→Hp→Prop}{QA:List V→Hp→Prop}
end
end L2
namespace L2
open PySem PySem.Spec PyProof.Rows
theorem us0 {P:List PySem.Value→Prop}(h:P []):∀ us:List PySem.Value,us.length=0→P us:=fun us e=>by
 cases us with
 | nil=>exact h
 | cons _ _=>cases e
theorem nM {P:List PySem.Value→Prop}(h:∀ a,P [a]):∀ us:List PySem.Value,us.length=1→P us:=fun us e=>by
 cases us with
 | nil=>cases e
 | cons a t=>exact us0 (P:=fun t=>P (a :: t)) (h a) t (C9 e)
theorem vP {P:List PySem.Value→Prop}(h:∀ a b,P [a,b]):∀ us:List PySem.Value,us.length=2→P us:=fun us e=>by
 cases us with
 | nil=>cases e
 | cons a t=>exact nM (P:=fun t=>P (a :: t)) (h a) t (C9 e)
theorem us3 {P:List PySem.Value→Prop}(h:∀ a b c,P [a,b,c]):∀ us:List PySem.Value,us.length=3→P us:=fun us e=>by
 cases us with
 | nil=>cases e
 | cons a t=>exact vP (P:=fun t=>P (a :: t)) (h a) t (C9 e)
theorem us4 {P:List PySem.Value→Prop}(h:∀ a b c d,P [a,b,c,d]):∀ us:List PySem.Value,us.length=4→P us:=fun us e=>by
 cases us with
 | nil=>cases e
 | cons a t=>exact us3 (P:=fun t=>P (a :: t)) (h a) t (C9 e)
theorem us5 {P:List PySem.Value→Prop}(h:∀ a b c d f,P [a,b,c,d,f]):∀ us:List PySem.Value,us.length=5→P us:=fun us e=>by
 cases us with
 | nil=>cases e
 | cons a t=>exact us4 (P:=fun t=>P (a :: t)) (h a) t (C9 e)
section
variable {D:Ends}{σ:St}{H:Hp}{Q:VK}{QB:Bool→Hp→Prop}{QA:List V→Hp→Prop}{QG:St→Hp→Prop}
theorem gS {i:Nat}{v:V}(h:σ[i]? = some (some v)):dM i σ H Q=Q v H:=propext ⟨fun ⟨_,e,q⟩=>by cases h.symm.trans e;exact q,fun q=>⟨v,h,q⟩⟩
theorem e_var0 {v:V}:dM 0 (some v :: σ) H Q=Q v H:=gS rfl
theorem e_var1 {v:V}{b0:Option V}:dM 1 (b0 :: some v :: σ) H Q=Q v H:=gS rfl
theorem e_var2 {v:V}{b0 b1:Option V}:dM 2 (b0 :: b1 :: some v :: σ) H Q=Q v H:=gS rfl
theorem e_var3 {v:V}{b0 b1 b2:Option V}:dM 3 (b0 :: b1 :: b2 :: some v :: σ) H Q=Q v H:=gS rfl
theorem e_var4 {v:V}{b0 b1 b2 b3:Option V}:dM 4 (b0 :: b1 :: b2 :: b3 :: some v :: σ) H Q=Q v H:=gS rfl
theorem e_var5 {v:V}{b0 b1 b2 b3 b4:Option V}:dM 5 (b0 :: b1 :: b2 :: b3 :: b4 :: some v :: σ) H Q=Q v H:=gS rfl
theorem e_var6 {v:V}{b0 b1 b2 b3 b4 b5:Option V}:dM 6 (b0 :: b1 :: b2 :: b3 :: b4 :: b5 :: some v :: σ) H Q=Q v H:=gS rfl
theorem e_var7 {v:V}{b0 b1 b2 b3 b4 b5 b6:Option V}:dM 7 (b0 :: b1 :: b2 :: b3 :: b4 :: b5 :: b6 :: some v :: σ) H Q=Q v H:=gS rfl
theorem e_var8 {v:V}{b0 b1 b2 b3 b4 b5 b6 b7:Option V}:dM 8 (b0 :: b1 :: b2 :: b3 :: b4 :: b5 :: b6 :: b7 :: some v :: σ) H Q=Q v H:=gS rfl
theorem e_var9 {v:V}{b0 b1 b2 b3 b4 b5 b6 b7 b8:Option V}:dM 9 (b0 :: b1 :: b2 :: b3 :: b4 :: b5 :: b6 :: b7 :: b8 :: some v :: σ) H Q=Q v H:=gS rfl
theorem e_var10 {v:V}{b0 b1 b2 b3 b4 b5 b6 b7 b8 b9:Option V}:dM 10 (b0 :: b1 :: b2 :: b3 :: b4 :: b5 :: b6 :: b7 :: b8 :: b9 :: some v :: σ) H Q=Q v H:=gS rfl
theorem e_nam0 {v:V}{b0:Option V}:zU 0 v (b0 :: σ) H QG=QG (some v :: σ) H:=rfl
theorem e_nam1 {v:V}{b0 b1:Option V}:zU 1 v (b0 :: b1 :: σ) H QG=QG (b0 :: some v :: σ) H:=rfl
theorem e_nam2 {v:V}{b0 b1 b2:Option V}:zU 2 v (b0 :: b1 :: b2 :: σ) H QG=QG (b0 :: b1 :: some v :: σ) H:=rfl
theorem e_nam3 {v:V}{b0 b1 b2 b3:Option V}:zU 3 v (b0 :: b1 :: b2 :: b3 :: σ) H QG=QG (b0 :: b1 :: b2 :: some v :: σ) H:=rfl
theorem e_nam4 {v:V}{b0 b1 b2 b3 b4:Option V}:zU 4 v (b0 :: b1 :: b2 :: b3 :: b4 :: σ) H QG=QG (b0 :: b1 :: b2 :: b3 :: some v :: σ) H:=rfl
theorem e_nam5 {v:V}{b0 b1 b2 b3 b4 b5:Option V}:zU 5 v (b0 :: b1 :: b2 :: b3 :: b4 :: b5 :: σ) H QG=QG (b0 :: b1 :: b2 :: b3 :: b4 :: some v :: σ) H:=rfl
theorem e_nam6 {v:V}{b0 b1 b2 b3 b4 b5 b6:Option V}:zU 6 v (b0 :: b1 :: b2 :: b3 :: b4 :: b5 :: b6 :: σ) H QG=QG (b0 :: b1 :: b2 :: b3 :: b4 :: b5 :: some v :: σ) H:=rfl
theorem e_nam7 {v:V}{b0 b1 b2 b3 b4 b5 b6 b7:Option V}:zU 7 v (b0 :: b1 :: b2 :: b3 :: b4 :: b5 :: b6 :: b7 :: σ) H QG=QG (b0 :: b1 :: b2 :: b3 :: b4 :: b5 :: b6 :: some v :: σ) H:=rfl
theorem e_nam8 {v:V}{b0 b1 b2 b3 b4 b5 b6 b7 b8:Option V}:zU 8 v (b0 :: b1 :: b2 :: b3 :: b4 :: b5 :: b6 :: b7 :: b8 :: σ) H QG=QG (b0 :: b1 :: b2 :: b3 :: b4 :: b5 :: b6 :: b7 :: some v :: σ) H:=rfl
theorem e_nam9 {v:V}{b0 b1 b2 b3 b4 b5 b6 b7 b8 b9:Option V}:zU 9 v (b0 :: b1 :: b2 :: b3 :: b4 :: b5 :: b6 :: b7 :: b8 :: b9 :: σ) H QG=QG (b0 :: b1 :: b2 :: b3 :: b4 :: b5 :: b6 :: b7 :: b8 :: some v :: σ) H:=rfl
theorem e_nam10 {v:V}{b0 b1 b2 b3 b4 b5 b6 b7 b8 b9 b10:Option V}:zU 10 v (b0 :: b1 :: b2 :: b3 :: b4 :: b5 :: b6 :: b7 :: b8 :: b9 :: b10 :: σ) H QG=QG (b0 :: b1 :: b2 :: b3 :: b4 :: b5 :: b6 :: b7 :: b8 :: b9 :: some v :: σ) H:=rfl
theorem e_par {i j:Nat}{ta:TA}:tPar i j ta D σ H=ta σ H fun vs H1=>∃ v w,vs=[v,w]∧zU i v σ H1 fun σ1 H2=>zU j w σ1 H2 D.nx:=rfl
theorem e_ex2 {x y:V}{P:V→V→Prop}:(∃ v w,[x,y] = [v,w]∧P v w)=P x y:=propext ⟨fun ⟨_,_,e,q⟩=>by cases e;exact q,fun q=>⟨_,_,rfl,q⟩⟩
theorem e_gN:gNil [] σ H QG=QG σ H:=propext ⟨fun h=>h.2,fun h=>⟨rfl,h⟩⟩
theorem e_gC {t:TG}{u:TGs}{v:V}{r:List V}:gCons t u (v :: r) σ H QG=t v σ H fun σ' H'=>u r σ' H' QG:=propext ⟨fun ⟨_,_,e,q⟩=>by cases e;exact q,fun q=>⟨_,_,rfl,q⟩⟩
theorem e_rI0 {g:Int→Int→V}{i j:Int}:rI0 g (.int i) (.int j) H Q=Q (g i j) H:=propext ⟨fun ⟨_,_,e,e',q⟩=>by cases e;cases e';exact q,fun q=>⟨_,_,rfl,rfl,q⟩⟩
theorem e_rI {C:Int→Int→Prop}{g:Int→Int→V}{i j:Int}:rI C g (.int i) (.int j) H Q=(C i j∧Q (g i j) H):=propext ⟨fun ⟨_,_,e,e',q⟩=>by cases e;cases e';exact q,fun q=>⟨_,_,rfl,rfl,q⟩⟩
theorem e_rU {g:Int→V}{i:Int}:rU g (.int i) H Q=Q (g i) H:=propext ⟨fun ⟨_,e,q⟩=>by cases e;exact q,fun q=>⟨_,rfl,q⟩⟩
theorem e_xB {b:Bool}{P:Bool→Prop}:(∃ k,V.bl b=V.bl k∧P k)=P b:=propext ⟨fun ⟨_,e,q⟩=>by cases e;exact q,fun q=>⟨_,rfl,q⟩⟩
theorem e_xI {b:Int}{P:Int→Prop}:(∃ k,V.int b=V.int k∧P k)=P b:=propext ⟨fun ⟨_,e,q⟩=>by cases e;exact q,fun q=>⟨_,rfl,q⟩⟩
theorem e_xJ {b:Int}{P:Int→Prop}:(∃ k,[V.int b] = [V.int k]∧P k)=P b:=propext ⟨fun ⟨_,e,q⟩=>by cases e;exact q,fun q=>⟨_,rfl,q⟩⟩
theorem e_xJ2 {a b:Int}{P:Int→Int→Prop}:(∃ j k,[V.int a,V.int b] = [V.int j,V.int k]∧P j k)=P a b:=propext ⟨fun ⟨_,_,e,q⟩=>by cases e;exact q,fun q=>⟨_,_,rfl,q⟩⟩
theorem e_rEq {a b:Int}:rEq (.int a) (.int b) H Q=Q (.bl (decide (a=b))) H:=by
 show (xD (.int a) (.int b)=true∧_)=_
 rw [show (decide (V.int a=V.int b))=decide (a=b) from decide_eq_decide.mpr ⟨fun e=>V.int.inj e,fun e=>by rw [e]⟩]
 exact propext ⟨fun h=>h.2,fun h=>⟨rfl,h⟩⟩
theorem e_rNe {a b:Int}:rNe (.int a) (.int b) H Q=Q (.bl (!decide (a=b))) H:=by
 show (xD (.int a) (.int b)=true∧_)=_
 rw [show (decide (V.int a=V.int b))=decide (a=b) from decide_eq_decide.mpr ⟨fun e=>V.int.inj e,fun e=>by rw [e]⟩]
 exact propext ⟨fun h=>h.2,fun h=>⟨rfl,h⟩⟩
theorem e_itT {a b:Prop}:(if true=true then a else b)=a:=rfl
theorem e_itF {a b:Prop}:(if false=true then a else b)=b:=rfl
theorem e_itD {p:Prop}[Decidable p]{a b:Prop}:(if decide p=true then a else b)=if p then a else b:=by by_cases h:p <;> simp [h]
end
class CtP (α:Type) where
 p:α→Prop
def OS {α:Type}(o:Option α)[c:CtP α] : Prop:=∃ x,o=some x∧c.p x
def OL (o:Option HO)[c:CtP (List V)] : Prop:=∃ x,o=some (.lst x)∧c.p x
def OT (o:Option HO)[c:CtP (List V)] : Prop:=∃ x,o=some (.tup x)∧c.p x
theorem e_os {α:Type}{x:α}{P:α→Prop} : @OS α (some x) ⟨P⟩=P x:=propext ⟨fun ⟨_,e,q⟩=>by cases e;exact q,fun q=>⟨x,rfl,q⟩⟩
theorem e_ol {x:List V}{P:List V→Prop} : @OL (some (.lst x)) ⟨P⟩=P x:=propext ⟨fun ⟨_,e,q⟩=>by cases e;exact q,fun q=>⟨x,rfl,q⟩⟩
theorem e_ot {x:List V}{P:List V→Prop} : @OT (some (.tup x)) ⟨P⟩=P x:=propext ⟨fun ⟨_,e,q⟩=>by cases e;exact q,fun q=>⟨x,rfl,q⟩⟩
theorem u_os {α:Type}{o:Option α}{P:α→Prop} : @OS α o ⟨P⟩ = ∃ x,o=some x∧P x:=rfl
theorem u_ol {o:Option HO}{P:List V→Prop} : @OL o ⟨P⟩ = ∃ x,o=some (.lst x)∧P x:=rfl
theorem u_ot {o:Option HO}{P:List V→Prop} : @OT o ⟨P⟩ = ∃ x,o=some (.tup x)∧P x:=rfl
section
variable {D:Ends}{σ:St}{H:Hp}{Q:VK}{QG:St→Hp→Prop}{a:Addr}{n k:Int}
theorem e_ix:rIx0 (.ref a) (.int n) H Q = @OS _ (sq H a) ⟨fun xs=>@OS _ (vC xs n) ⟨fun v=>Q v H⟩⟩:=propext ⟨fun ⟨_,xs,_,v,e,e',h,h',q⟩=>by cases e;cases e';exact ⟨xs,h,v,h',q⟩,fun ⟨xs,h,v,h',q⟩=>⟨_,xs,_,v,rfl,rfl,h,h',q⟩⟩
theorem e_setL {v:V}{q:Hp→Prop}:rSetL (.ref a) (.int k) v H q = @OL (H a) ⟨fun xs=>@OS _ (rW xs.length k) ⟨fun j=>q (upd H a (.lst (xs.set j v)))⟩⟩:=propext ⟨fun ⟨_,xs,_,v,e,e',h,h',q⟩=>by cases e;cases e';exact ⟨xs,h,v,h',q⟩,fun ⟨xs,h,v,h',q⟩=>⟨_,xs,_,v,rfl,rfl,h,h',q⟩⟩
theorem e_emit {p:Addr}{te:TE}:dC p te σ H QG=te σ H fun y H1=>@OL (H1 p) ⟨fun ys=>ys.length < sizeLine∧QG σ (upd H1 p (.lst (ys ++ [y])))⟩:=rfl
theorem e_f1 {α:Type}{f:Addr→Option α}{P:Addr→α→Prop}:(∃ p ys,[V.ref a] = [V.ref p]∧f p=some ys∧P p ys) = @OS _ (f a) ⟨fun ys=>P a ys⟩:=propext ⟨fun ⟨_,y,e,h,q⟩=>by cases e;exact ⟨y,h,q⟩,fun ⟨y,h,q⟩=>⟨_,y,rfl,h,q⟩⟩
theorem e_f2 {P:Addr→List V→Prop}:(∃ p ys,[V.ref a] = [V.ref p]∧H p=some (.lst ys)∧P p ys) = @OL (H a) ⟨fun ys=>P a ys⟩:=propext ⟨fun ⟨_,y,e,h,q⟩=>by cases e;exact ⟨y,h,q⟩,fun ⟨y,h,q⟩=>⟨_,y,rfl,h,q⟩⟩
theorem e_f3 {P:Addr→List V→Prop}:(∃ p ys,V.ref a=V.ref p∧H p=some (.lst ys)∧P p ys) = @OL (H a) ⟨fun ys=>P a ys⟩:=propext ⟨fun ⟨_,y,e,h,q⟩=>by cases e;exact ⟨y,h,q⟩,fun ⟨y,h,q⟩=>⟨_,y,rfl,h,q⟩⟩
theorem e_f4 {P:Addr→List V→Prop}:(∃ p ys,V.ref a=V.ref p∧H p=some (.tup ys)∧P p ys) = @OT (H a) ⟨fun ys=>P a ys⟩:=propext ⟨fun ⟨_,y,e,h,q⟩=>by cases e;exact ⟨y,h,q⟩,fun ⟨y,h,q⟩=>⟨_,y,rfl,h,q⟩⟩
theorem e_f5 {z:V}{P:List V→V→Prop}:(∃ ys y,[z] = [y]∧H a=some (.lst ys)∧P ys y) = @OL (H a) ⟨fun ys=>P ys z⟩:=propext ⟨fun ⟨y,_,e,h,q⟩=>by cases e;exact ⟨y,h,q⟩,fun ⟨y,h,q⟩=>⟨y,_,rfl,h,q⟩⟩
end
theorem e_g1 {a:Addr}{P:Addr→Prop}:(∃ p,[V.ref a] = [V.ref p]∧P p)=P a:=propext ⟨fun ⟨_,e,q⟩=>by cases e;exact q,fun q=>⟨_,rfl,q⟩⟩
theorem e_g2 {a:Addr}{P:Addr→Prop}:(∃ p,V.ref a=V.ref p∧P p)=P a:=propext ⟨fun ⟨_,e,q⟩=>by cases e;exact q,fun q=>⟨_,rfl,q⟩⟩
theorem e_g3 {H:Hp}{a:Addr}{P:List V→Prop}:(∃ x,sq H a=some x∧P x) = @OS _ (sq H a) ⟨P⟩:=rfl
theorem e_g4 {H:Hp}{a:Addr}{P:List V→Prop}:(∃ x,H a=some (.lst x)∧P x) = @OL (H a) ⟨P⟩:=rfl
theorem e_g5 {H:Hp}{a:Addr}{P:List V→Prop}:(∃ x,H a=some (.tup x)∧P x) = @OT (H a) ⟨P⟩:=rfl
theorem e_g7 {xs:List V}{n:Int}{P:V→Prop}:(∃ x,vC xs n=some x∧P x) = @OS _ (vC xs n) ⟨P⟩:=rfl
class CtS where
 f:St→Hp→Prop
def nD [c:CtS] : St→Hp→Prop:=c.f
theorem qO {f:St→Hp→Prop}{σ:St}{H:Hp} : @nD ⟨f⟩ σ H=f σ H:=rfl
theorem aQ {t u:TS}{D:Ends}{σ:St}{H:Hp}:tSeqL t u D σ H=t { D with nx:=@nD ⟨u D⟩ } σ H:=rfl
theorem sc_ii {a b:Int}:xD (.int a) (.int b)=true:=rfl
theorem sc_bb {a b:Bool}:xD (.bl a) (.bl b)=true:=rfl
theorem sc_ss {a b:Str}:xD (.str a) (.str b)=true:=rfl
theorem sc_nn:xD .non .non=true:=rfl
theorem sc_in {a:Int}:xD (.int a) .non=true:=rfl
theorem sc_ni {a:Int}:xD .non (.int a)=true:=rfl
theorem sc_bn {a:Bool}:xD (.bl a) .non=true:=rfl
theorem sc_nb {a:Bool}:xD .non (.bl a)=true:=rfl
theorem sc_sn {a:Str}:xD (.str a) .non=true:=rfl
theorem sc_ns {a:Str}:xD .non (.str a)=true:=rfl
theorem sc_is {a:Int}{b:Str}:xD (.int a) (.str b)=true:=rfl
theorem sc_si {a:Int}{b:Str}:xD (.str b) (.int a)=true:=rfl
theorem sc_bs {a:Bool}{b:Str}:xD (.bl a) (.str b)=true:=rfl
theorem sc_sb {a:Bool}{b:Str}:xD (.str b) (.bl a)=true:=rfl
end L2
end
section
namespace L2
open PySem PySem.Spec
open PyProof.Rows hiding Fr News
section
variable {X:Cx}
theorem ints_allL {ns ms:List Int}(h:ns.length=ms.length):((List.range ns.length).all fun j=>decide (ns.getD j 0=ms.getD j 0))=decide (ns=ms):=by
 have e:=mS ns ms
 rw [h,CP,Cu,Bool.and_true] at e
 rw [h]
 exact e
theorem eqAt_li {pins:List (Addr × Obj)}{σ:St}{H:Hp}{s:Shared}{A:Around}{a b:Addr}{ns ms:List Int}(I:Inv X pins σ H s)(ha:H a=some (.lst (ns.map V.int)))(hb:H b=some (.lst (ms.map V.int)))(hu:A.units < cLine):SeqAt.EqAt A s (.ref a) (.ref b) (decide (ns=ms)):=by
 by_cases hab:a=b
 ·subst hab
  rw [ha] at hb
  have e:ns.map V.int=ms.map V.int:=by injection hb with h;injection h
  have:ns=ms:=Ce (fun _ _ h=>by injection h) |>.mp e
  rw [Ar this]
  exact C4 _
 ·refine SeqAt.EqAt.of_refs hab ?_
  obtain ⟨its,r1,p1,_⟩:=I.list (SqL.of ha)
  obtain ⟨its2,r2,p2,_⟩:=I.list (SqL.of hb)
  have l1:=r1.length
  have l2:=r2.length
  rw [Ab] at l1 l2
  by_cases c:ns.length=ms.length
  ·have r:=SeqAt.RcAt.lists (A:=A) (s:=s) (e:=fun j=>decide (ns.getD j 0=ms.getD j 0)) p1.isList p2.isList (by simp;omega) hu (fun j h1 h2=>by
    have h1':j < its.length:=by simpa using h1
    have h2':j < its2.length:=by simpa using h2
    obtain ⟨t,e1⟩:=jV r1 (i:=j) (v:=its[j]) (by simp [h1'])
    obtain ⟨u,e2⟩:=jV r2 (i:=j) (v:=its2[j]) (by simp [h2'])
    have key:SeqAt.EqAt A.in1 s its[j] its2[j] (aP (.int (ns.getD j 0)) (.int (ms.getD j 0))):=mY ⟨t,e1⟩ ⟨u,e2⟩ rfl rfl
    have e:aP (.int (ns.getD j 0)) (.int (ms.getD j 0))=decide (ns.getD j 0=ms.getD j 0):=by
     show (ns.getD j 0 == ms.getD j 0)=_
     rfl
    rw [e] at key
    simpa using key)
   rw [Ap,← l1,ints_allL c] at r
   exact r
  ·rw [Al (fun z=>c (Bi List.length z))]
   exact SeqAt.RcAt.lists_lengths p1.isList p2.isList (by simp;omega) hu
theorem refsAt {xs:List (Addr × List Int)}{its:List Value}(vi:Vals (xs.map fun x=>V.ref x.1) its):its=xs.map fun x=>Value.ref x.1:=by
 have hlen:xs.length=its.length:=by simpa using vi.length
 refine BH (by simpa using hlen.symm) fun i h1 h2=>?_
 obtain ⟨u,hu,ru⟩:=vi.get (i:=i) (x:=V.ref (xs[i]'(by omega)).1) (by simp [show i < xs.length by omega])
 rw [Am h1] at hu
 rw [AH hu,Ct]
 exact ru
theorem rows_all {xs ys:List (List Int)}(h:xs.length=ys.length):((List.range xs.length).all fun j=>decide (xs.getD j [] = ys.getD j []))=decide (xs=ys):=by
 rw [Bu,BG,AE]
 simp only [AI,AE]
 constructor
 ·intro k
  refine BH h fun i h1 h2=>?_
  have:=k i h1
  rwa [Aa,Aa,Am h1,Am h2] at this
 ·rintro rfl j _
  rfl
theorem eqAt_lt {pins:List (Addr × Obj)}{σ:St}{H:Hp}{s:Shared}{A:Around}{a b:Addr}{xs ys:List (Addr × List Int)}(I:Inv X pins σ H s)(ha:H a=some (.lst (xs.map fun x=>V.ref x.1)))(hb:H b=some (.lst (ys.map fun x=>V.ref x.1)))(tx:∀ x ∈ xs,H x.1=some (.tup (x.2.map V.int)))(ty:∀ x ∈ ys,H x.1=some (.tup (x.2.map V.int)))(hu:A.units + 1 < cLine):SeqAt.EqAt A s (.ref a) (.ref b) (decide (xs.map (·.2)=ys.map (·.2))):=by
 by_cases hab:a=b
 ·subst hab
  rw [ha] at hb
  have e:(xs.map fun x=>V.ref x.1)=ys.map fun x=>V.ref x.1:=by injection hb with h;injection h
  have hl:xs.length=ys.length:=by have:=Bi List.length e;simpa using this
  have:xs.map (·.2)=ys.map (·.2):=by
   refine BH (by simpa using hl) fun i h1 h2=>?_
   have j1:i < xs.length:=by simpa using h1
   have j2:i < ys.length:=by simpa using h2
   have q:=Bi (fun l=>l[i]?) e
   simp only [Ah,Am j1,Am j2,BQ,Option.some.injEq,V.ref.injEq] at q
   have a1:=tx _ (AN j1)
   have a2:=ty _ (AN j2)
   rw [q,a2] at a1
   injection a1 with h
   injection h with h
   rw [Ct,Ct]
   exact (Ce (fun _ _ h=>by injection h) |>.mp h).symm
  rw [Ar this]
  exact C4 _
 ·refine SeqAt.EqAt.of_refs hab ?_
  obtain ⟨its,r1,p1,_⟩:=I.list (SqL.of ha)
  obtain ⟨its2,r2,p2,_⟩:=I.list (SqL.of hb)
  have e1:=refsAt r1
  have e2:=refsAt r2
  subst e1 e2
  by_cases c:xs.length=ys.length
  ·have r:=SeqAt.RcAt.lists (A:=A) (s:=s) (e:=fun j=>decide ((xs.map (·.2)).getD j [] = (ys.map (·.2)).getD j [])) p1.isList p2.isList (by simpa using c) (by omega) (fun j h1 h2=>by
    have j1:j < xs.length:=by simpa using h1
    have j2:j < ys.length:=by simpa using h2
    have g1:(xs.map (·.2)).getD j [] = xs[j].2:=by rw [Aa,Ah,Am j1];rfl
    have g2:(ys.map (·.2)).getD j [] = ys[j].2:=by rw [Aa,Ah,Am j2];rfl
    rw [g1,g2]
    simp only [List.getElem_toArray,Ct]
    exact t4 I (tx _ (AN j1)) (ty _ (AN j2)) (by show A.units + 1 < cLine;omega))
   have e:=rows_all (xs:=xs.map (·.2)) (ys:=ys.map (·.2)) (by simpa using c)
   rw [Ap,Ab] at r
   rw [Ab] at e
   rw [e] at r
   exact r
  ·rw [Al (fun z=>c (by have:=Bi List.length z;simpa using this))]
   exact SeqAt.RcAt.lists_lengths p1.isList p2.isList (by simpa using c) (by omega)
def rNeGr:R2:=fun x y H Q=>∃ (a b a1 a2 b1 b2:Addr) (n1 m1:List Int) (n2 m2:List (Addr × List Int)),x = .ref a∧y = .ref b∧H a=some (.tup [.ref a1,.ref a2])∧H b=some (.tup [.ref b1,.ref b2])∧H a1=some (.lst (n1.map V.int))∧H a2=some (.lst (n2.map fun x=>V.ref x.1))∧H b1=some (.lst (m1.map V.int))∧H b2=some (.lst (m2.map fun x=>V.ref x.1))∧(∀ x ∈ n2,H x.1=some (.tup (x.2.map V.int)))∧(∀ x ∈ m2,H x.1=some (.tup (x.2.map V.int)))∧Q (.bl (!(decide (n1=m1) && decide (n2.map (·.2)=m2.map (·.2))))) H
theorem a_rNeGr {x y:V}{H:Hp}{Q:VK}:rNeGr x y H Q = ∃ (a b a1 a2 b1 b2:Addr) (n1 m1:List Int) (n2 m2:List (Addr × List Int)),x = .ref a∧y = .ref b∧H a=some (.tup [.ref a1,.ref a2])∧H b=some (.tup [.ref b1,.ref b2])∧H a1=some (.lst (n1.map V.int))∧H a2=some (.lst (n2.map fun x=>V.ref x.1))∧H b1=some (.lst (m1.map V.int))∧H b2=some (.lst (m2.map fun x=>V.ref x.1))∧(∀ x ∈ n2,H x.1=some (.tup (x.2.map V.int)))∧(∀ x ∈ m2,H x.1=some (.tup (x.2.map V.int)))∧Q (.bl (!(decide (n1=m1) && decide (n2.map (·.2)=m2.map (·.2))))) H:=rfl
theorem neGr0 (hu:X.A.units + 64 < cLine):vU X (compareOp .NotEq) rNeGr:=by
 intro pins s σ H x y v u Q I rx ry h
 obtain ⟨a,b,a1,a2,b1,b2,n1,m1,n2,m2,rfl,rfl,ha,hb,ha1,ha2,hb1,hb2,t1,t2,q⟩:=h
 cases rx
 cases ry
 obtain ⟨its,r1,p1,_⟩:=I.tuple (SqT.of ha)
 obtain ⟨its2,r2,p2,_⟩:=I.tuple (SqT.of hb)
 obtain ⟨u1,u2,rfl,e1,e2⟩:=r1.two
 obtain ⟨v1,v2,rfl,f1,f2⟩:=r2.two
 cases e1
 cases e2
 cases f1
 cases f2
 obtain ⟨⟨c1,d1,da1,sl1⟩,o1,k1,n1',g1⟩:=id p1
 obtain ⟨⟨c2,d2,da2,sl2⟩,o2,k2,n2',g2⟩:=id p2
 simp only at k1 g1 k2 g2
 subst k1 g1 k2 g2
 refine richCompare_meets_room (op:=.NotEq) ⟨_,o1,rfl⟩ ⟨_,o2,rfl⟩ F.slot_tuple_ne F.entry_tuple_ne (F.args_tuple_ne_2 _ _) (tuple_neAt a b _ _ n1' n2' d1 d2 sl1 sl2 fun j=>if j=0 then decide (n1=m1) else decide (n2.map (·.2)=m2.map (·.2))) ⟨o1,o2,fun j h1 h2=>?_,?_⟩ (by omega)
 ·have hj:j=0∨j=1:=by
   have:j < 2:=by simpa using h1
   omega
  rcases hj with rfl | rfl
  ·refine eqAt_li I ha1 hb1 ?_
   simp only [Cq]
   omega
  ·refine eqAt_lt I ha2 hb2 t1 t2 ?_
   simp only [Cq]
   omega
 ·refine ⟨(fun z=>nomatch z),⟨.bl (!(decide (n1=m1) && decide (n2.map (·.2)=m2.map (·.2)))),H,I,?_,q⟩⟩
  simp [Bb]
  rfl
end
end L2
end
section
set_option maxRecDepth 1000000
set_option maxHeartbeats 8000000
section
open PySem L2
set_option hygiene false in
local macro_rules | `(tactic| push_cast [$as,*]) => `(tactic| (try simp only [↓e_var0, ↓e_var1, ↓e_var2, ↓e_var3, ↓e_var4, ↓e_var5, ↓e_var6, ↓e_var7, ↓e_var8, ↓e_var9, ↓e_var10, ↓e_nam0, ↓e_nam1, ↓e_nam2, ↓e_nam3, ↓e_nam4, ↓e_nam5, ↓e_nam6, ↓e_nam7, ↓e_nam8, ↓e_nam9, ↓e_nam10, ↓e_par, ↓e_ex2, ↓e_gN, ↓e_gC, ↓e_rI0, ↓e_rI, ↓e_rU, ↓e_xB, ↓e_xI, ↓e_xJ, ↓e_xJ2, ↓e_rEq, ↓e_rNe, ↓e_itT, ↓e_itF, ↓e_itD, ↓e_ix, ↓e_setL, ↓e_emit, ↓e_f1, ↓e_f2, ↓e_f3, ↓e_f4, ↓e_f5, ↓aQ, ↓e_g1, ↓e_g2, e_os, e_ol, e_ot, HO.dT.injEq, ↓a_iEz, V.str.injEq, HO.dK.injEq, ↓a_rEqNil, ↓a_tRevL, ↓a_iS0, ↓a_tPop0, ↓a_iEnum, ↓a_tChain, ↓a_tLstA, ↓a_rMulT, ↓a_rEqT, ↓a_tLC2, ↓a_tInner, ↓a_rSlA, ↓a_rCatA, ↓a_rCatL, ↓a_tSeq, ↓a_tFor, ↓a_rIxL, ↓a_iZip, ↓a_tSl, ↓a_rSlL0, ↓a_tNoPart, ↓a_tPart, ↓a_tApp, ↓a_tRet, ↓a_tNext, ↓a_tDrop, ↓a_tAsg, ↓a_gSub, a_gName, a_gNil, a_gCons, ↓a_gTup0, a_rSetL, ↓a_tIfS, ↓a_tAnd, ↓a_tOr, ↓a_tNot, ↓a_tTest, ↓a_tB, ↓a_tTrue, ↓a_tIf, ↓a_tOp, ↓a_tUn, a_rU, a_tVar, ↓a_tC, a_rI0, a_rI, a_rEq, a_rNe, a_rIx0, ↓a_rIn0, ↓a_tCB, ↓a_tCal, ↓a_tCons, ↓a_tNil, ↓a_tTupA, ↓a_tLst, a_tPar, ↓a_tLC, ↓a_iRng1, ↓a_iT0, ↓a_iL0, a_tEmit, oK, sc_ii, sc_bb, sc_ss, sc_nn, sc_in, sc_ni, sc_bn, sc_nb, sc_sn, sc_ns, sc_is, sc_si, sc_bs, sc_sb, V.ty.injEq, tyN, subN, String.reduceEq, String.reduceBEq, Bool.true_or, Bool.false_or, Bool.or_false, Bool.true_and, Bool.false_and, Bool.and_false, or_true, true_or, beq_self_eq_true, decide_true, decide_false, List.map_cons, List.map_nil, List.length_cons, List.length_nil, List.getElem?_cons_zero, List.getElem?_cons_succ, List.getElem?_nil, List.set_cons_zero, List.set_cons_succ, Option.some.injEq, Option.bind_some, Option.bind_none, id, exists_eq_left', exists_eq_left, exists_and_left, exists_eq_right, V.int.injEq, V.bl.injEq, V.ref.injEq, List.cons.injEq, and_true, true_and, and_assoc, exists_const, atI0, atI1, atI2, ixN30, ixN31, ixN32, qG, upd_upd, sq_updL, sq_updT, Nat.zero_add, Nat.reduceAdd, reduceCtorEq, false_and, and_false, exists_false, false_or, or_false, List.length_map, HO.lst.injEq, HO.tup.injEq, Bool.false_eq_true, if_false, if_true, decide_eq_true_eq, ite_true, ite_false, reduceIte, Int.reduceLT, Int.reduceLE, Nat.reduceLT, Int.zero_add, Bool.not_true, Bool.not_false, $as,*]))
set_option hygiene false in
local macro_rules | `(tactic| push_cast only [$as,*]) => `(tactic| ((push_cast [↓e_g3, ↓e_g4, ↓e_g5, ↓e_g7, $as,*]); (push_cast [u_os, u_ol, u_ot, $as,*])))
set_option hygiene false in
local macro_rules | `(tactic| omega) => `(tactic| first | (with_reducible first | assumption | (refine Nat.lt_of_lt_of_le ?_ (show 2 ^ _ ≤ 32 from p32); assumption) | (refine Nat.lt_of_lt_of_le ?_ p32.1; assumption) | (refine Nat.lt_of_lt_of_le ?_ m5; assumption) | (refine Nat.lt_of_lt_of_le ?_ p5; assumption)) | lia)
section
set_option maxHeartbeats 4000000
namespace K98
open PySem L2
def top (i:Nat):Stmt:=PySem.Challenge.pw_wantprices_k98_whole_a_hand_more.main.body.getD i (.Pass ⟨0,0,0,0⟩)
abbrev s_has:Stmt:=top 5
abbrev s_put_in:Stmt:=top 6
abbrev s_taken_out:Stmt:=top 7
abbrev s_less:Stmt:=top 8
abbrev s_heap_of:Stmt:=top 9
abbrev s_is_within:Stmt:=top 10
abbrev s_heap_of_side:Stmt:=top 11
abbrev s_turned:Stmt:=top 13
abbrev s_breaking:Stmt:=top 14
abbrev s_first_pair:Stmt:=top 15
abbrev s_first_three:Stmt:=top 16
abbrev s_things_beside:Stmt:=top 17
abbrev s_pairs_beside:Stmt:=top 18
abbrev s_pair_breaks:Stmt:=top 19
abbrev s_three_break:Stmt:=top 20
abbrev s_parted:Stmt:=top 21
abbrev s_first_strange:Stmt:=top 22
abbrev s_refuse_strange:Stmt:=top 23
abbrev s_joined:Stmt:=top 25
abbrev s_most_parted:Stmt:=top 26
abbrev s_with_want:Stmt:=top 28
abbrev s_greatest:Stmt:=top 30
abbrev s_greatest_of:Stmt:=top 31
abbrev s_greatest_with_two:Stmt:=top 32
abbrev s_greatest_sums:Stmt:=top 33
abbrev s_with_one_more:Stmt:=top 34
abbrev s_costs:Stmt:=top 36
abbrev s_gains:Stmt:=top 37
abbrev s_greatest_gain:Stmt:=top 38
abbrev s_best_heaps:Stmt:=top 39
abbrev s_in_parts:Stmt:=top 41
abbrev s_surplus:Stmt:=top 42
abbrev s_stepped:Stmt:=top 44
abbrev s_step_of:Stmt:=top 45
abbrev s_heaps_that_may:Stmt:=top 46
abbrev s_other_way:Stmt:=top 47
abbrev s_other_sides:Stmt:=top 48
abbrev s_rising:Stmt:=top 50
abbrev s_falling:Stmt:=top 51
abbrev s_steps_of:Stmt:=top 52
abbrev s_first_prices:Stmt:=top 53
abbrev s_steps_on:Stmt:=top 54
abbrev s_ground_of:Stmt:=top 55
abbrev s_next_step:Stmt:=top 56
abbrev s_least_price:Stmt:=top 58
abbrev s_greatest_price:Stmt:=top 59
abbrev s_low_prices:Stmt:=top 60
abbrev s_high_prices:Stmt:=top 61
abbrev s_last_prices:Stmt:=top 62
abbrev s_rising_from:Stmt:=top 64
abbrev s_falling_from:Stmt:=top 65
abbrev s_steps_on_to_the_last:Stmt:=top 66
abbrev s_lies_beyond:Stmt:=top 67
abbrev s__law_stirred:Stmt:=top 69
abbrev s__law_pot:Stmt:=top 70
abbrev s__law_draw:Stmt:=top 71
abbrev s__law_costs:Stmt:=top 72
abbrev s__law_bits:Stmt:=top 73
abbrev s__law_some:Stmt:=top 74
abbrev s__law_paired:Stmt:=top 75
abbrev s__law_joined:Stmt:=top 76
abbrev s__law_kind_want:Stmt:=top 77
abbrev s__law_no_less:Stmt:=top 78
abbrev s_law:Stmt:=top 79
structure Txt (mg:Str→Option Value):Prop where
 len_:mg "len" = none
 sum_:mg "sum" = none
 isinstance_:mg "isinstance" = none
 abs_:mg "abs" = none
 max_:mg "max" = none
 range_:mg "range" = none
 tuple_:mg "tuple" = none
 list_:mg "list" = none
 sorted_:mg "sorted" = none
 int_:mg "int" = none
 bool_:mg "bool" = none
 zip_:mg "zip" = none
 min_:mg "min" = none
 all_:mg "all" = none
 enumerate_:mg "enumerate" = none
section
variable {P:Program}{w:World}{K:PySem.W.Frag}{mg:Str→Option Value}{base:Heap}{f:Addr}{fd:FuncData}
theorem jO {l:Addr}{H H1:Hp}(s:Same H H1)(n:H1 l=none):H l=none:=by
 cases e:H l with
 | none=>rfl
 | some o=>rw [s _ _ e] at n;cases n
theorem oA:rW 4 1=some 1:=rfl
theorem ixN42:rW 4 2=some 2:=rfl
theorem ixN43:rW 4 3=some 3:=rfl
theorem atI3 {α:Type}(a b c d:α)(l:List α):vC (a :: b :: c :: d :: l) 3=some d:=vB (j:=3) (xs:=a :: b :: c :: d :: l) rfl
def Pot (H:Hp)(p q:Addr):Prop:=p ≠ q∧∃ (cs:List Int) (a b c:Int),H p=some (.lst [.ref q,.int a,.int b,.int c])∧H q=some (.lst (cs.map V.int))
def But2 (p q:Addr)(H H':Hp):Prop:=∀ b,b ≠ p→b ≠ q→H' b=H b
def SameY (p q:Addr)(H H':Hp):Prop:=∀ b o,b ≠ p→b ≠ q→H b=some o→H' b=some o
theorem SameY.trans {p q:Addr}{H H1 H2:Hp}(a:SameY p q H H1)(b:SameY p q H1 H2):SameY p q H H2:=fun c o n1 n2 e=>b c o n1 n2 (a c o n1 n2 e)
theorem But2.y {p q:Addr}{H H':Hp}(h:But2 p q H H'):SameY p q H H':=fun b o n1 n2 e=>by rw [h b n1 n2];exact e
theorem yB {p q:Addr}{H H':Hp}(h:Same H H'):SameY p q H H':=fun b o _ _ e=>h b o e
theorem Pot.same {H H':Hp}{p q:Addr}(h:Pot H p q)(s:Same H H'):Pot H' p q:=by
 obtain ⟨n,cs,a,b,c,e1,e2⟩:=h
 exact ⟨n,cs,a,b,c,s _ _ e1,s _ _ e2⟩
theorem Pot.ne {H:Hp}{p q c:Addr}(h:Pot H p q)(n:H c=none):p ≠ c∧q ≠ c:=by
 obtain ⟨_,cs,a,b,c',e1,e2⟩:=h
 exact ⟨qF e1 n,qF e2 n⟩
theorem Pot.upd {H:Hp}{p q c:Addr}{o:HO}(h:Pot H p q)(n1:p ≠ c)(n2:q ≠ c):Pot (L2.upd H c o) p q:=by
 obtain ⟨n,cs,a,b,c',e1,e2⟩:=h
 exact ⟨n,cs,a,b,c',by rw [qT n1];exact e1,by rw [qT n2];exact e2⟩
theorem Pot.net {H:Hp}{p q t:Addr}{xs:List V}(h:Pot H p q)(e:H t=some (.tup xs)):t ≠ p∧t ≠ q:=by
 obtain ⟨_,cs,a,b,c',e1,e2⟩:=h
 constructor
 ·rintro rfl
  rw [e1] at e
  cases e
 ·rintro rfl
  rw [e2] at e
  cases e
def iC:Sp:=fun vs H Q _=>∃ n t:Int,vs=[.int n,.int t]∧∀ z:Int,Q (.int z) H
theorem vI:FnScope ["_law_number", "_law_turn", "_law_once"] ["_law_number", "_law_turn"] (qE s__law_stirred):=⟨rfl,rfl,rfl,by decide +kernel,rfl,by decide +kernel,by decide +kernel⟩
theorem ok_stir (F:Fun K "_law_stirred" "_law_stirred" s__law_stirred f fd) (hm:mg "_law_stirred" = some (.ref f)) (hb:Binds K fd ["_law_number", "_law_turn"] []) (T:Txt mg):kL P w K mg base "_law_stirred" ["_law_number", "_law_turn"] 1 iC:=by
 refine qW F hm hb vI (fun vs H Q E h=>?_) (fun cdv A outer s H vs Q E hr h=>?_)
 ·obtain ⟨_,_,rfl,_⟩:=h;rfl
 ·obtain ⟨n,t,rfl,q⟩:=h
  have sc:=vI
  refine ⟨_,kM (q8 (i:=2) sc.nd rfl (Or.inl rfl) (qV xR (qV dU (qV jD (qV jD (qV xR (pv 0) qH) (qV dU qH (pv 1))) qH) qH) qH)) (qI (qP (qV xR (qV dU (qV jD (qV jD (qV dU (pv 2) (pv 2)) (qV dU qH (pv 1))) (qV g6 (pv 2) qH)) qH) qH))),?_⟩
  rw [show L2.start ["_law_number", "_law_turn", "_law_once"] [.int n,.int t] = [some (.int n),some (.int t),none] from rfl]
  (push_cast only [])
  have cm:∀ a:Int,CMul (a % 2147483647) (a % 2147483647):=fun a=>.inl ⟨by have:=Int.emod_nonneg a (show (2147483647:Int) ≠ 0 by decide);omega,by have:=Int.emod_lt_of_pos a (show (0:Int) < 2147483647 by decide);omega⟩
  exact ⟨.inl ⟨by decide,by decide⟩,.inr ⟨by decide,by decide⟩,cm _,.inl ⟨by decide,by decide⟩,⟨by decide,by decide⟩,.inr ⟨by decide,by decide⟩,q _⟩
def sp_pot (K:PySem.W.Frag):Sp:=fun vs H Q _=>∃ (a:Addr) (ns:List Int),vs=[.ref a]∧Scr K a ns H∧∀ (p q:Addr) (H':Hp),H p=none→H q=none→Same H H'→Pot H' p q→Q (.ref p) H'
theorem bH:FnScope ["_law_script"] ["_law_script"] (qE s__law_pot):=⟨rfl,rfl,rfl,by decide +kernel,rfl,by decide +kernel,by decide +kernel⟩
theorem ok_pot (F:Fun K "_law_pot" "_law_pot" s__law_pot f fd) (hm:mg "_law_pot" = some (.ref f)) (hb:Binds K fd ["_law_script"] []) (T:Txt mg):kL P w K mg base "_law_pot" ["_law_script"] 1 (sp_pot K):=by
 refine qW F hm hb bH (fun vs H Q E h=>?_) (fun cdv A outer s H vs Q E hr h=>?_)
 ·obtain ⟨_,_,rfl,_⟩:=h;rfl
 ·obtain ⟨a,ns,rfl,hq,q⟩:=h
  have sc:=bH
  refine ⟨_,qI (qP (zK (qC (kX listS0 rfl T.list_ bt_list (iV (pv 0) qD)) (qC qH (qC qH (qC qH qD)))))),?_⟩
  rw [show L2.start ["_law_script"] [.ref a] = [some (.ref a)] from rfl]
  (push_cast only [])
  refine ⟨_,hq,fun l H1 n1 s1 e1=>⟨by decide,fun p H2 n2 s2 e2=>?_⟩⟩
  have nlp:p ≠ l:=fun q=>by rw [q,e1] at n2;cases n2
  exact q p l H2 (jO s1 n2) n1 (s1.trans s2) ⟨nlp,ns,0,7,0,e2,s2 _ _ e1⟩
def uW:Sp:=fun vs H Q _=>∃ (p q:Addr) (many:Int),vs=[.ref p,.int many]∧Pot H p q∧0 < many∧many < 1073741824∧∀ (r:Int) (H':Hp),0 ≤ r→r < many→Pot H' p q→But2 p q H H'→Q (.int r) H'
theorem fN:FnScope ["_law_pot_here", "_law_many", "_law_cell", "_law_digit"] ["_law_pot_here", "_law_many"] (qE s__law_draw):=⟨rfl,rfl,rfl,by decide +kernel,rfl,by decide +kernel,by decide +kernel⟩
theorem ok_draw (F:Fun K "_law_draw" "_law_draw" s__law_draw f fd) (hm:mg "_law_draw" = some (.ref f)) (hb:Binds K fd ["_law_pot_here", "_law_many"] []) (T:Txt mg) (c__law_stirred:kL P w K mg base "_law_stirred" ["_law_number", "_law_turn"] 1 iC):kL P w K mg base "_law_draw" ["_law_pot_here", "_law_many"] 2 uW:=by
 refine qW F hm hb fN (fun vs H Q E h=>?_) (fun cdv A outer s H vs Q E hr h=>?_)
 ·obtain ⟨_,_,_,rfl,_⟩:=h;rfl
 ·obtain ⟨p,q',many,rfl,⟨npq,cs,ga,gb,gc,hp,hq'⟩,h1,h2,q⟩:=h
  have sc:=fN
  refine ⟨_,qK (yR (qV jD (kF zP (pv 0) qH (fun _ _=>rfl)) qH) (pZ (pv 0) qH set_list)) (qK (zI (PW.pt (gM (kH zL (kF zP (pv 0) qH (fun _ _=>rfl)) qH (kK _)) (gZ (kH lI (qX len0 rfl T.len_ jT (qC (kF zP (pv 0) qH (fun _ _=>rfl)) qD)) qH (kK _))))) (qK (q8 (i:=2) sc.nd rfl (Or.inl rfl) (pe_pop0 (kF zP (pv 0) qH (fun _ _=>rfl)) (qC qH qD))) (qK (yR (qJ c__law_stirred hr (qC (qV jD (kF zP (pv 0) qH (fun _ _=>rfl)) (pv 2)) (qC (qX len0 rfl T.len_ jT (qC (kF zP (pv 0) qH (fun _ _=>rfl)) qD)) qD))) (pZ (pv 0) qH set_list)) (qI (zI (kH op_ge (qX uB rfl T.abs_ bt_abs (qC (pv 2) qD)) (qV op_pow qH qH) (kK _)) (qI (yR (qV xR (qX uB rfl T.abs_ bt_abs (qC (pv 2) qD)) (qV op_pow qH qH)) (pZ (pv 0) qH set_list))) jJ)))) jJ) (qK (zI (kH lI (kF zP (pv 0) qH (fun _ _=>rfl)) qH (kK _)) (qK (q8 (i:=3) sc.nd rfl (Or.inl rfl) (qV xR (kF zP (pv 0) qH (fun _ _=>rfl)) (pv 1))) (qK (yR (qV g6 (kF zP (pv 0) qH (fun _ _=>rfl)) (pv 1)) (pZ (pv 0) qH set_list)) (qI (qP (pv 3))))) jJ) (qI (qP (qV xR (qV g6 (qJ c__law_stirred hr (qC (kF zP (pv 0) qH (fun _ _=>rfl)) (qC (kF zP (pv 0) qH (fun _ _=>rfl)) qD))) qH) (pv 1)))))),?_⟩
  have hs:=jC hp
  rw [show L2.start ["_law_pot_here", "_law_many", "_law_cell", "_law_digit"] [.ref p,.int many] = [some (.ref p),some (.int many),none,none] from rfl]
  (push_cast only [hs,hp,ixN43,atI3])
  have e1:upd H p (.lst [.ref q',.int ga,.int gb,.int (gc + 1)]) p=some (.lst [.ref q',.int ga,.int gb,.int (gc + 1)]):=qG
  have k1:upd H p (.lst [.ref q',.int ga,.int gb,.int (gc + 1)]) q'=some (.lst (cs.map V.int)):=by rw [qT npq.symm];exact hq'
  have b1:But2 p q' H (upd H p (.lst [.ref q',.int ga,.int gb,.int (gc + 1)])):=fun b n1 _=>qT n1
  revert e1 k1 b1
  generalize upd H p (.lst [.ref q',.int ga,.int gb,.int (gc + 1)])=H1
  generalize gc + 1=gd
  intro e1 k1 b1
  have s1:=jC e1
  (simp only [qO])
  rw [aQ]
  generalize hct:(CtS.mk _)=ct
  have tail:∀ (v2:Option V) (ga gb:Int) (cs:List Int) (G:Hp),But2 p q' H G→G p=some (.lst [.ref q',.int ga,.int gb,.int gd])→G q'=some (.lst (cs.map V.int))→@nD ct [some (.ref p),some (.int many),v2,none] G:=fun v2 ga gb cs G bt ep eq=>by
   subst hct
   have sp:=jC ep
   (simp only [qO])
   (push_cast only [sp,oA,atI1])
   have ret:∀ (x:Int) (G2:Hp),But2 p q' H G2→(∃ ga gb,G2 p=some (.lst [.ref q',.int ga,.int gb,.int gd]))→G2 q'=some (.lst (cs.map V.int))→Q (V.int (x % many)) G2:=fun x G2 bt ⟨a,b,e1⟩ e2=>q _ _ (Int.emod_nonneg _ (by omega)) (Int.emod_lt_of_pos _ h1) ⟨npq,cs,a,b,gd,e1,e2⟩ bt
   split
   ·refine ⟨h1,?_⟩
    (simp only [qO])
    (push_cast only [sp,oA,atI1,ep])
    refine ⟨⟨h1,h2⟩,?_⟩
    (simp only [qO])
    (push_cast only [])
    exact ret _ _ (fun b n1 n2=>by rw [qT n1];exact bt b n1 n2) ⟨_,_,qG⟩ (by rw [qT npq.symm];exact eq)
   ·(simp only [qO])
    (push_cast only [sp,ixN42,ixN43,atI2,atI3])
    exact ⟨gb,gd,rfl,fun z=>⟨z,rfl,⟨by decide,by decide⟩,h1,ret _ _ bt ⟨_,_,ep⟩ eq⟩⟩
  (push_cast only [s1,oA,atI1])
  by_cases g0:ga=0
  ·rw [Ak g0]
   refine ⟨_,jC k1,?_⟩
   cases cs with
   | nil=>rw [Aj (by simp)];exact tail none ga gb [] H1 b1 e1 k1
   | cons c0 cs' =>
    rw [Ak (by simp)]
    refine ⟨_,k1,_,_,k1,?_⟩
    have e2:upd H1 q' (.lst (cs'.map V.int)) p=some (.lst [.ref q',.int ga,.int gb,.int gd]):=by rw [qT npq];exact e1
    have k2:upd H1 q' (.lst (cs'.map V.int)) q'=some (.lst (cs'.map V.int)):=qG
    have b2:But2 p q' H (upd H1 q' (.lst (cs'.map V.int))):=fun b n1 n2=>by rw [qT n2];exact b1 b n1 n2
    revert e2 k2 b2
    generalize upd H1 q' (.lst (cs'.map V.int))=H2
    intro e2 k2 b2
    have s2:=jC e2
    have t2:=jC k2
    (simp only [qO])
    (push_cast only [s2,t2,ixN42,atI2])
    refine ⟨gb + c0,_,rfl,fun z=>⟨_,e2,2,rfl,?_⟩⟩
    have e3:upd H2 p (.lst [.ref q',.int ga,.int z,.int gd]) p=some (.lst [.ref q',.int ga,.int z,.int gd]):=qG
    have k3:upd H2 p (.lst [.ref q',.int ga,.int z,.int gd]) q'=some (.lst (cs'.map V.int)):=by rw [qT npq.symm];exact k2
    have b3:But2 p q' H (upd H2 p (.lst [.ref q',.int ga,.int z,.int gd])):=fun b n1 n2=>by rw [qT n1];exact b2 b n1 n2
    rw [show ([.ref q',.int ga,.int gb,.int gd] : List V).set 2 (V.int z)=[.ref q',.int ga,.int z,.int gd] from rfl]
    revert e3 k3 b3
    generalize upd H2 p (.lst [.ref q',.int ga,.int z,.int gd])=H3
    intro e3 k3 b3
    have s3:=jC e3
    (simp only [qO])
    (push_cast only [s3,e3,oA,atI1])
    generalize (if c0 < 0 then -c0 else c0)=ab
    refine ⟨⟨by decide,by decide,by decide⟩,?_⟩
    split
    ·exact ⟨⟨by decide,by decide,by decide⟩,by decide,tail _ _ _ cs' _ (fun b n1 n2=>by rw [qT n1];exact b3 b n1 n2) qG (by rw [qT npq.symm];exact k3)⟩
    ·exact tail _ _ _ cs' _ b3 e3 k3
  ·rw [Aj g0]
   exact tail none ga gb cs H1 b1 e1 k1
end
end K98
end
section
set_option maxHeartbeats 4000000
namespace K98
open PySem L2
section
variable {P:Program}{w:World}{K:PySem.W.Frag}{mg:Str→Option Value}{base:Heap}{f:Addr}{fd:FuncData}
def kA (ns:List Int):List Int:=ns.foldl (fun t p=>t ++ t.map (fun h=>h + p)) [0]
theorem x9 (ns:List Int)(p:Int):kA (ns ++ [p])=kA ns ++ (kA ns).map (fun h=>h + p):=by unfold kA;rw [List.foldl_append];rfl
theorem fold_len (ns:List Int):∀ t:List Int,(ns.foldl (fun t p=>t ++ t.map (fun h=>h + p)) t).length=t.length * 2 ^ ns.length:=by
 induction ns with
 | nil=>intro t;simp
 | cons p ns ih=>intro t;rw [List.foldl_cons,ih,AD,Ab,Az,CT,← Nat.two_mul,CQ 2 t.length,Nat.mul_assoc,CQ 2]
theorem jS (ns:List Int):(kA ns).length=2 ^ ns.length:=by unfold kA;rw [fold_len];simp
theorem jF {m:Nat}(h:m ≤ 5):2 ^ m ≤ 32∧0 < 2 ^ m:=⟨AK (Ao (by decide) h) (by decide),As m⟩
def IsT (H:Hp)(a:Addr)(ns:List Int):Prop:=H a=some (.tup (ns.map V.int))∨H a=some (.lst (ns.map V.int))
theorem IsT.o {H:Hp}{a:Addr}{ns:List Int}(h:IsT H a ns):∃ o,(o=HO.tup (ns.map V.int)∨o=HO.lst (ns.map V.int))∧H a=some o:=by
 rcases h with h | h
 ·exact ⟨_,.inl rfl,h⟩
 ·exact ⟨_,.inr rfl,h⟩
def xC:Sp:=fun vs H Q _=>∃ (a:Addr) (ns:List Int),vs=[.ref a]∧IsT H a ns∧ns.length ≤ 5∧∀ (t:Addr) (H':Hp),H t=none→Same H H'→H' t=some (.lst ((kA ns).map V.int))→Q (.ref t) H'
def CI (a:Addr)(ns:List Int)(G:Hp)(i:Nat)(σ:St)(H:Hp):Prop:=∃ (v:Option V) (t:Addr),σ=[some (.ref a),some (.ref t),v]∧G t=none∧Same G H∧H t=some (.lst ((kA (ns.take i)).map V.int))
def CJ (c:Addr)(ts:List Int)(p:Int)(G:Hp)(i:Nat)(σ:St)(H:Hp):Prop:=∃ v:Option V,σ=[v,some (.int p)]∧SameX c G H∧H c=some (.lst (((ts.map fun h=>h + p).take i).map V.int))
theorem dG:FnScope ["_law_prices", "_law_costs_here", "_law_price"] ["_law_prices"] (qE s__law_costs):=⟨rfl,rfl,rfl,by decide +kernel,rfl,by decide +kernel,by decide +kernel⟩
theorem nG (F:Fun K "_law_costs" "_law_costs" s__law_costs f fd) (hm:mg "_law_costs" = some (.ref f)) (hb:Binds K fd ["_law_prices"] []) (T:Txt mg):kL P w K mg base "_law_costs" ["_law_prices"] 1 xC:=by
 refine qW F hm hb dG (fun vs H Q E h=>?_) (fun cdv A outer s H vs Q E hr h=>?_)
 ·obtain ⟨_,_,rfl,_⟩:=h;rfl
 ·obtain ⟨a,ns,rfl,ha,h5,q⟩:=h
  have sc:=dG
  refine ⟨_,kM (q8 (i:=1) sc.nd rfl (Or.inl rfl) (zK (qC qH qD))) (kM (j9 AO rfl (pi_s0 (pv 0)) (qL (i:=2) sc.nd rfl (Or.inr rfl)) (qI (q8 (i:=1) sc.nd rfl (Or.inl rfl) (qV catL0 (pv 1) (jR (N:=["_law_cost", "_law_price"]) (fr:=[none,some 2]) rfl (dH (pv 1)) (CScope.of rfl rfl rfl) rfl (fun _ _ _=>⟨qL (i:=0) (show List.Nodup (α:=Str) ["_law_cost", "_law_price"] by decide +kernel) rfl (Or.inl rfl),kZ,qV jD (pv 0) (pv 1)⟩)))))) (qI (qP (pv 1)))),?_⟩
  rw [show L2.start ["_law_prices", "_law_costs_here", "_law_price"] [.ref a] = [some (.ref a),none,none] from rfl]
  (push_cast only [])
  refine ⟨by decide,fun t0 H1 n1 s1 e1=>?_⟩
  obtain ⟨o,ho,hao⟩:=ha.o
  refine ⟨_,o,ho,s1 _ _ hao,d6 (CI a ns H) ⟨_,t0,rfl,n1,s1,e1⟩ (fun j σ H' _ ⟨_,_,_,_,s,_⟩=>s _ _ hao) ?_ ?_⟩
  ·rintro i x σ H2 hx ⟨v,t,rfl,nt,s2,e2⟩
   rw [Ah] at hx
   obtain ⟨p,hp,rfl⟩:=An.mp hx
   have hi:i < ns.length:=(Ai.mp hp).1
   (push_cast only [e2])
   intro c nc
   have ntc:t ≠ c:=qF e2 nc
   have p32:=jF (m:=(ns.take i).length) (by rw [A6];omega)
   refine zN (CJ c (kA (ns.take i)) p H2) ⟨none,rfl,SameX.upd,qG⟩ (fun j σ H' _ ⟨_,_,s,_⟩=>s _ _ ntc e2) ?_ ?_
   ·rintro j y σ H3 hy ⟨v3,rfl,s3,e3⟩
    rw [Ah] at hy
    obtain ⟨z,hz,rfl⟩:=An.mp hy
    have hj:j < (kA (ns.take i)).length:=(Ai.mp hz).1
    rw [jS] at hj
    (push_cast only [e3])
    refine ⟨qR (by rw [A6];omega),⟨_,rfl,s3.trans SameX.upd,?_⟩⟩
    rw [qG,AB,Ah,hz]
    simp
   ·rintro σ H3 ⟨v3,rfl,s3,e3⟩
    rw [Ab,A9 (by simp)] at e3
    have S3:=s3.same nc
    have e23:=S3 _ _ e2
    (push_cast only [e23,e3])
    refine ⟨?_,fun t' H4 nt' s4 e4=>⟨_,t',rfl,jO (s2.trans S3) nt',(s2.trans S3).trans s4,?_⟩⟩
    ·rw [jS]
     exact B5 (qR (by omega))
    ·rw [e4,AB,hp]
     show some (HO.lst _)=some (HO.lst ((kA (ns.take i ++ [p])).map V.int))
     rw [x9,A4]
  ·rintro σ H2 ⟨v,t,rfl,nt,s2,e2⟩
   rw [Ab,Bc] at e2
   (push_cast only [])
   exact q t H2 nt s2 e2
theorem sV:FnScope ["prices", "told", "price"] ["prices"] (qE s_costs):=⟨rfl,rfl,rfl,by decide +kernel,rfl,by decide +kernel,by decide +kernel⟩
theorem ok_costs (F:Fun K "costs" "costs" s_costs f fd) (hm:mg "costs" = some (.ref f)) (hb:Binds K fd ["prices"] []) (T:Txt mg):kL P w K mg base "costs" ["prices"] 1 xC:=by
 refine qW F hm hb sV (fun vs H Q E h=>?_) (fun cdv A outer s H vs Q E hr h=>?_)
 ·obtain ⟨_,_,rfl,_⟩:=h;rfl
 ·obtain ⟨a,ns,rfl,ha,h5,q⟩:=h
  have sc:=sV
  refine ⟨_,kM (q8 (i:=1) sc.nd rfl (Or.inl rfl) (zK (qC qH qD))) (kM (j9 AO rfl (pi_s0 (pv 0)) (qL (i:=2) sc.nd rfl (Or.inr rfl)) (qI (q8 (i:=1) sc.nd rfl (Or.inl rfl) (qV catL0 (pv 1) (jR (N:=["here", "price"]) (fr:=[none,some 2]) rfl (dH (pv 1)) (CScope.of rfl rfl rfl) rfl (fun _ _ _=>⟨qL (i:=0) (show List.Nodup (α:=Str) ["here", "price"] by decide +kernel) rfl (Or.inl rfl),kZ,qV jD (pv 0) (pv 1)⟩)))))) (qI (qP (pv 1)))),?_⟩
  rw [show L2.start ["prices", "told", "price"] [.ref a] = [some (.ref a),none,none] from rfl]
  (push_cast only [])
  refine ⟨by decide,fun t0 H1 n1 s1 e1=>?_⟩
  obtain ⟨o,ho,hao⟩:=ha.o
  refine ⟨_,o,ho,s1 _ _ hao,d6 (CI a ns H) ⟨_,t0,rfl,n1,s1,e1⟩ (fun j σ H' _ ⟨_,_,_,_,s,_⟩=>s _ _ hao) ?_ ?_⟩
  ·rintro i x σ H2 hx ⟨v,t,rfl,nt,s2,e2⟩
   rw [Ah] at hx
   obtain ⟨p,hp,rfl⟩:=An.mp hx
   have hi:i < ns.length:=(Ai.mp hp).1
   (push_cast only [e2])
   intro c nc
   have ntc:t ≠ c:=qF e2 nc
   have p32:=jF (m:=(ns.take i).length) (by rw [A6];omega)
   refine zN (CJ c (kA (ns.take i)) p H2) ⟨none,rfl,SameX.upd,qG⟩ (fun j σ H' _ ⟨_,_,s,_⟩=>s _ _ ntc e2) ?_ ?_
   ·rintro j y σ H3 hy ⟨v3,rfl,s3,e3⟩
    rw [Ah] at hy
    obtain ⟨z,hz,rfl⟩:=An.mp hy
    have hj:j < (kA (ns.take i)).length:=(Ai.mp hz).1
    rw [jS] at hj
    (push_cast only [e3])
    refine ⟨qR (by rw [A6];omega),⟨_,rfl,s3.trans SameX.upd,?_⟩⟩
    rw [qG,AB,Ah,hz]
    simp
   ·rintro σ H3 ⟨v3,rfl,s3,e3⟩
    rw [Ab,A9 (by simp)] at e3
    have S3:=s3.same nc
    have e23:=S3 _ _ e2
    (push_cast only [e23,e3])
    refine ⟨?_,fun t' H4 nt' s4 e4=>⟨_,t',rfl,jO (s2.trans S3) nt',(s2.trans S3).trans s4,?_⟩⟩
    ·rw [jS]
     exact B5 (qR (by omega))
    ·rw [e4,AB,hp]
     show some (HO.lst _)=some (HO.lst ((kA (ns.take i ++ [p])).map V.int))
     rw [x9,A4]
  ·rintro σ H2 ⟨v,t,rfl,nt,s2,e2⟩
   rw [Ab,Bc] at e2
   (push_cast only [])
   exact q t H2 nt s2 e2
def bitsL (m:Nat):List Int:=([1,2,4,8,16] : List Int).take m
def pW:Sp:=fun vs H Q _=>∃ m:Nat,vs=[.int (m:Int)]∧m ≤ 5∧∀ (t:Addr) (H':Hp),H t=none→Same H H'→H' t=some (.lst ((bitsL m).map V.int))→Q (.ref t) H'
theorem fO:FnScope ["_law_many"] ["_law_many"] (qE s__law_bits):=⟨rfl,rfl,rfl,by decide +kernel,rfl,by decide +kernel,by decide +kernel⟩
theorem ok_bits (F:Fun K "_law_bits" "_law_bits" s__law_bits f fd) (hm:mg "_law_bits" = some (.ref f)) (hb:Binds K fd ["_law_many"] []) (T:Txt mg):kL P w K mg base "_law_bits" ["_law_many"] 1 pW:=by
 refine qW F hm hb fO (fun vs H Q E h=>?_) (fun cdv A outer s H vs Q E hr h=>?_)
 ·obtain ⟨_,rfl,_⟩:=h;rfl
 ·obtain ⟨m,rfl,h5,q⟩:=h
  have sc:=fO
  refine ⟨_,qI (qP (fR slL0 (zK (qC qH (qC qH (qC qH (qC qH (qC qH qD)))))) bR (bQ (pv 0)))),?_⟩
  rw [show L2.start ["_law_many"] [.int (m:Int)] = [some (.int (m:Int))] from rfl]
  (push_cast only [])
  refine ⟨by decide,fun l H1 n1 s1 e1=>?_⟩
  (push_cast only [e1])
  intro l2 n2
  refine q l2 _ (jO s1 n2) (s1.trans (jE n2)) ?_
  rw [qG]
  have key:∀ k:_root_.Fin 6,xN [V.int 1,V.int 2,V.int 4,V.int 8,V.int 16] none (some (k.val:Int))=(bitsL k.val).map V.int:=by
   intro k
   unfold xN bitsL
   rw [HT.sIx_none,HT.sIx_nat]
   match k with
   | ⟨0,_⟩=>rfl
   | ⟨1,_⟩=>rfl
   | ⟨2,_⟩=>rfl
   | ⟨3,_⟩=>rfl
   | ⟨4,_⟩=>rfl
   | ⟨5,_⟩=>rfl
  rw [key ⟨m,by omega⟩]
theorem bits_len {m:Nat}(hm:m ≤ 5):(bitsL m).length=m:=by unfold bitsL;rw [A6];simp;omega
theorem hpow (m:Nat):(1:Int) * 2 ^ (m:Int).toNat=((2 ^ m:Nat):Int):=by rw [Ay];norm_cast;omega
def d4 (g:List Int)(m:Int)(k:Nat):List Int:=((List.range k).filter fun i=>decide (g.getD i 0=m)).map fun i:Nat=>(i:Int)
theorem lU (g:List Int)(m:Int)(k:Nat):d4 g m (k + 1)=d4 g m k ++ if g.getD k 0=m then [(k:Int)] else []:=by
 unfold d4
 rw [Bb,Bq,A4]
 congr 1
 by_cases h:g.getD k 0=m
 ·rw [Ak h];simp only [List.filter,Ar h,List.map]
 ·rw [Aj h];simp only [List.filter,Al h,List.map]
theorem idxL_len (g:List Int)(m:Int)(k:Nat):(d4 g m k).length ≤ k:=by
 unfold d4
 rw [Ab]
 exact AK (Bo _ _) (by simp)
def d5 (ds:List Int)(s:Int):Nat→Nat
 | 0=>0
 | k + 1=>d5 ds s k + if ds.getD k 0=s then 2 ^ k else 0
theorem aJ (ds:List Int)(s:Int):∀ k,d5 ds s k < 2 ^ k
 | 0=>by simp [d5]
 | k + 1=>by
  have:=aJ ds s k
  show d5 ds s k + _ < _
  rw [CT]
  split <;> omega
def zw (g:Int→Int→Int)(ns ms:List Int):List Int:=(ns.zip ms).map fun q=>g q.1 q.2
theorem zw_at {g:Int→Int→Int}{ns ms:List Int}{i:Nat}{x y:Int}(hx:ns[i]? = some x)(hy:ms[i]? = some y):(zw g ns ms)[i]? = some (g x y):=by
 have hz:(ns.zip ms)[i]? = some (x,y):=by rw [List.getElem?_zip_eq_some];exact ⟨hx,hy⟩
 unfold zw
 rw [Ah,hz]
 rfl
theorem zw_len {g:Int→Int→Int}{ns ms:List Int}(h:ns.length=ms.length):(zw g ns ms).length=ns.length:=by
 unfold zw
 rw [Ab,List.length_zip]
 omega
def ZW (c:Addr)(g:Int→Int→Int)(ns ms:List Int)(τ:List (Option V))(G:Hp)(i:Nat)(σ:St)(H:Hp):Prop:=∃ v1 v2:Option V,σ=v1 :: v2 :: τ∧SameX c G H∧H c=some (.lst (((zw g ns ms).take i).map V.int))
def kN (ws ns:List Int):List Int:=zw (fun x y=>x - y) ws (kA ns)
theorem x4 {ws ns:List Int}(h:ws.length=2 ^ ns.length):(kN ws ns).length=2 ^ ns.length:=by unfold kN;rw [zw_len (by rw [jS];exact h)];exact h
def cU:Sp:=fun vs H Q _=>∃ (d a:Addr) (ws ns:List Int),vs=[.ref d,.ref a]∧H d=some (.tup (ws.map V.int))∧H a=some (.tup (ns.map V.int))∧ns.length ≤ 5∧ws.length=2 ^ ns.length∧∀ (t:Addr) (H':Hp),H t=none→Same H H'→H' t=some (.lst ((kN ws ns).map V.int))→Q (.ref t) H'
theorem sT:FnScope ["want", "prices"] ["want", "prices"] (qE s_gains):=⟨rfl,rfl,rfl,by decide +kernel,rfl,by decide +kernel,by decide +kernel⟩
theorem ok_gains (F:Fun K "gains" "gains" s_gains f fd) (hm:mg "gains" = some (.ref f)) (hb:Binds K fd ["want", "prices"] []) (T:Txt mg) (c_costs:kL P w K mg base "costs" ["prices"] 1 xC):kL P w K mg base "gains" ["want", "prices"] 2 cU:=by
 refine qW F hm hb sT (fun vs H Q E h=>?_) (fun cdv A outer s H vs Q E hr h=>?_)
 ·obtain ⟨_,_,_,_,rfl,_⟩:=h;rfl
 ·obtain ⟨d,a,ws,ns,rfl,hd,ha,h5,hl,q⟩:=h
  have sc:=sT
  refine ⟨_,qI (qP (jR (N:=["worth", "paid"]) (fr:=[none,none]) rfl (pi_zip rfl T.zip_ (qC (pv 0) (qC (qJ c_costs hr (qC (pv 1) qD)) qD))) (CScope.of rfl rfl rfl) rfl (fun _ _ _=>⟨kW (n:=2) rfl (qQ (qL (i:=0) (show List.Nodup (α:=Str) ["worth", "paid"] by decide +kernel) rfl (Or.inl rfl)) (qQ (qL (i:=1) (show List.Nodup (α:=Str) ["worth", "paid"] by decide +kernel) rfl (Or.inl rfl)) kU)),kZ,qV yU (pv 0) (pv 1)⟩))),?_⟩
  rw [show L2.start ["want", "prices"] [.ref d,.ref a] = [some (.ref d),some (.ref a)] from rfl]
  (push_cast only [])
  refine ⟨a,ns,rfl,.inl ha,h5,fun t H1 n1 s1 e1=>?_⟩
  have hd1:=s1 _ _ hd
  (push_cast only [])
  refine ⟨_,_,_,.inr ⟨rfl,hd1⟩,_,.inl ⟨rfl,e1⟩,fun c nc=>?_⟩
  have ncd:d ≠ c:=qF hd1 nc
  have nct:t ≠ c:=qF e1 nc
  have p32:=jF h5
  refine cl_zip (ZW c (fun x y=>x - y) ws (kA ns) [] H1) ⟨none,none,rfl,SameX.upd,qG⟩ (fun i σ H2 ⟨_,_,_,s,_⟩=>⟨.inr ⟨rfl,s _ _ ncd hd1⟩,.inl ⟨rfl,s _ _ nct e1⟩⟩) ?_ ?_
  ·rintro i u v t' σ H2 H3 hu hv ⟨v1,v2,rfl,s2,e2⟩ nt s3 e3
   rw [Ah] at hu hv
   obtain ⟨x,hx,rfl⟩:=An.mp hu
   obtain ⟨y,hy,rfl⟩:=An.mp hv
   have ec:=s3 _ _ e2
   (push_cast only [e3,ec])
   have hi:i < ws.length:=(Ai.mp hx).1
   refine ⟨qR (by rw [A6];omega),⟨_,_,rfl,(s2.trans s3.x).trans SameX.upd,?_⟩⟩
   rw [qG,AB,zw_at hx hy]
   simp
  ·rintro σ H2 ⟨v1,v2,rfl,s2,e2⟩
   rw [Ab,Ab,A9 (by rw [zw_len (by rw [jS];exact hl),jS];omega)] at e2
   have S2:=s1.trans (s2.same nc)
   exact q c H2 (jO s1 nc) S2 e2
theorem tW {ws ns:List Int}(h5:ns.length ≤ 5)(h:ws.length=2 ^ ns.length):kN ws ns ≠ []:=by
 intro e
 have:=x4 h
 rw [e] at this
 have p:=jF h5
 simp at this
 omega
def iJ:Sp:=fun vs H Q _=>∃ (d a:Addr) (ws ns:List Int) (m:Int),vs=[.ref d,.ref a]∧H d=some (.tup (ws.map V.int))∧H a=some (.tup (ns.map V.int))∧ns.length ≤ 5∧ws.length=2 ^ ns.length∧m ∈ kN ws ns∧(∀ x ∈ kN ws ns,x ≤ m)∧∀ (t:Addr) (H':Hp),H t=none→Same H H'→H' t=some (.tup ((d4 (kN ws ns) m (kN ws ns).length).map V.int))→Q (.ref t) H'
def BI (c:Addr)(g:List Int)(m:Int)(G:Hp)(i:Nat)(σ:St)(H:Hp):Prop:=∃ v1 v2:Option V,σ=[v1,v2,some (.int m)]∧SameX c G H∧H c=some (.lst ((d4 g m i).map V.int))
theorem dF:FnScope ["want", "prices", "told", "most"] ["want", "prices"] (qE s_best_heaps):=⟨rfl,rfl,rfl,by decide +kernel,rfl,by decide +kernel,by decide +kernel⟩
theorem ok_best (F:Fun K "best_heaps" "best_heaps" s_best_heaps f fd) (T:Txt mg) (c_gains:kL P w K mg base "gains" ["want", "prices"] 2 cU):FnOk P w K mg base CX0 3 f fd ["want", "prices"] iJ:=by
 refine F.ok dF (fun vs H Q E h=>?_) (fun cdv A outer s H vs Q E hr h=>?_)
 ·obtain ⟨_,_,_,_,_,rfl,_⟩:=h;rfl
 ·obtain ⟨d,a,ws,ns,m,rfl,hd,ha,h5,hl,hm1,hm2,q⟩:=h
  have sc:=dF
  refine ⟨_,kM (q8 (i:=2) sc.nd rfl (Or.inl rfl) (qJ c_gains hr (qC (pv 0) (qC (pv 1) qD)))) (kM (q8 (i:=3) sc.nd rfl (Or.inr rfl) (qX (max0 rfl) rfl T.max_ gT (qC (pv 2) qD))) (qI (qP (kX z9 rfl T.tuple_ jM (qC (jR (N:=["heap", "here", "most"]) (fr:=[none,none,some 3]) rfl (yK rfl T.enumerate_ (qC (pv 2) qD)) (CScope.of rfl rfl rfl) rfl (fun _ _ _=>⟨kW (n:=2) rfl (qQ (qL (i:=0) (show List.Nodup (α:=Str) ["heap", "here", "most"] by decide +kernel) rfl (Or.inl rfl)) (qQ (qL (i:=1) (show List.Nodup (α:=Str) ["heap", "here", "most"] by decide +kernel) rfl (Or.inl rfl)) kU)),zZ (kH zL (pv 1) (pv 2) (kK _)),pv 0⟩)) qD))))),?_⟩
  rw [show L2.start ["want", "prices", "told", "most"] [.ref d,.ref a] = [some (.ref d),some (.ref a),none,none] from rfl]
  (push_cast only [])
  refine ⟨d,a,ws,ns,rfl,hd,ha,h5,hl,fun t H1 n1 s1 e1=>?_⟩
  have hs:=jC e1
  (push_cast only [hs])
  refine ⟨_,rfl,tW h5 hl,fun mx mx1 mx2=>?_⟩
  have em:mx=m:=Int.le_antisymm (hm2 mx mx1) (mx2 m hm1)
  subst em
  (push_cast only [])
  refine ⟨_,_,.inl ⟨rfl,e1⟩,fun c nc=>?_⟩
  have ntc:t ≠ c:=qF e1 nc
  have p32:=jF h5
  have gl:=x4 hl
  refine cE (BI c (kN ws ns) mx H1) ⟨none,none,rfl,SameX.upd,qG⟩ (fun i σ H2 ⟨_,_,_,s,_⟩=>.inl ⟨rfl,s _ _ ntc e1⟩) ?_ ?_
  ·rintro i v T' σ H2 H3 hv ⟨v1,v2,rfl,s2,e2⟩ nT s3 e3
   rw [Ah] at hv
   obtain ⟨x,hx,rfl⟩:=An.mp hv
   have hi:i < (kN ws ns).length:=(Ai.mp hx).1
   have hg:(kN ws ns).getD i 0=x:=by rw [Aa,hx];rfl
   have ec:=s3 _ _ e2
   have il:=idxL_len (kN ws ns) mx i
   (push_cast only [e3])
   by_cases hxm:x=mx
   ·rw [Ak (by simpa using hxm)]
    (push_cast only [ec])
    refine ⟨qR (by omega),⟨_,_,rfl,(s2.trans s3.x).trans SameX.upd,?_⟩⟩
    rw [qG,lU,Ak (by rw [hg];exact hxm)]
    simp
   ·rw [Aj (by simpa using hxm)]
    refine ⟨_,_,rfl,s2.trans s3.x,?_⟩
    rw [ec,lU,Aj (by rw [hg];exact hxm),Bv]
  ·rintro σ H2 ⟨v1,v2,rfl,s2,e2⟩
   rw [Ab] at e2
   refine ⟨_,e2,fun l H3 nl s3 e3=>?_⟩
   have S2:=s1.trans (s2.same nc)
   exact q l H3 (jO S2 nl) (S2.trans s3) e3
def cT:Sp:=fun vs H Q _=>∃ (d a:Addr) (ws ns:List Int),vs=[.ref d,.ref a]∧H d=some (.tup (ws.map V.int))∧H a=some (.tup (ns.map V.int))∧ns.length ≤ 5∧ws.length=2 ^ ns.length∧∀ (m:Int) (H':Hp),Same H H'→m ∈ kN ws ns→(∀ x ∈ kN ws ns,x ≤ m)→Q (.int m) H'
theorem xI:FnScope ["want", "prices"] ["want", "prices"] (qE s_greatest_gain):=⟨rfl,rfl,rfl,by decide +kernel,rfl,by decide +kernel,by decide +kernel⟩
theorem ok_great (F:Fun K "greatest_gain" "greatest_gain" s_greatest_gain f fd) (T:Txt mg) (c_gains:kL P w K mg base "gains" ["want", "prices"] 2 cU):FnOk P w K mg base CX0 3 f fd ["want", "prices"] cT:=by
 refine F.ok xI (fun vs H Q E h=>?_) (fun cdv A outer s H vs Q E hr h=>?_)
 ·obtain ⟨_,_,_,_,rfl,_⟩:=h;rfl
 ·obtain ⟨d,a,ws,ns,rfl,hd,ha,h5,hl,q⟩:=h
  have sc:=xI
  refine ⟨_,qI (qP (qX (max0 rfl) rfl T.max_ gT (qC (qJ c_gains hr (qC (pv 0) (qC (pv 1) qD))) qD))),?_⟩
  rw [show L2.start ["want", "prices"] [.ref d,.ref a] = [some (.ref d),some (.ref a)] from rfl]
  (push_cast only [])
  refine ⟨d,a,ws,ns,rfl,hd,ha,h5,hl,fun t H1 n1 s1 e1=>?_⟩
  have hs:=jC e1
  (push_cast only [hs])
  exact ⟨_,rfl,tW h5 hl,fun m hm hmx=>q m H1 s1 hm hmx⟩
def bit (h:Int)(t:Nat):Int:=Builtin.bitAnd (h / 2 ^ (t:Int).toNat) 1
def d8 (ws:List Int)(h:Int)(m:Nat):Int:=((List.range m).map fun t:Nat=>ws.getD t 0 * bit h t).sum
theorem yN (ws:List Int)(h:Int)(m:Nat):d8 ws h (m + 1)=d8 ws h m + ws.getD m 0 * bit h m:=by
 unfold d8
 rw [Bb,A4,BD]
 simp
theorem vA (ws ws':List Int)(h h':Int):∀ m,(∀ t,t < m→ws.getD t 0 * bit h t=ws'.getD t 0 * bit h' t)→d8 ws h m=d8 ws' h' m
 | 0,_=>rfl
 | m + 1,hh=>by rw [yN,yN,vA ws ws' h h' m fun t ht=>hh t (by omega),hh m (by omega)]
theorem bit_low {n h:Nat}(hn:n < 5)(hh:h < 2 ^ n):bit (h:Int) n=0:=by
 have key:∀ (a:_root_.Fin 5) (b:_root_.Fin 32),b.val < 2 ^ a.val→bit (b.val:Int) a.val=0:=by decide +kernel
 have:=jF (show n ≤ 5 by omega)
 exact key ⟨n,hn⟩ ⟨h,by omega⟩ hh
theorem bit_high {n h:Nat}(hn:n < 5)(h1:2 ^ n ≤ h)(h2:h < 2 ^ (n + 1)):bit (h:Int) n=1∧∀ t,t < n→bit (h:Int) t=bit ((h - 2 ^ n:Nat):Int) t:=by
 have key:∀ (a:_root_.Fin 5) (b:_root_.Fin 32),2 ^ a.val ≤ b.val→b.val < 2 ^ (a.val + 1)→bit (b.val:Int) a.val=1∧∀ t:_root_.Fin 5,t.val < a.val→bit (b.val:Int) t.val=bit ((b.val - 2 ^ a.val:Nat):Int) t.val:=by decide +kernel
 have:=jF (show n + 1 ≤ 5 by omega)
 obtain ⟨k1,k2⟩:=key ⟨n,hn⟩ ⟨h,by omega⟩ h1 h2
 exact ⟨k1,fun t ht=>k2 ⟨t,by omega⟩ ht⟩
theorem d7:∀ (n:Nat) (ns:List Int),ns.length=n→n ≤ 5→∀ h:Nat,h < 2 ^ n→(kA ns)[h]? = some (d8 ns (h:Int) n)
 | 0,ns,hl,_,h,hh=>by
  have:ns=[]:=BM hl
  subst this
  have:h=0:=by simpa using hh
  subst this
  rfl
 | n + 1,ns,hl,h5,h,hh=>by
  obtain ⟨ms,p,rfl⟩:∃ ms p,ns=ms ++ [p]:=by
   have hne:ns ≠ []:=by rintro rfl;simp at hl
   exact ⟨ns.dropLast,ns.getLast hne,(B3 hne).symm⟩
  have hml:ms.length=n:=by simpa using hl
  have ih:=d7 n ms hml (by omega)
  have cl:(kA ms).length=2 ^ n:=by rw [jS,hml]
  have gl:∀ t,t < n→(ms ++ [p]).getD t 0=ms.getD t 0:=fun t ht=>by simp only [Aa];rw [BC (by omega)]
  have gp:(ms ++ [p]).getD n 0=p:=by simp only [Aa];rw [B8 (by omega),hml];simp
  rw [x9,yN,gp]
  rcases Bm h (2 ^ n) with q | q
  ·rw [BC (by omega),ih h q,bit_low (by omega) q,vA (ms ++ [p]) ms (h:Int) (h:Int) n fun t ht=>by rw [gl t ht]]
   simp
  ·obtain ⟨b1,b2⟩:=bit_high (by omega) q hh
   have q2:h - 2 ^ n < 2 ^ n:=by rw [CT] at hh;omega
   rw [B8 (by omega),cl,Ah,ih (h - 2 ^ n) q2,b1,vA (ms ++ [p]) ms (h:Int) ((h - 2 ^ n:Nat):Int) n fun t ht=>by rw [gl t ht,b2 t ht]]
   simp
def qA (h t:Nat):Bool:=decide (h / 2 ^ t % 2=1)
abbrev Edge:=Nat × Nat × Int
def minus (A:Nat→Prop)(i:Nat):Nat→Prop:=fun v=>A v∧v ≠ i
def plus (A:Nat→Prop)(i:Nat):Nat→Prop:=fun v=>A v∨v=i
def jN (M:List Edge):Int:=(M.map fun e=>e.2.2).sum
theorem kI (e:Edge)(M:List Edge):jN (e :: M)=e.2.2 + jN M:=by unfold jN;rw [Av,AF]
theorem wt_app (M N:List Edge):jN (M ++ N)=jN M + jN N:=by unfold jN;rw [A4,BD]
theorem yE {M N:List Edge}(h:M.Perm N):jN M=jN N:=by
 induction h with
 | nil=>rfl
 | cons x _ ih=>rw [kI,kI,ih]
 | swap x y l=>rw [kI,kI,kI,kI];omega
 | trans _ _ h1 h2=>exact h1.trans h2
structure Mat (Ed:Edge→Prop)(p q:Edge→Nat)(A:Nat→Prop)(M:List Edge):Prop where
 ed:∀ e ∈ M,Ed e
 np:(M.map p).Nodup
 nq:(M.map q).Nodup
 ap:∀ e ∈ M,A (p e)
 aq:∀ e ∈ M,A (q e)
section
variable {Ed:Edge→Prop}{p q:Edge→Nat}
theorem Mat.nil {A:Nat→Prop}:Mat Ed p q A []:=⟨(fun _ z=>by cases z),List.nodup_nil,List.nodup_nil,(fun _ z=>by cases z),(fun _ z=>by cases z)⟩
theorem Mat.flip {A:Nat→Prop}{M:List Edge}(h:Mat Ed p q A M):Mat Ed q p A M:=⟨h.ed,h.nq,h.np,h.aq,h.ap⟩
theorem Mat.imp {A B:Nat→Prop}{M:List Edge}(h:Mat Ed p q A M)(k:∀ v,A v→B v):Mat Ed p q B M:=⟨h.ed,h.np,h.nq,fun e he=>k _ (h.ap e he),fun e he=>k _ (h.aq e he)⟩
theorem Mat.cons {A B:Nat→Prop}{M:List Edge}{e:Edge}(h:Mat Ed p q A M)(he:Ed e)(n1:¬ A (p e))(n2:¬ A (q e))(k:∀ v,A v→B v)(b1:B (p e))(b2:B (q e)):Mat Ed p q B (e :: M):=by
 refine ⟨fun x hx=>?_,?_,?_,fun x hx=>?_,fun x hx=>?_⟩
 ·rcases Ax.mp hx with rfl | z
  ·exact he
  ·exact h.ed x z
 ·rw [Av,AS]
  refine ⟨fun z=>?_,h.np⟩
  obtain ⟨x,hx,ex⟩:=Ae.mp z
  exact n1 (ex ▸ h.ap x hx)
 ·rw [Av,AS]
  refine ⟨fun z=>?_,h.nq⟩
  obtain ⟨x,hx,ex⟩:=Ae.mp z
  exact n2 (ex ▸ h.aq x hx)
 ·rcases Ax.mp hx with rfl | z
  ·exact b1
  ·exact k _ (h.ap x z)
 ·rcases Ax.mp hx with rfl | z
  ·exact b2
  ·exact k _ (h.aq x z)
theorem Mat.take {S:Nat→Bool}(hS:∀ e,Ed e→S (p e)=true∧S (q e)=false){A:Nat→Prop}{M:List Edge}{e:Edge}(h:Mat Ed p q A M)(he:e ∈ M):∃ M1,M.Perm (e :: M1)∧M1.length + 1=M.length∧Mat Ed p q (minus (minus A (p e)) (q e)) M1:=by
 have pm:=C0 he
 refine ⟨M.erase e,pm,?_,?_⟩
 ·have:=pm.length_eq
  rw [Az] at this
  omega
 have n1:=(pm.map p).nodup_iff.mp h.np
 have n2:=(pm.map q).nodup_iff.mp h.nq
 rw [Av,AS] at n1 n2
 have mm:∀ x ∈ M.erase e,x ∈ M:=fun x hx=>Cp hx
 have se:=hS e (h.ed e he)
 refine ⟨fun x hx=>h.ed x (mm x hx),n1.2,n2.2,fun x hx=>?_,fun x hx=>?_⟩
 ·refine ⟨⟨h.ap x (mm x hx),fun z=>n1.1 (z ▸ AU hx)⟩,fun z=>?_⟩
  have:=(hS x (h.ed x (mm x hx))).1
  rw [z,se.2] at this
  cases this
 ·refine ⟨⟨h.aq x (mm x hx),fun z=>?_⟩,fun z=>n2.1 (z ▸ AU hx)⟩
  have:=(hS x (h.ed x (mm x hx))).2
  rw [z,se.1] at this
  cases this
def Swap (Ed : Edge → Prop)(p q : Edge → Nat)(S : Nat → Bool)(A B : Nat → Prop)(i : Nat)(W : Int) : Prop := ∃ M N : List Edge, jN M + jN N = W ∧
  ((Mat Ed p q (minus A i) M ∧ Mat Ed p q (plus B i) N) ∨
   (∃ j, S j = false ∧ A j ∧ ¬ B j ∧ Mat Ed p q (minus (minus A i) j) M ∧ Mat Ed p q (plus (plus B i) j) N) ∨
   (∃ j, S j = true ∧ B j ∧ ¬ A j ∧ Mat Ed p q (plus (minus A i) j) M ∧ Mat Ed p q (minus (plus B i) j) N))
theorem eY {S:Nat→Bool}(hS:∀ e,Ed e→S (p e)=true∧S (q e)=false):∀ (n:Nat) (M N:List Edge) (A B:Nat→Prop) (i:Nat),M.length ≤ n→Mat Ed p q A M→Mat Ed p q B N→A i→¬ B i→S i=true→Swap Ed p q S A B i (jN M + jN N):=by
 intro n
 induction n with
 | zero =>
  intro M N A B i hl hM hN ai bi si
  have:M=[]:=BM (by omega)
  subst this
  exact ⟨[],N,rfl,.inl ⟨Mat.nil,hN.imp fun v h=>.inl h⟩⟩
 | succ n ih =>
  intro M N A B i hl hM hN ai bi si
  have sep:∀ {u v:Nat},S u=true→S v=false→u ≠ v:=fun h1 h2 z=>by rw [z,h2] at h1;cases h1
  by_cases hi:∃ e ∈ M,p e=i
  ·obtain ⟨e,he,rfl⟩:=hi
   have ee:=hM.ed e he
   obtain ⟨s1,s2⟩:=hS e ee
   obtain ⟨M1,pm,l1,hM1⟩:=hM.take hS he
   have av:=hM.aq e he
   by_cases hv:∃ e' ∈ N,q e'=q e
   ·obtain ⟨e',he',ev⟩:=hv
    have ee':=hN.ed e' he'
    obtain ⟨t1,t2⟩:=hS e' ee'
    obtain ⟨N1,pn,l2,hN1⟩:=hN.take hS he'
    have bu:=hN.ap e' he'
    have bv:=hN.aq e' he'
    rw [ev] at hN1 bv t2
    have ui:p e' ≠ p e:=fun z=>bi (z ▸ bu)
    have uv:p e' ≠ q e:=sep t1 s2
    have iv:p e ≠ q e:=sep s1 s2
    have hW:jN M + jN N=e.2.2 + e'.2.2 + (jN M1 + jN N1):=by
     rw [yE pm,yE pn,kI,kI]
     omega
    rw [hW]
    by_cases au:A (p e')
    ·obtain ⟨M2,N2,w2,alt⟩:=ih M1 N1 (minus (minus A (p e)) (q e)) (minus (minus B (p e')) (q e)) (p e') (by omega) hM1 hN1 ⟨⟨au,ui⟩,uv⟩ (fun z=>z.1.2 rfl) t1
     refine ⟨e' :: M2,e :: N2,by rw [kI,kI];omega,?_⟩
     rcases alt with ⟨m1,m2⟩ | ⟨j,sj,aj,bj,m1,m2⟩ | ⟨j,sj,bj,aj,m1,m2⟩
     ·refine .inl ⟨?_,?_⟩
      ·refine m1.cons ee' (fun z=>z.2 rfl) (fun z=>z.1.2 ev) (fun v z=>z.1.1) ⟨au,ui⟩ ?_
       rw [ev]
       exact ⟨av,fun z=>iv z.symm⟩
      ·refine m2.cons ee (fun z=>?_) (fun z=>?_) (fun v z=>?_) (.inr rfl) (.inl bv)
       ·rcases z with z | z
        ·exact bi z.1.1
        ·exact ui z.symm
       ·rcases z with z | z
        ·exact z.2 rfl
        ·exact uv z.symm
       ·rcases z with z | z
        ·exact .inl z.1.1
        ·exact .inl (z ▸ bu)
     ·have ju:p e' ≠ j:=sep t1 sj
      have ji:p e ≠ j:=sep s1 sj
      have jv:j ≠ q e:=aj.2
      have bj':¬ B j:=fun z=>bj ⟨⟨z,fun y=>ju y.symm⟩,jv⟩
      refine .inr (.inl ⟨j,sj,aj.1.1,bj',?_,?_⟩)
      ·refine m1.cons ee' (fun z=>z.1.2 rfl) (fun z=>z.1.1.2 ev) (fun v z=>⟨z.1.1.1,z.2⟩) ⟨⟨au,ui⟩,ju⟩ ?_
       rw [ev]
       exact ⟨⟨av,fun z=>iv z.symm⟩,fun z=>jv z.symm⟩
      ·refine m2.cons ee (fun z=>?_) (fun z=>?_) (fun v z=>?_) (.inl (.inr rfl)) (.inl (.inl bv))
       ·rcases z with (z | z) | z
        ·exact bi z.1.1
        ·exact ui z.symm
        ·exact ji z
       ·rcases z with (z | z) | z
        ·exact z.2 rfl
        ·exact uv z.symm
        ·exact jv z.symm
       ·rcases z with (z | z) | z
        ·exact .inl (.inl z.1.1)
        ·exact .inl (.inl (z ▸ bu))
        ·exact .inr z
     ·have jv:j ≠ q e:=bj.2
      have ju:j ≠ p e':=bj.1.2
      have ji:j ≠ p e:=fun z=>bi (z ▸ bj.1.1)
      have aj':¬ A j:=fun z=>aj ⟨⟨z,ji⟩,jv⟩
      refine .inr (.inr ⟨j,sj,bj.1.1,aj',?_,?_⟩)
      ·refine m1.cons ee' (fun z=>?_) (fun z=>?_) (fun v z=>?_) (.inl ⟨au,ui⟩) (.inl ?_)
       ·rcases z with z | z
        ·exact z.2 rfl
        ·exact ju z.symm
       ·rw [ev] at z
        rcases z with z | z
        ·exact z.1.2 rfl
        ·exact jv z.symm
       ·rcases z with z | z
        ·exact .inl z.1.1
        ·exact .inr z
       ·rw [ev]
        exact ⟨av,fun z=>iv z.symm⟩
      ·refine m2.cons ee (fun z=>?_) (fun z=>?_) (fun v z=>?_) ⟨.inr rfl,fun z=>ji z.symm⟩ ⟨.inl bv,fun z=>jv z.symm⟩
       ·rcases z.1 with y | y
        ·exact bi y.1.1
        ·exact ui y.symm
       ·rcases z.1 with y | y
        ·exact y.2 rfl
        ·exact uv y.symm
       ·refine ⟨?_,z.2⟩
        rcases z.1 with y | y
        ·exact .inl y.1.1
        ·exact .inl (y ▸ bu)
    ·refine ⟨e' :: M1,e :: N1,by rw [kI,kI];omega,.inr (.inr ⟨p e',t1,bu,au,?_,?_⟩)⟩
     ·refine hM1.cons ee' (fun z=>au z.1.1) (fun z=>z.2 ev) (fun v z=>.inl z.1) (.inr rfl) (.inl ?_)
      rw [ev]
      exact ⟨av,fun z=>iv z.symm⟩
     ·exact hN1.cons ee (fun z=>bi z.1.1) (fun z=>z.2 rfl) (fun v z=>⟨.inl z.1.1,z.1.2⟩) ⟨.inr rfl,fun z=>ui z.symm⟩ ⟨.inl bv,fun z=>uv z.symm⟩
   ·have hW:jN M + jN N=jN M1 + jN (e :: N):=by
     rw [yE pm,kI,kI]
     omega
    rw [hW]
    have fresh:Mat Ed p q (minus B (q e)) N:=⟨hN.ed,hN.np,hN.nq,fun x hx=>⟨hN.ap x hx,sep (hS x (hN.ed x hx)).1 s2⟩,fun x hx=>⟨hN.aq x hx,fun z=>hv ⟨x,hx,z⟩⟩⟩
    by_cases bv:B (q e)
    ·exact ⟨M1,e :: N,rfl,.inl ⟨hM1.imp fun v z=>z.1,fresh.cons ee (fun z=>bi z.1) (fun z=>z.2 rfl) (fun v z=>.inl z.1) (.inr rfl) (.inl bv)⟩⟩
    ·exact ⟨M1,e :: N,rfl,.inr (.inl ⟨q e,s2,av,bv,hM1,fresh.cons ee (fun z=>bi z.1) (fun z=>z.2 rfl) (fun v z=>.inl (.inl z.1)) (.inl (.inr rfl)) (.inr rfl)⟩)⟩
  ·refine ⟨M,N,rfl,.inl ⟨⟨hM.ed,hM.np,hM.nq,fun x hx=>⟨hM.ap x hx,fun z=>hi ⟨x,hx,z⟩⟩,fun x hx=>⟨hM.aq x hx,fun z=>?_⟩⟩,hN.imp fun v h=>.inl h⟩⟩
   exact sep si (hS x (hM.ed x hx)).2 z.symm
end
theorem kG {h i v:Nat}(hh:h < 32)(hi:i < 5)(hv:v < 5):qA (h ^^^ 2 ^ i) v=(qA h v != decide (v=i))∧h ^^^ 2 ^ i < 32:=by
 have key:∀ (h:_root_.Fin 32) (i v:_root_.Fin 5),qA (h.val ^^^ 2 ^ i.val) v.val=(qA h.val v.val != decide (v.val=i.val))∧h.val ^^^ 2 ^ i.val < 32:=by decide +kernel
 exact key ⟨h,hh⟩ ⟨i,hi⟩ ⟨v,hv⟩
def qZ (sl:Nat→Prop)(h:Nat):Nat→Prop:=fun v=>(10 ≤ v∧sl v)∨(v < 5∧qA h v=true)
theorem zC {sl:Nat→Prop}{h i:Nat}(hh:h < 32)(hi:i < 5)(b:qA h i=true):∀ v,minus (qZ sl h) i v→qZ sl (h ^^^ 2 ^ i) v:=fun v ⟨a,n⟩=>by
 rcases a with a | ⟨v5,bv⟩
 ·exact .inl a
 ·refine .inr ⟨v5,?_⟩
  rw [(kG hh hi v5).1,bv,Al n]
  rfl
theorem hJ {sl:Nat→Prop}{h i:Nat}(hh:h < 32)(hi:i < 5)(b:qA h i=false):∀ v,plus (qZ sl h) i v→qZ sl (h ^^^ 2 ^ i) v:=fun v a=>by
 rcases a with (a | ⟨v5,bv⟩) | rfl
 ·exact .inl a
 ·refine .inr ⟨v5,?_⟩
  have n:v ≠ i:=fun z=>by rw [z,b] at bv;cases bv
  rw [(kG hh hi v5).1,bv,Al n]
  rfl
 ·refine .inr ⟨hi,?_⟩
  rw [(kG hh hi hi).1,b,Ar rfl]
  rfl
theorem dX {A B:Nat→Prop}(k:∀ v,A v→B v)(i:Nat):∀ v,minus A i v→minus B i v:=fun v z=>⟨k v z.1,z.2⟩
theorem lF {A B:Nat→Prop}(k:∀ v,A v→B v)(i:Nat):∀ v,plus A i v→plus B i v:=fun v z=>z.elim (fun y=>.inl (k v y)) .inr
def pL (e:Edge):Nat:=e.1
def pR (e:Edge):Nat:=e.2.1
structure Val (Ed:Edge→Prop)(sl:Nat→Prop)(m:Nat)(ws:List Int):Prop where
 at':∀ h,h < 2 ^ m→∃ M,Mat Ed pL pR (qZ sl h) M∧jN M=ws.getD h 0
 ge:∀ h,h < 2 ^ m→∀ M,Mat Ed pL pR (qZ sl h) M→jN M ≤ ws.getD h 0
def kR (F v:Nat):Bool:=if v < 10 then !qA F v else qA F (v % 10)
def fF (F v:Nat):Bool:=!kR F v
def gU (F:Nat)(Ed:Edge→Prop):Prop:=∀ e,Ed e→kR F (pL e)=true∧kR F (pR e)=false
theorem yC {m h j:Nat}(m5:m ≤ 5)(hh:h < 2 ^ m)(j5:j < 5)(b:qA h j=true):j < m:=by
 have key:∀ (m:_root_.Fin 6) (h:_root_.Fin 32) (j:_root_.Fin 5),h.val < 2 ^ m.val→qA h.val j.val=true→j.val < m.val:=by decide +kernel
 have:2 ^ m ≤ 2 ^ 5:=Ao (by decide) m5
 exact key ⟨m,by omega⟩ ⟨h,by omega⟩ ⟨j,j5⟩ hh b
theorem kO {m h j:Nat}(m5:m ≤ 5)(hh:h < 2 ^ m)(hj:j < m):h ^^^ 2 ^ j < 2 ^ m:=BO hh (Nat.pow_lt_pow_right (by decide) hj)
theorem rZ {Ed:Edge→Prop}{sl:Nat→Prop}{m:Nat}{ws:List Int}{F:Nat}(m5:m ≤ 5)(V:Val Ed sl m ws)(sd:gU F Ed){X Y i:Nat}(hX:X < 2 ^ m)(hY:Y < 2 ^ m)(hi:i < m)(ai:qA X i=true)(bi:qA Y i=false)(p q:Edge→Nat)(S:Nat→Bool)(fl:∀ {A:Nat→Prop} {M:List Edge},Mat Ed pL pR A M ↔ Mat Ed p q A M)(hS:∀ e,Ed e→S (p e)=true∧S (q e)=false)(si:S i=true) :
  ws.getD X 0 + ws.getD Y 0 ≤ ws.getD (X ^^^ 2 ^ i) 0 + ws.getD (Y ^^^ 2 ^ i) 0∨∃ j,j < m∧((S j=false∧qA X j=true∧qA Y j=false)∨(S j=true∧qA X j=false∧qA Y j=true))∧ws.getD X 0 + ws.getD Y 0 ≤ ws.getD (X ^^^ 2 ^ i ^^^ 2 ^ j) 0 + ws.getD (Y ^^^ 2 ^ i ^^^ 2 ^ j) 0:=by
 have p32:2 ^ m ≤ 2 ^ 5:=Ao (by decide) m5
 obtain ⟨M,hM,eM⟩:=V.at' X hX
 obtain ⟨N,hN,eN⟩:=V.at' Y hY
 have i5:i < 5:=by omega
 have x1:=kG (show X < 32 by omega) i5 i5
 have y1:=kG (show Y < 32 by omega) i5 i5
 have hX1:=kO m5 hX hi
 have hY1:=kO m5 hY hi
 obtain ⟨M',N',e,alt⟩:=eY hS M.length M N (qZ sl X) (qZ sl Y) i (Ag _) (fl.mp hM) (fl.mp hN) (.inr ⟨i5,ai⟩) (fun z=>by
  rcases z with z | z
  ·omega
  ·rw [bi] at z;cases z.2) si
 have thing:∀ {Z Z' j:Nat},qZ sl Z j→¬ qZ sl Z' j→j < 5∧qA Z j=true∧qA Z' j=false:=fun {Z Z' j} a n=>by
  rcases a with a | ⟨j5,b⟩
  ·exact absurd (.inl a) n
  ·refine ⟨j5,b,?_⟩
   cases c:qA Z' j with
   | false=>rfl
   | true=>exact absurd (.inr ⟨j5,c⟩) n
 rcases alt with ⟨m1,m2⟩ | ⟨j,sj,aj,bj,m1,m2⟩ | ⟨j,sj,bj,aj,m1,m2⟩
 ·have g1:=V.ge _ hX1 M' (fl.mpr (m1.imp (zC (by omega) i5 ai)))
  have g2:=V.ge _ hY1 N' (fl.mpr (m2.imp (hJ (by omega) i5 bi)))
  exact .inl (by omega)
 ·obtain ⟨j5,b1,b2⟩:=thing aj bj
  have jm:=yC m5 hX j5 b1
  have ne:j ≠ i:=fun z=>by rw [z,si] at sj;cases sj
  have f1:qA (X ^^^ 2 ^ i) j=true:=by rw [(kG (show X < 32 by omega) i5 j5).1,b1,Al ne];rfl
  have f2:qA (Y ^^^ 2 ^ i) j=false:=by rw [(kG (show Y < 32 by omega) i5 j5).1,b2,Al ne];rfl
  have g1:=V.ge _ (kO m5 hX1 jm) M' (fl.mpr (m1.imp fun v z=>zC (by omega) j5 f1 v (dX (zC (by omega) i5 ai) j v z)))
  have g2:=V.ge _ (kO m5 hY1 jm) N' (fl.mpr (m2.imp fun v z=>hJ (by omega) j5 f2 v (lF (hJ (by omega) i5 bi) j v z)))
  exact .inr ⟨j,jm,.inl ⟨sj,b1,b2⟩,by omega⟩
 ·obtain ⟨j5,b2,b1⟩:=thing bj aj
  have jm:=yC m5 hY j5 b2
  have ne:j ≠ i:=fun z=>by rw [z,bi] at b2;cases b2
  have f1:qA (X ^^^ 2 ^ i) j=false:=by rw [(kG (show X < 32 by omega) i5 j5).1,b1,Al ne];rfl
  have f2:qA (Y ^^^ 2 ^ i) j=true:=by rw [(kG (show Y < 32 by omega) i5 j5).1,b2,Al ne];rfl
  have g1:=V.ge _ (kO m5 hX1 jm) M' (fl.mpr (m1.imp fun v z=>hJ (by omega) j5 f1 v (lF (zC (by omega) i5 ai) j v z)))
  have g2:=V.ge _ (kO m5 hY1 jm) N' (fl.mpr (m2.imp fun v z=>zC (by omega) j5 f2 v (dX (hJ (by omega) i5 bi) j v z)))
  exact .inr ⟨j,jm,.inr ⟨sj,b1,b2⟩,by omega⟩
theorem Mat.tail {Ed:Edge→Prop}{F:Nat}(sd:gU F Ed){A:Nat→Prop}{e:Edge}{M:List Edge}(h:Mat Ed pL pR A (e :: M)):Mat Ed pL pR (minus (minus A (pL e)) (pR e)) M:=by
 have n1:=h.np
 have n2:=h.nq
 rw [Av,AS] at n1 n2
 have mm:∀ x ∈ M,x ∈ e :: M:=fun x hx=>Ad _ hx
 have se:=sd e (h.ed e Af)
 refine ⟨fun x hx=>h.ed x (mm x hx),n1.2,n2.2,fun x hx=>?_,fun x hx=>?_⟩
 ·refine ⟨⟨h.ap x (mm x hx),fun z=>n1.1 (z ▸ AU hx)⟩,fun z=>?_⟩
  have:=(sd x (h.ed x (mm x hx))).1
  rw [z,se.2] at this
  cases this
 ·refine ⟨⟨h.aq x (mm x hx),fun z=>?_⟩,fun z=>n2.1 (z ▸ AU hx)⟩
  have:=(sd x (h.ed x (mm x hx))).2
  rw [z,se.1] at this
  cases this
theorem mU {Ed:Edge→Prop}{sl:Nat→Prop}{F m:Nat}{f:Nat→Int}(sd:gU F Ed)(h0:∀ h,h < 2 ^ m→0 ≤ f h)(step:∀ e h,Ed e→h < 2 ^ m→qZ sl h (pL e)→qZ sl h (pR e)→∃ h',h' < 2 ^ m∧e.2.2 + f h' ≤ f h∧∀ v,minus (minus (qZ sl h) (pL e)) (pR e) v→qZ sl h' v):∀ (M:List Edge) (h:Nat),h < 2 ^ m→Mat Ed pL pR (qZ sl h) M→jN M ≤ f h
 | [],h,hh,_=>h0 h hh
 | e :: M,h,hh,hM=>by
  have ee:=hM.ed e Af
  obtain ⟨h',l,le,k⟩:=step e h ee hh (hM.ap e Af) (hM.aq e Af)
  have:=mU sd h0 step M h' l ((hM.tail sd).imp k)
  rw [kI]
  omega
theorem a_bit {h m:Nat}(m5:m ≤ 5)(hh:h < 2 ^ m)(n:h ≠ 0):∃ t,t < m∧qA h t=true:=by
 have key:∀ (m:_root_.Fin 6) (h:_root_.Fin 32),h.val < 2 ^ m.val→h.val ≠ 0→∃ t:_root_.Fin 5,t.val < m.val∧qA h.val t.val=true:=by decide +kernel
 have:2 ^ m ≤ 2 ^ 5:=Ao (by decide) m5
 obtain ⟨t,h1,h2⟩:=key ⟨m,by omega⟩ ⟨h,by omega⟩ hh n
 exact ⟨t.val,h1,h2⟩
theorem pN {h i j:Nat}(hh:h < 32)(hi:i < 5)(hj:j < 5)(ij:i ≠ j)(bi:qA h i=true)(bj:qA h j=true):qA (h ^^^ 2 ^ i) j=true∧h ^^^ 2 ^ i ^^^ 2 ^ j < h∧h - (2 ^ i ||| 2 ^ j)=h ^^^ 2 ^ i ^^^ 2 ^ j:=by
 have key:∀ (h:_root_.Fin 32) (i j:_root_.Fin 5),i.val ≠ j.val→qA h.val i.val=true→qA h.val j.val=true→qA (h.val ^^^ 2 ^ i.val) j.val=true∧h.val ^^^ 2 ^ i.val ^^^ 2 ^ j.val < h.val∧h.val - (2 ^ i.val ||| 2 ^ j.val)=h.val ^^^ 2 ^ i.val ^^^ 2 ^ j.val:=by decide +kernel
 exact key ⟨h,hh⟩ ⟨i,hi⟩ ⟨j,hj⟩ ij bi bj
theorem oY {sl:Nat→Prop}{h t:Nat}(hh:h < 32)(ht:t < 5)(b:qA h t=true){v:Nat}(a:qZ sl (h ^^^ 2 ^ t) v):minus (qZ sl h) t v:=by
 rcases a with a | ⟨v5,bv⟩
 ·exact ⟨.inl a,by omega⟩
 ·rw [(kG hh ht v5).1] at bv
  refine ⟨.inr ⟨v5,?_⟩,fun z=>?_⟩
  ·cases c:qA h v with
   | true=>rfl
   | false =>
    rw [c] at bv
    have:v=t:=by simpa using bv
    rw [this,b] at c
    cases c
  ·rw [z,b,Ar rfl] at bv
   cases bv
def q9 (ws:List Int)(h:Nat):Nat→Int
 | 0=>0
 | n + 1=>q9 ws h n + if qA h n=true then ws.getD n 0 else 0
def edAdd (o F:Nat)(ws:List Int)(m:Nat)(e:Edge):Prop:=∃ t,t < m∧((qA F t=false∧e=(t,o + t,ws.getD t 0))∨(qA F t=true∧e=(o + t,t,ws.getD t 0)))
def vW (o:Nat)(v:Nat):Prop:=o ≤ v∧v < o + 10
theorem pH {o F m:Nat}{ws:List Int}(m5:m ≤ 5)(ho:o=10∨o=30):gU F (edAdd o F ws m):=fun e ⟨t,tm,h⟩=>by
 have om:(o + t) % 10=t:=by rcases ho with rfl | rfl <;> omega
 rcases h with ⟨b,rfl⟩ | ⟨b,rfl⟩
 ·unfold kR pL pR
  show (if t < 10 then !qA F t else qA F (t % 10))=true∧(if o + t < 10 then !qA F (o + t) else qA F ((o + t) % 10))=false
  rw [Ak (by omega),Aj (by omega),om,b]
  exact ⟨rfl,rfl⟩
 ·unfold kR pL pR
  show (if o + t < 10 then !qA F (o + t) else qA F ((o + t) % 10))=true∧(if t < 10 then !qA F t else qA F (t % 10))=false
  rw [Aj (by omega),Ak (by omega),om,b]
  exact ⟨rfl,rfl⟩
theorem h8 {ws:List Int}{h t:Nat}(hh:h < 32)(ht:t < 5)(b:qA h t=true):∀ n,n ≤ 5→q9 ws (h ^^^ 2 ^ t) n=q9 ws h n - if t < n then ws.getD t 0 else 0
 | 0,_=>by simp [q9]
 | n + 1,hn=>by
  have ih:=h8 (ws:=ws) hh ht b n (by omega)
  have x:=(kG hh ht (show n < 5 by omega)).1
  show q9 ws (h ^^^ 2 ^ t) n + (if qA (h ^^^ 2 ^ t) n=true then ws.getD n 0 else 0)=q9 ws h n + (if qA h n=true then ws.getD n 0 else 0) - if t < n + 1 then ws.getD t 0 else 0
  by_cases e:n=t
  ·subst e
   rw [Aj (AQ n)] at ih
   rw [ih,x,b,Ar rfl]
   simp only [Be,BV,bne_self_eq_false,AR,BE]
   omega
  ·rw [Al e,show (qA h n != false)=qA h n by cases qA h n <;> rfl] at x
   rw [ih,x]
   have c:(if t < n + 1 then ws.getD t 0 else 0)=if t < n then ws.getD t 0 else 0:=by
    by_cases z:t < n
    ·rw [Ak z,Ak (by omega)]
    ·rw [Aj z,Aj (by omega)]
   rw [c]
   omega
theorem aW {ws:List Int}(w0:∀ t,0 ≤ ws.getD t 0)(h:Nat):∀ n,0 ≤ q9 ws h n
 | 0=>Aw _
 | n + 1=>by
  have:=aW w0 h n
  have:=w0 n
  show 0 ≤ q9 ws h n + if qA h n=true then ws.getD n 0 else 0
  split <;> omega
theorem add_val {o F m:Nat}{ws ns:List Int}(m5:m ≤ 5)(ho:o=10∨o=30)(w0:∀ t,0 ≤ ws.getD t 0)(hn:∀ h,h < 2 ^ m→ns.getD h 0=q9 ws h m):Val (edAdd o F ws m) (vW o) m ns:=by
 have p32:2 ^ m ≤ 2 ^ 5:=Ao (by decide) m5
 refine ⟨fun h hh=>?_,fun h hh M hM=>?_⟩
 ·rw [hn h hh]
  have go:∀ n,n ≤ m→∃ M,Mat (edAdd o F ws m) pL pR (fun v=>(v < n∧qA h v=true)∨(o ≤ v∧v < o + n)) M∧jN M=q9 ws h n:=by
   intro n
   induction n with
   | zero=>exact fun _=>⟨[],Mat.nil,rfl⟩
   | succ n ih =>
    intro hnm
    have on:n < o:=by omega
    obtain ⟨M,hM,w⟩:=ih (by omega)
    have mono:∀ v,((v < n∧qA h v=true)∨(o ≤ v∧v < o + n))→((v < n + 1∧qA h v=true)∨(o ≤ v∧v < o + (n + 1))):=fun v z=>z.elim (fun y=>.inl ⟨by omega,y.2⟩) (fun y=>.inr ⟨y.1,by omega⟩)
    show ∃ M,Mat _ pL pR _ M∧jN M=q9 ws h n + if qA h n=true then ws.getD n 0 else 0
    cases b:qA h n with
    | false=>exact ⟨M,hM.imp mono,by rw [w,Aj (by decide)];omega⟩
    | true =>
     cases c:qA F n with
     | false =>
      refine ⟨(n,o + n,ws.getD n 0) :: M,hM.cons ⟨n,by omega,.inl ⟨c,rfl⟩⟩ (fun z=>?_) (fun z=>?_) mono (.inl ⟨Be n,b⟩) (.inr ⟨BJ o n,Be _⟩),by rw [kI,w,Ak rfl];show ws.getD n 0 + q9 ws h n=q9 ws h n + ws.getD n 0;omega⟩
      ·have z':(n < n∧qA h n=true)∨(o ≤ n∧n < o + n):=z
       exact z'.elim (fun y=>AQ _ y.1) (fun y=>absurd y.1 (Nat.not_le.mpr on))
      ·have z':(o + n < n∧qA h (o + n)=true)∨(o ≤ o + n∧o + n < o + n):=z
       exact z'.elim (fun y=>Nat.not_lt.mpr (Nat.le_add_left n o) y.1) (fun y=>AQ _ y.2)
     | true =>
      refine ⟨(o + n,n,ws.getD n 0) :: M,hM.cons ⟨n,by omega,.inr ⟨c,rfl⟩⟩ (fun z=>?_) (fun z=>?_) mono (.inr ⟨BJ o n,Be _⟩) (.inl ⟨Be n,b⟩),by rw [kI,w,Ak rfl];show ws.getD n 0 + q9 ws h n=q9 ws h n + ws.getD n 0;omega⟩
      ·have z':(o + n < n∧qA h (o + n)=true)∨(o ≤ o + n∧o + n < o + n):=z
       exact z'.elim (fun y=>Nat.not_lt.mpr (Nat.le_add_left n o) y.1) (fun y=>AQ _ y.2)
      ·have z':(n < n∧qA h n=true)∨(o ≤ n∧n < o + n):=z
       exact z'.elim (fun y=>AQ _ y.1) (fun y=>absurd y.1 (Nat.not_le.mpr on))
  obtain ⟨M,hM,w⟩:=go m (Ag _)
  exact ⟨M,hM.imp fun v z=>z.elim (fun y=>.inr ⟨by omega,y.2⟩) (fun y=>.inl ⟨by omega,y.1,by omega⟩),w⟩
 ·rw [hn h hh]
  refine mU (F:=F) (f:=fun h=>q9 ws h m) (pH m5 ho) (fun h _=>aW w0 h m) (fun e h he hh a1 a2=>?_) M h hh hM
  obtain ⟨t,tm,he⟩:=he
  have b:qA h t=true:=by
   rcases he with ⟨_,rfl⟩ | ⟨_,rfl⟩
   ·rcases a1 with z | z
    ·have:10 ≤ t:=z.1
     omega
    ·exact z.2
   ·rcases a2 with z | z
    ·have:10 ≤ t:=z.1
     omega
    ·exact z.2
  have ao:=h8 (ws:=ws) (show h < 32 by omega) (show t < 5 by omega) b m m5
  rw [Ak tm] at ao
  refine ⟨h ^^^ 2 ^ t,kO m5 hh tm,?_,fun v z=>zC (by omega) (by omega) b v ⟨z.1.1,?_⟩⟩
  ·rcases he with ⟨_,rfl⟩ | ⟨_,rfl⟩
   ·show ws.getD t 0 + q9 ws (h ^^^ 2 ^ t) m ≤ q9 ws h m
    omega
   ·show ws.getD t 0 + q9 ws (h ^^^ 2 ^ t) m ≤ q9 ws h m
    omega
  ·rcases he with ⟨_,rfl⟩ | ⟨_,rfl⟩
   ·exact z.1.2
   ·exact z.2
def kJ:Nat→List Int→Int
 | _,[]=>0
 | 0,_ :: _=>0
 | k + 1,y :: l=>max (kJ (k + 1) l) (y + kJ k l)
theorem vD (l:List Int):kJ 0 l=0:=by cases l <;> rfl
theorem uN (x:Int)(h:0 ≤ x):∀ (k:Nat) (A B:List Int),kJ k (A ++ B) ≤ kJ k (A ++ x :: B)
 | 0,A,B=>by rw [vD,vD];exact Aw _
 | k + 1,[],B=>by
  show kJ (k + 1) B ≤ max (kJ (k + 1) B) (x + kJ k B)
  exact Int.le_max_left _ _
 | k + 1,a :: A,B=>by
  have h1:=uN x h (k + 1) A B
  have h2:=uN x h k A B
  show max (kJ (k + 1) (A ++ B)) (a + kJ k (A ++ B)) ≤ max (kJ (k + 1) (A ++ x :: B)) (a + kJ k (A ++ x :: B))
  omega
theorem uC (x a b:Int):x + max a b=max (x + a) (x + b):=by
 rcases Int.le_total a b with h | h
 ·rw [Cs h,Cs (Int.add_le_add_left h x)]
 ·rw [Int.max_eq_left h,Int.max_eq_left (Int.add_le_add_left h x)]
theorem max4 (a b c d:Int):max (max a b) (max c d)=max (max a c) (max b d):=by rw [Ca,Ca,← Ca b c d,Int.max_comm b c,Ca c b d]
theorem cH {l l':List Int}(p:l.Perm l'):∀ k,kJ k l=kJ k l':=by
 induction p with
 | nil=>exact fun _=>rfl
 | cons x _ ih =>
  intro k
  cases k with
  | zero=>rw [vD,vD]
  | succ k=>show max _ _=max _ _;rw [ih,ih]
 | swap x y l =>
  intro k
  match k with
  | 0=>rw [vD,vD]
  | 1 =>
   show max (max (kJ 1 l) (x + kJ 0 l)) (y + kJ 0 (x :: l))=max (max (kJ 1 l) (y + kJ 0 l)) (x + kJ 0 (y :: l))
   rw [vD,vD,vD,Ca,Int.max_comm (x + 0),← Ca]
  | k + 2 =>
   show max (max (kJ (k + 2) l) (x + kJ (k + 1) l)) (y + max (kJ (k + 1) l) (x + kJ k l))=max (max (kJ (k + 2) l) (y + kJ (k + 1) l)) (x + max (kJ (k + 1) l) (y + kJ k l))
   rw [uC,uC,max4,show y + (x + kJ k l)=x + (y + kJ k l) by omega]
 | trans _ _ ih1 ih2=>exact fun k=>(ih1 k).trans (ih2 k)
theorem sC {d:Int}(d0:0 ≤ d):∀ (l:List Int),(∀ x ∈ l,x ≤ d∧0 ≤ x)→∀ k,kJ (k + 1) l ≤ d + kJ k l
 | [],_,k=>by
  have:kJ k [] = 0:=by cases k <;> rfl
  show (0:Int) ≤ d + kJ k []
  omega
 | e :: l,h,k=>by
  have he:=h e Af
  have ih:=sC d0 l fun x hx=>h x (Ad _ hx)
  have up:=uN e he.2 k [] l
  have i1:=ih k
  show max (kJ (k + 1) l) (e + kJ k l) ≤ d + kJ k (e :: l)
  have up':kJ k l ≤ kJ k (e :: l):=up
  omega
theorem sA:∀ (l:List Int),l.Pairwise (fun a b=>b ≤ a)→(∀ x ∈ l,0 ≤ x)→∀ k,(l.take k).sum=kJ k l
 | [],_,_,k=>by rw [List.take_nil];cases k <;> rfl
 | d :: l,hp,h0,0=>by rw [List.take_zero];rfl
 | d :: l,hp,h0,k + 1=>by
  rw [List.pairwise_cons] at hp
  rw [List.take_succ_cons,AF,sA l hp.2 (fun x hx=>h0 x (Ad _ hx)) k]
  have:=sC (h0 d Af) l (fun x hx=>⟨hp.1 x hx,h0 x (Ad _ hx)⟩) k
  show d + kJ k l=max (kJ (k + 1) l) (d + kJ k l)
  omega
def vR (ws:List Int)(h n:Nat):List Int:=((List.range n).filter (qA h)).map fun t=>ws.getD t 0
theorem zA (ws:List Int)(h k:Nat):vR ws h (k + 1)=vR ws h k ++ if qA h k=true then [ws.getD k 0] else []:=by
 unfold vR
 rw [Bb,Bq,A4]
 congr 1
 cases e:qA h k <;> simp [List.filter,e]
theorem oB {ws:List Int}{h t:Nat}(hh:h < 32)(ht:t < 5):∀ k,k ≤ t→vR ws (h ^^^ 2 ^ t) k=vR ws h k
 | 0,_=>rfl
 | k + 1,hk=>by
  have b:=(kG hh ht (show k < 5 by omega)).1
  rw [Al (show ¬ k=t by omega),show (qA h k != false)=qA h k by cases qA h k <;> rfl] at b
  rw [zA,zA,oB hh ht k (by omega),b]
theorem oC {ws:List Int}{h t:Nat}(hh:h < 32)(ht:t < 5)(e:qA h t=true):∀ n,t < n→n ≤ 5→∃ B,vR ws h n=vR ws h t ++ ws.getD t 0 :: B∧vR ws (h ^^^ 2 ^ t) n=vR ws h t ++ B
 | 0,h0,_=>absurd h0 (BP _)
 | n + 1,hn,h5=>by
  have b:=(kG hh ht (show n < 5 by omega)).1
  rcases Bm t n with z | z
  ·obtain ⟨B,e1,e2⟩:=oC hh ht e n z (by omega)
   rw [Al (show ¬ n=t by omega),show (qA h n != false)=qA h n by cases qA h n <;> rfl] at b
   rw [zA,zA,e1,e2,b]
   exact ⟨B ++ if qA h n=true then [ws.getD n 0] else [],by simp,by simp⟩
  ·have:n=t:=by omega
   subst this
   rw [zA,zA,Ak e,b,e,Ar rfl,oB hh ht n (Ag _)]
   exact ⟨[],rfl,by simp⟩
def oQ (o k:Nat)(ws:List Int)(m:Nat)(e:Edge):Prop:=∃ t s,t < m∧s < k∧e=(t,o + s,ws.getD t 0)
theorem nO {o k m:Nat}{ws:List Int}(m5:m ≤ 5)(ho:o=10∨o=30):gU 0 (oQ o k ws m):=fun e ⟨t,s,tm,sk,h⟩=>by
 subst h
 have z:∀ v,qA 0 v=false:=fun v=>by unfold qA;simp
 unfold kR pL pR
 show (if t < 10 then !qA 0 t else qA 0 (t % 10))=true∧(if o + s < 10 then !qA 0 (o + s) else qA 0 ((o + s) % 10))=false
 rw [Ak (by omega),Aj (by omega),z,z]
 exact ⟨rfl,rfl⟩
theorem gW:∀ (l:List Int) (k:Nat),kJ k l ≤ kJ (k + 1) l
 | [],k=>by cases k <;> exact Aw _
 | y :: l,0=>by
  have h1:kJ 0 l ≤ kJ 1 l:=gW l 0
  rw [vD] at h1 ⊢
  show 0 ≤ max (kJ 1 l) (y + kJ 0 l)
  omega
 | y :: l,k + 1=>by
  have h1:kJ (k + 1) l ≤ kJ (k + 2) l:=gW l (k + 1)
  have h2:=gW l k
  show max (kJ (k + 1) l) (y + kJ k l) ≤ max (kJ (k + 2) l) (y + kJ (k + 1) l)
  omega
theorem eQ (l:List Int){j:Nat}:∀ {k:Nat},j ≤ k→kJ j l ≤ kJ k l
 | 0,h=>by rw [show j=0 by omega];exact Aw _
 | k + 1,h=>by
  rcases Bm j (k + 1) with z | z
  ·exact By (eQ l (show j ≤ k by omega)) (gW l k)
  ·rw [show j=k + 1 by omega];exact Aw _
theorem wI {o:Nat}:∀ (k:Nat) (l:List Nat),l.Nodup→(∀ x ∈ l,o ≤ x∧x < o + k)→l.length ≤ k
 | 0,l,_,h=>by
  cases l with
  | nil=>exact Ag _
  | cons a r=>have:=h a Af;omega
 | k + 1,l,nd,h=>by
  by_cases c:o + k ∈ l
  ·have pm:=C0 c
   have n2:=pm.nodup_iff.mp nd
   rw [AS] at n2
   have:=wI (o:=o) k (l.erase (o + k)) n2.2 fun x hx=>by
    have a:=h x (Cp hx)
    have:x ≠ o + k:=fun z=>n2.1 (z ▸ hx)
    omega
   have:=pm.length_eq
   rw [Az] at this
   omega
  ·have:=wI (o:=o) k l nd fun x hx=>by
    have a:=h x hx
    have:x ≠ o + k:=fun z=>c (z ▸ hx)
    omega
   omega
theorem eP {o k m:Nat}{ws ns:List Int}(m5:m ≤ 5)(k5:k ≤ 5)(ho:o=10∨o=30)(hn:∀ h,h < 2 ^ m→ns.getD h 0=kJ k (vR ws h m)):Val (oQ o k ws m) (vW o) m ns:=by
 have p32:2 ^ m ≤ 2 ^ 5:=Ao (by decide) m5
 refine ⟨fun h hh=>?_,fun h hh M hM=>?_⟩
 ·rw [hn h hh]
  have go:∀ n,n ≤ m→∀ j,j ≤ k→∃ M,Mat (oQ o k ws m) pL pR (fun v=>(v < n∧qA h v=true)∨(o ≤ v∧v < o + j)) M∧jN M=kJ j (vR ws h n):=by
   intro n
   induction n with
   | zero=>exact fun _ j _=>⟨[],Mat.nil,by show (0:Int)=kJ j [];cases j <;> rfl⟩
   | succ n ih =>
    intro hnm j hj
    have on:n < o:=by omega
    have mono:∀ j',j' ≤ j→∀ v,((v < n∧qA h v=true)∨(o ≤ v∧v < o + j'))→((v < n + 1∧qA h v=true)∨(o ≤ v∧v < o + j)):=fun j' hj' v z=>z.elim (fun y=>.inl ⟨by omega,y.2⟩) (fun y=>.inr ⟨y.1,by omega⟩)
    cases b:qA h n with
    | false =>
     obtain ⟨M,hM,w⟩:=ih (by omega) j hj
     refine ⟨M,hM.imp (mono j (Ag _)),?_⟩
     rw [w,zA,b]
     simp
    | true =>
     have e:kJ j (vR ws h (n + 1))=kJ j (ws.getD n 0 :: vR ws h n):=by
      rw [zA,b,Ak rfl]
      exact cH List.perm_append_comm j
     rw [e]
     cases j with
     | zero=>exact ⟨[],Mat.nil,by rw [vD];rfl⟩
     | succ j =>
      obtain ⟨M,hM,w⟩:=ih (by omega) (j + 1) hj
      obtain ⟨M',hM',w'⟩:=ih (by omega) j (by omega)
      show ∃ M,Mat _ pL pR _ M∧jN M=max (kJ (j + 1) (vR ws h n)) (ws.getD n 0 + kJ j (vR ws h n))
      rcases Int.le_total (ws.getD n 0 + kJ j (vR ws h n)) (kJ (j + 1) (vR ws h n)) with c | c
      ·exact ⟨M,hM.imp (mono (j + 1) (Ag _)),by rw [w];omega⟩
      ·refine ⟨(n,o + j,ws.getD n 0) :: M',hM'.cons ⟨n,j,by omega,by omega,rfl⟩ (fun z=>?_) (fun z=>?_) (mono j (by omega)) (.inl ⟨Be n,b⟩) (.inr ⟨BJ o j,Be _⟩),by rw [kI,w'];show ws.getD n 0 + kJ j (vR ws h n)=_;omega⟩
       ·have z':(n < n∧qA h n=true)∨(o ≤ n∧n < o + j):=z
        exact z'.elim (fun y=>AQ _ y.1) (fun y=>absurd y.1 (Nat.not_le.mpr on))
       ·have z':(o + j < n∧qA h (o + j)=true)∨(o ≤ o + j∧o + j < o + j):=z
        exact z'.elim (fun y=>absurd (Cf (BJ o j) y.1) (Nat.not_lt.mpr (B5 on))) (fun y=>AQ _ y.2)
  obtain ⟨M,hM,w⟩:=go m (Ag _) k (Ag _)
  exact ⟨M,hM.imp fun v z=>z.elim (fun y=>.inr ⟨by omega,y.2⟩) (fun y=>.inl ⟨by omega,y.1,by omega⟩),w⟩
 ·rw [hn h hh]
  have few:M.length ≤ k:=by
   have:=wI (o:=o) k (M.map pR) hM.nq fun x hx=>by
    obtain ⟨e,he,rfl⟩:=Ae.mp hx
    obtain ⟨t,s,_,sk,rfl⟩:=hM.ed e he
    exact ⟨BJ o s,Nat.add_lt_add_left sk o⟩
   rwa [Ab] at this
  refine By ?_ (eQ _ few)
  have go:∀ (M:List Edge) (h:Nat),h < 2 ^ m→Mat (oQ o k ws m) pL pR (qZ (vW o) h) M→jN M ≤ kJ M.length (vR ws h m):=by
   intro M
   induction M with
   | nil=>intro h _ _;rw [show ([] : List Edge).length=0 from rfl,vD];exact Aw _
   | cons e M ih =>
    intro h hh hM
    obtain ⟨t,s,tm,sk,rfl⟩:=hM.ed e Af
    have b:qA h t=true:=by
     rcases hM.ap _ Af with z | z
     ·have:10 ≤ t:=z.1
      omega
     ·exact z.2
    have ih':=ih (h ^^^ 2 ^ t) (kO m5 hh tm) ((hM.tail (nO m5 ho)).imp fun v z=>zC (by omega) (by omega) b v z.1)
    obtain ⟨B,e1,e2⟩:=oC (ws:=ws) (show h < 32 by omega) (show t < 5 by omega) b m tm m5
    rw [e2] at ih'
    rw [kI,e1,cH List.perm_middle]
    show ws.getD t 0 + jN M ≤ max (kJ (M.length + 1) (vR ws h t ++ B)) (ws.getD t 0 + kJ M.length (vR ws h t ++ B))
    omega
  exact go M h hh hM
def lN (a b c d e:Bool):Nat:=(if a then 1 else 0) + (if b then 2 else 0) + (if c then 4 else 0) + (if d then 8 else 0) + (if e then 16 else 0)
theorem aG (a b c d e:Bool):lN a b c d e < 32∧qA (lN a b c d e) 0=a∧qA (lN a b c d e) 1=b∧qA (lN a b c d e) 2=c∧qA (lN a b c d e) 3=d∧qA (lN a b c d e) 4=e:=by
 revert a b c d e
 decide +kernel
theorem bV (P:Nat→Bool):∃ a,a < 32∧∀ t,t < 5→qA a t=P t:=by
 obtain ⟨h0,h1,h2,h3,h4,h5⟩:=aG (P 0) (P 1) (P 2) (P 3) (P 4)
 refine ⟨_,h0,fun t ht=>?_⟩
 have:=(show ∀ t,t < 5→t=0∨t=1∨t=2∨t=3∨t=4 by decide) t ht
 rcases this with rfl | rfl | rfl | rfl | rfl <;> assumption
theorem sub_facts {a h:Nat}(ha:a < 32)(hh:h < 32)(k:∀ t,t < 5→qA a t=true→qA h t=true):a ≤ h∧a &&& h=a:=by
 have key:∀ a h:_root_.Fin 32,(∀ t:_root_.Fin 5,qA a.val t.val=true→qA h.val t.val=true)→a.val ≤ h.val∧a.val &&& h.val=a.val:=by decide +kernel
 exact key ⟨a,ha⟩ ⟨h,hh⟩ fun t=>k t.val t.isLt
theorem dQ {a h t:Nat}(hh:h < 32)(al:a ≤ h)(s:a &&& h=a)(ht:t < 5):qA (h - a) t=(qA h t && !qA a t)∧(qA a t=true→qA h t=true):=by
 have key:∀ (a h:_root_.Fin 32) (t:_root_.Fin 5),a.val ≤ h.val→a.val &&& h.val=a.val→qA (h.val - a.val) t.val=(qA h.val t.val && !qA a.val t.val)∧(qA a.val t.val=true→qA h.val t.val=true):=by decide +kernel
 exact key ⟨a,by omega⟩ ⟨h,hh⟩ ⟨t,ht⟩ al s
def eA (Ed:Edge→Prop)(sl:Nat→Prop):Prop:=∀ e,Ed e→(pL e < 5∨(10 ≤ pL e∧sl (pL e)))∧(pR e < 5∨(10 ≤ pR e∧sl (pR e)))
structure JoinTab (m:Nat)(f g ns:List Int):Prop where
 ge:∀ h a,h < 2 ^ m→a ≤ h→a &&& h=a→f.getD a 0 + g.getD (h - a) 0 ≤ ns.getD h 0
 att:∀ h,h < 2 ^ m→∃ a,a ≤ h∧a &&& h=a∧ns.getD h 0=f.getD a 0 + g.getD (h - a) 0
theorem mQ {E1 E2:Edge→Prop}{s1 s2:Nat→Prop}{m:Nat}{S:Nat→Bool}{f g ns:List Int}(m5:m ≤ 5)(V1:Val E1 s1 m f)(V2:Val E2 s2 m g)(o1:eA E1 s1)(o2:eA E2 s2)(dj:∀ v,s1 v→¬ s2 v)(sd1:∀ e,E1 e→S (pL e)=true∧S (pR e)=false)(sd2:∀ e,E2 e→S (pL e)=true∧S (pR e)=false)(J:JoinTab m f g ns):Val (fun e=>E1 e∨E2 e) (fun v=>s1 v∨s2 v) m ns:=by
 have p32:2 ^ m ≤ 2 ^ 5:=Ao (by decide) m5
 refine ⟨fun h hh=>?_,fun h hh M hM=>?_⟩
 ·obtain ⟨a,al,as,e⟩:=J.att h hh
  obtain ⟨M,hM,w⟩:=V1.at' a (by omega)
  obtain ⟨N,hN,w'⟩:=V2.at' (h - a) (by omega)
  have rf:=fun t ht=>dQ (t:=t) (show h < 32 by omega) al as ht
  have apart:∀ v,qZ s1 a v→qZ s2 (h - a) v→False:=fun v z1 z2=>by
   rcases z1 with ⟨v10,y1⟩ | ⟨v5,b1⟩
   ·rcases z2 with ⟨_,y2⟩ | ⟨v5,_⟩
    ·exact dj v y1 y2
    ·omega
   ·rcases z2 with ⟨v10,_⟩ | ⟨_,b2⟩
    ·omega
    ·rw [(rf v v5).1,b1] at b2
     simp at b2
  have in1:∀ v,qZ s1 a v→qZ (fun v=>s1 v∨s2 v) h v:=fun v z=>by
   rcases z with ⟨v10,y1⟩ | ⟨v5,b1⟩
   ·exact .inl ⟨v10,.inl y1⟩
   ·exact .inr ⟨v5,(rf v v5).2 b1⟩
  have in2:∀ v,qZ s2 (h - a) v→qZ (fun v=>s1 v∨s2 v) h v:=fun v z=>by
   rcases z with ⟨v10,y1⟩ | ⟨v5,b1⟩
   ·exact .inl ⟨v10,.inr y1⟩
   ·refine .inr ⟨v5,?_⟩
    rw [(rf v v5).1,AL] at b1
    exact b1.1
  refine ⟨M ++ N,⟨fun x hx=>?_,?_,?_,fun x hx=>?_,fun x hx=>?_⟩,by rw [wt_app,w,w',e]⟩
  ·rcases AG.mp hx with z | z
   ·exact .inl (hM.ed x z)
   ·exact .inr (hN.ed x z)
  ·rw [A4,Cm]
   refine ⟨hM.np,hN.np,fun u hu v hv z=>?_⟩
   obtain ⟨x,hx,rfl⟩:=Ae.mp hu
   obtain ⟨y,hy,rfl⟩:=Ae.mp hv
   exact apart _ (hM.ap x hx) (z ▸ hN.ap y hy)
  ·rw [A4,Cm]
   refine ⟨hM.nq,hN.nq,fun u hu v hv z=>?_⟩
   obtain ⟨x,hx,rfl⟩:=Ae.mp hu
   obtain ⟨y,hy,rfl⟩:=Ae.mp hv
   exact apart _ (hM.aq x hx) (z ▸ hN.aq y hy)
  ·rcases AG.mp hx with z | z
   ·exact in1 _ (hM.ap x z)
   ·exact in2 _ (hN.ap x z)
  ·rcases AG.mp hx with z | z
   ·exact in1 _ (hM.aq x z)
   ·exact in2 _ (hN.aq x z)
 ·have split:∀ M:List Edge,(∀ e ∈ M,E1 e∨E2 e)→∃ M1 M2,M.Perm (M1 ++ M2)∧(∀ e ∈ M1,E1 e)∧∀ e ∈ M2,E2 e:=by
   intro M
   induction M with
   | nil=>exact fun _=>⟨[],[],List.Perm.nil,(fun _ z=>by cases z),(fun _ z=>by cases z)⟩
   | cons e M ih =>
    intro hE
    obtain ⟨M1,M2,pm,h1,h2⟩:=ih fun x hx=>hE x (Ad _ hx)
    rcases hE e Af with z | z
    ·refine ⟨e :: M1,M2,pm.cons e,fun x hx=>?_,h2⟩
     rcases Ax.mp hx with rfl | y
     ·exact z
     ·exact h1 x y
    ·refine ⟨M1,e :: M2,(pm.cons e).trans List.perm_middle.symm,h1,fun x hx=>?_⟩
     rcases Ax.mp hx with rfl | y
     ·exact z
     ·exact h2 x y
  obtain ⟨M1,M2,pm,h1,h2⟩:=split M hM.ed
  have n1:=(pm.map pL).nodup_iff.mp hM.np
  have n2:=(pm.map pR).nodup_iff.mp hM.nq
  rw [A4,Cm] at n1 n2
  have mem1:∀ e ∈ M1,e ∈ M:=fun e he=>pm.mem_iff.mpr (AM _ he)
  have mem2:∀ e ∈ M2,e ∈ M:=fun e he=>pm.mem_iff.mpr (A7 _ he)
  obtain ⟨a,a32,ab⟩:=bV fun t=>M1.any fun e=>decide (pL e=t) || decide (pR e=t)
  have abit:∀ t,t < 5→(qA a t=true ↔ ∃ e ∈ M1,pL e=t∨pR e=t):=fun t ht=>by
   rw [ab t ht,List.any_eq_true]
   simp
  have thing:∀ {v:Nat},qZ (fun v=>s1 v∨s2 v) h v→v < 5→qA h v=true:=fun {v} z v5=>by
   rcases z with z | z
   ·omega
   ·exact z.2
  have sub:=sub_facts a32 (show h < 32 by omega) fun t ht b=>by
   obtain ⟨e,he,z⟩:=(abit t ht).mp b
   rcases z with rfl | rfl
   ·exact thing (hM.ap e (mem1 e he)) ht
   ·exact thing (hM.aq e (mem1 e he)) ht
  have rf:=fun t ht=>dQ (t:=t) (show h < 32 by omega) sub.1 sub.2 ht
  have g1:=V1.ge a (by omega) M1 ⟨h1,n1.1,n2.1,fun e he=>by
   rcases (o1 e (h1 e he)).1 with z | z
   ·exact .inr ⟨z,(abit _ z).mpr ⟨e,he,.inl rfl⟩⟩
   ·exact .inl z,fun e he=>by
   rcases (o1 e (h1 e he)).2 with z | z
   ·exact .inr ⟨z,(abit _ z).mpr ⟨e,he,.inr rfl⟩⟩
   ·exact .inl z⟩
  have cross:∀ e ∈ M1,∀ e' ∈ M2,pL e ≠ pR e'∧pR e ≠ pL e':=fun e he e' he'=>by
   have a1:=sd1 e (h1 e he)
   have a2:=sd2 e' (h2 e' he')
   refine ⟨fun z=>?_,fun z=>?_⟩
   ·rw [z,a2.2] at a1
    cases a1.1
   ·rw [z,a2.1] at a1
    cases a1.2
  have g2:=V2.ge (h - a) (by omega) M2 ⟨h2,n1.2.1,n2.2.1,fun e he=>by
   rcases (o2 e (h2 e he)).1 with z | z
   ·refine .inr ⟨z,?_⟩
    rw [(rf _ z).1,thing (hM.ap e (mem2 e he)) z]
    cases c:qA a (pL e) with
    | false=>rfl
    | true =>
     obtain ⟨e',he',y⟩:=(abit _ z).mp c
     rcases y with y | y
     ·exact absurd y (n1.2.2 _ (AU he') _ (AU he))
     ·exact absurd y (cross e' he' e he).2
   ·exact .inl z,fun e he=>by
   rcases (o2 e (h2 e he)).2 with z | z
   ·refine .inr ⟨z,?_⟩
    rw [(rf _ z).1,thing (hM.aq e (mem2 e he)) z]
    cases c:qA a (pR e) with
    | false=>rfl
    | true =>
     obtain ⟨e',he',y⟩:=(abit _ z).mp c
     rcases y with y | y
     ·exact absurd y (cross e' he' e he).1
     ·exact absurd y (n2.2.2 _ (AU he') _ (AU he))
   ·exact .inl z⟩
  have:=J.ge h a hh sub.1 sub.2
  rw [yE pm,wt_app]
  omega
def pJ (g:Nat→Int)(m F:Nat):Prop:=∀ X Y i,X < 2 ^ m→Y < 2 ^ m→i < m→qA (X ^^^ F) i=true→qA (Y ^^^ F) i=false→g X + g Y ≤ g (X ^^^ 2 ^ i) + g (Y ^^^ 2 ^ i)∨∃ j,j < m∧qA (Y ^^^ F) j=true∧qA (X ^^^ F) j=false∧g X + g Y ≤ g (X ^^^ 2 ^ i ^^^ 2 ^ j) + g (Y ^^^ 2 ^ i ^^^ 2 ^ j)
theorem jZ (a b c:Nat):a ^^^ b ^^^ c=a ^^^ c ^^^ b:=by rw [CK,Nat.xor_comm b c,← CK]
theorem xor_cc (a b:Nat):a ^^^ b ^^^ b=a:=by rw [CK,Nat.xor_self,CA]
theorem nE {h F i t:Nat}(hh:h < 32)(hF:F < 32)(hi:i < 5)(ht:t < 5):qA (h ^^^ 2 ^ i ^^^ F) t=(qA (h ^^^ F) t != decide (t=i)):=by
 have hx:h ^^^ F < 2 ^ 5:=BO hh hF
 rw [jZ]
 exact (kG hx hi ht).1
section
variable {g:Nat→Int}{m F:Nat}
end
theorem dJ {h F t:Nat}(hh:h < 32)(hF:F < 32)(ht:t < 5):qA (h ^^^ F) t=(qA h t != qA F t):=by
 have key:∀ (a b:_root_.Fin 32) (t:_root_.Fin 5),qA (a.val ^^^ b.val) t.val=(qA a.val t.val != qA b.val t.val):=by decide +kernel
 exact key ⟨h,hh⟩ ⟨F,hF⟩ ⟨t,ht⟩
theorem oM {ws:List Int}{F m:Nat}{Ed:Edge→Prop}{sl:Nat→Prop}(m5:m ≤ 5)(hF:F < 2 ^ m)(V:Val Ed sl m ws)(sd:gU F Ed):pJ (fun h=>ws.getD h 0) m F:=by
 intro X Y i hX hY hi xi yi
 have p32:2 ^ m ≤ 2 ^ 5:=Ao (by decide) m5
 have i5:i < 5:=by omega
 have bX:=fun t (ht:t < 5)=>dJ (h:=X) (F:=F) (t:=t) (by omega) (by omega) ht
 have bY:=fun t (ht:t < 5)=>dJ (h:=Y) (F:=F) (t:=t) (by omega) (by omega) ht
 rw [bX i i5] at xi
 rw [bY i i5] at yi
 cases fi:qA F i with
 | false =>
  rw [fi] at xi yi
  have x1:qA X i=true:=by cases c:qA X i;(· rw [c] at xi;cases xi);rfl
  have y1:qA Y i=false:=by cases c:qA Y i;(· rfl);rw [c] at yi;cases yi
  rcases rZ (F:=F) m5 V sd hX hY hi x1 y1 pL pR (kR F) Iff.rfl sd (by unfold kR;rw [Ak (by omega),fi];rfl) with le | ⟨j,hj,sj,le⟩
  ·exact .inl le
  ·unfold kR at sj
   rw [Ak (show j < 10 by omega)] at sj
   refine .inr ⟨j,hj,?_,?_,le⟩
   ·rw [bY j (by omega)]
    rcases sj with ⟨s1,s2,s3⟩ | ⟨s1,s2,s3⟩
    ·rw [s3,show qA F j=true by simpa using s1];rfl
    ·rw [s3,show qA F j=false by simpa using s1];rfl
   ·rw [bX j (by omega)]
    rcases sj with ⟨s1,s2,s3⟩ | ⟨s1,s2,s3⟩
    ·rw [s2,show qA F j=true by simpa using s1];rfl
    ·rw [s2,show qA F j=false by simpa using s1];rfl
 | true =>
  rw [fi] at xi yi
  have x1:qA X i=false:=by cases c:qA X i;(· rfl);rw [c] at xi;cases xi
  have y1:qA Y i=true:=by cases c:qA Y i;(· rw [c] at yi;cases yi);rfl
  rcases rZ (F:=F) m5 V sd hY hX hi y1 x1 pR pL (fF F) ⟨Mat.flip,Mat.flip⟩ (fun e he=>by unfold fF;rw [(sd e he).1,(sd e he).2];exact ⟨rfl,rfl⟩) (by unfold fF kR;rw [Ak (by omega),fi];rfl) with le | ⟨j,hj,sj,le⟩
  ·exact .inl (by show ws.getD X 0 + ws.getD Y 0 ≤ ws.getD (X ^^^ 2 ^ i) 0 + ws.getD (Y ^^^ 2 ^ i) 0;omega)
  ·unfold fF kR at sj
   rw [Ak (show j < 10 by omega)] at sj
   refine .inr ⟨j,hj,?_,?_,by show ws.getD X 0 + ws.getD Y 0 ≤ ws.getD (X ^^^ 2 ^ i ^^^ 2 ^ j) 0 + ws.getD (Y ^^^ 2 ^ i ^^^ 2 ^ j) 0;omega⟩
   ·rw [bY j (by omega)]
    rcases sj with ⟨s1,s2,s3⟩ | ⟨s1,s2,s3⟩
    ·rw [s2,show qA F j=false by simpa using s1];rfl
    ·rw [s2,show qA F j=true by simpa using s1];rfl
   ·rw [bX j (by omega)]
    rcases sj with ⟨s1,s2,s3⟩ | ⟨s1,s2,s3⟩
    ·rw [s3,show qA F j=false by simpa using s1];rfl
    ·rw [s3,show qA F j=true by simpa using s1];rfl
theorem ext_all {g:Nat→Int}{m F:Nat}(m5:m ≤ 5)(hF:F < 2 ^ m)(fa:∀ t,t < m→qA F t=true)(ex:pJ g m 0):pJ g m F:=by
 intro X Y i hX hY hi xi yi
 have p32:2 ^ m ≤ 2 ^ 5:=Ao (by decide) m5
 have bX:=fun t (ht:t < m)=>dJ (h:=X) (F:=F) (t:=t) (by omega) (by omega) (by omega)
 have bY:=fun t (ht:t < m)=>dJ (h:=Y) (F:=F) (t:=t) (by omega) (by omega) (by omega)
 rw [bX i hi,fa i hi] at xi
 rw [bY i hi,fa i hi] at yi
 have x1:qA (X ^^^ 0) i=false:=by rw [CA];cases c:qA X i;(· rfl);rw [c] at xi;cases xi
 have y1:qA (Y ^^^ 0) i=true:=by rw [CA];cases c:qA Y i;(· rw [c] at yi;cases yi);rfl
 rcases ex Y X i hY hX hi y1 x1 with le | ⟨j,hj,j1,j2,le⟩
 ·exact .inl (by omega)
 ·rw [CA] at j1 j2
  exact .inr ⟨j,hj,by rw [bY j hj,fa j hj,j2];rfl,by rw [bX j hj,fa j hj,j1];rfl,by omega⟩
theorem o5 {ws:List Int}{h t:Nat}(hh:h < 32)(ht:t < 5):∀ n,n ≤ 5→q9 ws (h ^^^ 2 ^ t) n=q9 ws h n + if t < n then (if qA h t=true then -ws.getD t 0 else ws.getD t 0) else 0:=by
 intro n hn
 cases b:qA h t with
 | true =>
  rw [h8 hh ht b n hn]
  split
  ·rw [Ak rfl];omega
  ·omega
 | false =>
  have x:=(kG hh ht ht).2
  have b2:qA (h ^^^ 2 ^ t) t=true:=by rw [(kG hh ht ht).1,b,Ar rfl];rfl
  have:=h8 (ws:=ws) x ht b2 n hn
  rw [xor_cc] at this
  rw [Aj (show ¬ (false=true) by decide)]
  split
  ·rename_i z;rw [Ak z] at this;omega
  ·rename_i z;rw [Aj z] at this;omega
theorem ext_less {f:Nat→Int}{ps:List Int}{m F:Nat}(m5:m ≤ 5)(hF:F < 2 ^ m)(ex:pJ f m F):pJ (fun h=>f h - q9 ps h m) m F:=by
 intro X Y i hX hY hi xi yi
 have p32:2 ^ m ≤ 2 ^ 5:=Ao (by decide) m5
 have tog:∀ A B t,A < 2 ^ m→B < 2 ^ m→t < m→qA A t ≠ qA B t→q9 ps A m + q9 ps B m=q9 ps (A ^^^ 2 ^ t) m + q9 ps (B ^^^ 2 ^ t) m:=fun A B t hA hB ht n=>by
  rw [o5 (show A < 32 by omega) (show t < 5 by omega) m m5,o5 (show B < 32 by omega) (show t < 5 by omega) m m5,Ak ht,Ak ht]
  cases c:qA A t <;> cases d:qA B t <;> rw [c,d] at n <;> simp at n ⊢ <;> omega
 have dif:∀ A B t,A < 2 ^ m→B < 2 ^ m→t < m→qA (A ^^^ F) t ≠ qA (B ^^^ F) t→qA A t ≠ qA B t:=fun A B t hA hB ht n z=>n (by rw [dJ (by omega) (by omega) (by omega),dJ (by omega) (by omega) (by omega),z])
 have t1:=tog X Y i hX hY hi (dif X Y i hX hY hi (by rw [xi,yi];decide))
 rcases ex X Y i hX hY hi xi yi with le | ⟨j,hj,j1,j2,le⟩
 ·exact .inl (by show f X - q9 ps X m + (f Y - q9 ps Y m) ≤ f (X ^^^ 2 ^ i) - q9 ps (X ^^^ 2 ^ i) m + (f (Y ^^^ 2 ^ i) - q9 ps (Y ^^^ 2 ^ i) m);omega)
 ·have ji:j ≠ i:=fun z=>by rw [z,yi] at j1;cases j1
  have lX:=kO m5 hX hi
  have lY:=kO m5 hY hi
  have t2:=tog (X ^^^ 2 ^ i) (Y ^^^ 2 ^ i) j lX lY hj (by
   rw [(kG (show X < 32 by omega) (show i < 5 by omega) (show j < 5 by omega)).1,(kG (show Y < 32 by omega) (show i < 5 by omega) (show j < 5 by omega)).1,Al ji]
   have:=dif X Y j hX hY hj (by rw [j1,j2];decide)
   cases c:qA X j <;> cases d:qA Y j <;> rw [c,d] at this <;> simp at this ⊢)
  exact .inr ⟨j,hj,j1,j2,by show f X - q9 ps X m + (f Y - q9 ps Y m) ≤ f (X ^^^ 2 ^ i ^^^ 2 ^ j) - q9 ps (X ^^^ 2 ^ i ^^^ 2 ^ j) m + (f (Y ^^^ 2 ^ i ^^^ 2 ^ j) - q9 ps (Y ^^^ 2 ^ i ^^^ 2 ^ j) m);omega⟩
structure PairTab (rows:List Edge)(F m:Nat)(ns:List Int):Prop where
 rw':∀ e ∈ rows,e.1 < m∧e.2.1 < m∧qA F e.1=false∧qA F e.2.1=true
 nn:∀ h,h < 2 ^ m→0 ≤ ns.getD h 0
 row:∀ h,h < 2 ^ m→∀ e ∈ rows,qA h e.1=true→qA h e.2.1=true→ns.getD (h ^^^ 2 ^ e.1 ^^^ 2 ^ e.2.1) 0 + e.2.2 ≤ ns.getD h 0
 att:∀ h,h < 2 ^ m→ns.getD h 0=0∨∃ e ∈ rows,qA h e.1=true∧qA h e.2.1=true∧ns.getD h 0=ns.getD (h ^^^ 2 ^ e.1 ^^^ 2 ^ e.2.1) 0 + e.2.2
theorem mH {rows:List Edge}{F m:Nat}{ns:List Int}(m5:m ≤ 5)(R:PairTab rows F m ns):gU F (· ∈ rows):=fun e he=>by
 obtain ⟨h1,h2,h3,h4⟩:=R.rw' e he
 unfold kR pL pR
 rw [Ak (by omega),Ak (by omega),h3,h4]
 exact ⟨rfl,rfl⟩
theorem pair_val {rows:List Edge}{F m:Nat}{ns:List Int}{sl:Nat→Prop}(m5:m ≤ 5)(R:PairTab rows F m ns):Val (· ∈ rows) sl m ns:=by
 have p32:2 ^ m ≤ 2 ^ 5:=Ao (by decide) m5
 have ne:∀ e ∈ rows,e.1 ≠ e.2.1:=fun e he z=>by
  obtain ⟨_,_,h3,h4⟩:=R.rw' e he
  rw [z,h4] at h3
  cases h3
 refine ⟨?_,?_⟩
 ·have go:∀ n h,h ≤ n→h < 2 ^ m→∃ M,Mat (· ∈ rows) pL pR (qZ sl h) M∧jN M=ns.getD h 0:=by
   intro n
   induction n with
   | zero =>
    intro h hn hh
    rcases R.att h hh with z | ⟨e,he,b1,b2,ee⟩
    ·rw [z];exact ⟨[],Mat.nil,rfl⟩
    ·rw [show h=0 by omega] at b1
     unfold qA at b1
     simp at b1
   | succ n ih =>
    intro h hn hh
    rcases R.att h hh with z | ⟨e,he,b1,b2,ee⟩
    ·rw [z];exact ⟨[],Mat.nil,rfl⟩
    ·obtain ⟨r1,r2,_,_⟩:=R.rw' e he
     obtain ⟨o1,o2,_⟩:=pN (by omega) (show e.1 < 5 by omega) (show e.2.1 < 5 by omega) (ne e he) b1 b2
     obtain ⟨M,hM,w⟩:=ih (h ^^^ 2 ^ e.1 ^^^ 2 ^ e.2.1) (by omega) (by omega)
     have x1:=kG (show h < 32 by omega) (show e.1 < 5 by omega) (show e.1 < 5 by omega)
     have back:∀ v,qZ sl (h ^^^ 2 ^ e.1 ^^^ 2 ^ e.2.1) v→minus (minus (qZ sl h) e.1) e.2.1 v:=fun v a=>by
      have a1:=oY x1.2 (by omega) o1 a
      exact ⟨oY (by omega) (by omega) b1 a1.1,a1.2⟩
     refine ⟨e :: M,(hM.imp back).cons he (fun z=>z.1.2 rfl) (fun z=>z.2 rfl) (fun v z=>z.1.1) (.inr ⟨by unfold pL;omega,b1⟩) (.inr ⟨by unfold pR;omega,b2⟩),?_⟩
     rw [kI,w,ee]
     omega
  exact fun h hh=>go h h (Ag _) hh
 ·intro h hh M hM
  refine mU (F:=F) (f:=fun h=>ns.getD h 0) (mH m5 R) R.nn (fun e h he hh a1 a2=>?_) M h hh hM
  obtain ⟨r1,r2,_,_⟩:=R.rw' e he
  have b1:qA h e.1=true:=by
   rcases a1 with z | z
   ·have:10 ≤ e.1:=z.1
    omega
   ·exact z.2
  have b2:qA h e.2.1=true:=by
   rcases a2 with z | z
   ·have:10 ≤ e.2.1:=z.1
    omega
   ·exact z.2
  obtain ⟨o1,o2,_⟩:=pN (by omega) (show e.1 < 5 by omega) (show e.2.1 < 5 by omega) (ne e he) b1 b2
  have x1:=kG (show h < 32 by omega) (show e.1 < 5 by omega) (show e.1 < 5 by omega)
  refine ⟨h ^^^ 2 ^ e.1 ^^^ 2 ^ e.2.1,by omega,?_,fun v z=>zC x1.2 (by omega) o1 v (dX (zC (by omega) (by omega) b1) _ v z)⟩
  have:=R.row h hh e he b1 b2
  show e.2.2 + ns.getD (h ^^^ 2 ^ e.1 ^^^ 2 ^ e.2.1) 0 ≤ ns.getD h 0
  omega
def One (o F m:Nat)(ns:List Int):Prop:=∃ Ed,Val Ed (vW o) m ns∧gU F Ed∧eA Ed (vW o)
theorem fE (o:Nat)(ho:o=10∨o=30){s:Nat}(hs:s < 10):10 ≤ o + s∧vW o (o + s):=by
 unfold vW
 omega
theorem iY {o m k:Nat}{ws ns:List Int}(m5:m ≤ 5)(k5:k ≤ 5)(ho:o=10∨o=30)(hn:∀ h,h < 2 ^ m→ns.getD h 0=kJ k (vR ws h m)):One o 0 m ns :=
 ⟨_,eP m5 k5 ho hn,nO m5 ho,fun e ⟨t,s,tm,sk,h⟩=>by subst h;exact ⟨.inl (show t < 5 by omega),.inr (fE o ho (show s < 10 by omega))⟩⟩
theorem rE (ws:List Int)(h m:Nat):(vR ws h m).length ≤ m:=by
 unfold vR
 rw [Ab]
 exact AK (Bo _ _) (by simp)
theorem tH {o F m:Nat}{ns:List Int}{es:List Edge}(m5:m ≤ 5)(R:PairTab es F m ns):One o F m ns :=
 ⟨_,pair_val m5 R,mH m5 R,fun e he=>⟨.inl (by have:=(R.rw' e he).1;show e.1 < 5;omega),.inl (by have:=(R.rw' e he).2.1;show e.2.1 < 5;omega)⟩⟩
theorem gO {o F m:Nat}{ws ns:List Int}(m5:m ≤ 5)(ho:o=10∨o=30)(w0:∀ t,0 ≤ ws.getD t 0)(hn:∀ h,h < 2 ^ m→ns.getD h 0=q9 ws h m):One o F m ns :=
 ⟨_,add_val (F:=F) m5 ho w0 hn,pH m5 ho,fun e ⟨t,tm,h⟩=>by
  rcases h with ⟨_,rfl⟩ | ⟨_,rfl⟩
  ·exact ⟨.inl (show t < 5 by omega),.inr (fE o ho (show t < 10 by omega))⟩
  ·exact ⟨.inr (fE o ho (show t < 10 by omega)),.inl (show t < 5 by omega)⟩⟩
theorem One.ext {o F m:Nat}{ns:List Int}(m5:m ≤ 5)(hF:F < 2 ^ m)(a:One o F m ns):pJ (fun h=>ns.getD h 0) m F:=let ⟨_,V,s,_⟩:=a;oM m5 hF V s
theorem tR {F m:Nat}{f g ns:List Int}(m5:m ≤ 5)(hF:F < 2 ^ m)(a:One 10 F m f)(b:One 30 F m g)(J:JoinTab m f g ns):pJ (fun h=>ns.getD h 0) m F:=by
 obtain ⟨E1,V1,s1,o1⟩:=a
 obtain ⟨E2,V2,s2,o2⟩:=b
 refine oM m5 hF (mQ m5 V1 V2 o1 o2 (fun v h1 h2=>?_) s1 s2 J) fun e he=>he.elim (s1 e) (s2 e)
 unfold vW at h1 h2
 omega
theorem mT (ss:List Int):∀ k,k ≤ 5→∀ t,t < 5→qA (d5 ss 1 k) t=(decide (t < k) && decide (ss.getD t 0=1))
 | 0,_,t,ht=>by
  show qA 0 t=_
  unfold qA
  simp
 | k + 1,hk,t,ht=>by
  have ih:=mT ss k (by omega) t ht
  have lt:=aJ ss 1 k
  have p:2 ^ k ≤ 2 ^ 4:=Ao (by decide) (by omega)
  have key:∀ (x:_root_.Fin 32) (k t:_root_.Fin 5),x.val < 2 ^ k.val→qA (x.val + 2 ^ k.val) t.val=(if t.val=k.val then true else qA x.val t.val)∧qA x.val k.val=false:=by decide +kernel
  have kk:=key ⟨d5 ss 1 k,by omega⟩ ⟨k,by omega⟩ ⟨t,ht⟩ lt
  show qA (d5 ss 1 k + (if ss.getD k 0=1 then 2 ^ k else 0)) t=_
  by_cases e:ss.getD k 0=1
  ·rw [Ak e,kk.1,ih]
   by_cases z:t=k
   ·rw [Ak z,z,e]
    simp
   ·rw [Aj z]
    have:decide (t < k + 1)=decide (t < k):=by
     rw [decide_eq_decide]
     omega
    rw [this]
  ·rw [Aj e,Nat.add_zero,ih]
   by_cases z:t=k
   ·rw [z,Al e]
    simp
   ·have:decide (t < k + 1)=decide (t < k):=by
     rw [decide_eq_decide]
     omega
    rw [this]
theorem bit_nat {h t:Nat}(hh:h < 32)(ht:t < 5):bit (h:Int) t=if qA h t=true then 1 else 0:=by
 have key:∀ (a:_root_.Fin 32) (b:_root_.Fin 5),bit (a.val:Int) b.val=if qA a.val b.val=true then 1 else 0:=by decide +kernel
 exact key ⟨h,hh⟩ ⟨t,ht⟩
theorem aT {ws:List Int}{h:Nat}(hh:h < 32):∀ n,n ≤ 5→d8 ws (h:Int) n=q9 ws h n
 | 0,_=>rfl
 | n + 1,hn=>by
  rw [yN,aT hh n (by omega),bit_nat hh (by omega)]
  show q9 ws h n + _=q9 ws h n + _
  cases qA h n <;> simp
def VV (G m:Nat)(ws:List Int):Prop:=∃ Ed sl,Val Ed sl m ws∧gU G Ed∧eA Ed sl∧∀ v,sl v→10 ≤ v∧v < 100
def upF (m F:Nat):Nat:=if F=2 ^ m - 1 then 31 else F
def KX (F m:Nat)(ns:List Int):Prop:=pJ (fun h=>ns.getD h 0) m F∧VV (upF m F) m ns
theorem d9 {m F t:Nat}(m5:m ≤ 5)(ht:t < m):qA (upF m F) t=qA F t:=by
 unfold upF
 split
 ·rename_i e
  have key:∀ (m:_root_.Fin 6) (t:_root_.Fin 5),t.val < m.val→qA 31 t.val=qA (2 ^ m.val - 1) t.val:=by decide +kernel
  rw [e]
  exact key ⟨m,by omega⟩ ⟨t,by omega⟩ ht
 ·rfl
theorem upF_zero {m:Nat}(m1:1 ≤ m):upF m 0=0:=by
 unfold upF
 have:2 ^ 1 ≤ 2 ^ m:=Ao (by decide) m1
 rw [Aj (by omega)]
theorem upF_all {m F:Nat}(m5:m ≤ 5)(hF:F < 2 ^ m)(a:∀ t,t < m→qA F t=true):upF m F=31:=by
 have key:∀ (m:_root_.Fin 6) (F:_root_.Fin 32),F.val < 2 ^ m.val→(∀ t:_root_.Fin 5,t.val < m.val→qA F.val t.val=true)→F.val=2 ^ m.val - 1:=by decide +kernel
 have p32:2 ^ m ≤ 2 ^ 5:=Ao (by decide) m5
 unfold upF
 rw [Ak (key ⟨m,by omega⟩ ⟨F,by omega⟩ hF fun t ht=>a t.val ht)]
theorem One.vv {o G m:Nat}{ns:List Int}(a:One o G m ns)(ho:o=10∨o=30):VV G m ns:=by
 obtain ⟨Ed,V,s,w⟩:=a
 exact ⟨Ed,_,V,s,w,fun v z=>by unfold vW at z;omega⟩
theorem rC {G m:Nat}{f g ns:List Int}(m5:m ≤ 5)(a:One 10 G m f)(b:One 30 G m g)(J:JoinTab m f g ns):VV G m ns:=by
 obtain ⟨E1,V1,s1,o1⟩:=a
 obtain ⟨E2,V2,s2,o2⟩:=b
 refine ⟨_,_,mQ m5 V1 V2 o1 o2 (fun v h1 h2=>?_) s1 s2 J,fun e he=>he.elim (s1 e) (s2 e),fun e he=>?_,fun v z=>?_⟩
 ·unfold vW at h1 h2
  omega
 ·rcases he with z | z
  ·exact ⟨(o1 e z).1.imp id fun y=>⟨y.1,.inl y.2⟩,(o1 e z).2.imp id fun y=>⟨y.1,.inl y.2⟩⟩
  ·exact ⟨(o2 e z).1.imp id fun y=>⟨y.1,.inr y.2⟩,(o2 e z).2.imp id fun y=>⟨y.1,.inr y.2⟩⟩
 ·unfold vW at z
  omega
theorem r6 {Ed:Edge→Prop}{sl:Nat→Prop}{m:Nat}{ws:List Int}(V:Val Ed sl m ws):Val (fun e=>Ed (e.2.1,e.1,e.2.2)) sl m ws:=by
 have go:∀ {E E':Edge→Prop} {A:Nat→Prop} {M:List Edge},(∀ e,E e→E' (e.2.1,e.1,e.2.2))→Mat E pL pR A M→Mat E' pL pR A (M.map fun e=>((e.2.1,e.1,e.2.2):Edge))∧jN (M.map fun e=>((e.2.1,e.1,e.2.2):Edge))=jN M:=fun {E E' A M} k h=>by
  refine ⟨⟨fun e he=>?_,by rw [A8];exact h.nq,by rw [A8];exact h.np,fun e he=>?_,fun e he=>?_⟩,by unfold jN;rw [A8];rfl⟩
  ·obtain ⟨x,hx,rfl⟩:=Ae.mp he
   exact k x (h.ed x hx)
  ·obtain ⟨x,hx,rfl⟩:=Ae.mp he
   exact h.aq x hx
  ·obtain ⟨x,hx,rfl⟩:=Ae.mp he
   exact h.ap x hx
 refine ⟨fun h hh=>?_,fun h hh N hN=>?_⟩
 ·obtain ⟨M,hM,w⟩:=V.at' h hh
  obtain ⟨a,b⟩:=go (E':=fun e=>Ed (e.2.1,e.1,e.2.2)) (fun e z=>z) hM
  exact ⟨_,a,by rw [b,w]⟩
 ·obtain ⟨a,b⟩:=go (E':=Ed) (fun e z=>z) hN
  have:=V.ge h hh _ a
  omega
theorem one_top31 {o m k:Nat}{ws ns:List Int}(m5:m ≤ 5)(k5:k ≤ 5)(ho:o=10∨o=30)(hn:∀ h,h < 2 ^ m→ns.getD h 0=kJ k (vR ws h m)):One o 31 m ns:=by
 refine ⟨_,r6 (eP m5 k5 ho hn),?_,?_⟩
 ·rintro ⟨a,b,w⟩ ⟨t,s,tm,sk,h⟩
  obtain ⟨rfl,rfl,_⟩:b=t∧a=o + s∧w=ws.getD t 0:=by
   have:=Prod.mk.injEq _ _ _ _ ▸ h
   simp at this
   exact this
  have key:∀ t:_root_.Fin 5,qA 31 t.val=true:=by decide +kernel
  unfold kR pL pR
  show (if o + s < 10 then !qA 31 (o + s) else qA 31 ((o + s) % 10))=true∧(if b < 10 then !qA 31 b else qA 31 (b % 10))=false
  rw [Aj (by omega),Ak (by omega),show (o + s) % 10=s by omega,key ⟨s,by omega⟩,key ⟨b,by omega⟩]
  exact ⟨rfl,rfl⟩
 ·rintro ⟨a,b,w⟩ ⟨t,s,tm,sk,h⟩
  obtain ⟨rfl,rfl,_⟩:b=t∧a=o + s∧w=ws.getD t 0:=by
   have:=Prod.mk.injEq _ _ _ _ ▸ h
   simp at this
   exact this
  exact ⟨.inr (fE o ho (show s < 10 by omega)),.inl (show b < 5 by omega)⟩
theorem jX {ns:List Int}{n:Nat}(h:n < ns.length):vC (ns.map V.int) (n:Int)=some (V.int (ns.getD n 0)):=vB (by simp [h,Aa])
theorem wV {ws:List Int}{r:Int}{i:Nat}(h:i < ws.length):(ws ++ [r]).getD i 0=ws.getD i 0:=by
 rw [Aa,Aa,BC h]
theorem rH {ws:List Int}{r:Int}:(ws ++ [r]).getD ws.length 0=r:=by
 rw [Aa,B8 (Ag _),Nat.sub_self]
 rfl
theorem rR {a h:Nat}(ha:a < 32)(hh:h < 32):Builtin.bitAnd (a:Int) (h:Int)=((a &&& h:Nat):Int):=by
 have key:∀ a h:_root_.Fin 32,Builtin.bitAnd (a.val:Int) (h.val:Int)=((a.val &&& h.val:Nat):Int):=by decide +kernel
 exact key ⟨a,ha⟩ ⟨h,hh⟩
def JoinAt (f g ns:List Int)(h:Nat):Prop:=(∀ a,a ≤ h→a &&& h=a→f.getD a 0 + g.getD (h - a) 0 ≤ ns.getD h 0)∧∃ a,a ≤ h∧a &&& h=a∧ns.getD h 0=f.getD a 0 + g.getD (h - a) 0
def bA:Sp:=fun vs H Q _=>∃ (a b:Addr) (one other:List Int) (m:Nat),vs=[.ref a,.ref b]∧H a=some (.tup (one.map V.int))∧H b=some (.tup (other.map V.int))∧one.length=2 ^ m∧other.length=2 ^ m∧m ≤ 5∧∀ (t:Addr) (ns:List Int) (H':Hp),ns.length=2 ^ m→JoinTab m one other ns→Same H H'→H' t=some (.tup (ns.map V.int))→Q (.ref t) H'
def LT1 (a b c:Addr)(f g:List Int)(G:Hp)(i:Nat)(σ:St)(H:Hp):Prop:=∃ (v3:Option V) (ns:List Int),σ=[some (.ref a),some (.ref b),some (.ref c),v3]∧ns.length=i∧(∀ h,h < i→JoinAt f g ns h)∧SameX c G H∧H c=some (.lst (ns.map V.int))
def LT2 (a b d:Addr)(f g:List Int)(h:Nat)(G:Hp)(i:Nat)(σ:St)(H:Hp):Prop:=∃ (v:Option V) (ns:List Int),σ=[v,some (.ref a),some (.ref b),some (.int (h:Int))]∧ns.length ≤ i∧(0 < i→ns ≠ [])∧((∀ x ∈ ns,∃ a,a ≤ h∧a &&& h=a∧x=f.getD a 0 + g.getD (h - a) 0)∧∀ a,a < i→a &&& h=a→f.getD a 0 + g.getD (h - a) 0 ∈ ns)∧SameX d G H∧H d=some (.lst (ns.map V.int))
theorem and_zero {h:Nat}(hh:h < 32):Builtin.bitAnd (0:Int) (h:Int)=0:=by
 have key:∀ a:_root_.Fin 32,Builtin.bitAnd (0:Int) (a.val:Int)=0:=by decide +kernel
 exact key ⟨h,hh⟩
theorem gK:FnScope ["_law_one", "_law_other", "_law_table", "_law_heap"] ["_law_one", "_law_other"] (qE s__law_joined):=⟨rfl,rfl,rfl,by decide +kernel,rfl,by decide +kernel,by decide +kernel⟩
theorem tI (F:Fun K "_law_joined" "_law_joined" s__law_joined f fd) (hm:mg "_law_joined" = some (.ref f)) (hb:Binds K fd ["_law_one", "_law_other"] []) (T:Txt mg):kL P w K mg base "_law_joined" ["_law_one", "_law_other"] 1 bA:=by
 refine qW F hm hb gK (fun vs H Q E h=>?_) (fun cdv A outer s H vs Q E hr h=>?_)
 ·obtain ⟨_,_,_,_,_,rfl,_⟩:=h;rfl
 ·obtain ⟨a,b,one,other,m,rfl,ha,hb',ol,tl,m5,q⟩:=h
  have h32:one.length ≤ 32:=by rw [ol];exact (jF m5).1
  have hl:one.length=other.length:=by omega
  have sc:=gK
  refine ⟨_,kM (q8 (i:=2) sc.nd rfl (Or.inl rfl) (pe_lst qD)) (kM (j9 AO rfl (jH rfl T.range_ (qC (qX len0 rfl T.len_ jT (qC (pv 0) qD)) qD)) (qL (i:=3) sc.nd rfl (Or.inr rfl)) (qI (zJ (xK (pv 2) (qC (qX (max0 rfl) rfl T.max_ gT (qC (jR (N:=["_law_part", "_law_one", "_law_other", "_law_heap"]) (fr:=[none,some 0,some 1,some 3]) rfl (jH rfl T.range_ (qC (qV jD (pv 3) qH) qD)) (CScope.of rfl rfl rfl) rfl (fun _ _ _=>⟨qL (i:=0) (show List.Nodup (α:=Str) ["_law_part", "_law_one", "_law_other", "_law_heap"] by decide +kernel) rfl (Or.inl rfl),zZ (kH zL (qV p8 (pv 0) (pv 3)) (pv 0) (kK _)),qV jD (kF zP (pv 1) (pv 0) (fun _ _=>rfl)) (kF zP (pv 2) (qV yU (pv 3) (pv 0)) (fun _ _=>rfl))⟩)) qD)) qD))))) (qI (qP (kX z9 rfl T.tuple_ jM (qC (pv 2) qD))))),?_⟩
  rw [show L2.start ["_law_one", "_law_other", "_law_table", "_law_heap"] [.ref a,.ref b] = [some (.ref a),some (.ref b),none,none] from rfl]
  (push_cast only [])
  refine ⟨by decide,fun c nc=>?_⟩
  have nac:a ≠ c:=qF ha nc
  have nbc:b ≠ c:=qF hb' nc
  have hsa:=qY (show upd H c (.lst []) a=_ by rw [qT nac];exact ha)
  (push_cast only [hsa])
  refine ⟨by omega,by omega,gQ (LT1 a b c one other H) ⟨none,[],rfl,rfl,(fun h hh=>absurd hh (BP _)),SameX.upd,qG⟩ ?_ ?_⟩
  ·rintro h σ H1 hh ⟨v3,ns,rfl,hlen,jn,s1,e1⟩
   rw [Ay] at hh
   have hh32:h < 32:=A3 hh h32
   have ha1:=s1 _ _ nac ha
   have hb1:=s1 _ _ nbc hb'
   (push_cast only [e1])
   refine ⟨by omega,by omega,fun d nd=>?_⟩
   have nad:a ≠ d:=qF ha1 nd
   have nbd:b ≠ d:=qF hb1 nd
   have ncd:c ≠ d:=qF e1 nd
   refine zO (LT2 a b d one other h H1) ⟨none,[],rfl,by simp,fun z=>absurd z (by omega),⟨(fun _ z=>by cases z),fun a ha=>absurd ha (BP _)⟩,SameX.upd,qG⟩ ?_ ?_
   ·rintro i σ H2 hi ⟨v,ms,rfl,ml,mne,mv,s2,e2⟩
    have hi':i ≤ h:=by omega
    have hi32:i < 32:=Cf hi' hh32
    have ml32:ms.length ≤ 1000:=AK ml (AK (B5 hi32) (by decide))
    have ml1:ms.length ≤ i + 1:=Nat.le_succ_of_le ml
    have ml2:ms.length + 1 ≤ i + 1:=Nat.succ_le_succ ml
    have hsa2:=qY (s2 _ _ nad ha1)
    have hsb2:=qY (s2 _ _ nbd hb1)
    have hat1:=jX (ns:=one) (n:=i) (by omega)
    have hat2:=jX (ns:=other) (n:=h - i) (by omega)
    rw [show ((h - i:Nat):Int)=(h:Int) - (i:Int) by omega] at hat2
    (push_cast only [])
    split
    ·rename_i hy
     have sub:i &&& h=i:=by
      have y:Builtin.bitAnd (i:Int) (h:Int)=(i:Int):=by simpa using hy
      rw [rR (by omega) (by omega)] at y
      exact_mod_cast y
     (push_cast only [hsa2,hsb2,hat1,hat2,e2])
     refine ⟨qR (by omega),⟨_,ms ++ [one.getD i 0 + other.getD (h - i) 0],rfl,by rw [AD,AY];omega,fun _=>by simp,⟨fun x hx=>?_,fun a ha s=>?_⟩,s2.trans SameX.upd,by rw [qG];simp⟩⟩
     ·rcases AG.mp hx with z | z
      ·exact mv.1 x z
      ·exact ⟨i,hi',sub,AJ.mp z⟩
     ·rcases Bm a i with z | z
      ·exact AM _ (mv.2 a z s)
      ·rw [show a=i by omega]
       exact A7 _ Af
    ·rename_i hn
     refine ⟨_,ms,rfl,by omega,fun _=>?_,⟨mv.1,fun a ha s=>?_⟩,s2,e2⟩
     rotate_left
     ·rcases Bm a i with z | z
      ·exact mv.2 a z s
      ·have ea:a=i:=by omega
       subst ea
       refine absurd ?_ hn
       have y:Builtin.bitAnd (a:Int) (h:Int)=(a:Int):=by rw [rR (by omega) (by omega),s]
       simpa using y
     by_cases h0:i=0
     ·subst h0
      exact absurd (by simpa using and_zero (h:=h) (by omega)) hn
     ·exact mne (by omega)
   ·rintro σ H2 ⟨v,ms,rfl,ml,mne,mv,s2,e2⟩
    refine ⟨_,jC e2,mne (by omega),fun mx mxm mxl=>?_⟩
    have e2c:=s2 _ _ ncd e1
    (push_cast only [e2c])
    refine ⟨qR (by omega),⟨_,ns ++ [mx],rfl,by rw [AD,AY,hlen],fun h' hh'=>?_,?_,by rw [qG,A4];rfl⟩⟩
    ·unfold JoinAt
     rcases Bm h' ns.length with z | z
     ·rw [wV z]
      exact jn h' (by omega)
     ·have eh:h'=h:=by omega
      have g:(ns ++ [mx]).getD h' 0=mx:=by
       rw [show h'=ns.length by omega]
       exact rH
      rw [g,eh]
      exact ⟨fun a al s=>mxl _ (mv.2 a (by omega) s),mv.1 mx mxm⟩
    exact (s1.trans (s2.same nd).x).trans SameX.upd
  ·rintro σ H1 ⟨v3,ns,rfl,hlen,jn,s1,e1⟩
   rw [Ay] at hlen jn
   (push_cast only [])
   refine ⟨_,e1,fun l H2 nl s2 e2=>?_⟩
   exact q l ns H2 (by omega) ⟨fun h a hh=>(jn h (by omega)).1 a,fun h hh=>(jn h (by omega)).2⟩ ((s1.same nc).trans s2) e2
theorem rD {h t:Nat}:decide ((h:Int) / ((2 ^ t:Nat):Int) % 2=1)=qA h t:=by
 unfold qA
 rw [decide_eq_decide]
 constructor
 ·intro z
  have:((h / 2 ^ t % 2:Nat):Int)=1:=by push_cast;exact_mod_cast z
  exact_mod_cast this
 ·intro z
  have:((h / 2 ^ t % 2:Nat):Int)=1:=by exact_mod_cast z
  exact_mod_cast this
theorem nA {m t:Nat}(m5:m ≤ 5)(ht:t < m):(bitsL m)[t]? = some ((2 ^ t:Nat):Int):=by
 have key:∀ (m:_root_.Fin 6) (t:_root_.Fin 5),t.val < m.val→(bitsL m.val)[t.val]? = some ((2 ^ t.val:Nat):Int):=by decide +kernel
 exact key ⟨m,by omega⟩ ⟨t,by omega⟩ ht
theorem pC {m:Nat}(m5:m ≤ 5):(bitsL m).length=m:=by
 have key:∀ m:_root_.Fin 6,(bitsL m.val).length=m.val:=by decide +kernel
 exact key ⟨m,by omega⟩
theorem cutI (ns:List Int)(k:Nat):xN (ns.map V.int) none (some (k:Int))=(ns.take k).map V.int:=by
 unfold xN
 rw [HT.sIx_none,HT.sIx_nat,Ab,Ck,CU,← List.map_take]
 congr 1
 rcases Nat.le_total k ns.length with h | h
 ·rw [Nat.min_eq_left h]
 ·rw [Nat.min_eq_right h,A9 (Ag _),A9 h]
def iD:Sp:=fun vs H Q _=>∃ (a:Addr) (ws:List Int) (k:Nat),vs=[.ref a,.int (k:Int)]∧H a=some (.lst (ws.map V.int))∧1 ≤ ws.length∧ws.length ≤ 5∧(∀ x ∈ ws,0 ≤ x∧x ≤ 1000)∧∀ (t:Addr) (ns:List Int) (H':Hp),H t=none→ns.length=2 ^ ws.length→(∀ h,h < 2 ^ ws.length→ns.getD h 0=kJ k (vR ws h ws.length))→Same H H'→H' t=some (.tup (ns.map V.int))→Q (.ref t) H'
def SM1 (a c:Addr)(ws:List Int)(k:Nat)(G:Hp)(i:Nat)(σ:St)(H:Hp):Prop:=∃ (v3 v4:Option V) (ns:List Int),σ=[some (.ref a),some (.int (k:Int)),some (.ref c),v3,v4]∧ns.length=i∧(∀ h,h < i→ns.getD h 0=kJ k (vR ws h ws.length))∧SameX c G H∧H c=some (.lst (ns.map V.int))
def SM2 (a d:Addr)(ws:List Int)(h:Nat)(G:Hp)(i:Nat)(σ:St)(H:Hp):Prop:=∃ (v1 v2:Option V),σ=[v1,v2,some (.ref a),some (.int (h:Int))]∧SameX d G H∧H d=some (.lst ((vR ws h i).map V.int))
theorem fM:FnScope ["_law_worths", "_law_many", "_law_table", "_law_heap", "_law_here"] ["_law_worths", "_law_many"] (qE s__law_some):=⟨rfl,rfl,rfl,by decide +kernel,rfl,by decide +kernel,by decide +kernel⟩
theorem ok_some (F:Fun K "_law_some" "_law_some" s__law_some f fd) (hm:mg "_law_some" = some (.ref f)) (hb:Binds K fd ["_law_worths", "_law_many"] []) (T:Txt mg) (c__law_costs:kL P w K mg base "_law_costs" ["_law_prices"] 1 xC) (c__law_bits:kL P w K mg base "_law_bits" ["_law_many"] 1 pW):kL P w K mg base "_law_some" ["_law_worths", "_law_many"] 2 iD:=by
 refine qW F hm hb fM (fun vs H Q E h=>?_) (fun cdv A outer s H vs Q E hr h=>?_)
 ·obtain ⟨_,_,_,rfl,_⟩:=h;rfl
 ·obtain ⟨a,ws,k,rfl,ha,w1,w5,wb,q⟩:=h
  have sc:=fM
  have hp:=jF w5
  refine ⟨_,qK (q8 (i:=2) sc.nd rfl (Or.inl rfl) (zK qD)) (qK (j9 AO rfl (jH rfl T.range_ (qC (qX len0 rfl T.len_ jT (qC (qJ c__law_costs hr (qC (pv 0) qD)) qD)) qD)) (qL (i:=3) sc.nd rfl (Or.inr rfl)) (qK (tD (i:=4) sc.nd rfl (Or.inl rfl) (N:=["_law_k", "_law_bit", "_law_worths", "_law_heap"]) (fr:=[none,none,some 0,some 3]) rfl (yK rfl T.enumerate_ (qC (qJ c__law_bits hr (qC (qX len0 rfl T.len_ jT (qC (pv 0) qD)) qD)) qD)) (CScope.of rfl rfl rfl) rfl (fun _ _ _=>⟨kW (n:=2) rfl (qQ (qL (i:=0) (show List.Nodup (α:=Str) ["_law_k", "_law_bit", "_law_worths", "_law_heap"] by decide +kernel) rfl (Or.inl rfl)) (qQ (qL (i:=1) (show List.Nodup (α:=Str) ["_law_k", "_law_bit", "_law_worths", "_law_heap"] by decide +kernel) rfl (Or.inl rfl)) kU)),zZ (kH zL (qV xR (qV g6 (pv 3) (pv 1)) qH) qH (kK _)),kF zP (pv 2) (pv 0) (fun _ _=>rfl)⟩)) (qI (zJ (xK (pv 2) (qC (qX (sum0 rfl) rfl T.sum_ m9 (qC (fR slL0 (pe_revL (qX sorted0 rfl T.sorted_ bt_sorted (qC (pv 4) qD)) (iT pM qH) (fun _ _ _ h=>⟨_,rfl,h⟩)) bR (bQ (pv 1))) qD)) qD)))))) (qI (qP (kX z9 rfl T.tuple_ jM (qC (pv 2) qD))))),?_⟩
  rw [show L2.start ["_law_worths", "_law_many", "_law_table", "_law_heap", "_law_here"] [.ref a,.int (k:Int)] = [some (.ref a),some (.int (k:Int)),none,none,none] from rfl]
  (push_cast only [])
  refine ⟨by decide,fun c H1 nc s1 e1=>?_⟩
  have nac:a ≠ c:=qF ha nc
  (simp only [qO])
  (push_cast only [])
  refine ⟨a,ws,rfl,.inr (s1 _ _ ha),w5,fun ct H2 n2 s2 e2=>?_⟩
  have hs2:=jC e2
  (push_cast only [hs2])
  rw [jS]
  refine ⟨by omega,by omega,gQ (SM1 a c ws k H) ⟨_,_,[],rfl,rfl,(fun h hh=>absurd hh (BP _)),(s1.trans s2).x,s2 _ _ e1⟩ ?_ ?_⟩
  ·rintro h σ H3 hh ⟨v3,v4,ns,rfl,hlen,tp,s3,e3⟩
   rw [Ay] at hh
   have ha3:=s3 _ _ nac ha
   have hsa3:=jC ha3
   (push_cast only [hsa3])
   refine ⟨ws.length,rfl,w5,fun bl H4 n4 s4 e4=>?_⟩
   (push_cast only [])
   refine ⟨_,_,.inl ⟨rfl,e4⟩,fun d nd=>?_⟩
   have ha4:=s4 _ _ ha3
   have e34:=s4 _ _ e3
   have nad:a ≠ d:=qF ha4 nd
   have nbd:bl ≠ d:=qF e4 nd
   have ncd:c ≠ d:=qF e34 nd
   refine cE (SM2 a d ws h H4) ⟨none,none,rfl,SameX.upd,qG⟩ (fun i σ H' ⟨_,_,_,s,_⟩=>.inl ⟨rfl,s _ _ nbd e4⟩) ?_ ?_
   ·rintro i v T' σ H5 H6 hv ⟨v1,v2,rfl,s5,e5⟩ nT s6 e6
    have il:i < (bitsL ws.length).length:=by
     have:=(Ai.mp hv).1
     rwa [Ab] at this
    rw [pC w5] at il
    have hv':V.int ((2 ^ i:Nat):Int)=v:=by
     rw [Ah,nA w5 il] at hv
     exact AH hv
    subst hv'
    have e56:=s6 _ _ e5
    have hsa6:=jC (s6 _ _ (s5 _ _ nad ha4))
    have hat:=jX (ns:=ws) (n:=i) il
    have len:(vR ws h i).length ≤ 5:=AK (rE ws h i) (by omega)
    (push_cast only [e6])
    have p16:2 ^ i ≤ 2 ^ 4:=Ao (by decide) (by omega)
    have pp:=As i
    refine ⟨⟨by omega,by omega⟩,?_⟩
    have ib:=rD (h:=h) (t:=i)
    cases b:qA h i with
    | true =>
     rw [b] at ib
     rw [Ak (Bs ib)]
     refine ⟨_,hsa6,_,hat,_,e56,qR (by rw [Ab];omega),⟨_,_,rfl,(s5.trans s6.x).trans SameX.upd,?_⟩⟩
     rw [qG,zA,b,Ak rfl,A4]
     rfl
    | false =>
     rw [b] at ib
     rw [Aj (of_decide_eq_false ib)]
     refine ⟨_,_,rfl,s5.trans s6.x,?_⟩
     rw [e56,zA,b]
     simp
   ·rintro σ H5 ⟨v1,v2,rfl,s5,e5⟩
    rw [Ab,pC w5] at e5
    have hs5:=jC e5
    have len:(vR ws h ws.length).length ≤ 5:=AK (rE ws h ws.length) w5
    have hw0:∀ t,0 ≤ ws.getD t 0∧ws.getD t 0 ≤ 1000:=fun t=>by
     rw [Aa]
     cases e:ws[t]? with
     | none=>exact ⟨Aw _,by decide⟩
     | some x=>exact wb x (A0 e)
    have ibd:∀ x ∈ vR ws h ws.length,0 ≤ x∧x ≤ 1000:=fun x hx=>by
     unfold vR at hx
     obtain ⟨t,_,rfl⟩:=Ae.mp hx
     exact hw0 t
    have e35:=s5 _ _ ncd e34
    (simp only [qO])
    (push_cast only [e35,hs5])
    refine ⟨_,rfl,by omega,fun y ms H6 ny s6 pm so e6=>⟨_,e6,fun z H7 nz s7 e7=>⟨_,e7,fun u nu=>?_⟩⟩⟩
    rw [← List.map_reverse,cutI]
    have sub:∀ x ∈ ms.reverse.take k,0 ≤ x∧x ≤ 1000:=fun x hx=>ibd x (pm.mem_iff.mp (List.mem_reverse.mp (Cz hx)))
    have pml:=pm.length_eq
    have e37:=s7 _ _ (s6 _ _ e35)
    have ncu:c ≠ u:=qF e37 nu
    refine ⟨_,rfl,dN (fun x hx=>by have:=sub x hx;omega) (by rw [A6,List.length_reverse];omega),_,by rw [qT ncu];exact e37,qR (by rw [Ab];omega),⟨_,_,ns ++ [(ms.reverse.take k).sum],rfl,by simp [hlen],fun h' hh'=>?_,fun b o n e=>?_,by rw [qG,A4];rfl⟩⟩
    ·rcases Bm h' ns.length with y1 | y1
     ·rw [wV y1]
      exact tp h' (by omega)
     ·rw [show h'=ns.length by omega,rH,hlen,sA ms.reverse (List.pairwise_reverse.mpr so) (fun x hx=>(ibd x (pm.mem_iff.mp (List.mem_reverse.mp hx))).1),cH ((List.reverse_perm ms).trans pm)]
    ·have y4:=s4 _ _ (s3 b o n e)
     have y7:=s7 _ _ (s6 _ _ (s5 _ _ (qF y4 nd) y4))
     rw [qT n,qT (qF y7 nu)]
     exact y7
  ·rintro σ H3 ⟨v3,v4,ns,rfl,hlen,tp,s3,e3⟩
   rw [Ay] at hlen tp
   (simp only [qO])
   (push_cast only [e3])
   intro l H4 n4 s4 e4
   exact q l ns H4 (jO (s3.same nc) n4) hlen tp ((s3.same nc).trans s4) e4
def PAt (es:List Edge)(ns:List Int)(h:Nat)(x:Int):Prop:=0 ≤ x∧(∀ e ∈ es,qA h e.1=true→qA h e.2.1=true→ns.getD (h ^^^ 2 ^ e.1 ^^^ 2 ^ e.2.1) 0 + e.2.2 ≤ x)∧(x=0∨∃ e ∈ es,qA h e.1=true∧qA h e.2.1=true∧x=ns.getD (h ^^^ 2 ^ e.1 ^^^ 2 ^ e.2.1) 0 + e.2.2)
def EOk (m:Nat)(e:Edge):Prop:=e.1 < m∧e.2.1 < m∧e.1 ≠ e.2.1
theorem PAt.ext {es:List Edge}{m:Nat}{ns ns':List Int}{h:Nat}{x:Int}(m5:m ≤ 5)(hh:h < 32)(ok:∀ e ∈ es,EOk m e)(eq:∀ k,k < h→ns'.getD k 0=ns.getD k 0)(M:PAt es ns h x):PAt es ns' h x:=by
 have e2:∀ e ∈ es,qA h e.1=true→qA h e.2.1=true→ns'.getD (h ^^^ 2 ^ e.1 ^^^ 2 ^ e.2.1) 0=ns.getD (h ^^^ 2 ^ e.1 ^^^ 2 ^ e.2.1) 0:=fun e he b1 b2=>by
  obtain ⟨h1,h2,h3⟩:=ok e he
  exact eq _ (pN hh (by omega) (by omega) h3 b1 b2).2.1
 refine ⟨M.1,fun e he b1 b2=>by rw [e2 e he b1 b2];exact M.2.1 e he b1 b2,?_⟩
 rcases M.2.2 with z | ⟨e,he,b1,b2,y⟩
 ·exact .inl z
 ·exact .inr ⟨e,he,b1,b2,by rw [e2 e he b1 b2];exact y⟩
def PPre (es:List Edge)(ns:List Int):Prop:=∀ h,h < ns.length→PAt es ns h (ns.getD h 0)
theorem PPre.snoc {es:List Edge}{m:Nat}{ns:List Int}{x:Int}(m5:m ≤ 5)(hh:ns.length < 32)(ok:∀ e ∈ es,EOk m e)(P:PPre es ns)(M:PAt es ns ns.length x):PPre es (ns ++ [x]):=fun h hl=>by
 rw [AD,AY] at hl
 rcases Bm h ns.length with z | z
 ·rw [wV z]
  exact (P h z).ext m5 (by omega) ok fun k hk=>wV (by omega)
 ·have:h=ns.length:=by omega
  subst this
  rw [rH]
  exact M.ext m5 hh ok fun k hk=>wV hk
theorem eK {h i j:Nat}(hh:h < 32)(hi:i < 5)(hj:j < 5)(ij:i ≠ j)(bi:qA h i=true)(bj:qA h j=true):2 ^ i + 2 ^ j ≤ h∧h - 2 ^ i - 2 ^ j=h ^^^ 2 ^ i ^^^ 2 ^ j:=by
 have key:∀ (h:_root_.Fin 32) (i j:_root_.Fin 5),i.val ≠ j.val→qA h.val i.val=true→qA h.val j.val=true→2 ^ i.val + 2 ^ j.val ≤ h.val∧h.val - 2 ^ i.val - 2 ^ j.val=h.val ^^^ 2 ^ i.val ^^^ 2 ^ j.val:=by decide +kernel
 exact key ⟨h,hh⟩ ⟨i,hi⟩ ⟨j,hj⟩ ij bi bj
def R3 (H:Hp)(m:Nat)(rs:List (Addr × Edge)):Prop:=∀ x ∈ rs,H x.1=some (.tup [.int (x.2.1:Int),.int (x.2.2.1:Int),.int x.2.2.2])∧EOk m x.2
theorem flat0:∀ n:Nat,(List.replicate n [V.int 0]).flatten=(List.replicate n (0:Int)).map V.int
 | 0=>rfl
 | n + 1=>by rw [Ba,Bz,flat0 n,Ba,Av];rfl
def nW:Sp:=fun vs H Q _=>∃ (r:Addr) (m:Nat) (rs:List (Addr × Edge)),vs=[.int (m:Int),.ref r]∧H r=some (.lst (rs.map fun x=>V.ref x.1))∧R3 H m rs∧1 ≤ m∧m ≤ 5∧∀ (t:Addr) (ns:List Int) (H':Hp),H t=none→ns.length=2 ^ m→PPre (rs.map fun x=>x.2) ns→Same H H'→H' t=some (.tup (ns.map V.int))→Q (.ref t) H'
def PI1 (r b c:Addr)(m:Nat)(es:List Edge)(G:Hp)(i:Nat)(σ:St)(H:Hp):Prop:=∃ (v4 v5 v6 v7 v8:Option V) (ns:List Int),σ=[some (.int (m:Int)),some (.ref r),some (.ref b),some (.ref c),v4,v5,v6,v7,v8]∧ns.length=i∧PPre es ns∧SameX c G H∧H c=some (.lst (ns.map V.int))
def PI2 (r b c:Addr)(m h:Nat)(ns:List Int)(es:List Edge)(G:Hp)(i:Nat)(σ:St)(H:Hp):Prop:=∃ (v6 v7 v8:Option V) (x:Int),σ=[some (.int (m:Int)),some (.ref r),some (.ref b),some (.ref c),some (.int (h:Int)),some (.int x),v6,v7,v8]∧PAt (es.take i) ns h x∧Same G H
theorem gJ:FnScope ["_law_many", "_law_rows", "_law_bits_here", "_law_table", "_law_heap", "_law_best", "_law_i", "_law_j", "_law_worth"] ["_law_many", "_law_rows"] (qE s__law_paired):=⟨rfl,rfl,rfl,by decide +kernel,rfl,by decide +kernel,by decide +kernel⟩
theorem ok_paired (F:Fun K "_law_paired" "_law_paired" s__law_paired f fd) (hm:mg "_law_paired" = some (.ref f)) (hb:Binds K fd ["_law_many", "_law_rows"] []) (T:Txt mg) (c__law_costs:kL P w K mg base "_law_costs" ["_law_prices"] 1 xC) (c__law_bits:kL P w K mg base "_law_bits" ["_law_many"] 1 pW):kL P w K mg base "_law_paired" ["_law_many", "_law_rows"] 2 nW:=by
 refine qW F hm hb gJ (fun vs H Q E h=>?_) (fun cdv A outer s H vs Q E hr h=>?_)
 ·obtain ⟨_,_,_,rfl,_⟩:=h;rfl
 ·obtain ⟨r,m,rs,rfl,er,r3,m1,m5,q⟩:=h
  have sc:=gJ
  have hp:=jF m5
  refine ⟨_,qK (q8 (i:=2) sc.nd rfl (Or.inl rfl) (qJ c__law_bits hr (qC (pv 0) qD))) (qK (q8 (i:=3) sc.nd rfl (Or.inl rfl) (zK qD)) (qK (j9 AO rfl (jH rfl T.range_ (qC (qX len0 rfl T.len_ jT (qC (qJ c__law_costs hr (qC (qV mulT0 (jK (qC qH qD)) (pv 0)) qD)) qD)) qD)) (qL (i:=4) sc.nd rfl (Or.inl rfl)) (qK (q8 (i:=5) sc.nd rfl (Or.inl rfl) qH) (qK (j9 AO rfl (dH (pv 1)) (kW (n:=3) rfl (qQ (qL (i:=6) sc.nd rfl (Or.inl rfl)) (qQ (qL (i:=7) sc.nd rfl (Or.inl rfl)) (qQ (qL (i:=8) sc.nd rfl (Or.inl rfl)) kU)))) (qI (zI (PW.pt (gM (kH zL (qV xR (qV g6 (pv 4) (kF zP (pv 2) (pv 6) (fun _ _=>rfl))) qH) qH (kK _)) (gZ (kH zL (qV xR (qV g6 (pv 4) (kF zP (pv 2) (pv 7) (fun _ _=>rfl))) qH) qH (kK _))))) (qI (q8 (i:=5) sc.nd rfl (Or.inl rfl) (qX (lZ rfl) rfl T.max_ gT (qC (pv 5) (qC (qV jD (kF zP (pv 3) (qV yU (qV yU (pv 4) (kF zP (pv 2) (pv 6) (fun _ _=>rfl))) (kF zP (pv 2) (pv 7) (fun _ _=>rfl))) (fun _ _=>rfl)) (pv 8)) qD))))) jJ))) (qI (zJ (xK (pv 3) (qC (pv 5) qD))))))) (qI (qP (kX z9 rfl T.tuple_ jM (qC (pv 3) qD)))))),?_⟩
  rw [show L2.start ["_law_many", "_law_rows", "_law_bits_here", "_law_table", "_law_heap", "_law_best", "_law_i", "_law_j", "_law_worth"] [.int (m:Int),.ref r] = [some (.int (m:Int)),some (.ref r),none,none,none,none,none,none,none] from rfl]
  (push_cast only [])
  refine ⟨m,rfl,m5,fun bl H1 n1 s1 e1=>?_⟩
  (push_cast only [])
  (simp only [qO])
  (push_cast only [])
  refine ⟨by decide,fun c H2 nc s2 e2=>?_⟩
  (simp only [qO])
  (push_cast only [])
  refine ⟨by decide,fun z1 H3 n3 s3 e3=>?_⟩
  refine ⟨m,rfl,_,e3,by show 1 * m ≤ 1000;omega,by omega,fun z2 H4 s4 e4=>?_⟩
  rw [show (List.replicate m [V.int 0]).flatten=(List.replicate m (0:Int)).map V.int from flat0 m] at e4
  refine ⟨z2,List.replicate m 0,rfl,.inl e4,by rw [AW];exact m5,fun ct H5 n5 s5 e5=>?_⟩
  have hs5:=jC e5
  have S5:Same H H5:=(((s1.trans s2).trans s3).trans s4).trans s5
  have S15:Same H1 H5:=((s2.trans s3).trans s4).trans s5
  have e25:=s5 _ _ (s4 _ _ (s3 _ _ e2))
  have nrc:r ≠ c:=qF (s1 _ _ er) nc
  have nbc:bl ≠ c:=qF e1 nc
  (push_cast only [hs5])
  rw [jS,AW]
  have er5:=S5 _ _ er
  have eb5:=S15 _ _ e1
  refine ⟨by omega,by omega,gQ (PI1 r bl c m (rs.map fun x=>x.2) H5) ⟨_,_,_,_,_,[],rfl,rfl,(fun h hh=>absurd hh (BP _)),SameX.refl,e25⟩ ?_ ?_⟩
  ·rintro h σ H6 hh ⟨v4,v5,v6,v7,v8,ns,rfl,hlen,pp,s6,e6⟩
   rw [Ay] at hh
   have er6:=s6 _ _ nrc er5
   have eb6:=s6 _ _ nbc eb5
   (push_cast only [])
   (simp only [qO])
   (push_cast only [er6])
   refine d6 (PI2 r bl c m h ns (rs.map fun x=>x.2) H6) ⟨_,_,_,0,rfl,⟨Aw _,(fun _ z=>by cases z),.inl rfl⟩,Same.refl _⟩ (fun j σ H' _ ⟨_,_,_,_,_,_,s⟩=>s _ _ er6) ?_ ?_
   ·rintro k x σ H7 hx ⟨w6,w7,w8,bst,rfl,pa,s7⟩
    rw [Ah] at hx
    obtain ⟨rr,hrr,rfl⟩:=An.mp hx
    obtain ⟨err,ok⟩:=r3 rr (A0 hrr)
    have nrr:rr.1 ≠ c:=fun z=>by
     have e:=S5 _ _ err
     rw [z,e25] at e
     cases e
    have err7:=s7 _ _ (s6 _ _ nrr (S5 _ _ err))
    have hsb7:=jC (s7 _ _ eb6)
    have hsc7:=jC (s7 _ _ e6)
    obtain ⟨k1,k2,k3⟩:=ok
    have at1:vC ((bitsL m).map V.int) (rr.2.1:Int)=some (V.int ((2 ^ rr.2.1:Nat):Int)):=vB (by rw [Ah,nA m5 k1];rfl)
    have at2:vC ((bitsL m).map V.int) (rr.2.2.1:Int)=some (V.int ((2 ^ rr.2.2.1:Nat):Int)):=vB (by rw [Ah,nA m5 k2];rfl)
    have pq1:2 ^ rr.2.1 ≤ 2 ^ 4:=Ao (by decide) (by omega)
    have pq2:2 ^ rr.2.2.1 ≤ 2 ^ 4:=Ao (by decide) (by omega)
    have pr1:=As rr.2.1
    have pr2:=As rr.2.2.1
    have tk:(rs.map fun x=>x.2).take (k + 1)=(rs.map fun x=>x.2).take k ++ [rr.2]:=by rw [AB,Ah,hrr];rfl
    have no:¬ (qA h rr.2.1=true∧qA h rr.2.2.1=true)→PAt ((rs.map fun x=>x.2).take (k + 1)) ns h bst:=fun n=>by
     rw [tk]
     refine ⟨pa.1,fun e he b1 b2=>?_,?_⟩
     ·rcases AG.mp he with z | z
      ·exact pa.2.1 e z b1 b2
      ·rw [AJ.mp z] at b1 b2
       exact absurd ⟨b1,b2⟩ n
     ·rcases pa.2.2 with z | ⟨e,he,y⟩
      ·exact .inl z
      ·exact .inr ⟨e,AM _ he,y⟩
    have ib1:=rD (h:=h) (t:=rr.2.1)
    have ib2:=rD (h:=h) (t:=rr.2.2.1)
    (push_cast only [err7])
    refine ⟨_,hsb7,_,at1,_,rfl,⟨by omega,by omega⟩,?_⟩
    cases b1:qA h rr.2.1 with
    | false =>
     rw [b1] at ib1
     rw [Aj (of_decide_eq_false ib1)]
     exact ⟨_,_,_,bst,rfl,no (by rw [b1];simp),s7⟩
    | true =>
     rw [b1] at ib1
     rw [Ak (Bs ib1)]
     refine ⟨_,hsb7,_,at2,_,rfl,⟨by omega,by omega⟩,?_⟩
     cases b2:qA h rr.2.2.1 with
     | false =>
      rw [b2] at ib2
      rw [Aj (of_decide_eq_false ib2)]
      exact ⟨_,_,_,bst,rfl,no (by rw [b2];simp),s7⟩
     | true =>
      rw [b2] at ib2
      rw [Ak (Bs ib2)]
      obtain ⟨t1,t2⟩:=eK (show h < 32 by omega) (show rr.2.1 < 5 by omega) (show rr.2.2.1 < 5 by omega) k3 b1 b2
      have at3:=jX (ns:=ns) (n:=h ^^^ 2 ^ rr.2.1 ^^^ 2 ^ rr.2.2.1) (by omega)
      rw [← t2,show ((h - 2 ^ rr.2.1 - 2 ^ rr.2.2.1:Nat):Int)=(h:Int) - ((2 ^ rr.2.1:Nat):Int) - ((2 ^ rr.2.2.1:Nat):Int) by omega] at at3
      refine ⟨_,hsb7,_,at1,_,rfl,_,hsb7,_,at2,_,rfl,_,hsc7,_,at3,_,rfl,?_⟩
      rw [t2]
      refine ⟨_,_,_,_,rfl,?_,s7⟩
      rw [tk]
      generalize hv:ns.getD (h ^^^ 2 ^ rr.2.1 ^^^ 2 ^ rr.2.2.1) 0 + rr.2.2.2=nv
      refine ⟨?_,fun e he c1 c2=>?_,?_⟩
      ·have:=pa.1
       split <;> omega
      ·rcases AG.mp he with z | z
       ·have:=pa.2.1 e z c1 c2
        split <;> omega
       ·rw [AJ.mp z,hv]
        split <;> omega
      ·split
       ·exact .inr ⟨rr.2,A7 _ Af,b1,b2,hv.symm⟩
       ·rcases pa.2.2 with z | ⟨e,he,y⟩
        ·exact .inl z
        ·exact .inr ⟨e,AM _ he,y⟩
   ·rintro σ H7 ⟨w6,w7,w8,bst,rfl,pa,s7⟩
    rw [Ab,show rs.length=(rs.map fun x=>x.2).length by rw [Ab],Bc] at pa
    have e67:=s7 _ _ e6
    (simp only [qO])
    (push_cast only [e67])
    refine ⟨qR (by omega),⟨_,_,_,_,_,ns ++ [bst],rfl,by simp [hlen],pp.snoc m5 (by omega) (fun e he=>by obtain ⟨x,hx,rfl⟩:=Ae.mp he;exact (r3 x hx).2) (by rw [hlen];exact pa),(s6.trans s7.x).trans SameX.upd,by rw [qG,A4];rfl⟩⟩
  ·rintro σ H6 ⟨v4,v5,v6,v7,v8,ns,rfl,hlen,pp,s6,e6⟩
   rw [Ay] at hlen
   (simp only [qO])
   (push_cast only [e6])
   intro l H7 n7 s7 e7
   have S6:Same H H6:=fun b o e=>s6 _ _ (qF (s1 _ _ e) nc) (S5 _ _ e)
   exact q l ns H7 (jO S6 n7) hlen pp (S6.trans s7) e7
theorem mem_sn {ws:List Int}{r:Int}{Pr:Int→Prop}(h:∀ x ∈ ws,Pr x)(hr:Pr r):∀ x ∈ ws ++ [r],Pr x:=fun x hx=>by
 rcases AG.mp hx with z | z
 ·exact h x z
 ·rw [AJ.mp z]
  exact hr
theorem ints4 {r:Int}(r0:0 ≤ r)(r1:r < 4):r=0∨r=1∨r=2∨r=3:=by
 obtain ⟨k,rfl⟩:=Br r0
 match k,Int.ofNat_lt.mp r1 with
 | 0,_=>exact .inl rfl
 | 1,_=>exact .inr (.inl rfl)
 | 2,_=>exact .inr (.inr (.inl rfl))
 | 3,_=>exact .inr (.inr (.inr rfl))
theorem pick4s {Pd:Int→Prop}{r a b c d:Int}(r0:0 ≤ r)(r1:r < 4)(ha:Pd a)(hb:Pd b)(hc:Pd c)(hd:Pd d):∃ x,vC [V.int a,V.int b,V.int c,V.int d] r=some (V.int x)∧Pd x:=by
 have h4:=ints4 r0 r1
 rcases h4 with rfl | rfl | rfl | rfl
 ·exact ⟨a,rfl,ha⟩
 ·exact ⟨b,rfl,hb⟩
 ·exact ⟨c,rfl,hc⟩
 ·exact ⟨d,rfl,hd⟩
theorem sum01:∀ (ss:List Int),(∀ x ∈ ss,x=0∨x=1)→0 ≤ ss.sum∧ss.sum ≤ (ss.length:Int)∧(ss.sum=0→∀ x ∈ ss,x=0)∧(ss.sum=(ss.length:Int)→∀ x ∈ ss,x=1)
 | [],_=>⟨by simp,by simp,(fun _ _ z=>by cases z),(fun _ _ z=>by cases z)⟩
 | y :: l,h=>by
  obtain ⟨a,b,c,d⟩:=sum01 l fun x hx=>h x (Ad _ hx)
  have hy:=h y Af
  rw [AF,Az,Int.natCast_succ]
  refine ⟨by omega,by omega,fun e x hx=>?_,fun e x hx=>?_⟩
  ·rcases Ax.mp hx with rfl | z
   ·omega
   ·exact c (by omega) x z
  ·rcases Ax.mp hx with rfl | z
   ·omega
   ·exact d (by omega) x z
def Bd (m:Nat)(B:Int)(ns:List Int):Prop:=ns.getD 0 0=0∧∀ h,h < 2 ^ m→0 ≤ ns.getD h 0∧ns.getD h 0 ≤ B
def kB (most:Int)(m:Nat):Int:=(if m ≤ 3 then 2 else 4) * most
theorem Bd.le {m:Nat}{B B':Int}{ns:List Int}(b:Bd m B ns)(h:B ≤ B'):Bd m B' ns:=⟨b.1,fun k hk=>by have:=b.2 k hk;omega⟩
theorem add_bd {us:List Int}{c:Int}(c0:0 ≤ c)(hu:∀ t,0 ≤ us.getD t 0∧us.getD t 0 ≤ c)(h:Nat):∀ n,0 ≤ q9 us h n∧q9 us h n ≤ (n:Int) * c
 | 0=>by show (0:Int) ≤ 0∧(0:Int) ≤ _;simp
 | n + 1=>by
  have ih:=add_bd c0 hu h n
  have:=hu n
  have e:((n + 1:Nat):Int) * c=(n:Int) * c + c:=by push_cast;rw [Cw,BL]
  rw [e]
  show 0 ≤ q9 us h n + _∧q9 us h n + _ ≤ _
  split <;> omega
theorem add_no (us:List Int):∀ n,q9 us 0 n=0
 | 0=>rfl
 | n + 1=>by
  show q9 us 0 n + (if qA 0 n=true then us.getD n 0 else 0)=0
  rw [add_no us n,Aj (by unfold qA;simp)]
  rfl
theorem uO {c:Int}(c0:0 ≤ c):∀ (l:List Int) (k:Nat),(∀ x ∈ l,0 ≤ x∧x ≤ c)→0 ≤ kJ k l∧kJ k l ≤ (k:Int) * c
 | [],k,_=>by
  have e:kJ k [] = 0:=by cases k <;> rfl
  rw [e]
  exact ⟨Aw _,Cj (by omega) c0⟩
 | y :: l,0,_=>by show (0:Int) ≤ 0∧(0:Int) ≤ _;simp
 | y :: l,k + 1,h=>by
  have a:=uO c0 l (k + 1) fun x hx=>h x (Ad _ hx)
  have b:=uO c0 l k fun x hx=>h x (Ad _ hx)
  have z:=h y Af
  have e:((k + 1:Nat):Int) * c=(k:Int) * c + c:=by push_cast;rw [Cw,BL]
  show 0 ≤ max (kJ (k + 1) l) (y + kJ k l)∧max (kJ (k + 1) l) (y + kJ k l) ≤ _
  omega
def iU (h:Nat):Nat:=(h % 2 + h / 2 % 2 + h / 4 % 2 + h / 8 % 2 + h / 16 % 2) / 2
theorem pc_off {h i j:Nat}(hh:h < 32)(hi:i < 5)(hj:j < 5)(ij:i ≠ j)(bi:qA h i=true)(bj:qA h j=true):iU (h ^^^ 2 ^ i ^^^ 2 ^ j) + 1=iU h:=by
 have key:∀ (h:_root_.Fin 32) (i j:_root_.Fin 5),i.val ≠ j.val→qA h.val i.val=true→qA h.val j.val=true→iU (h.val ^^^ 2 ^ i.val ^^^ 2 ^ j.val) + 1=iU h.val:=by decide +kernel
 exact key ⟨h,hh⟩ ⟨i,hi⟩ ⟨j,hj⟩ ij bi bj
theorem pc_le {m h:Nat}(m5:m ≤ 5)(hh:h < 2 ^ m):iU h ≤ if m ≤ 3 then 1 else 2:=by
 have key:∀ (m:_root_.Fin 6) (h:_root_.Fin 32),h.val < 2 ^ m.val→iU h.val ≤ if m.val ≤ 3 then 1 else 2:=by decide +kernel
 have:=jF m5
 exact key ⟨m,by omega⟩ ⟨h,by omega⟩ hh
theorem pair_bd {es:List Edge}{m:Nat}{ns:List Int}{c:Int}(c0:0 ≤ c)(m5:m ≤ 5)(hl:ns.length=2 ^ m)(P:PPre es ns)(ok:∀ e ∈ es,EOk m e∧e.2.2 ≤ c):∀ n h,h ≤ n→h < 2 ^ m→0 ≤ ns.getD h 0∧ns.getD h 0 ≤ (iU h:Int) * c:=by
 have p32:=jF m5
 intro n
 induction n with
 | zero =>
  intro h hn hh
  obtain ⟨p1,p2,p3⟩:=P h (by omega)
  have h0:h=0:=by omega
  subst h0
  rcases p3 with z | ⟨e,_,b,_⟩
  ·rw [z]
   show (0:Int) ≤ 0∧(0:Int) ≤ ((iU 0:Nat):Int) * c
   have:iU 0=0:=by decide
   rw [this]
   simp
  ·unfold qA at b
   simp at b
 | succ n ih =>
  intro h hn hh
  obtain ⟨p1,p2,p3⟩:=P h (by omega)
  refine ⟨p1,?_⟩
  rcases p3 with z | ⟨e,he,b1,b2,x⟩
  ·rw [z]
   exact Cj (by omega) c0
  ·obtain ⟨⟨o1,o2,o3⟩,o4⟩:=ok e he
   have po:=pc_off (show h < 32 by omega) (show e.1 < 5 by omega) (show e.2.1 < 5 by omega) o3 b1 b2
   have tw:=eK (show h < 32 by omega) (show e.1 < 5 by omega) (show e.2.1 < 5 by omega) o3 b1 b2
   have pp:=As e.1
   have pp2:=As e.2.1
   have:=ih (h ^^^ 2 ^ e.1 ^^^ 2 ^ e.2.1) (by omega) (by omega)
   rw [x,← po]
   push_cast
   rw [Cw,BL]
   omega
theorem join_bd {m:Nat}{f g ns:List Int}{a b:Int}(m5:m ≤ 5)(fb:Bd m a f)(gb:Bd m b g)(J:JoinTab m f g ns):Bd m (a + b) ns:=by
 refine ⟨?_,fun h hh=>?_⟩
 ·obtain ⟨x,x1,_,x3⟩:=J.att 0 (As m)
  have:x=0:=by omega
  subst this
  rw [x3,fb.1]
  show (0:Int) + g.getD 0 0=0
  rw [gb.1]
  rfl
 ·obtain ⟨x,x1,_,x3⟩:=J.att h hh
  have p:=fb.2 x (by omega)
  have q:=gb.2 (h - x) (by omega)
  omega
def sP:Sp:=fun vs H Q _=>∃ (p q sa:Addr) (ss:List Int) (most:Int),vs=[.ref p,.ref sa,.int most]∧Pot H p q∧H sa=some (.tup (ss.map V.int))∧1 ≤ ss.length∧ss.length ≤ 5∧(∀ x ∈ ss,x=0∨x=1)∧1 ≤ most∧most ≤ 9∧∀ (t:Addr) (ns:List Int) (H':Hp),ns.length=2 ^ ss.length→KX (d5 ss 1 ss.length) ss.length ns→Bd ss.length ((ss.length:Int) * most + kB most ss.length) ns→Pot H' p q→SameY p q H H'→H' t=some (.tup (ns.map V.int))→Q (.ref t) H'
def KD (p q c:Addr)(most:Int)(G:Hp)(i:Nat)(σ:St)(H:Hp):Prop:=∃ (v:Option V) (ws:List Int),σ=[v,some (.ref p),some (.int most)]∧ws.length=i∧(∀ x ∈ ws,0 ≤ x∧x ≤ most)∧Pot H p q∧(∀ b o,b ≠ p→b ≠ q→b ≠ c→G b=some o→H b=some o)∧H c=some (.lst (ws.map V.int))
structure KR (most:Int)(p q r:Addr)(ss:List Int)(n:Nat)(G:Hp)(rs:List (Addr × Edge))(H:Hp):Prop where
 len:rs.length ≤ n
 row:R3 H ss.length rs
 sd:∀ x ∈ rs,ss.getD x.2.1 0=0∧ss.getD x.2.2.1 0=1
 wb:∀ x ∈ rs,x.2.2.2 ≤ 2 * most
 pot:Pot H p q
 kp:∀ b o,b ≠ p→b ≠ q→b ≠ r→G b=some o→H b=some o
 at':H r=some (.lst (rs.map fun x=>V.ref x.1))
theorem KR.y {most:Int}{p q r:Addr}{ss:List Int}{n:Nat}{G H H':Hp}{rs:List (Addr × Edge)}(k:KR most p q r ss n G rs H)(n1:r ≠ p)(n2:r ≠ q)(s:SameY p q H H')(pt:Pot H' p q):KR most p q r ss n G rs H' :=
 ⟨k.len,fun x hx=>⟨s _ _ (k.pot.net (k.row x hx).1).1 (k.pot.net (k.row x hx).1).2 (k.row x hx).1,(k.row x hx).2⟩,k.sd,k.wb,pt,fun b o a1 a2 a3 e=>s _ _ a1 a2 (k.kp b o a1 a2 a3 e),s _ _ n1 n2 k.at'⟩
theorem KR.le {most:Int}{p q r:Addr}{ss:List Int}{n n':Nat}{G H:Hp}{rs:List (Addr × Edge)}(k:KR most p q r ss n G rs H)(h:n ≤ n'):KR most p q r ss n' G rs H:=⟨AK k.len h,k.row,k.sd,k.wb,k.pot,k.kp,k.at'⟩
theorem KR.more {most:Int}{p q r y:Addr}{ss:List Int}{n:Nat}{G H:Hp}{rs:List (Addr × Edge)}{e:Edge}(k:KR most p q r ss n G rs H)(n1:p ≠ r)(n2:q ≠ r)(ey:H y=some (.tup [.int (e.1:Int),.int (e.2.1:Int),.int e.2.2]))(ok:EOk ss.length e)(sd:ss.getD e.1 0=0∧ss.getD e.2.1 0=1)(wb:e.2.2 ≤ 2 * most):KR most p q r ss (n + 1) G (rs ++ [(y,e)]) (upd H r (.lst ((rs.map fun x=>V.ref x.1) ++ [V.ref y]))):=by
 have nr:∀ {x:Addr} {L:List V},H x=some (.tup L)→x ≠ r:=fun h z=>by rw [z,k.at'] at h;cases h
 refine ⟨by have:=k.len;rw [AD,AY];omega,fun x hx=>?_,fun x hx=>?_,fun x hx=>?_,k.pot.upd n1 n2,fun b o a1 a2 a3 e=>by rw [qT a3];exact k.kp b o a1 a2 a3 e,by rw [qG,A4];rfl⟩
 ·rcases AG.mp hx with z | z
  ·have h:=k.row x z
   exact ⟨by rw [qT (nr h.1)];exact h.1,h.2⟩
  ·rw [AJ.mp z]
   exact ⟨by rw [qT (nr ey)];exact ey,ok⟩
 ·rcases AG.mp hx with z | z
  ·exact k.sd x z
  ·rw [AJ.mp z]
   exact sd
 ·rcases AG.mp hx with z | z
  ·exact k.wb x z
  ·rw [AJ.mp z]
   exact wb
def KE1 (p q sa c r:Addr)(ss:List Int)(most:Int)(G:Hp)(i:Nat)(σ:St)(H:Hp):Prop:=∃ (v5 v6 v7 v8 v9 v10:Option V) (rs:List (Addr × Edge)),σ=[some (.ref p),some (.ref sa),some (.int most),some (.ref c),some (.ref r),v5,v6,v7,v8,v9,v10]∧KR most p q r ss (5 * i) G rs H
def KE2 (p q sa c r:Addr)(ss:List Int)(most:Int)(a:Nat)(G:Hp)(j:Nat)(σ:St)(H:Hp):Prop:=∃ (v7 v8 v9 v10:Option V) (rs:List (Addr × Edge)),σ=[some (.ref p),some (.ref sa),some (.int most),some (.ref c),some (.ref r),some (.int (a:Int)),some (.int (ss.getD a 0)),v7,v8,v9,v10]∧KR most p q r ss (5 * a + j) G rs H
theorem yJ:FnScope ["_law_pot_here", "_law_sides", "_law_most", "_law_worths", "_law_rows", "_law_i", "_law_side", "_law_j", "_law_other", "_law_single", "_law_second"] ["_law_pot_here", "_law_sides", "_law_most"] (qE s__law_kind_want):=⟨rfl,rfl,rfl,by decide +kernel,rfl,by decide +kernel,by decide +kernel⟩
theorem ok_kwant (F:Fun K "_law_kind_want" "_law_kind_want" s__law_kind_want f fd) (hm:mg "_law_kind_want" = some (.ref f)) (hb:Binds K fd ["_law_pot_here", "_law_sides", "_law_most"] []) (T:Txt mg) (c__law_draw:kL P w K mg base "_law_draw" ["_law_pot_here", "_law_many"] 2 uW) (c__law_costs:kL P w K mg base "_law_costs" ["_law_prices"] 1 xC) (c__law_paired:kL P w K mg base "_law_paired" ["_law_many", "_law_rows"] 2 nW) (c__law_some:kL P w K mg base "_law_some" ["_law_worths", "_law_many"] 2 iD) (c__law_joined:kL P w K mg base "_law_joined" ["_law_one", "_law_other"] 1 bA):kL P w K mg base "_law_kind_want" ["_law_pot_here", "_law_sides", "_law_most"] 3 sP:=by
 refine qW F hm hb yJ (fun vs H Q E h=>?_) (fun cdv A outer s H vs Q E hr h=>?_)
 ·obtain ⟨_,_,_,_,_,rfl,_⟩:=h;rfl
 ·obtain ⟨p,q',sa,ss,most,rfl,pt,esa,m1,m5,s01,mo1,mo9,q⟩:=h
  have sc:=yJ
  have hp:=jF m5
  refine ⟨_,qK (tD (i:=3) sc.nd rfl (Or.inl rfl) (N:=["_law_side", "_law_pot_here", "_law_most"]) (fr:=[none,some 0,some 2]) rfl (fQ (pv 1)) (CScope.of rfl rfl rfl) rfl (fun _ _ _=>⟨qL (i:=0) (show List.Nodup (α:=Str) ["_law_side", "_law_pot_here", "_law_most"] by decide +kernel) rfl (Or.inl rfl),kZ,qJ c__law_draw hr (qC (pv 1) (qC (qV jD (pv 2) qH) qD))⟩)) (qK (q8 (i:=4) sc.nd rfl (Or.inl rfl) (zK qD)) (qK (j9 AO rfl (yK rfl T.enumerate_ (qC (pv 1) qD)) (kW (n:=2) rfl (qQ (qL (i:=5) sc.nd rfl (Or.inl rfl)) (qQ (qL (i:=6) sc.nd rfl (Or.inl rfl)) kU))) (qI (j9 AO rfl (yK rfl T.enumerate_ (qC (pv 1) qD)) (kW (n:=2) rfl (qQ (qL (i:=7) sc.nd rfl (Or.inl rfl)) (qQ (qL (i:=8) sc.nd rfl (Or.inl rfl)) kU))) (qI (zI (PW.pt (gM (kH zL (pv 6) qH (kK _)) (gM (kH zL (pv 8) qH (kK _)) (gZ (kH lI (qJ c__law_draw hr (qC (pv 0) (qC qH qD))) qH (kK _)))))) (qI (zJ (xK (pv 4) (qC (jK (qC (pv 5) (qC (pv 7) (qC (qV jD qH (qJ c__law_draw hr (qC (pv 0) (qC (qV dU qH (pv 2)) qD)))) qD)))) qD)))) jJ))))) (qK (q8 (i:=9) sc.nd rfl (Or.inl rfl) (kX z9 rfl T.tuple_ jM (qC (qJ c__law_costs hr (qC (jR (N:=["_law_side", "_law_pot_here", "_law_most"]) (fr:=[none,some 0,some 2]) rfl (fQ (pv 1)) (CScope.of rfl rfl rfl) rfl (fun _ _ _=>⟨qL (i:=0) (show List.Nodup (α:=Str) ["_law_side", "_law_pot_here", "_law_most"] by decide +kernel) rfl (Or.inl rfl),kZ,qJ c__law_draw hr (qC (pv 1) (qC (qV jD (pv 2) qH) qD))⟩)) qD)) qD))) (qK (q8 (i:=10) sc.nd rfl (Or.inl rfl) (qJ c__law_paired hr (qC (qX len0 rfl T.len_ jT (qC (pv 1) qD)) (qC (pv 4) qD)))) (qK (zI (PW.pt (gM (kH (eqNil0 hr.units0) (pv 4) (zK qD) (kK _)) (gZ (kH in0 (qX (sum0 rfl) rfl T.sum_ m9 (qC (pv 1) qD)) (jK (qC qH (qC (qX len0 rfl T.len_ jT (qC (pv 1) qD)) qD))) rfl)))) (qI (q8 (i:=10) sc.nd rfl (Or.inl rfl) (qJ c__law_some hr (qC (pv 3) (qC (qV jD qH (qJ c__law_draw hr (qC (pv 0) (qC qH qD)))) qD))))) jJ) (qI (qP (kF zP (zK (qC (pv 9) (qC (pv 10) (qC (pv 10) (qC (qJ c__law_joined hr (qC (pv 9) (qC (pv 10) qD))) qD))))) (qJ c__law_draw hr (qC (pv 0) (qC qH qD))) (fun _ _=>rfl))))))))),?_⟩
  rw [show L2.start ["_law_pot_here", "_law_sides", "_law_most", "_law_worths", "_law_rows", "_law_i", "_law_side", "_law_j", "_law_other", "_law_single", "_law_second"] [.ref p,.ref sa,.int most] = [some (.ref p),some (.ref sa),some (.int most),none,none,none,none,none,none,none,none] from rfl]
  have nsp:=pt.net esa
  (push_cast only [esa])
  intro c nc
  have ncp:=pt.ne nc
  have nsc:sa ≠ c:=qF esa nc
  refine zN (KD p q' c most H) ⟨none,[],rfl,rfl,(fun _ z=>by cases z),pt.upd ncp.1 ncp.2,fun b o _ _ n e=>by rw [qT n];exact e,qG⟩ (fun j σ H' _ ⟨_,_,_,_,_,_,k,_⟩=>k _ _ nsp.1 nsp.2 nsc esa) ?_ ?_
  ·rintro i x σ H2 hx ⟨v,ws,rfl,wl,wb,pt2,k2,e2⟩
   have hi:i < ss.length:=by have:=(Ai.mp hx).1;rwa [Ab] at this
   (push_cast only [])
   refine ⟨p,q',most + 1,rfl,pt2,by omega,by omega,fun r H3 r0 r1 pt3 bt3=>?_⟩
   have e3:=bt3.y _ _ ncp.1.symm ncp.2.symm e2
   (push_cast only [e3])
   exact ⟨qR (by omega),⟨_,ws ++ [r],rfl,by simp [wl],mem_sn wb ⟨r0,by omega⟩,pt3.upd ncp.1 ncp.2,fun b o n1 n2 n3 e=>by rw [qT n3];exact bt3.y _ _ n1 n2 (k2 b o n1 n2 n3 e),by rw [qG];simp⟩⟩
  ·rintro σ H2 ⟨v,ws,rfl,wl,wb,pt2,k2,e2⟩
   rw [Ab] at wl
   have y2:SameY p q' H H2:=fun b o n1 n2 e=>k2 b o n1 n2 (qF e nc) e
   have esa2:=y2 _ _ nsp.1 nsp.2 esa
   (simp only [qO])
   (push_cast only [])
   refine ⟨by decide,fun rw0 H3 n3 s3 e3=>?_⟩
   (simp only [qO])
   (push_cast only [])
   have nrp:=pt2.ne n3
   have esa3:=s3 _ _ esa2
   have pt3:=pt2.same s3
   have nsr:sa ≠ rw0:=qF esa2 n3
   have nsp3:=pt3.net esa3
   have gat:∀ {k:Nat} {v:V},(ss.map V.int)[k]? = some v→k < ss.length∧v=V.int (ss.getD k 0):=fun {k v} h=>by
    have hk:=(Ai.mp h).1
    rw [Ab] at hk
    refine ⟨hk,?_⟩
    rw [Ah,Am hk] at h
    rw [Aa,Am hk]
    exact (AH h).symm
   refine ⟨_,_,.inr ⟨rfl,esa3⟩,cC (KE1 p q' sa c rw0 ss most H3) ⟨_,_,_,_,_,_,[],rfl,⟨AZ _,(fun _ z=>by cases z),(fun _ z=>by cases z),(fun _ z=>by cases z),pt3,fun b o _ _ _ e=>e,e3⟩⟩ (fun i σ H' ⟨_,_,_,_,_,_,_,_,k⟩=>.inr ⟨rfl,k.kp _ _ nsp3.1 nsp3.2 nsr esa3⟩) ?_ ?_⟩
   ·rintro i v T' σ H4 H5 hv ⟨v5,v6,v7,v8,v9,v10,rs,rfl,k4⟩ nT s5 e5
    obtain ⟨hi,rfl⟩:=gat hv
    have k5:=k4.y nrp.1.symm nrp.2.symm (yB s5) (k4.pot.same s5)
    have esa5:=k5.kp _ _ nsp3.1 nsp3.2 nsr esa3
    (push_cast only [e5])
    refine ⟨_,_,.inr ⟨rfl,esa5⟩,cC (KE2 p q' sa c rw0 ss most i H3) ⟨_,_,_,_,rs,rfl,k5.le (by omega)⟩ (fun j σ H' ⟨_,_,_,_,_,_,k⟩=>.inr ⟨rfl,k.kp _ _ nsp3.1 nsp3.2 nsr esa3⟩) ?_ ?_⟩
    ·rintro j v2 T2 σ H6 H7 hv2 ⟨w7,w8,w9,w10,rs2,rfl,k6⟩ nT2 s7 e7
     obtain ⟨hj,rfl⟩:=gat hv2
     have k7:=k6.y nrp.1.symm nrp.2.symm (yB s7) (k6.pot.same s7)
     have stay:∀ {H':Hp},KR most p q' rw0 ss (5 * i + j) H3 rs2 H'→KE2 p q' sa c rw0 ss most i H3 (j + 1) [some (.ref p),some (.ref sa),some (.int most),some (.ref c),some (.ref rw0),some (.int (i:Int)),some (.int (ss.getD i 0)),some (.int (j:Int)),some (.int (ss.getD j 0)),w9,w10] H':=fun k=>⟨_,_,_,_,rs2,rfl,k.le (by omega)⟩
     (push_cast only [e7])
     split
     ·rename_i c1
      split
      ·rename_i c2
       refine ⟨p,q',3,rfl,k7.pot,by decide,by decide,fun r8 H8 a8 b8 pt8 bt8=>?_⟩
       have k8:=k7.y nrp.1.symm nrp.2.symm bt8.y pt8
       refine ⟨r8,rfl,?_⟩
       split
       ·have er8:=k8.at'
        have kl:=k8.len
        (push_cast only [er8])
        refine ⟨.inl ⟨by omega,by omega⟩,p,q',2 * most,rfl,k8.pot,by omega,by omega,fun r9 H9 a9 b9 pt9 bt9=>⟨_,rfl,by decide,fun y H10 n10 s10 e10=>?_⟩⟩
        have k10:=(k8.y nrp.1.symm nrp.2.symm bt9.y pt9).y nrp.1.symm nrp.2.symm (yB s10) (pt9.same s10)
        have g1:ss.getD i 0=0:=by simpa using c1
        have g2:ss.getD j 0=1:=by simpa using c2
        exact ⟨_,k10.at',qR (by rw [Ab];omega),⟨_,_,_,_,rs2 ++ [(y,(i,j,1 + r9))],rfl,k10.more nrp.1 nrp.2 e10 ⟨hi,hj,fun z=>by rw [show i=j from z,g2] at g1;cases g1⟩ ⟨g1,g2⟩ (by show 1 + r9 ≤ 2 * most;omega)⟩⟩
       ·exact stay k8
      ·exact stay k7
     ·exact stay k7
    ·rintro σ H6 ⟨w7,w8,w9,w10,rs2,rfl,k6⟩
     rw [Ab] at k6
     exact ⟨_,_,_,_,_,_,rs2,rfl,k6.le (by omega)⟩
   ·rintro σ H4 ⟨v5,v6,v7,v8,v9,v10,rs,rfl,k4⟩
    rw [Ab] at k4
    have esa4:=k4.kp _ _ nsp3.1 nsp3.2 nsr esa3
    (simp only [qO])
    (push_cast only [esa4])
    intro d nd
    have ndp:=k4.pot.ne nd
    have nsd:sa ≠ d:=qF esa4 nd
    have nsp4:=k4.pot.net esa4
    have nrd:rw0 ≠ d:=qF k4.at' nd
    refine zN (KD p q' d most H4) ⟨none,[],rfl,rfl,(fun _ z=>by cases z),k4.pot.upd ndp.1 ndp.2,fun b o _ _ n e=>by rw [qT n];exact e,qG⟩ (fun j σ H' _ ⟨_,_,_,_,_,_,k,_⟩=>k _ _ nsp4.1 nsp4.2 nsd esa4) ?_ ?_
    ·rintro i x σ H5 hx ⟨v,us,rfl,ul,ub,pt5,k5,e5⟩
     have hi:i < ss.length:=by have:=(Ai.mp hx).1;rwa [Ab] at this
     (push_cast only [])
     refine ⟨p,q',most + 1,rfl,pt5,by omega,by omega,fun r H6 r0 r1 pt6 bt6=>?_⟩
     have e6:=bt6.y _ _ ndp.1.symm ndp.2.symm e5
     (push_cast only [e6])
     exact ⟨qR (by omega),⟨_,us ++ [r],rfl,by simp [ul],mem_sn ub ⟨r0,by omega⟩,pt6.upd ndp.1 ndp.2,fun b o n1 n2 n3 e=>by rw [qT n3];exact bt6.y _ _ n1 n2 (k5 b o n1 n2 n3 e),by rw [qG];simp⟩⟩
    ·rintro σ H5 ⟨v,us,rfl,ul,ub,pt5,k5,e5⟩
     rw [Ab] at ul
     have y5:SameY p q' H4 H5:=fun b o n1 n2 e=>k5 b o n1 n2 (qF e nd) e
     refine ⟨d,us,rfl,.inr e5,by omega,fun ct H6 n6 s6 e6=>⟨_,rfl,_,e6,fun sg H7 n7 s7 e7=>?_⟩⟩
     have y7:SameY p q' H4 H7:=(y5.trans (yB s6)).trans (yB s7)
     have pt7:=(pt5.same s6).same s7
     have k7:=k4.y nrp.1.symm nrp.2.symm y7 pt7
     have esa7:=y7 _ _ nsp4.1 nsp4.2 esa4
     have hss7:=qY esa7
     (simp only [qO])
     (push_cast only [hss7])
     refine ⟨rw0,ss.length,rs,rfl,k7.at',k7.row,m1,m5,fun se ps H8 n8 pl8 pp8 s8 e8=>?_⟩
     have k8:=k7.y nrp.1.symm nrp.2.symm (yB s8) (pt7.same s8)
     have esa8:=s8 _ _ esa7
     have esg8:=s8 _ _ e7
     have hss8:=qY esa8
     have er8:=k8.at'
     have ncr:c ≠ rw0:=qF e2 n3
     have ec8:H8 c=some (.lst (ws.map V.int)):=s8 _ _ (y7 _ _ ncp.1.symm ncp.2.symm (k4.kp _ _ ncp.1.symm ncp.2.symm ncr (s3 _ _ e2)))
     (simp only [qO])
     (push_cast only [er8,hss8])
     have y08:SameY p q' H H8:=fun b o n1 n2 e=>s8 _ _ (y7 _ _ n1 n2 (k4.kp b o n1 n2 (qF (y2 b o n1 n2 e) n3) (s3 _ _ (y2 b o n1 n2 e))))
     have hF:=aJ ss 1 ss.length
     have hbit:=fun t (ht:t < ss.length)=>mT ss ss.length m5 t (by omega)
     have gl:(kA us).length=2 ^ ss.length:=by rw [jS,ul]
     have u1:∀ t,0 ≤ us.getD t 0∧us.getD t 0 ≤ most:=fun t=>by
      rw [Aa]
      cases e:us[t]? with
      | none=>exact ⟨Aw _,show (0:Int) ≤ most by omega⟩
      | some x=>exact ub x (A0 e)
     have u0:=fun t=>(u1 t).1
     have cad:∀ h,h < 2 ^ ss.length→(kA us).getD h 0=q9 us h ss.length:=fun h hh=>by
      rw [Aa,d7 ss.length us ul m5 h hh]
      exact aT (by omega) _ m5
     have extA:∀ ns,(ns=kA us∨ns=ps∨JoinTab ss.length (kA us) ps ns)→KX (d5 ss 1 ss.length) ss.length ns:=fun ns hn=>by
      have oneS:One 10 (d5 ss 1 ss.length) ss.length (kA us):=gO m5 (.inl rfl) u0 cad
      have oneP:One 30 (d5 ss 1 ss.length) ss.length ps:=by
       refine tH (es:=rs.map fun x=>x.2) m5 ⟨fun e he=>?_,fun h hh=>(pp8 h (by omega)).1,fun h hh e he b1 b2=>(pp8 h (by omega)).2.1 e he b1 b2,fun h hh=>(pp8 h (by omega)).2.2⟩
       obtain ⟨x,hx,rfl⟩:=Ae.mp he
       obtain ⟨g1,g2⟩:=k8.sd x hx
       obtain ⟨o1,o2,_⟩:=(k8.row x hx).2
       rw [hbit _ o1,hbit _ o2,g1,g2,Ar o1,Ar o2]
       exact ⟨o1,o2,rfl,rfl⟩
      have oneS':One 10 (upF ss.length (d5 ss 1 ss.length)) ss.length (kA us):=gO m5 (.inl rfl) u0 cad
      have oneP':One 30 (upF ss.length (d5 ss 1 ss.length)) ss.length ps:=by
       refine tH (es:=rs.map fun x=>x.2) m5 ⟨fun e he=>?_,fun h hh=>(pp8 h (by omega)).1,fun h hh e he b1 b2=>(pp8 h (by omega)).2.1 e he b1 b2,fun h hh=>(pp8 h (by omega)).2.2⟩
       obtain ⟨x,hx,rfl⟩:=Ae.mp he
       obtain ⟨g1,g2⟩:=k8.sd x hx
       obtain ⟨o1,o2,_⟩:=(k8.row x hx).2
       rw [d9 m5 o1,d9 m5 o2,hbit _ o1,hbit _ o2,g1,g2,Ar o1,Ar o2]
       exact ⟨o1,o2,rfl,rfl⟩
      rcases hn with rfl | rfl | jt
      ·exact ⟨oneS.ext m5 hF,oneS'.vv (.inl rfl)⟩
      ·exact ⟨oneP.ext m5 hF,oneP'.vv (.inr rfl)⟩
      ·exact ⟨tR m5 hF oneS oneP jt,rC m5 oneS' oneP' jt⟩
     have hm0:(0:Int) ≤ (ss.length:Int) * most:=Cj (by omega) (by omega)
     have hk0:0 ≤ kB most ss.length∧2 * most ≤ kB most ss.length:=by unfold kB;split <;> omega
     have bS:Bd ss.length ((ss.length:Int) * most) (kA us):=⟨by rw [cad 0 (As _)];exact add_no us _,fun h hh=>by rw [cad h hh];exact add_bd (by omega) u1 h _⟩
     have mix:∀ qs,Bd ss.length (kB most ss.length) qs→∀ ns,(ns=kA us∨ns=qs∨JoinTab ss.length (kA us) qs ns)→Bd ss.length ((ss.length:Int) * most + kB most ss.length) ns:=fun qs bq ns hn=>by
      rcases hn with rfl | rfl | jt
      ·exact bS.le (by omega)
      ·exact bq.le (by omega)
      ·exact join_bd m5 bS bq jt
     have pB:Bd ss.length (kB most ss.length) ps:=by
      have pb:=pair_bd (c:=2 * most) (by omega) m5 pl8 pp8 (fun e he=>by
       obtain ⟨x,hx,rfl⟩:=Ae.mp he
       exact ⟨(k8.row x hx).2,k8.wb x hx⟩)
      refine ⟨?_,fun h hh=>?_⟩
      ·have:=pb 0 0 (Ag _) (As _)
       rw [show iU 0=0 by decide] at this
       omega
      ·have:=pb h h (Ag _) hh
       have q:=pc_le m5 hh
       have e:(iU h:Int) * (2 * most) ≤ kB most ss.length:=by
        unfold kB
        have z:iU h=0∨iU h=1∨iU h=2:=by revert q;split <;> omega
        rcases z with z | z | z <;> rw [z] at q ⊢ <;> revert q <;> split <;> omega
       omega
     refine ⟨by decide,fun el H9 n9 s9 e9=>⟨_,s9 _ _ er8,e9,?_⟩⟩
     generalize hct:(CtS.mk _)=ct
     have tail:∀ (se:Addr) (ps:List Int) (H9:Hp),ps.length=2 ^ ss.length→(∀ ns,(ns=kA us∨ns=ps∨JoinTab ss.length (kA us) ps ns)→KX (d5 ss 1 ss.length) ss.length ns)→(∀ ns,(ns=kA us∨ns=ps∨JoinTab ss.length (kA us) ps ns)→Bd ss.length ((ss.length:Int) * most + kB most ss.length) ns)→Pot H9 p q'→SameY p q' H H9→H9 sg=some (.tup ((kA us).map V.int))→H9 se=some (.tup (ps.map V.int))→@nD ct [some (.ref p),some (.ref sa),some (.int most),some (.ref c),some (.ref rw0),v5,v6,v7,v8,some (.ref sg),some (.ref se)] H9:=by
      intro se ps H9 ql9 ext9 bnd9 pt9 y9 eg9 ex9
      subst hct
      (simp only [qO])
      (push_cast only [])
      refine ⟨sg,se,kA us,ps,ss.length,rfl,eg9,ex9,gl,ql9,m5,fun jn js H10 jl jt s10 e10=>?_⟩
      refine ⟨by decide,fun L H11 n11 s11 e11=>?_⟩
      have pt10:=pt9.same s10
      have nL:=pt10.ne n11
      have pt11:=pt10.same s11
      refine ⟨p,q',4,rfl,pt11,by decide,by decide,fun r H12 r0 r1 pt12 bt12=>?_⟩
      have hs12:=jC (bt12.y _ _ nL.1.symm nL.2.symm e11)
      have y12:SameY p q' H H12:=(y9.trans (yB (s10.trans s11))).trans bt12.y
      have up:∀ {x:Addr} {l:List V},H9 x=some (.tup l)→H12 x=some (.tup l):=fun {x l} e=>by
       have e':=s11 _ _ (s10 _ _ e)
       exact bt12.y _ _ (pt11.net e').1 (pt11.net e').2 e'
      have upj:H12 jn=some (.tup (js.map V.int)):=by
       have e':=s11 _ _ e10
       exact bt12.y _ _ (pt11.net e').1 (pt11.net e').2 e'
      rcases ints4 (r:=r) (by assumption) (by assumption) with rfl | rfl | rfl | rfl
      ·exact ⟨_,_,rfl,hs12,_,rfl,q sg _ H12 gl (ext9 _ (.inl rfl)) (bnd9 _ (.inl rfl)) pt12 y12 (up eg9)⟩
      ·exact ⟨_,_,rfl,hs12,_,rfl,q se _ H12 ql9 (ext9 _ (.inr (.inl rfl))) (bnd9 _ (.inr (.inl rfl))) pt12 y12 (up ex9)⟩
      ·exact ⟨_,_,rfl,hs12,_,rfl,q se _ H12 ql9 (ext9 _ (.inr (.inl rfl))) (bnd9 _ (.inr (.inl rfl))) pt12 y12 (up ex9)⟩
      ·exact ⟨_,_,rfl,hs12,_,rfl,q jn _ H12 jl (ext9 _ (.inr (.inr jt))) (bnd9 _ (.inr (.inr jt))) pt12 y12 upj⟩
     by_cases emp:(List.map (fun x=>V.ref x.1) rs).isEmpty=true
     ·rw [Ak emp]
      have hss9:=qY (s9 _ _ esa8)
      refine ⟨ss,hss9,dN (fun x hx=>by have:=s01 x hx;omega) (by omega),_,hss9,by decide,fun tz H10 n10 s10 e10=>⟨_,qY e10,rfl,rfl,?_⟩⟩
      have s910:=s9.trans s10
      by_cases inn:inV (V.int ss.sum) [V.int 0,V.int ((ss.map V.int).length:Int)] = true
      ·rw [Ak inn]
       obtain ⟨z1,z2,z3,z4⟩:=sum01 ss s01
       have uni:ss.sum=0∨ss.sum=(ss.length:Int):=by
        unfold inV at inn
        simp [aP] at inn
        omega
       have pt10':=k8.pot.same s910
       refine ⟨p,q',2,rfl,pt10',by decide,by decide,fun r11 H11 a11 b11 pt11' bt11=>⟨_,rfl,?_⟩⟩
       obtain ⟨kk,rfl⟩:=Br a11
       have ec11:=bt11.y _ _ ncp.1.symm ncp.2.symm (s910 _ _ ec8)
       refine ⟨c,ws,1 + kk,by simp,ec11,by omega,by omega,(fun x hx=>by have:=wb x hx;omega),fun st qs H9' n9' ql9 tp9 s9' ex9=>?_⟩
       rw [wl] at ql9 tp9
       have pt9:=pt11'.same s9'
       have y9:SameY p q' H H9':=((y08.trans (yB s910)).trans bt11.y).trans (yB s9')
       have eg9:H9' sg=some (.tup ((kA us).map V.int)):=s9' _ _ (bt11.y _ _ (pt10'.net (s910 _ _ esg8)).1 (pt10'.net (s910 _ _ esg8)).2 (s910 _ _ esg8))
       have qB:Bd ss.length (kB most ss.length) qs:=by
        have w1:∀ h,∀ x ∈ vR ws h ss.length,0 ≤ x∧x ≤ most:=fun h x hx=>by
         unfold vR at hx
         obtain ⟨t,_,rfl⟩:=Ae.mp hx
         show 0 ≤ ws.getD t 0∧ws.getD t 0 ≤ most
         rw [Aa]
         cases e:ws[t]? with
         | none=>exact ⟨Aw _,show (0:Int) ≤ most by omega⟩
         | some x=>exact wb x (A0 e)
        refine ⟨?_,fun h hh=>?_⟩
        ·rw [tp9 0 (As _)]
         have:vR ws 0 ss.length=[]:=by
          have:=rE ws 0 ss.length
          unfold vR
          rw [List.map_eq_nil_iff,List.filter_eq_nil_iff]
          intro t _
          unfold qA
          simp
         rw [this]
         cases (1 + kk) <;> rfl
        ·rw [tp9 h hh]
         have a:=uO (c:=most) (by omega) (vR ws h ss.length) (1 + kk) (w1 h)
         have b:((1 + kk:Nat):Int) * most ≤ 2 * most:=Int.mul_le_mul_of_nonneg_right (by omega) (by omega)
         omega
       have extB:∀ ns,(ns=kA us∨ns=qs∨JoinTab ss.length (kA us) qs ns)→pJ (fun h=>ns.getD h 0) ss.length 0:=fun ns hn=>by
        have oneS:One 10 0 ss.length (kA us):=gO m5 (.inl rfl) u0 cad
        have oneT:One 30 0 ss.length qs:=iY m5 (by omega) (.inr rfl) tp9
        have h0:0 < 2 ^ ss.length:=hp.2
        rcases hn with rfl | rfl | jt
        ·exact oneS.ext m5 h0
        ·exact oneT.ext m5 h0
        ·exact tR m5 h0 oneS oneT jt
       have bnd9:=mix qs qB
       have ext9:∀ ns,(ns=kA us∨ns=qs∨JoinTab ss.length (kA us) qs ns)→KX (d5 ss 1 ss.length) ss.length ns:=fun ns hn=>by
        have gm:∀ t,t < ss.length→ss.getD t 0 ∈ ss:=fun t ht=>by
         rw [Aa,Am ht]
         exact AN _
        rcases uni with u | u
        ·have e0:d5 ss 1 ss.length=0:=by
          rcases Nat.eq_zero_or_pos (d5 ss 1 ss.length) with z | z
          ·exact z
          ·obtain ⟨t,ht,b⟩:=a_bit m5 hF (by omega)
           rw [hbit t ht,z3 u _ (gm t ht)] at b
           simp at b
         rw [e0]
         refine ⟨extB ns hn,?_⟩
         rw [upF_zero (by omega)]
         have oneS:One 10 0 ss.length (kA us):=gO m5 (.inl rfl) u0 cad
         have oneT:One 30 0 ss.length qs:=iY m5 (by omega) (.inr rfl) tp9
         rcases hn with rfl | rfl | jt
         ·exact oneS.vv (.inl rfl)
         ·exact oneT.vv (.inr rfl)
         ·exact rC m5 oneS oneT jt
        ·have all1:∀ t,t < ss.length→qA (d5 ss 1 ss.length) t=true:=fun t ht=>by
          rw [hbit t ht,z4 u _ (gm t ht),Ar ht]
          rfl
         refine ⟨ext_all m5 hF all1 (extB ns hn),?_⟩
         rw [upF_all m5 hF all1]
         have oneS:One 10 31 ss.length (kA us):=gO m5 (.inl rfl) u0 cad
         have oneT:One 30 31 ss.length qs:=one_top31 m5 (by omega) (.inr rfl) tp9
         rcases hn with rfl | rfl | jt
         ·exact oneS.vv (.inl rfl)
         ·exact oneT.vv (.inr rfl)
         ·exact rC m5 oneS oneT jt
       exact tail st qs H9' ql9 ext9 bnd9 pt9 y9 eg9 ex9
      ·rw [Aj inn]
       have pt9:=k8.pot.same s910
       have y9:SameY p q' H H10:=y08.trans (yB s910)
       have eg9:=s910 _ _ esg8
       have ex9:=s910 _ _ e8
       exact tail se ps H10 pl8 extA (mix ps pB) pt9 y9 eg9 ex9
     ·rw [Aj emp]
      have pt9:=k8.pot.same s9
      have y9:SameY p q' H H9:=y08.trans (yB s9)
      have eg9:=s9 _ _ esg8
      have ex9:=s9 _ _ e8
      exact tail se ps H9 pl8 extA (mix ps pB) pt9 y9 eg9 ex9
theorem lim8 {m n:Nat}(hm:m ≤ 3)(hn:n ≤ 5):((m:Int) * 8 + kB 8 m) * ((n:Int) + (m:Int)) ≤ 399:=by
 have key:∀ (m:_root_.Fin 4) (n:_root_.Fin 6),((m.val:Int) * 8 + kB 8 m.val) * ((n.val:Int) + (m.val:Int)) ≤ 399:=by decide +kernel
 exact key ⟨m,by omega⟩ ⟨n,by omega⟩
def TabE (H:Hp)(ss:List Int)(B:Int)(ts:List (Addr × List Int)):Prop:=∀ t ∈ ts,H t.1=some (.tup (t.2.map V.int))∧t.2.length=2 ^ ss.length∧KX (d5 ss 1 ss.length) ss.length t.2∧Bd ss.length B t.2
end
end K98
end
section
namespace K98
namespace S
open PySem L2
section
variable {P:Program}{w:World}{K:PySem.W.Frag}{mg:Str→Option Value}{base:Heap}{f:Addr}{fd:FuncData}
def out (h t:Nat):Nat:=if h / 2 ^ t % 2=1 then h - 2 ^ t else h
theorem bit_on {h t:Nat}(hh:h < 32)(ht:t < 5):decide (Builtin.bitAnd ((h:Int) / 2 ^ (t:Int).toNat) 1=1)=qA h t∧(qA h t=true→(h:Int) - 1 * 2 ^ (t:Int).toNat=(out h t:Int)∧out h t < h)∧(qA h t=false→out h t=h):=by
 have key:∀ (a:_root_.Fin 32) (b:_root_.Fin 5),decide (Builtin.bitAnd ((a.val:Int) / 2 ^ (b.val:Int).toNat) 1=1)=qA a.val b.val∧(qA a.val b.val=true→(a.val:Int) - 1 * 2 ^ (b.val:Int).toNat=(out a.val b.val:Int)∧out a.val b.val < a.val)∧(qA a.val b.val=false→out a.val b.val=a.val):=by decide +kernel
 exact key ⟨h,hh⟩ ⟨t,ht⟩
def natI (ps:List Nat):List V:=ps.map fun p:Nat=>V.int (p:Int)
def bitsL (F m:Nat):List Int:=(List.range m).map fun t=>if qA F t=true then 1 else 0
theorem bits_len (F m:Nat):(bitsL F m).length=m:=by unfold bitsL;simp
theorem bits_at {F m t:Nat}(ht:t < m):(bitsL F m).getD t 0=if qA F t=true then 1 else 0:=by
 unfold bitsL
 simp [Aa,ht]
def dI (F n:Nat):List Nat:=(List.range n).filter (qA F)
theorem lJ (F i:Nat):dI F (i + 1)=dI F i ++ if qA F i=true then [i] else []:=by
 unfold dI
 rw [Bb,Bq]
 congr 1
 cases e:qA F i <;> simp [List.filter,e]
theorem ones_sum {F m:Nat}(hm:m ≤ 5)(hF:F < 2 ^ m):((dI F m).map fun t:Nat=>(2:Int) ^ t).sum=(F:Int):=by
 have key:∀ (a:_root_.Fin 6) (b:_root_.Fin 32),b.val < 2 ^ a.val→((dI b.val a.val).map fun t:Nat=>(2:Int) ^ t).sum=(b.val:Int):=by decide +kernel
 have:=jF hm
 exact key ⟨m,by omega⟩ ⟨F,by omega⟩ hF
def pV:Sp:=fun vs H Q _=>∃ (a:Addr) (ts:List Nat),vs=[.ref a]∧H a=some (.lst (natI ts))∧ts.length ≤ 5∧(∀ t ∈ ts,t < 5)∧∀ H',Same H H'→Q (.int ((ts.map fun t:Nat=>(2:Int) ^ t).sum)) H'
def LH (c:Addr)(ts:List Nat)(G:Hp)(i:Nat)(σ:St)(H:Hp):Prop:=∃ v,σ=[v]∧SameX c G H∧H c=some (.lst (((ts.take i).map fun t:Nat=>(2:Int) ^ t).map V.int))
theorem two_le {t:Nat}(h:t < 5):(0:Int) ≤ 2 ^ t∧(2:Int) ^ t ≤ 16:=(show ∀ t,t < 5→(0:Int) ≤ 2 ^ t∧(2:Int) ^ t ≤ 16 by decide) t h
theorem mB:FnScope ["things"] ["things"] (qE s_heap_of):=⟨rfl,rfl,rfl,by decide +kernel,rfl,by decide +kernel,by decide +kernel⟩
theorem ok_heap (F:Fun K "heap_of" "heap_of" s_heap_of f fd) (hm:mg "heap_of" = some (.ref f)) (hb:Binds K fd ["things"] []) (T:Txt mg):kL P w K mg base "heap_of" ["things"] 1 pV:=by
 refine qW F hm hb mB (fun vs H Q E h=>?_) (fun cdv A outer s H vs Q E hr h=>?_)
 ·obtain ⟨_,_,rfl,_⟩:=h;rfl
 ·obtain ⟨a,ts,rfl,ha,hlen,hlt,q⟩:=h
  have sc:=mB
  refine ⟨_,qI (qP (qX (sum0 rfl) rfl T.sum_ m9 (qC (jR (N:=["thing"]) (fr:=[none]) rfl (dH (pv 0)) (CScope.of rfl rfl rfl) rfl (fun _ _ _=>⟨qL (i:=0) (show List.Nodup (α:=Str) ["thing"] by decide +kernel) rfl (Or.inl rfl),kZ,qV dS qH (pv 0)⟩)) qD))),?_⟩
  rw [show L2.start ["things"] [.ref a] = [some (.ref a)] from rfl]
  (push_cast only [ha])
  intro c nc
  have nac:a ≠ c:=qF ha nc
  refine zN (LH c ts H) ⟨none,rfl,SameX.upd,qG⟩ (fun j σ H' _ ⟨_,_,s,_⟩=>s _ _ nac ha) ?_ ?_
  ·rintro i x σ H1 hx ⟨v,rfl,s1,e1⟩
   unfold natI at hx
   rw [Ah] at hx
   obtain ⟨t,ht,rfl⟩:=An.mp hx
   have hi:i < ts.length:=(Ai.mp ht).1
   have t5:=hlt t (A0 ht)
   (push_cast only [e1])
   refine ⟨⟨by omega,by omega,by decide⟩,qR (by rw [A6];omega),⟨_,rfl,s1.trans SameX.upd,?_⟩⟩
   rw [qG,AB,ht]
   simp
  ·rintro σ H1 ⟨v,rfl,s1,e1⟩
   rw [show (natI ts).length=ts.length by unfold natI;rw [Ab],Bc] at e1
   refine ⟨_,jC e1,dN (fun n hn=>?_) (by rw [Ab];omega),q H1 (s1.same nc)⟩
   obtain ⟨t,ht,rfl⟩:=Ae.mp hn
   have:=two_le (hlt t ht)
   omega
def iF:Sp:=fun vs H Q _=>∃ (a:Addr) (F m:Nat),vs=[.ref a,.int 1]∧H a=some (.tup ((bitsL F m).map V.int))∧m ≤ 5∧F < 2 ^ m∧∀ H',Same H H'→Q (.int (F:Int)) H'
def LS2 (a c:Addr)(F:Nat)(G:Hp)(i:Nat)(σ:St)(H:Hp):Prop:=∃ v,σ=[v,some (.ref a),some (.int 1)]∧SameX c G H∧H c=some (.lst (natI (dI F i)))
theorem vF:FnScope ["sides", "side"] ["sides", "side"] (qE s_heap_of_side):=⟨rfl,rfl,rfl,by decide +kernel,rfl,by decide +kernel,by decide +kernel⟩
theorem ok_side (F:Fun K "heap_of_side" "heap_of_side" s_heap_of_side f fd) (hm:mg "heap_of_side" = some (.ref f)) (hb:Binds K fd ["sides", "side"] []) (T:Txt mg) (c_heap_of:kL P w K mg base "heap_of" ["things"] 1 pV):kL P w K mg base "heap_of_side" ["sides", "side"] 2 iF:=by
 refine qW F hm hb vF (fun vs H Q E h=>?_) (fun cdv A outer s H vs Q E hr h=>?_)
 ·obtain ⟨_,_,_,rfl,_⟩:=h;rfl
 ·obtain ⟨a,F0,m,rfl,ha,m5,hF,q⟩:=h
  have sc:=vF
  refine ⟨_,qI (qP (qJ c_heap_of hr (qC (jR (N:=["thing", "sides", "side"]) (fr:=[none,some 0,some 1]) rfl (jH rfl T.range_ (qC (qX len0 rfl T.len_ jT (qC (pv 0) qD)) qD)) (CScope.of rfl rfl rfl) rfl (fun _ _ _=>⟨qL (i:=0) (show List.Nodup (α:=Str) ["thing", "sides", "side"] by decide +kernel) rfl (Or.inl rfl),zZ (kH zL (kF zP (pv 1) (pv 0) (fun _ _=>rfl)) (pv 2) (kK _)),pv 0⟩)) qD))),?_⟩
  rw [show L2.start ["sides", "side"] [.ref a,.int 1] = [some (.ref a),some (.int 1)] from rfl]
  have hsa:=qY ha
  (push_cast only [hsa])
  rw [bits_len]
  refine ⟨by omega,by omega,fun c nc=>?_⟩
  have nac:a ≠ c:=qF ha nc
  have ol:∀ n,(dI F0 n).length ≤ n:=fun n=>by unfold dI;exact AK (Bo _ _) (by simp)
  refine zO (LS2 a c F0 H) ⟨none,rfl,SameX.upd,qG⟩ ?_ ?_
  ·rintro i σ H1 hi ⟨v,rfl,s1,e1⟩
   rw [Ay] at hi
   have hsa1:=qY (s1 _ _ nac ha)
   have hat:=jX (ns:=bitsL F0 m) (n:=i) (by rw [bits_len];exact hi)
   rw [bits_at hi] at hat
   have oli:=ol i
   (push_cast only [hsa1,hat])
   cases hb:qA F0 i with
   | true =>
    rw [Ak (by simp [hb])]
    refine ⟨_,e1,qR (by unfold natI;rw [Ab];omega),⟨_,rfl,s1.trans SameX.upd,?_⟩⟩
    rw [qG,lJ,Ak hb]
    unfold natI
    simp
   | false =>
    rw [Aj (by simp [hb])]
    refine ⟨_,rfl,s1,?_⟩
    rw [e1,lJ,Aj (by rw [hb];decide),Bv]
  ·rintro σ H1 ⟨v,rfl,s1,e1⟩
   rw [Ay] at e1
   have olm:=ol m
   refine ⟨c,dI F0 m,rfl,e1,by omega,fun t ht=>?_,fun H2 s2=>?_⟩
   ·unfold dI at ht
    have:=AI.mp (Bj.mp ht).1
    omega
   ·rw [ones_sum m5 hF]
    exact q H2 ((s1.same nc).trans s2)
theorem xor_int {h F m:Nat}(hm:m ≤ 5)(hh:h < 2 ^ m)(hF:F < 2 ^ m):Builtin.bitXor (h:Int) (F:Int)=((h ^^^ F:Nat):Int)∧h ^^^ F < 2 ^ m∧(h ^^^ F) ^^^ F=h:=by
 have key:∀ (a:_root_.Fin 6) (b c:_root_.Fin 32),b.val < 2 ^ a.val→c.val < 2 ^ a.val→Builtin.bitXor (b.val:Int) (c.val:Int)=((b.val ^^^ c.val:Nat):Int)∧b.val ^^^ c.val < 2 ^ a.val∧(b.val ^^^ c.val) ^^^ c.val=b.val:=by decide +kernel
 have:=jF hm
 exact key ⟨m,by omega⟩ ⟨h,by omega⟩ ⟨F,by omega⟩ hh hF
def jY (ns:List Int)(F:Nat):List Int:=(List.range ns.length).map fun h=>ns.getD (h ^^^ F) 0
theorem turn_len (ns:List Int)(F:Nat):(jY ns F).length=ns.length:=by unfold jY;simp
theorem turn_at {ns:List Int}{F h:Nat}(hh:h < ns.length):(jY ns F).getD h 0=ns.getD (h ^^^ F) 0:=by
 unfold jY
 simp [Aa,hh]
theorem getD_ext {l m:List Int}(hl:l.length=m.length)(h:∀ i,i < l.length→l.getD i 0=m.getD i 0):l=m:=by
 apply BH hl
 intro i q1 q2
 have:=h i q1
 simpa [Aa,q1,q2] using this
def nU:Sp:=fun vs H Q _=>∃ (a b:Addr) (ns:List Int) (F m:Nat),vs=[.ref a,.ref b]∧H a=some (.tup (ns.map V.int))∧H b=some (.tup ((bitsL F m).map V.int))∧m ≤ 5∧F < 2 ^ m∧ns.length=2 ^ m∧∀ (l:Addr) (H':Hp),Same H H'→H' l=some (.tup ((jY ns F).map V.int))→Q (.ref l) H'
def LX1 (a c:Addr)(ns:List Int)(F:Nat)(G:Hp)(i:Nat)(σ:St)(H:Hp):Prop:=∃ v,σ=[v,some (.ref a),some (.int (F:Int))]∧SameX c G H∧H c=some (.lst (((List.range i).map fun h=>ns.getD (h ^^^ F) 0).map V.int))
theorem lB:FnScope ["want", "sides", "flips"] ["want", "sides"] (qE s_turned):=⟨rfl,rfl,rfl,by decide +kernel,rfl,by decide +kernel,by decide +kernel⟩
theorem ok_turned (F:Fun K "turned" "turned" s_turned f fd) (hm:mg "turned" = some (.ref f)) (hb:Binds K fd ["want", "sides"] []) (T:Txt mg) (c_heap_of_side:kL P w K mg base "heap_of_side" ["sides", "side"] 2 iF):kL P w K mg base "turned" ["want", "sides"] 3 nU:=by
 refine qW F hm hb lB (fun vs H Q E h=>?_) (fun cdv A outer s H vs Q E hr h=>?_)
 ·obtain ⟨_,_,_,_,_,rfl,_⟩:=h;rfl
 ·obtain ⟨a,b,ns,F0,m,rfl,ha,hb',m5,hF,hl,q⟩:=h
  have sc:=lB
  have hp:=jF m5
  refine ⟨_,kM (q8 (i:=2) sc.nd rfl (Or.inr rfl) (qJ c_heap_of_side hr (qC (pv 1) (qC qH qD)))) (qI (qP (kX z9 rfl T.tuple_ jM (qC (jR (N:=["heap", "want", "flips"]) (fr:=[none,some 0,some 2]) rfl (jH rfl T.range_ (qC (qX len0 rfl T.len_ jT (qC (pv 0) qD)) qD)) (CScope.of rfl rfl rfl) rfl (fun _ _ _=>⟨qL (i:=0) (show List.Nodup (α:=Str) ["heap", "want", "flips"] by decide +kernel) rfl (Or.inl rfl),kZ,kF zP (pv 1) (qV op_xor (pv 0) (pv 2)) (fun _ _=>rfl)⟩)) qD)))),?_⟩
  rw [show L2.start ["want", "sides", "flips"] [.ref a,.ref b] = [some (.ref a),some (.ref b),none] from rfl]
  (push_cast only [])
  refine ⟨b,F0,m,rfl,hb',m5,hF,fun H1 s1=>?_⟩
  have ha1:=s1 _ _ ha
  have hsa:=qY ha1
  (push_cast only [hsa])
  refine ⟨by omega,by omega,fun c nc=>?_⟩
  have nac:a ≠ c:=qF ha1 nc
  refine zO (LX1 a c ns F0 H1) ⟨none,rfl,SameX.upd,qG⟩ ?_ ?_
  ·rintro i σ H2 hi ⟨v,rfl,s2,e2⟩
   rw [Ay] at hi
   obtain ⟨x0,x1,_⟩:=xor_int m5 (show i < 2 ^ m by omega) hF
   have hsa2:=qY (s2 _ _ nac ha1)
   have hat:=jX (ns:=ns) (n:=i ^^^ F0) (by omega)
   rw [← x0] at hat
   (push_cast only [hsa2,hat,e2])
   refine ⟨qR (by simp;omega),⟨_,rfl,s2.trans SameX.upd,?_⟩⟩
   rw [qG,Bb]
   simp
  ·rintro σ H2 ⟨v,rfl,s2,e2⟩
   rw [Ay] at e2
   refine ⟨_,e2,fun l H3 nl s3 e3=>?_⟩
   exact q l H3 (s1.trans ((s2.same nc).trans s3)) e3
def wH (h m:Nat):List Nat:=(List.range m).filter fun t=>!qA h t
theorem fT {h m t:Nat}:t ∈ wH h m ↔ t < m∧qA h t=false:=by
 unfold wH
 rw [Bj,AI]
 simp
theorem lH (h m:Nat):wH h (m + 1)=wH h m ++ if qA h m=true then [] else [m]:=by
 unfold wH
 rw [Bb,Bq]
 congr 1
 cases e:qA h m <;> simp [e]
theorem tG (h m:Nat):(wH h m).length ≤ m:=by
 unfold wH
 exact AK (Bo _ _) (by simp)
def OkP (m h i j:Nat):Prop:=h < 2 ^ m∧i < j∧j < m∧qA h i=false∧qA h j=false
def OkT (m h i j k:Nat):Prop:=OkP m h i j∧k < m∧qA h k=false∧k ≠ i∧k ≠ j
def PB (ws:List Int)(h i j:Nat):Prop:=ws.getD (h ||| 2 ^ i ||| 2 ^ j) 0 + ws.getD h 0 > ws.getD (h ||| 2 ^ i) 0 + ws.getD (h ||| 2 ^ j) 0
noncomputable instance (ws:List Int) (h i j:Nat):Decidable (PB ws h i j):=by unfold PB;infer_instance
def PT (ws:List Int)(h a b c:Nat):Int:=ws.getD (h ||| 2 ^ a ||| 2 ^ b) 0 + ws.getD (h ||| 2 ^ c) 0
def TB (ws:List Int)(h i j k:Nat):Prop:=PT ws h i k j < PT ws h i j k∧PT ws h j k i < PT ws h i j k
noncomputable instance (ws:List Int) (h i j k:Nat):Decidable (TB ws h i j k):=by unfold TB;infer_instance
def o9 (ws:List Int)(m:Nat):Prop:=∀ h i j,OkP m h i j→¬ PB ws h i j
def o8 (ws:List Int)(m:Nat):Prop:=∀ h i j k,OkT m h i j k→¬ TB ws h i j k
theorem z7 {h t m:Nat}(hm:m ≤ 5)(hh:h < 2 ^ m)(ht:t < m):Builtin.bitOr (h:Int) ((2 ^ t:Nat):Int)=((h ||| 2 ^ t:Nat):Int)∧(h ||| 2 ^ t) < 2 ^ m:=by
 have key:∀ (a:_root_.Fin 6) (b:_root_.Fin 32) (c:_root_.Fin 5),b.val < 2 ^ a.val→c.val < a.val→Builtin.bitOr (b.val:Int) ((2 ^ c.val:Nat):Int)=((b.val ||| 2 ^ c.val:Nat):Int)∧(b.val ||| 2 ^ c.val) < 2 ^ a.val:=by decide +kernel
 have:=jF hm
 exact key ⟨m,by omega⟩ ⟨h,by omega⟩ ⟨t,by omega⟩ hh ht
theorem hpow (m:Nat):(1:Int) * 2 ^ (m:Int).toNat=((2 ^ m:Nat):Int):=by rw [BL,Ay];norm_cast
def wF:Sp:=fun vs H Q _=>∃ h t m:Nat,vs=[.int (h:Int),.int (t:Int)]∧m ≤ 5∧h < 2 ^ m∧t < m∧Q (.int ((h ||| 2 ^ t:Nat):Int)) H
theorem xG:FnScope ["heap", "thing"] ["heap", "thing"] (qE s_put_in):=⟨rfl,rfl,rfl,by decide +kernel,rfl,by decide +kernel,by decide +kernel⟩
theorem ok_put (F:Fun K "put_in" "put_in" s_put_in f fd) (hm:mg "put_in" = some (.ref f)) (hb:Binds K fd ["heap", "thing"] []) (T:Txt mg):kL P w K mg base "put_in" ["heap", "thing"] 1 wF:=by
 refine qW F hm hb xG (fun vs H Q E h=>?_) (fun cdv A outer s H vs Q E hr h=>?_)
 ·obtain ⟨_,_,_,rfl,_⟩:=h;rfl
 ·obtain ⟨h,t,m,rfl,m5,hh,ht,q⟩:=h
  have sc:=xG
  refine ⟨_,qI (qP (qV op_or (pv 0) (qV dS qH (pv 1)))),?_⟩
  rw [show L2.start ["heap", "thing"] [.int (h:Int),.int (t:Int)] = [some (.int (h:Int)),some (.int (t:Int))] from rfl]
  (push_cast only [])
  rw [hpow,(z7 m5 hh ht).1]
  exact ⟨⟨by omega,by omega,by decide⟩,q⟩
def uV:Sp:=fun vs H Q _=>∃ h t:Nat,vs=[.int (h:Int),.int (t:Int)]∧h < 32∧t < 5∧Q (.bl (qA h t)) H
theorem sc_has:FnScope ["heap", "thing"] ["heap", "thing"] (qE s_has):=⟨rfl,rfl,rfl,by decide +kernel,rfl,by decide +kernel,by decide +kernel⟩
theorem ok_has (F:Fun K "has" "has" s_has f fd) (hm:mg "has" = some (.ref f)) (hb:Binds K fd ["heap", "thing"] []) (T:Txt mg):kL P w K mg base "has" ["heap", "thing"] 1 uV:=by
 refine qW F hm hb sc_has (fun vs H Q E h=>?_) (fun cdv A outer s H vs Q E hr h=>?_)
 ·obtain ⟨_,_,rfl,_⟩:=h;rfl
 ·obtain ⟨h,t,rfl,hh,ht,q⟩:=h
  have sc:=sc_has
  refine ⟨_,qI (qP (xQ zL (qV p8 (qV op_shr (pv 0) (pv 1)) qH) qH (kK _))),?_⟩
  rw [show L2.start ["heap", "thing"] [.int (h:Int),.int (t:Int)] = [some (.int (h:Int)),some (.int (t:Int))] from rfl]
  (push_cast only [])
  rw [(bit_on hh ht).1]
  exact ⟨by omega,q⟩
def sp_tb:Sp:=fun vs H Q _=>∃ h m:Nat,vs=[.int (h:Int),.int (m:Int)]∧h < 32∧m ≤ 5∧∀ (l:Addr) (H':Hp),Same H H'→H' l=some (.lst (natI (wH h m)))→Q (.ref l) H'
def TBI (c:Addr)(h:Nat)(G:Hp)(i:Nat)(σ:St)(H:Hp):Prop:=∃ v:Option V,σ=[v,some (.int (h:Int))]∧SameX c G H∧H c=some (.lst (natI (wH h i)))
theorem xF:FnScope ["heap", "many"] ["heap", "many"] (qE s_things_beside):=⟨rfl,rfl,rfl,by decide +kernel,rfl,by decide +kernel,by decide +kernel⟩
theorem ok_tb (F:Fun K "things_beside" "things_beside" s_things_beside f fd) (hm:mg "things_beside" = some (.ref f)) (hb:Binds K fd ["heap", "many"] []) (T:Txt mg) (c_has:kL P w K mg base "has" ["heap", "thing"] 1 uV):kL P w K mg base "things_beside" ["heap", "many"] 2 sp_tb:=by
 refine qW F hm hb xF (fun vs H Q E h=>?_) (fun cdv A outer s H vs Q E hr h=>?_)
 ·obtain ⟨_,_,rfl,_⟩:=h;rfl
 ·obtain ⟨h,m,rfl,hh,m5,q⟩:=h
  have sc:=xF
  refine ⟨_,qI (qP (jR (N:=["thing", "heap"]) (fr:=[none,some 0]) rfl (jH rfl T.range_ (qC (pv 1) qD)) (CScope.of rfl rfl rfl) rfl (fun _ _ _=>⟨qL (i:=0) (show List.Nodup (α:=Str) ["thing", "heap"] by decide +kernel) rfl (Or.inl rfl),zZ (mF (yQ (qJ c_has hr (qC (pv 1) (qC (pv 0) qD))))),pv 0⟩))),?_⟩
  rw [show L2.start ["heap", "many"] [.int (h:Int),.int (m:Int)] = [some (.int (h:Int)),some (.int (m:Int))] from rfl]
  (push_cast only [])
  refine ⟨by omega,by omega,fun c nc=>?_⟩
  refine zO (TBI c h H) ⟨none,rfl,SameX.upd,qG⟩ ?_ ?_
  ·rintro j σ H1 hj ⟨v,rfl,s1,e1⟩
   rw [Ay] at hj
   (push_cast only [])
   refine ⟨h,j,rfl,hh,by omega,?_⟩
   have ol:=tG h j
   cases eb:qA h j
   ·(push_cast only [e1])
    refine ⟨qR (by unfold natI;rw [Ab];omega),⟨_,rfl,s1.trans SameX.upd,?_⟩⟩
    rw [qG,lH,eb]
    unfold natI
    simp
   ·(push_cast only [e1])
    refine ⟨_,rfl,s1,?_⟩
    rw [e1,lH,eb]
    simp
  ·rintro σ H1 ⟨v,rfl,s1,e1⟩
   rw [Ay] at e1
   exact q c H1 (s1.same nc) e1
def PRows (H:Hp)(h m:Nat)(rs:List (Addr × (Nat × Nat))):Prop:=∀ r ∈ rs,H r.1=some (.tup [.int (r.2.1:Int),.int (r.2.2:Int)])∧OkP m h r.2.1 r.2.2
def sp_pb:Sp:=fun vs H Q _=>∃ h m:Nat,vs=[.int (h:Int),.int (m:Int)]∧h < 2 ^ m∧m ≤ 5∧∀ (l:Addr) (rs:List (Addr × (Nat × Nat))) (H':Hp),Same H H'→PRows H' h m rs→H' l=some (.lst (rs.map fun r=>V.ref r.1))→Q (.ref l) H'
def PBI (c l:Addr)(h m n:Nat)(v1:Option V)(G:Hp)(b:Nat)(σ:St)(H:Hp):Prop:=∃ (v2:Option V) (rs:List (Addr × (Nat × Nat))),σ=[v1,v2,some (.ref l)]∧SameX c G H∧PRows H h m rs∧rs.length ≤ n + b∧H c=some (.lst (rs.map fun r=>V.ref r.1))
def PBO (c l:Addr)(h m:Nat)(G:Hp)(a:Nat)(σ:St)(H:Hp):Prop:=∃ v1:Option V,PBI c l h m (5 * a) v1 G 0 σ H
theorem vE:FnScope ["heap", "many", "beside"] ["heap", "many"] (qE s_pairs_beside):=⟨rfl,rfl,rfl,by decide +kernel,rfl,by decide +kernel,by decide +kernel⟩
theorem ok_pb (F:Fun K "pairs_beside" "pairs_beside" s_pairs_beside f fd) (hm:mg "pairs_beside" = some (.ref f)) (hb:Binds K fd ["heap", "many"] []) (T:Txt mg) (c_things_beside:kL P w K mg base "things_beside" ["heap", "many"] 2 sp_tb):kL P w K mg base "pairs_beside" ["heap", "many"] 3 sp_pb:=by
 refine qW F hm hb vE (fun vs H Q E h=>?_) (fun cdv A outer s H vs Q E hr h=>?_)
 ·obtain ⟨_,_,rfl,_⟩:=h;rfl
 ·obtain ⟨h,m,rfl,hh,m5,q⟩:=h
  have sc:=vE
  have p32:=jF m5
  refine ⟨_,kM (q8 (i:=2) sc.nd rfl (Or.inr rfl) (qJ c_things_beside hr (qC (pv 0) (qC (pv 1) qD)))) (qI (qP (pe_lc2 (N:=["i", "j", "beside"]) (fr:=[none,none,some 2]) rfl (dH (pv 2)) (CScope.of rfl rfl rfl) rfl (fun _ _ _=>⟨qL (i:=0) (show List.Nodup (α:=Str) ["i", "j", "beside"] by decide +kernel) rfl (Or.inl rfl),kZ,dH (pv 2),qL (i:=1) (show List.Nodup (α:=Str) ["i", "j", "beside"] by decide +kernel) rfl (Or.inl rfl),zZ (kH op_lt (pv 0) (pv 1) (kK _)),jK (qC (pv 0) (qC (pv 1) qD))⟩)))),?_⟩
  rw [show L2.start ["heap", "many", "beside"] [.int (h:Int),.int (m:Int)] = [some (.int (h:Int)),some (.int (m:Int)),none] from rfl]
  (push_cast only [])
  refine ⟨h,m,rfl,by omega,m5,fun l H1 s1 e1=>?_⟩
  (push_cast only [e1])
  intro c nc
  have nlc:l ≠ c:=qF e1 nc
  have ol:=tG h m
  have nl:(natI (wH h m)).length=(wH h m).length:=Ab ..
  refine zN (PBO c l h m H1) ⟨none,none,[],rfl,SameX.upd,(fun r hr=>by cases hr),Ag _,qG⟩ (fun j σ H' _ ⟨_,_,_,_,s,_⟩=>s _ _ nlc e1) ?_ ?_
  ·rintro a x σ H2 hx ⟨v1,v2,rs,rfl,s2,R2,d2,e2⟩
   have ha:a < (natI (wH h m)).length:=(Ai.mp hx).1
   unfold natI at hx
   rw [Ah] at hx
   obtain ⟨i,hi,rfl⟩:=An.mp hx
   have e12:=s2 _ _ nlc e1
   (push_cast only [e12])
   refine zN (PBI c l h m (5 * a) (some (.int (i:Int))) H1) ⟨_,rs,rfl,s2,R2,d2,e2⟩ (fun j σ H' _ ⟨_,_,_,s,_⟩=>s _ _ nlc e1) ?_ ?_
   ·rintro b y σ H3 hy ⟨v2',rs',rfl,s3,R3,d3,e3⟩
    have hb3:b < (natI (wH h m)).length:=(Ai.mp hy).1
    unfold natI at hy
    rw [Ah] at hy
    obtain ⟨j,hj,rfl⟩:=An.mp hy
    (push_cast only [])
    by_cases hij:i < j
    ·rw [Ak (by simpa using hij)]
     (push_cast only [])
     refine ⟨by decide,fun t H4 nt s4 e4=>?_⟩
     have e34:=s4 _ _ e3
     have ok:OkP m h i j:=⟨hh,hij,(fT.mp (A0 hj)).1,(fT.mp (A0 hi)).2,(fT.mp (A0 hj)).2⟩
     have ne:∀ {b:Addr} {L:List V},H4 b=some (.tup L)→b ≠ c:=fun h z=>by rw [z,e34] at h;cases h
     refine ⟨_,e34,qR (by rw [Ab];omega),⟨_,rs' ++ [(t,(i,j))],rfl,(s3.trans s4.x).trans SameX.upd,fun r hr'=>?_,by rw [AD];exact Nat.succ_le_succ d3,by rw [qG,A4];rfl⟩⟩
     rcases AG.mp hr' with y | y
     ·have:=s4 _ _ (R3 r y).1
      exact ⟨by rw [qT (ne this)];exact this,(R3 r y).2⟩
     ·rw [AJ.mp y]
      exact ⟨by rw [qT (ne e4)];exact e4,ok⟩
    ·rw [Aj (by simpa using hij)]
     exact ⟨_,rs',rfl,s3,R3,Nat.le_succ_of_le d3,e3⟩
   ·rintro σ H3 ⟨v2',rs',rfl,s3,R3,d3,e3⟩
    exact ⟨_,_,rs',rfl,s3,R3,by omega,e3⟩
  ·rintro σ H2 ⟨v1,v2,rs,rfl,s2,R2,d2,e2⟩
   exact q c rs H2 (s1.trans (s2.same nc)) R2 e2
def sp_pbr:Sp:=fun vs H Q _=>∃ (a:Addr) (m h i j:Nat) (ws:List Int),vs=[.ref a,.int (h:Int),.int (i:Int),.int (j:Int)]∧H a=some (.tup (ws.map V.int))∧ws.length=2 ^ m∧m ≤ 5∧h < 2 ^ m∧i < m∧j < m∧Q (.bl (decide (PB ws h i j))) H
theorem vZ:FnScope ["worths", "heap", "i", "j", "with_i", "with_j"] ["worths", "heap", "i", "j"] (qE s_pair_breaks):=⟨rfl,rfl,rfl,by decide +kernel,rfl,by decide +kernel,by decide +kernel⟩
theorem ok_pbr (F:Fun K "pair_breaks" "pair_breaks" s_pair_breaks f fd) (hm:mg "pair_breaks" = some (.ref f)) (hb:Binds K fd ["worths", "heap", "i", "j"] []) (T:Txt mg) (c_put_in:kL P w K mg base "put_in" ["heap", "thing"] 1 wF):kL P w K mg base "pair_breaks" ["worths", "heap", "i", "j"] 2 sp_pbr:=by
 refine qW F hm hb vZ (fun vs H Q E h=>?_) (fun cdv A outer s H vs Q E hr h=>?_)
 ·obtain ⟨_,_,_,_,_,_,rfl,_⟩:=h;rfl
 ·obtain ⟨a,m,h,i,j,ws,rfl,ha,hl,m5,hh,hi,hj,q⟩:=h
  have sc:=vZ
  refine ⟨_,kM (q8 (i:=4) sc.nd rfl (Or.inl rfl) (qJ c_put_in hr (qC (pv 1) (qC (pv 2) qD)))) (kM (q8 (i:=5) sc.nd rfl (Or.inl rfl) (qJ c_put_in hr (qC (pv 1) (qC (pv 3) qD)))) (qI (qP (xQ lI (qV jD (kF zP (pv 0) (qJ c_put_in hr (qC (pv 4) (qC (pv 3) qD))) (fun _ _=>rfl)) (kF zP (pv 0) (pv 1) (fun _ _=>rfl))) (qV jD (kF zP (pv 0) (pv 4) (fun _ _=>rfl)) (kF zP (pv 0) (pv 5) (fun _ _=>rfl))) (kK _))))),?_⟩
  rw [show L2.start ["worths", "heap", "i", "j", "with_i", "with_j"] [.ref a,.int (h:Int),.int (i:Int),.int (j:Int)] = [some (.ref a),some (.int (h:Int)),some (.int (i:Int)),some (.int (j:Int)),none,none] from rfl]
  obtain ⟨_,o1⟩:=z7 m5 hh hi
  obtain ⟨_,o2⟩:=z7 m5 hh hj
  obtain ⟨_,o3⟩:=z7 m5 o1 hj
  have hs:=qY ha
  have a1:=jX (ns:=ws) (n:=h ||| 2 ^ i) (by omega)
  have a2:=jX (ns:=ws) (n:=h ||| 2 ^ j) (by omega)
  have a3:=jX (ns:=ws) (n:=h ||| 2 ^ i ||| 2 ^ j) (by omega)
  have a4:=jX (ns:=ws) (n:=h) (by omega)
  (push_cast only [])
  refine ⟨h,i,m,rfl,m5,hh,hi,?_⟩
  (push_cast only [])
  refine ⟨h,j,m,rfl,m5,hh,hj,?_⟩
  (push_cast only [])
  refine ⟨_,j,m,rfl,m5,o1,hj,?_⟩
  (push_cast only [hs,a1,a2,a3,a4])
  exact q
def y6:Sp:=fun vs H Q _=>∃ (a:Addr) (m h i j k:Nat) (ws:List Int),vs=[.ref a,.int (h:Int),.int (i:Int),.int (j:Int),.int (k:Int)]∧H a=some (.tup (ws.map V.int))∧ws.length=2 ^ m∧m ≤ 5∧h < 2 ^ m∧i < m∧j < m∧k < m∧Q (.int (PT ws h i j k)) H
theorem lD:FnScope ["worths", "heap", "one", "other", "third"] ["worths", "heap", "one", "other", "third"] (qE s_parted):=⟨rfl,rfl,rfl,by decide +kernel,rfl,by decide +kernel,by decide +kernel⟩
theorem ok_parted3 (F:Fun K "parted" "parted" s_parted f fd) (hm:mg "parted" = some (.ref f)) (hb:Binds K fd ["worths", "heap", "one", "other", "third"] []) (T:Txt mg) (c_put_in:kL P w K mg base "put_in" ["heap", "thing"] 1 wF):kL P w K mg base "parted" ["worths", "heap", "one", "other", "third"] 2 y6:=by
 refine qW F hm hb lD (fun vs H Q E h=>?_) (fun cdv A outer s H vs Q E hr h=>?_)
 ·obtain ⟨_,_,_,_,_,_,_,rfl,_⟩:=h;rfl
 ·obtain ⟨a,m,h,i,j,k,ws,rfl,ha,hl,m5,hh,hi,hj,hk,q⟩:=h
  have sc:=lD
  refine ⟨_,qI (qP (qV jD (kF zP (pv 0) (qJ c_put_in hr (qC (qJ c_put_in hr (qC (pv 1) (qC (pv 2) qD))) (qC (pv 3) qD))) (fun _ _=>rfl)) (kF zP (pv 0) (qJ c_put_in hr (qC (pv 1) (qC (pv 4) qD))) (fun _ _=>rfl)))),?_⟩
  rw [show L2.start ["worths", "heap", "one", "other", "third"] [.ref a,.int (h:Int),.int (i:Int),.int (j:Int),.int (k:Int)] = [some (.ref a),some (.int (h:Int)),some (.int (i:Int)),some (.int (j:Int)),some (.int (k:Int))] from rfl]
  obtain ⟨_,o1⟩:=z7 m5 hh hi
  obtain ⟨_,o2⟩:=z7 m5 hh hk
  obtain ⟨_,o3⟩:=z7 m5 o1 hj
  have hs:=qY ha
  have a2:=jX (ns:=ws) (n:=h ||| 2 ^ k) (by omega)
  have a3:=jX (ns:=ws) (n:=h ||| 2 ^ i ||| 2 ^ j) (by omega)
  (push_cast only [])
  refine ⟨h,i,m,rfl,m5,hh,hi,?_⟩
  (push_cast only [])
  refine ⟨_,j,m,rfl,m5,o1,hj,?_⟩
  (push_cast only [hs,a3])
  refine ⟨h,k,m,rfl,m5,hh,hk,?_⟩
  (push_cast only [hs,a2])
  exact q
def sp_tbr:Sp:=fun vs H Q _=>∃ (a:Addr) (m h i j k:Nat) (ws:List Int),vs=[.ref a,.int (h:Int),.int (i:Int),.int (j:Int),.int (k:Int)]∧H a=some (.tup (ws.map V.int))∧ws.length=2 ^ m∧m ≤ 5∧h < 2 ^ m∧i < m∧j < m∧k < m∧Q (.bl (decide (TB ws h i j k))) H
theorem tb_max (ws:List Int)(h i j k:Nat):decide (PT ws h i j k > if PT ws h j k i > PT ws h i k j then PT ws h j k i else PT ws h i k j)=decide (TB ws h i j k):=by
 refine decide_eq_decide.mpr ⟨fun q=>?_,fun q=>?_⟩
 ·unfold TB
  split at q <;> omega
 ·unfold TB at q
  split <;> omega
theorem vX:FnScope ["worths", "heap", "i", "j", "k"] ["worths", "heap", "i", "j", "k"] (qE s_three_break):=⟨rfl,rfl,rfl,by decide +kernel,rfl,by decide +kernel,by decide +kernel⟩
theorem ok_tbr (F:Fun K "three_break" "three_break" s_three_break f fd) (hm:mg "three_break" = some (.ref f)) (hb:Binds K fd ["worths", "heap", "i", "j", "k"] []) (T:Txt mg) (c_parted:kL P w K mg base "parted" ["worths", "heap", "one", "other", "third"] 2 y6):kL P w K mg base "three_break" ["worths", "heap", "i", "j", "k"] 3 sp_tbr:=by
 refine qW F hm hb vX (fun vs H Q E h=>?_) (fun cdv A outer s H vs Q E hr h=>?_)
 ·obtain ⟨_,_,_,_,_,_,_,rfl,_⟩:=h;rfl
 ·obtain ⟨a,m,h,i,j,k,ws,rfl,ha,hl,m5,hh,hi,hj,hk,q⟩:=h
  have sc:=vX
  refine ⟨_,qI (qP (xQ lI (qJ c_parted hr (qC (pv 0) (qC (pv 1) (qC (pv 2) (qC (pv 3) (qC (pv 4) qD)))))) (qX (lZ rfl) rfl T.max_ gT (qC (qJ c_parted hr (qC (pv 0) (qC (pv 1) (qC (pv 2) (qC (pv 4) (qC (pv 3) qD)))))) (qC (qJ c_parted hr (qC (pv 0) (qC (pv 1) (qC (pv 3) (qC (pv 4) (qC (pv 2) qD)))))) qD))) (kK _))),?_⟩
  rw [show L2.start ["worths", "heap", "i", "j", "k"] [.ref a,.int (h:Int),.int (i:Int),.int (j:Int),.int (k:Int)] = [some (.ref a),some (.int (h:Int)),some (.int (i:Int)),some (.int (j:Int)),some (.int (k:Int))] from rfl]
  (push_cast only [])
  refine ⟨a,m,h,i,j,k,ws,rfl,ha,hl,m5,hh,hi,hj,hk,?_⟩
  (push_cast only [])
  refine ⟨a,m,h,i,k,j,ws,rfl,ha,hl,m5,hh,hi,hk,hj,?_⟩
  (push_cast only [])
  refine ⟨a,m,h,j,k,i,ws,rfl,ha,hl,m5,hh,hj,hk,hi,?_⟩
  (push_cast only [])
  rw [tb_max]
  exact q
def sp_fp:Sp:=fun vs H Q _=>∃ (a:Addr) (m:Nat) (ws:List Int),vs=[.ref a,.int (m:Int)]∧H a=some (.tup (ws.map V.int))∧ws.length=2 ^ m∧m ≤ 5∧o9 ws m∧∀ H',Same H H'→Q .non H'
def FPO (a:Addr)(m:Nat)(G:Hp)(h:Nat)(σ:St)(H:Hp):Prop:=∃ v2 v3 v4:Option V,σ=[some (.ref a),some (.int (m:Int)),v2,v3,v4]∧Same G H
def FPI (a:Addr)(m h:Nat)(G:Hp)(c:Nat)(σ:St)(H:Hp):Prop:=∃ v3 v4:Option V,σ=[some (.ref a),some (.int (m:Int)),some (.int (h:Int)),v3,v4]∧Same G H
theorem dE:FnScope ["worths", "many", "heap", "i", "j"] ["worths", "many"] (qE s_first_pair):=⟨rfl,rfl,rfl,by decide +kernel,rfl,by decide +kernel,by decide +kernel⟩
theorem ok_fp (F:Fun K "first_pair" "first_pair" s_first_pair f fd) (hm:mg "first_pair" = some (.ref f)) (hb:Binds K fd ["worths", "many"] []) (T:Txt mg) (c_pairs_beside:kL P w K mg base "pairs_beside" ["heap", "many"] 3 sp_pb) (c_pair_breaks:kL P w K mg base "pair_breaks" ["worths", "heap", "i", "j"] 2 sp_pbr):kL P w K mg base "first_pair" ["worths", "many"] 4 sp_fp:=by
 refine qW F hm hb dE (fun vs H Q E h=>?_) (fun cdv A outer s H vs Q E hr h=>?_)
 ·obtain ⟨_,_,_,rfl,_⟩:=h;rfl
 ·obtain ⟨a,m,ws,rfl,ha,hl,m5,np,qn⟩:=h
  have sc:=dE
  have p32:=jF m5
  refine ⟨_,kM (j9 AO rfl (jH rfl T.range_ (qC (qX len0 rfl T.len_ jT (qC (pv 0) qD)) qD)) (qL (i:=2) sc.nd rfl (Or.inl rfl)) (qI (j9 AO rfl (dH (qJ c_pairs_beside hr (qC (pv 2) (qC (pv 1) qD)))) (kW (n:=2) rfl (qQ (qL (i:=3) sc.nd rfl (Or.inl rfl)) (qQ (qL (i:=4) sc.nd rfl (Or.inl rfl)) kU))) (qI (zI (yQ (qJ c_pair_breaks hr (qC (pv 0) (qC (pv 2) (qC (pv 3) (qC (pv 4) qD)))))) (qI (qP (jK (qC pe_str (qC (pv 2) (qC (pv 3) (qC (pv 4) qD))))))) jJ))))) (qI (qP wG)),?_⟩
  rw [show L2.start ["worths", "many", "heap", "i", "j"] [.ref a,.int (m:Int)] = [some (.ref a),some (.int (m:Int)),none,none,none] from rfl]
  have hs:=qY ha
  (push_cast only [hs])
  rw [hl]
  refine ⟨by omega,by omega,gQ (FPO a m H) ⟨_,_,_,rfl,Same.refl H⟩ ?_ ?_⟩
  ·rintro h σ H1 hh ⟨v2,v3,v4,rfl,s1⟩
   rw [Ay] at hh
   (push_cast only [])
   refine ⟨h,m,rfl,hh,m5,fun l rs H2 s2 R2 e2=>?_⟩
   (push_cast only [e2])
   refine d6 (FPI a m h H2) ⟨_,_,rfl,Same.refl H2⟩ (fun j σ H' _ ⟨_,_,_,s⟩=>s _ _ e2) ?_ ?_
   ·rintro c x σ H3 hx ⟨v3',v4',rfl,s3⟩
    rw [Ah] at hx
    obtain ⟨r,hr',rfl⟩:=An.mp hx
    obtain ⟨er2,ok⟩:=R2 r (A0 hr')
    have er:=s3 _ _ er2
    (push_cast only [er])
    refine ⟨a,m,h,r.2.1,r.2.2,ws,rfl,s3 _ _ (s2 _ _ (s1 _ _ ha)),hl,m5,hh,Nat.lt_trans ok.2.1 ok.2.2.1,ok.2.2.1,?_⟩
    rw [Al (np h _ _ ok)]
    (push_cast only [])
    exact ⟨_,_,rfl,s3⟩
   ·rintro σ H3 ⟨v3',v4',rfl,s3⟩
    exact ⟨_,_,_,rfl,(s1.trans s2).trans s3⟩
  ·rintro σ H1 ⟨v2,v3,v4,rfl,s1⟩
   (push_cast only [])
   exact qn H1 s1
def sp_ft:Sp:=fun vs H Q _=>∃ (a:Addr) (m:Nat) (ws:List Int),vs=[.ref a,.int (m:Int)]∧H a=some (.tup (ws.map V.int))∧ws.length=2 ^ m∧m ≤ 5∧o8 ws m∧∀ H',Same H H'→Q .non H'
def FTO (a:Addr)(m:Nat)(G:Hp)(h:Nat)(σ:St)(H:Hp):Prop:=∃ v2 v3 v4 v5:Option V,σ=[some (.ref a),some (.int (m:Int)),v2,v3,v4,v5]∧Same G H
def FTI (a:Addr)(m h:Nat)(G:Hp)(c:Nat)(σ:St)(H:Hp):Prop:=∃ v3 v4 v5:Option V,σ=[some (.ref a),some (.int (m:Int)),some (.int (h:Int)),v3,v4,v5]∧Same G H
def FTK (a:Addr)(m h i j:Nat)(G:Hp)(c:Nat)(σ:St)(H:Hp):Prop:=∃ v5:Option V,σ=[some (.ref a),some (.int (m:Int)),some (.int (h:Int)),some (.int (i:Int)),some (.int (j:Int)),v5]∧Same G H
theorem gI:FnScope ["worths", "many", "heap", "i", "j", "k"] ["worths", "many"] (qE s_first_three):=⟨rfl,rfl,rfl,by decide +kernel,rfl,by decide +kernel,by decide +kernel⟩
theorem ok_ft (F:Fun K "first_three" "first_three" s_first_three f fd) (hm:mg "first_three" = some (.ref f)) (hb:Binds K fd ["worths", "many"] []) (T:Txt mg) (c_pairs_beside:kL P w K mg base "pairs_beside" ["heap", "many"] 3 sp_pb) (c_things_beside:kL P w K mg base "things_beside" ["heap", "many"] 2 sp_tb) (c_three_break:kL P w K mg base "three_break" ["worths", "heap", "i", "j", "k"] 3 sp_tbr):kL P w K mg base "first_three" ["worths", "many"] 4 sp_ft:=by
 refine qW F hm hb gI (fun vs H Q E h=>?_) (fun cdv A outer s H vs Q E hr h=>?_)
 ·obtain ⟨_,_,_,rfl,_⟩:=h;rfl
 ·obtain ⟨a,m,ws,rfl,ha,hl,m5,np,qn⟩:=h
  have sc:=gI
  have p32:=jF m5
  refine ⟨_,kM (j9 AO rfl (jH rfl T.range_ (qC (qX len0 rfl T.len_ jT (qC (pv 0) qD)) qD)) (qL (i:=2) sc.nd rfl (Or.inl rfl)) (qI (j9 AO rfl (dH (qJ c_pairs_beside hr (qC (pv 2) (qC (pv 1) qD)))) (kW (n:=2) rfl (qQ (qL (i:=3) sc.nd rfl (Or.inl rfl)) (qQ (qL (i:=4) sc.nd rfl (Or.inl rfl)) kU))) (qI (j9 AO rfl (dH (qJ c_things_beside hr (qC (pv 2) (qC (pv 1) qD)))) (qL (i:=5) sc.nd rfl (Or.inl rfl)) (qI (zI (PW.pt (gM (kH op_ne (pv 5) (pv 3) (kK _)) (gM (kH op_ne (pv 5) (pv 4) (kK _)) (gZ (yQ (qJ c_three_break hr (qC (pv 0) (qC (pv 2) (qC (pv 3) (qC (pv 4) (qC (pv 5) qD))))))))))) (qI (qP (jK (qC pe_str (qC (pv 2) (qC (pv 3) (qC (pv 4) (qC (pv 5) qD)))))))) jJ))))))) (qI (qP wG)),?_⟩
  rw [show L2.start ["worths", "many", "heap", "i", "j", "k"] [.ref a,.int (m:Int)] = [some (.ref a),some (.int (m:Int)),none,none,none,none] from rfl]
  have hs:=qY ha
  (push_cast only [hs])
  rw [hl]
  refine ⟨by omega,by omega,gQ (FTO a m H) ⟨_,_,_,_,rfl,Same.refl H⟩ ?_ ?_⟩
  ·rintro h σ H1 hh ⟨v2,v3,v4,v5,rfl,s1⟩
   rw [Ay] at hh
   (push_cast only [])
   refine ⟨h,m,rfl,hh,m5,fun l rs H2 s2 R2 e2=>?_⟩
   (push_cast only [e2])
   refine d6 (FTI a m h H2) ⟨_,_,_,rfl,Same.refl H2⟩ (fun j σ H' _ ⟨_,_,_,_,s⟩=>s _ _ e2) ?_ ?_
   ·rintro c x σ H3 hx ⟨v3',v4',v5',rfl,s3⟩
    rw [Ah] at hx
    obtain ⟨r,hr',rfl⟩:=An.mp hx
    obtain ⟨er2,ok⟩:=R2 r (A0 hr')
    have er:=s3 _ _ er2
    (push_cast only [er])
    refine ⟨h,m,rfl,by omega,m5,fun l2 H4 s4 e4=>?_⟩
    (push_cast only [e4])
    refine d6 (FTK a m h r.2.1 r.2.2 H4) ⟨_,rfl,Same.refl H4⟩ (fun j σ H' _ ⟨_,_,s⟩=>s _ _ e4) ?_ ?_
    ·rintro d x σ H5 hx ⟨v5'',rfl,s5⟩
     unfold natI at hx
     rw [Ah] at hx
     obtain ⟨k,hk,rfl⟩:=An.mp hx
     obtain ⟨km,bk⟩:=fT.mp (A0 hk)
     have skip:FTK a m h r.2.1 r.2.2 H4 (d + 1) [some (.ref a),some (.int (m:Int)),some (.int (h:Int)),some (.int (r.2.1:Int)),some (.int (r.2.2:Int)),some (.int (k:Int))] H5:=⟨_,rfl,s5⟩
     (push_cast only [])
     split
     ·split
      ·rename_i k1 k2
       refine ⟨a,m,h,r.2.1,r.2.2,k,ws,rfl,((((s1.trans s2).trans s3).trans s4).trans s5) _ _ ha,hl,m5,hh,Nat.lt_trans ok.2.1 ok.2.2.1,ok.2.2.1,km,⟨_,rfl,?_⟩⟩
       rw [Al (np h _ _ k ⟨ok,km,bk,(fun z=>by simp [z] at k1),(fun z=>by simp [z] at k2)⟩),Aj (by decide)]
       exact skip
      ·exact skip
     ·exact skip
    ·rintro σ H5 ⟨v5'',rfl,s5⟩
     exact ⟨_,_,_,rfl,(s3.trans s4).trans s5⟩
   ·rintro σ H3 ⟨v3',v4',v5',rfl,s3⟩
    exact ⟨_,_,_,_,rfl,(s1.trans s2).trans s3⟩
  ·rintro σ H1 ⟨v2,v3,v4,v5,rfl,s1⟩
   (push_cast only [])
   exact qn H1 s1
def bB:Sp:=fun vs H Q _=>∃ (a b:Addr) (ns:List Int) (F m:Nat),vs=[.ref a,.ref b]∧H a=some (.tup (ns.map V.int))∧H b=some (.tup ((bitsL F m).map V.int))∧m ≤ 5∧F < 2 ^ m∧ns.length=2 ^ m∧o9 (jY ns F) m∧o8 (jY ns F) m∧∀ (H':Hp),Same H H'→Q .non H'
theorem bG:FnScope ["want", "sides", "worths", "pair"] ["want", "sides"] (qE s_breaking):=⟨rfl,rfl,rfl,by decide +kernel,rfl,by decide +kernel,by decide +kernel⟩
theorem ok_breaking (F:Fun K "breaking" "breaking" s_breaking f fd) (hm:mg "breaking" = some (.ref f)) (hb:Binds K fd ["want", "sides"] []) (T:Txt mg) (c_turned:kL P w K mg base "turned" ["want", "sides"] 3 nU) (c_first_pair:kL P w K mg base "first_pair" ["worths", "many"] 4 sp_fp) (c_first_three:kL P w K mg base "first_three" ["worths", "many"] 4 sp_ft):kL P w K mg base "breaking" ["want", "sides"] 5 bB:=by
 refine qW F hm hb bG (fun vs H Q E h=>?_) (fun cdv A outer s H vs Q E hr h=>?_)
 ·obtain ⟨_,_,_,_,_,rfl,_⟩:=h;rfl
 ·obtain ⟨a,b,ns,F0,m,rfl,ha,hb',m5,hF,hl,np,nt,q⟩:=h
  have sc:=bG
  refine ⟨_,kM (q8 (i:=2) sc.nd rfl (Or.inl rfl) (qJ c_turned hr (qC (pv 0) (qC (pv 1) qD)))) (kM (q8 (i:=3) sc.nd rfl (Or.inl rfl) (qJ c_first_pair hr (qC (pv 2) (qC (qX len0 rfl T.len_ jT (qC (pv 1) qD)) qD)))) (kM (zI (kH p7 (pv 3) wG (kK _)) (qI (qP (pv 3))) jJ) (qI (qP (qJ c_first_three hr (qC (pv 2) (qC (qX len0 rfl T.len_ jT (qC (pv 1) qD)) qD))))))),?_⟩
  rw [show L2.start ["want", "sides", "worths", "pair"] [.ref a,.ref b] = [some (.ref a),some (.ref b),none,none] from rfl]
  (push_cast only [])
  refine ⟨a,b,ns,F0,m,rfl,ha,hb',m5,hF,hl,fun t H1 s1 e1=>?_⟩
  have hs1:=qY (s1 _ _ hb')
  (push_cast only [hs1])
  rw [bits_len]
  have tl:(jY ns F0).length=2 ^ m:=by rw [turn_len,hl]
  refine ⟨t,m,jY ns F0,rfl,e1,tl,m5,np,fun H2 s2=>?_⟩
  have hs2:=qY (s2 _ _ (s1 _ _ hb'))
  (push_cast only [hs2])
  rw [bits_len]
  exact ⟨t,m,jY ns F0,rfl,s2 _ _ e1,tl,m5,nt,fun H3 s3=>q H3 ((s1.trans s2).trans s3)⟩
def Odd (F m:Nat)(ws:List Int):Prop:=¬ (o9 (jY ws F) m∧o8 (jY ws F) m)
abbrev TW:=Addr × List Int
def WL (H:Hp)(m:Nat)(ts:List TW):Prop:=∀ r ∈ ts,H r.1=some (.tup (r.2.map V.int))∧r.2.length=2 ^ m
def refsT (ts:List TW):List V:=ts.map fun r=>V.ref r.1
def sp_fs:Sp:=fun vs H Q _=>∃ (t b w:Addr) (ts:List TW) (F m:Nat),vs=[.ref t]∧H t=some (.tup [.ref b,.ref w])∧H b=some (.tup ((bitsL F m).map V.int))∧H w=some (.tup (refsT ts))∧WL H m ts∧m ≤ 5∧F < 2 ^ m∧(∀ r ∈ ts,¬ Odd F m r.2)∧∀ (H':Hp),Same H H'→Q .non H'
def FSI (t b w:Addr)(G:Hp)(i:Nat)(σ:St)(H:Hp):Prop:=∃ v3 v4:Option V,σ=[some (.ref t),some (.ref b),some (.ref w),v3,v4]∧Same G H
theorem xJ:FnScope ["town", "sides", "wants", "hand", "want"] ["town"] (qE s_first_strange):=⟨rfl,rfl,rfl,by decide +kernel,rfl,by decide +kernel,by decide +kernel⟩
theorem ok_fs (F:Fun K "first_strange" "first_strange" s_first_strange f fd) (hm:mg "first_strange" = some (.ref f)) (hb:Binds K fd ["town"] []) (T:Txt mg) (c_breaking:kL P w K mg base "breaking" ["want", "sides"] 5 bB):kL P w K mg base "first_strange" ["town"] 6 sp_fs:=by
 refine qW F hm hb xJ (fun vs H Q E h=>?_) (fun cdv A outer s H vs Q E hr h=>?_)
 ·obtain ⟨_,_,_,_,_,_,rfl,_⟩:=h;rfl
 ·obtain ⟨t,b,w0,ts,F0,m,rfl,ht,hb',hw,wl,m5,hF,no,q⟩:=h
  have sc:=xJ
  refine ⟨_,kM (yR (pv 0) (kW (n:=2) rfl (qQ (qL (i:=1) sc.nd rfl (Or.inl rfl)) (qQ (qL (i:=2) sc.nd rfl (Or.inl rfl)) kU)))) (kM (j9 AO rfl (yK rfl T.enumerate_ (qC (pv 2) qD)) (kW (n:=2) rfl (qQ (qL (i:=3) sc.nd rfl (Or.inl rfl)) (qQ (qL (i:=4) sc.nd rfl (Or.inl rfl)) kU))) (qI (zI (kH p7 (qJ c_breaking hr (qC (pv 4) (qC (pv 1) qD))) wG (kK _)) (qI (qP (pv 3))) jJ))) (qI (qP wG))),?_⟩
  rw [show L2.start ["town", "sides", "wants", "hand", "want"] [.ref t] = [some (.ref t),none,none,none,none] from rfl]
  (push_cast only [ht])
  refine ⟨_,_,.inr ⟨rfl,hw⟩,?_⟩
  refine cC (FSI t b w0 H) ⟨_,_,rfl,Same.refl _⟩ (fun i σ H' ⟨_,_,_,s⟩=>.inr ⟨rfl,s _ _ hw⟩) ?_ ?_
  ·rintro i v T' σ H2 H3 hv ⟨v3,v4,rfl,s2⟩ nT s3 e3
   unfold refsT at hv
   rw [Ah] at hv
   obtain ⟨r,hr',rfl⟩:=An.mp hv
   have hm':=A0 hr'
   have s13:=s2.trans s3
   obtain ⟨er,lr⟩:=wl r hm'
   obtain ⟨np,nt⟩:=Classical.not_not.mp (no r hm')
   (push_cast only [e3])
   refine ⟨r.1,b,r.2,F0,m,rfl,s13 _ _ er,s13 _ _ hb',m5,hF,lr,np,nt,fun H4 s4=>?_⟩
   (push_cast only [])
   exact ⟨_,_,rfl,s13.trans s4⟩
  ·rintro σ H2 ⟨v3,v4,rfl,s2⟩
   (push_cast only [])
   exact q _ s2
theorem z6 {h i j k t:Nat}(hh:h < 32)(hi:i < 5)(hj:j < 5)(ht:t < 5)(ij:i ≠ j)(bi:qA h i=false)(bj:qA h j=false):(h ||| 2 ^ i)=h ^^^ 2 ^ i∧(h ||| 2 ^ i ||| 2 ^ j)=h ^^^ 2 ^ i ^^^ 2 ^ j∧qA (h ^^^ 2 ^ i ^^^ 2 ^ j) t=(qA h t || decide (t=i) || decide (t=j))∧qA (h ^^^ 2 ^ i) t=(qA h t || decide (t=i)):=by
 have key:∀ (h:_root_.Fin 32) (i j t:_root_.Fin 5),i.val ≠ j.val→qA h.val i.val=false→qA h.val j.val=false→(h.val ||| 2 ^ i.val)=h.val ^^^ 2 ^ i.val∧(h.val ||| 2 ^ i.val ||| 2 ^ j.val)=h.val ^^^ 2 ^ i.val ^^^ 2 ^ j.val∧qA (h.val ^^^ 2 ^ i.val ^^^ 2 ^ j.val) t.val=(qA h.val t.val || decide (t.val=i.val) || decide (t.val=j.val))∧qA (h.val ^^^ 2 ^ i.val) t.val=(qA h.val t.val || decide (t.val=i.val)):=by decide +kernel
 exact key ⟨h,hh⟩ ⟨i,hi⟩ ⟨j,hj⟩ ⟨t,ht⟩ ij bi bj
theorem xO (a b:Nat):a ^^^ b ^^^ b=a:=by rw [CK,Nat.xor_self,CA]
theorem ext_odd {ws:List Int}{F m:Nat}(m5:m ≤ 5)(hF:F < 2 ^ m)(wl:ws.length=2 ^ m)(ex:pJ (fun h=>ws.getD h 0) m F):¬ Odd F m ws:=by
 have p32:=jF m5
 have ex':∀ A B i,A < 2 ^ m→B < 2 ^ m→i < m→qA A i=true→qA B i=false→(jY ws F).getD A 0 + (jY ws F).getD B 0 ≤ (jY ws F).getD (A ^^^ 2 ^ i) 0 + (jY ws F).getD (B ^^^ 2 ^ i) 0∨∃ j,j < m∧qA B j=true∧qA A j=false∧(jY ws F).getD A 0 + (jY ws F).getD B 0 ≤ (jY ws F).getD (A ^^^ 2 ^ i ^^^ 2 ^ j) 0 + (jY ws F).getD (B ^^^ 2 ^ i ^^^ 2 ^ j) 0:=fun A B i hA hB hi ai bi=>by
  have at':∀ h,h < 2 ^ m→(jY ws F).getD h 0=ws.getD (h ^^^ F) 0:=fun h hh=>turn_at (by omega)
  have xA:=BO hA hF
  have xB:=BO hB hF
  have A1:=kO m5 hA hi
  have B1:=kO m5 hB hi
  rw [at' A hA,at' B hB,at' _ A1,at' _ B1]
  rcases ex (A ^^^ F) (B ^^^ F) i xA xB hi (by rw [xO];exact ai) (by rw [xO];exact bi) with le | ⟨j,hj,bj,aj,le⟩
  ·exact .inl (by rw [jZ A _ F,jZ B _ F];exact le)
  ·rw [xO] at bj aj
   refine .inr ⟨j,hj,bj,aj,?_⟩
   rw [at' _ (kO m5 A1 hj),at' _ (kO m5 B1 hj),jZ (A ^^^ 2 ^ i) _ F,jZ (B ^^^ 2 ^ i) _ F,jZ A _ F,jZ B _ F]
   exact le
 clear ex
 intro od
 have od':¬ (o9 (jY ws F) m∧o8 (jY ws F) m):=od
 clear od
 revert ex' od'
 generalize jY ws F=us
 intro ex' od
 refine od ⟨fun h i j ⟨h1,h2,h3,h4,h5⟩ pb=>?_,fun h i j k ⟨⟨h1,h2,h3,h4,h5⟩,k1,k2,k3,k4⟩ tb=>?_⟩
 ·obtain ⟨e1,e2,e3,_⟩:=z6 (t:=i) (k:=0) (show h < 32 by omega) (show i < 5 by omega) (show j < 5 by omega) (by omega) (by omega) h4 h5
  have f1:=(z6 (t:=i) (k:=0) (show h < 32 by omega) (show j < 5 by omega) (show i < 5 by omega) (by omega) (by omega) h5 h4).1
  unfold PB at pb
  rw [e2,e1,f1] at pb
  have A1:=kO m5 h1 (show i < m by omega)
  rcases ex' (h ^^^ 2 ^ i ^^^ 2 ^ j) h i (kO m5 A1 h3) h1 (by omega) (by rw [e3];simp) h4 with le | ⟨t,ht,bt,at',_⟩
  ·rw [jZ h (2 ^ i) (2 ^ j),xO] at le
   rw [jZ h (2 ^ i) (2 ^ j)] at pb
   omega
  ·obtain ⟨_,_,e4,_⟩:=z6 (t:=t) (k:=0) (show h < 32 by omega) (show i < 5 by omega) (show j < 5 by omega) (by omega) (by omega) h4 h5
   rw [e4,bt] at at'
   cases at'
 ·have kk:k < 5:=by omega
  obtain ⟨e1,e2,e3,_⟩:=z6 (t:=i) (k:=0) (show h < 32 by omega) (show i < 5 by omega) (show j < 5 by omega) (by omega) (by omega) h4 h5
  obtain ⟨f1,f2,_,_⟩:=z6 (t:=i) (k:=0) (show h < 32 by omega) (show j < 5 by omega) kk (by omega) (fun z=>k4 z.symm) h5 k2
  obtain ⟨g1,_,_,g4⟩:=z6 (t:=i) (k:=0) (show h < 32 by omega) kk (show i < 5 by omega) (by omega) k3 k2 h4
  have g2:=(z6 (t:=i) (k:=0) (show h < 32 by omega) (show i < 5 by omega) kk (by omega) (fun z=>k3 z.symm) h4 k2).2.1
  unfold TB PT at tb
  rw [e2,g2,f2,e1,f1,g1] at tb
  have A1:=kO m5 h1 (show i < m by omega)
  have K1:=kO m5 h1 k1
  rcases ex' (h ^^^ 2 ^ i ^^^ 2 ^ j) (h ^^^ 2 ^ k) i (kO m5 A1 h3) K1 (by omega) (by rw [e3];simp) (by rw [g4,h4,Al (fun z=>k3 z.symm)];rfl) with le | ⟨t,ht,bt,at',le⟩
  ·rw [jZ h (2 ^ i) (2 ^ j),xO,jZ h (2 ^ k) (2 ^ i)] at le
   rw [jZ h (2 ^ i) (2 ^ j)] at tb
   omega
  ·obtain ⟨_,_,e4,_⟩:=z6 (t:=t) (k:=0) (show h < 32 by omega) (show i < 5 by omega) (show j < 5 by omega) (by omega) (by omega) h4 h5
   obtain ⟨_,_,_,g5⟩:=z6 (t:=t) (k:=0) (show h < 32 by omega) kk (show i < 5 by omega) (by omega) k3 k2 h4
   rw [g5] at bt
   rw [e4] at at'
   have tk:t=k:=by
    cases c:qA h t
    ·rw [c] at bt;simpa using bt
    ·rw [c] at at';simp at at'
   subst tk
   rw [jZ h (2 ^ i) (2 ^ j),xO,jZ h (2 ^ t) (2 ^ i),xO] at le
   rw [jZ h (2 ^ i) (2 ^ j)] at tb
   omega
def sp_refuse:Sp:=fun vs H Q _=>∃ (t b w:Addr) (ts:List TW) (F m:Nat),vs=[.ref t]∧H t=some (.tup [.ref b,.ref w])∧H b=some (.tup ((bitsL F m).map V.int))∧H w=some (.tup (refsT ts))∧WL H m ts∧m ≤ 5∧F < 2 ^ m∧(∀ r ∈ ts,pJ (fun h=>r.2.getD h 0) m F)∧∀ H',Same H H'→Q .non H'
theorem yG:FnScope ["town", "hand"] ["town"] (qE s_refuse_strange):=⟨rfl,rfl,rfl,by decide +kernel,rfl,by decide +kernel,by decide +kernel⟩
theorem ok_refuse (F:Fun K "refuse_strange" "refuse_strange" s_refuse_strange f fd) (hm:mg "refuse_strange" = some (.ref f)) (hb:Binds K fd ["town"] []) (T:Txt mg) (c_first_strange:kL P w K mg base "first_strange" ["town"] 6 sp_fs):kL P w K mg base "refuse_strange" ["town"] 7 sp_refuse:=by
 refine qW F hm hb yG (fun vs H Q E h=>?_) (fun cdv A outer s H vs Q E hr h=>?_)
 ·obtain ⟨_,_,_,_,_,_,rfl,_⟩:=h;rfl
 ·obtain ⟨t,b,w0,ts,F0,m,rfl,ht,hb',hw,wl,m5,hF,ex,q⟩:=h
  have sc:=yG
  refine ⟨_,qK (q8 (i:=1) sc.nd rfl (Or.inl rfl) (qJ c_first_strange hr (qC (pv 0) qD))) (qI (zI (kH p7 (pv 1) wG (kK _)) (qI tE) jJ)),?_⟩
  rw [show L2.start ["town", "hand"] [.ref t] = [some (.ref t),none] from rfl]
  (push_cast only [])
  refine ⟨t,b,w0,ts,F0,m,rfl,ht,hb',hw,wl,m5,hF,(fun r hr=>ext_odd m5 hF (wl r hr).2 (ex r hr)),fun H1 s1=>?_⟩
  (push_cast only [])
  (simp only [qO])
  (push_cast only [])
  exact q H1 s1
end
end S
section
variable {P:Program}{w:World}{K:PySem.W.Frag}{mg:Str→Option Value}{base:Heap}{f:Addr}{fd:FuncData}
def qS (ps:List Int)(F hp:Nat):List Int:=(List.range ps.length).map fun t=>if qA hp t=true then ps.getD t 0 + (if qA F t=true then -1 else 1) else ps.getD t 0
theorem jB (ps:List Int)(F hp:Nat):(qS ps F hp).length=ps.length:=by unfold qS;simp
theorem step_at {ps:List Int}{F hp t:Nat}(h:t < ps.length):(qS ps F hp)[t]? = some (if qA hp t=true then ps.getD t 0 + (if qA F t=true then -1 else 1) else ps.getD t 0):=by
 unfold qS
 rw [Ah,B4 h]
 rfl
def zF (F X h:Nat):Nat→Int
 | 0=>0
 | n + 1=>zF F X h n + if qA X n=true∧qA h n=true then (if qA F n=true then -1 else 1) else 0
theorem fD {ps:List Int}{F X h:Nat}:∀ n,n ≤ ps.length→q9 (qS ps F X) h n=q9 ps h n + zF F X h n
 | 0,_=>rfl
 | n + 1,hn=>by
  have ih:=fD (ps:=ps) (F:=F) (X:=X) (h:=h) n (by omega)
  have e:(qS ps F X).getD n 0=if qA X n=true then ps.getD n 0 + (if qA F n=true then -1 else 1) else ps.getD n 0:=by
   rw [Aa,step_at (by omega)]
   rfl
  show q9 (qS ps F X) h n + (if qA h n=true then (qS ps F X).getD n 0 else 0)=q9 ps h n + (if qA h n=true then ps.getD n 0 else 0) + (zF F X h n + if qA X n=true∧qA h n=true then (if qA F n=true then -1 else 1) else 0)
  rw [ih,e]
  cases qA h n <;> cases qA X n <;> cases qA F n <;> simp <;> omega
theorem xP {F X h t:Nat}(hh:h < 32)(hF:F < 32)(ht:t < 5):∀ n,n ≤ 5→zF F X (h ^^^ 2 ^ t) n=zF F X h n + if t < n∧qA X t=true then (if qA (h ^^^ F) t=true then -1 else 1) else 0
 | 0,_=>by simp [zF]
 | n + 1,hn=>by
  have ih:=xP (X:=X) hh hF ht n (by omega)
  have x:=(kG hh ht (show n < 5 by omega)).1
  have y:=dJ hh hF ht
  show zF F X (h ^^^ 2 ^ t) n + (if qA X n=true∧qA (h ^^^ 2 ^ t) n=true then (if qA F n=true then -1 else 1) else 0)=zF F X h n + (if qA X n=true∧qA h n=true then (if qA F n=true then -1 else 1) else 0) + if t < n + 1∧qA X t=true then (if qA (h ^^^ F) t=true then -1 else 1) else 0
  rw [ih,x,y]
  by_cases e:n=t
  ·subst e
   cases qA h n <;> cases qA X n <;> cases qA F n <;> simp <;> omega
  ·rw [Al e,show (qA h n != false)=qA h n by cases qA h n <;> rfl]
   have c:(t < n + 1∧qA X t=true) ↔ (t < n∧qA X t=true):=by
    constructor
    ·rintro ⟨a,b⟩;exact ⟨by omega,b⟩
    ·rintro ⟨a,b⟩;exact ⟨by omega,b⟩
   simp only [c]
   omega
theorem yF {F X h i:Nat}(hX:X < 32)(hh:h < 32)(hF:F < 32)(hi:i < 5)(xi:qA X i=false):∀ n,n ≤ 5→zF F (X ^^^ 2 ^ i) h n=zF F X h n + if i < n then (if qA (h ^^^ F) i=true then 1 else 0) - (if qA F i=true then 1 else 0) else 0
 | 0,_=>by simp [zF]
 | n + 1,hn=>by
  have ih:=yF hX hh hF hi xi n (by omega)
  have x:=(kG hX hi (show n < 5 by omega)).1
  have y:=dJ hh hF hi
  show zF F (X ^^^ 2 ^ i) h n + (if qA (X ^^^ 2 ^ i) n=true∧qA h n=true then (if qA F n=true then -1 else 1) else 0)=zF F X h n + (if qA X n=true∧qA h n=true then (if qA F n=true then -1 else 1) else 0) + if i < n + 1 then (if qA (h ^^^ F) i=true then 1 else 0) - (if qA F i=true then 1 else 0) else 0
  rw [ih,x,y]
  by_cases e:n=i
  ·subst e
   rw [xi]
   cases qA h n <;> cases qA F n <;> simp
  ·rw [Al e,show (qA X n != false)=qA X n by cases qA X n <;> rfl]
   have c:(i < n + 1) ↔ (i < n):=by omega
   simp only [c]
   omega
theorem iL {F X S T:Nat}(hS:S < 32)(hT:T < 32)(hF:F < 32):∀ n,n ≤ 5→zF F X S n < zF F X T n→∃ x,x < n∧qA X x=true∧qA (T ^^^ F) x=true∧qA (S ^^^ F) x=false
 | 0,_,h=>absurd h (by simp [zF])
 | n + 1,hn,h=>by
  by_cases c:zF F X S n < zF F X T n
  ·obtain ⟨x,x1,x2⟩:=iL hS hT hF n (by omega) c
   exact ⟨x,by omega,x2⟩
  ·have h':zF F X S n + (if qA X n=true∧qA S n=true then (if qA F n=true then -1 else 1) else 0) < zF F X T n + (if qA X n=true∧qA T n=true then (if qA F n=true then -1 else 1) else 0):=h
   have y:=dJ hS hF (show n < 5 by omega)
   have z:=dJ hT hF (show n < 5 by omega)
   refine ⟨n,by omega,?_,?_,?_⟩
   ·cases e:qA X n with
    | true=>rfl
    | false=>rw [e] at h';simp at h';omega
   ·rw [z]
    revert h'
    cases qA S n <;> cases qA T n <;> cases qA F n <;> cases qA X n <;> simp <;> omega
   ·rw [y]
    revert h'
    cases qA S n <;> cases qA T n <;> cases qA F n <;> cases qA X n <;> simp <;> omega
theorem mX (P:Nat→Prop)(k:Nat→Int):∀ n,(∃ a,a < n∧P a)→∃ a,a < n∧P a∧∀ b,b < n→P b→k b ≤ k a
 | 0,h=>by obtain ⟨a,z,_⟩:=h;omega
 | n + 1,h=>by
  by_cases c:∃ a,a < n∧P a
  ·obtain ⟨a,a1,a2,a3⟩:=mX P k n c
   by_cases d:P n∧k a < k n
   ·refine ⟨n,by omega,d.1,fun b hb pb=>?_⟩
    by_cases e:b=n
    ·rw [e];exact Aw _
    ·have:=a3 b (by omega) pb;omega
   ·refine ⟨a,by omega,a2,fun b hb pb=>?_⟩
    by_cases e:b=n
    ·subst e
     by_cases f:k a < k b
     ·exact absurd ⟨pb,f⟩ d
     ·omega
    ·exact a3 b (by omega) pb
  ·obtain ⟨a,a1,a2⟩:=h
   have e:a=n:=by
    by_cases e:a=n
    ·exact e
    ·exact absurd ⟨a,by omega,a2⟩ c
   subst e
   refine ⟨a,a1,a2,fun b hb pb=>?_⟩
   by_cases e:b=a
   ·rw [e];exact Aw _
   ·exact absurd ⟨b,by omega,pb⟩ c
def dist (a b:Nat):Nat:=(a ^^^ b) % 2 + (a ^^^ b) / 2 % 2 + (a ^^^ b) / 4 % 2 + (a ^^^ b) / 8 % 2 + (a ^^^ b) / 16 % 2
theorem t7 {T S x:Nat}(hT:T < 32)(hS:S < 32)(hx:x < 5)(n:qA T x ≠ qA S x):dist (T ^^^ 2 ^ x) S < dist T S:=by
 have key:∀ (T S:_root_.Fin 32) (x:_root_.Fin 5),qA T.val x.val ≠ qA S.val x.val→dist (T.val ^^^ 2 ^ x.val) S.val < dist T.val S.val:=by decide +kernel
 exact key ⟨T,hT⟩ ⟨S,hS⟩ ⟨x,hx⟩ n
theorem oW {A B F t:Nat}(hA:A < 32)(hB:B < 32)(hF:F < 32)(ht:t < 5)(h:qA (A ^^^ F) t ≠ qA (B ^^^ F) t):qA A t ≠ qA B t:=fun z=>h (by rw [dJ hA hF ht,dJ hB hF ht,z])
theorem aU {f:Nat→Int}{m F X T0:Nat}(m5:m ≤ 5)(hF:F < 2 ^ m)(ex:pJ f m F)(hT:T0 < 2 ^ m)(top:∀ S,S < 2 ^ m→f S ≤ f T0)(least:∀ T,T < 2 ^ m→f T=f T0→zF F X T0 m ≤ zF F X T m):∀ S,S < 2 ^ m→f S - zF F X S m ≤ f T0 - zF F X T0 m:=by
 have p32:2 ^ m ≤ 2 ^ 5:=Ao (by decide) m5
 obtain ⟨S1,s1,_,s1t⟩:=mX (fun _=>True) (fun S=>f S - zF F X S m) (2 ^ m) ⟨T0,hT,trivial⟩
 obtain ⟨S,sl,su,sf⟩:=mX (fun S=>f S - zF F X S m=f S1 - zF F X S1 m) f (2 ^ m) ⟨S1,s1,rfl⟩
 have su':f S - zF F X S m=f S1 - zF F X S1 m:=su
 have st:∀ Y,Y < 2 ^ m→f Y - zF F X Y m ≤ f S - zF F X S m:=fun Y hY=>by
  have:f Y - zF F X Y m ≤ f S1 - zF F X S1 m:=s1t Y hY trivial
  omega
 suffices h:f S - zF F X S m ≤ f T0 - zF F X T0 m from fun Y hY=>by have:=st Y hY;omega
 refine BA fun bad=>?_
 obtain ⟨T,tl,⟨tv,tk⟩,tn⟩:=mX (fun T=>f T=f T0∧zF F X T m=zF F X T0 m) (fun T=>-(dist T S:Int)) (2 ^ m) ⟨T0,hT,rfl,rfl⟩
 have fS:f S ≤ f T0:=top S sl
 have ne:f S ≠ f T0:=fun z=>by have:=least S sl z;omega
 obtain ⟨x,xm,xX,xT,xS⟩:=iL (F:=F) (X:=X) (show S < 32 by omega) (show T < 32 by omega) (show F < 32 by omega) m m5 (by omega)
 have x5:x < 5:=by omega
 have tT:=xP (F:=F) (X:=X) (show T < 32 by omega) (show F < 32 by omega) x5 m m5
 have tS:=xP (F:=F) (X:=X) (show S < 32 by omega) (show F < 32 by omega) x5 m m5
 rw [Ak ⟨xm,xX⟩,Ak xT] at tT
 rw [Ak ⟨xm,xX⟩,xS,Aj (by decide)] at tS
 have lT:=kO m5 tl xm
 have lS:=kO m5 sl xm
 rcases ex T S x tl sl xm xT xS with le | ⟨y,ym,yS,yT,le⟩
 ·have a:=st _ lS
  have b:=top _ lT
  by_cases c:f (T ^^^ 2 ^ x)=f T0
  ·have:=least _ lT c
   omega
  ·have g:=sf (S ^^^ 2 ^ x) lS (show f (S ^^^ 2 ^ x) - zF F X (S ^^^ 2 ^ x) m=f S1 - zF F X S1 m by omega)
   omega
 ·have y5:y < 5:=by omega
  have yx:y ≠ x:=fun z=>by rw [z,xS] at yS;cases yS
  have uT:=xP (F:=F) (X:=X) (show T ^^^ 2 ^ x < 32 by omega) (show F < 32 by omega) y5 m m5
  have uS:=xP (F:=F) (X:=X) (show S ^^^ 2 ^ x < 32 by omega) (show F < 32 by omega) y5 m m5
  have bT:qA (T ^^^ 2 ^ x ^^^ F) y=false:=by rw [nE (by omega) (by omega) x5 y5,yT,Al yx];rfl
  have bS:qA (S ^^^ 2 ^ x ^^^ F) y=true:=by rw [nE (by omega) (by omega) x5 y5,yS,Al yx];rfl
  have lT2:=kO m5 lT ym
  have lS2:=kO m5 lS ym
  have a:=st _ lS2
  have b:=top _ lT2
  cases yX:qA X y with
  | true =>
   rw [Ak ⟨ym,yX⟩,bT,Aj (by decide)] at uT
   rw [Ak ⟨ym,yX⟩,Ak bS] at uS
   have d1:=t7 (show T < 32 by omega) (show S < 32 by omega) x5 (oW (F:=F) (by omega) (by omega) (by omega) x5 (by rw [xT,xS];decide))
   have d2:=t7 (show T ^^^ 2 ^ x < 32 by omega) (show S < 32 by omega) y5 (oW (F:=F) (by omega) (by omega) (by omega) y5 (by rw [bT,yS];decide))
   have g:=tn (T ^^^ 2 ^ x ^^^ 2 ^ y) lT2 ⟨by omega,by omega⟩
   have g' : -(dist (T ^^^ 2 ^ x ^^^ 2 ^ y) S:Int) ≤ -(dist T S:Int):=g
   clear uT uS tT tS lT lS lT2 lS2 a b le xm ym hT hF m5 p32 sl tl s1 x5 y5 yx su su' fS ne tv tk bad g
   omega
  | false =>
   rw [Aj (fun z=>by rw [yX] at z;cases z.2)] at uT uS
   by_cases c:f (T ^^^ 2 ^ x ^^^ 2 ^ y)=f T0
   ·have:=least _ lT2 c
    omega
   ·have g:=sf (S ^^^ 2 ^ x ^^^ 2 ^ y) lS2 (show f (S ^^^ 2 ^ x ^^^ 2 ^ y) - zF F X (S ^^^ 2 ^ x ^^^ 2 ^ y) m=f S1 - zF F X S1 m by omega)
    omega
def mxf (u:Nat→Int):Nat→Int
 | 0=>u 0
 | n + 1=>max (mxf u n) (u (n + 1))
theorem zM (u:Nat→Int):∀ {n k},k ≤ n→u k ≤ mxf u n
 | 0,k,h=>by rw [show k=0 by omega];exact Aw _
 | n + 1,k,h=>by
  show u k ≤ max (mxf u n) (u (n + 1))
  by_cases e:k=n + 1
  ·rw [e];omega
  ·have:=zM u (show k ≤ n by omega);omega
theorem zV (u:Nat→Int):∀ n,∃ k,k ≤ n∧mxf u n=u k
 | 0=>⟨0,Ag _,rfl⟩
 | n + 1=>by
  obtain ⟨k,k1,k2⟩:=zV u n
  by_cases c:mxf u n ≤ u (n + 1)
  ·exact ⟨n + 1,Ag _,by show max _ _=_;omega⟩
  ·exact ⟨k,by omega,by show max _ _=_;omega⟩
theorem mxf_is {u:Nat→Int}{n k:Nat}(hk:k ≤ n)(top:∀ j,j ≤ n→u j ≤ u k):mxf u n=u k:=by
 obtain ⟨j,j1,j2⟩:=zV u n
 have:=top j j1
 have:=zM u hk
 omega
theorem lK {u v:Nat→Int}:∀ {n},(∀ k,k ≤ n→u k=v k)→mxf u n=mxf v n
 | 0,h=>h 0 (Ag _)
 | n + 1,h=>by
  show max _ _=max _ _
  rw [lK fun k hk=>h k (by omega),h (n + 1) (Ag _)]
def upX (f:Nat→Int)(m F X:Nat):Int:=mxf (fun h=>f h - zF F X h m) (2 ^ m - 1)
def rT (s:Nat→Int)(m:Nat):Prop:=∀ A i j,A < 2 ^ m→i < m→j < m→i ≠ j→qA A i=false→qA A j=false→s A + s (A ^^^ 2 ^ i ^^^ 2 ^ j) ≤ s (A ^^^ 2 ^ i) + s (A ^^^ 2 ^ j)
theorem up_sub {f:Nat→Int}{m F:Nat}(m5:m ≤ 5)(hF:F < 2 ^ m)(ex:pJ f m F):rT (upX f m F) m:=by
 intro A i j hA hi hj ij ai aj
 have p32:2 ^ m ≤ 2 ^ 5:=Ao (by decide) m5
 have pp:=As m
 have i5:i < 5:=by omega
 have j5:j < 5:=by omega
 have hAi:=kO m5 hA hi
 have hAj:=kO m5 hA hj
 have aij:qA (A ^^^ 2 ^ i) j=false:=by rw [(kG (show A < 32 by omega) i5 j5).1,aj,Al (fun z=>ij z.symm)];rfl
 have m1:=fun h (hh:h < 2 ^ m)=>yF (F:=F) (h:=h) (show A < 32 by omega) (by omega) (by omega) i5 ai m m5
 have m2:=fun h (hh:h < 2 ^ m)=>yF (F:=F) (h:=h) (show A < 32 by omega) (by omega) (by omega) j5 aj m m5
 have m3:=fun h (hh:h < 2 ^ m)=>yF (F:=F) (h:=h) (show A ^^^ 2 ^ i < 32 by omega) (by omega) (by omega) j5 aij m m5
 simp only [Ak hi] at m1
 simp only [Ak hj] at m2 m3
 obtain ⟨S,s1,s2⟩:=zV (fun h=>f h - zF F (A ^^^ 2 ^ i ^^^ 2 ^ j) h m) (2 ^ m - 1)
 obtain ⟨T,t1,t2⟩:=zV (fun h=>f h - zF F A h m) (2 ^ m - 1)
 have s2':upX f m F (A ^^^ 2 ^ i ^^^ 2 ^ j)=f S - zF F (A ^^^ 2 ^ i ^^^ 2 ^ j) S m:=s2
 have t2':upX f m F A=f T - zF F A T m:=t2
 have gi:∀ h,h < 2 ^ m→f h - zF F (A ^^^ 2 ^ i) h m ≤ upX f m F (A ^^^ 2 ^ i):=fun h hh=>zM (fun h=>f h - zF F (A ^^^ 2 ^ i) h m) (show h ≤ 2 ^ m - 1 by omega)
 have gj:∀ h,h < 2 ^ m→f h - zF F (A ^^^ 2 ^ j) h m ≤ upX f m F (A ^^^ 2 ^ j):=fun h hh=>zM (fun h=>f h - zF F (A ^^^ 2 ^ j) h m) (show h ≤ 2 ^ m - 1 by omega)
 have sl:S < 2 ^ m:=by omega
 have tl:T < 2 ^ m:=by omega
 rw [s2',t2',m3 S sl,m1 S sl]
 by_cases c:qA (T ^^^ F) j=true∧qA (S ^^^ F) j=false
 ·have lT:=kO m5 tl hj
  have lS:=kO m5 sl hj
  have tT:=xP (F:=F) (X:=A) (show T < 32 by omega) (show F < 32 by omega) j5 m m5
  have tS:=xP (F:=F) (X:=A) (show S < 32 by omega) (show F < 32 by omega) j5 m m5
  rw [Aj (fun z=>by rw [aj] at z;cases z.2)] at tT tS
  have ji:i ≠ j:=ij
  rcases ex T S j tl sl hj c.1 c.2 with le | ⟨k,km,kS,kT,le⟩
  ·have a:=gi _ lS
   have b:=gj _ lT
   rw [m1 _ lS,nE (by omega) (by omega) j5 i5,Al ji,show (qA (S ^^^ F) i != false)=qA (S ^^^ F) i by cases qA (S ^^^ F) i <;> rfl] at a
   rw [m2 _ lT,nE (by omega) (by omega) j5 j5,c.1,Ar rfl] at b
   rw [c.2]
   simp only [bne_self_eq_false,AR,BE] at b ⊢
   generalize (if qA F i=true then (1:Int) else 0)=z1 at a ⊢
   generalize (if qA F j=true then (1:Int) else 0)=z2 at b ⊢
   generalize (if qA (S ^^^ F) i=true then (1:Int) else 0)=z3 at a ⊢
   clear m1 m2 m3 gi gj s1 t1 s2 t2 s2' t2' hAi hAj pp p32 hA hi hj i5 j5 m5 hF ij lT lS sl tl
   omega
  ·have k5:k < 5:=by omega
   have kj:k ≠ j:=fun z=>by rw [z,c.2] at kS;cases kS
   have lT2:=kO m5 lT km
   have lS2:=kO m5 lS km
   have uT:=xP (F:=F) (X:=A) (show T ^^^ 2 ^ j < 32 by omega) (show F < 32 by omega) k5 m m5
   have uS:=xP (F:=F) (X:=A) (show S ^^^ 2 ^ j < 32 by omega) (show F < 32 by omega) k5 m m5
   have bT:qA (T ^^^ 2 ^ j ^^^ F) k=false:=by rw [nE (by omega) (by omega) j5 k5,kT,Al kj];rfl
   have bS:qA (S ^^^ 2 ^ j ^^^ F) k=true:=by rw [nE (by omega) (by omega) j5 k5,kS,Al kj];rfl
   rw [bT,Aj (show ¬ (false=true) by decide)] at uT
   rw [bS,Ak rfl] at uS
   have a:=gi _ lS2
   have b:=gj _ lT2
   rw [m1 _ lS2,nE (by omega) (by omega) k5 i5,nE (by omega) (by omega) j5 i5,Al ji,show (qA (S ^^^ F) i != false)=qA (S ^^^ F) i by cases qA (S ^^^ F) i <;> rfl] at a
   rw [m2 _ lT2,nE (by omega) (by omega) k5 j5,nE (by omega) (by omega) j5 j5,c.1,Ar rfl,Al (fun z=>kj z.symm)] at b
   rw [c.2]
   have q:∀ b c:Bool,(b=true→c=true→False)→(if (b != c)=true then (1:Int) else 0) ≤ (if b=true then 1 else 0) + if c=true then 1 else 0:=by intro b c;cases b <;> cases c <;> simp
   have w:(if (qA (S ^^^ F) i != decide (i=k))=true then (1:Int) else 0) ≤ if qA (S ^^^ F) i=true then 1 else 0:=by
    by_cases e:i=k
    ·subst e
     rw [kS,Ar rfl]
     decide
    ·rw [Al e]
     cases qA (S ^^^ F) i <;> decide
   simp only [bne_self_eq_false,AR,BE,Bool.bne_false] at b ⊢
   generalize (if qA F i=true then (1:Int) else 0)=z1 at a ⊢
   generalize (if qA F j=true then (1:Int) else 0)=z2 at b ⊢
   generalize (if qA (S ^^^ F) i=true then (1:Int) else 0)=z3 at w ⊢
   generalize (if (qA (S ^^^ F) i != decide (i=k))=true then (1:Int) else 0)=z4 at w a
   clear m1 m2 m3 gi gj s1 t1 s2 t2 s2' t2' hAi hAj pp p32 hA hi hj i5 j5 m5 hF ij lT lS sl tl lT2 lS2 k5 kj q
   by_cases d:qA A k=true
   ·rw [Ak ⟨km,d⟩] at uT uS
    omega
   ·rw [Aj (fun z=>d z.2)] at uT uS
    omega
 ·have a:=gi S sl
  have b:=gj T tl
  rw [m1 S sl] at a
  rw [m2 T tl] at b
  have q:(if qA (T ^^^ F) j=true then (1:Int) else 0) ≤ if qA (S ^^^ F) j=true then 1 else 0:=by
   revert c
   cases qA (T ^^^ F) j <;> cases qA (S ^^^ F) j <;> simp
  generalize (if qA F i=true then (1:Int) else 0)=z1 at a ⊢
  generalize (if qA F j=true then (1:Int) else 0)=z2 at b ⊢
  generalize (if qA (S ^^^ F) i=true then (1:Int) else 0)=z3 at a ⊢
  generalize (if qA (S ^^^ F) j=true then (1:Int) else 0)=z4 at q ⊢
  generalize (if qA (T ^^^ F) j=true then (1:Int) else 0)=z5 at q b
  clear m1 m2 m3 gi gj s1 t1 s2 t2 s2' t2' hAi hAj pp p32 hA hi hj i5 j5 m5 hF ij sl tl
  omega
def zB (A:Nat)(l:List Nat):Nat:=l.foldl (fun h t=>h ^^^ 2 ^ t) A
def eD (m A:Nat):List Nat→Prop
 | []=>True
 | t :: l=>t < m∧qA A t=false∧eD m (A ^^^ 2 ^ t) l
theorem tX {m:Nat}(m5:m ≤ 5):∀ (l:List Nat) {A x:Nat},A < 2 ^ m→x < m→eD m A l→qA A x=false→x ∉ l→eD m (A ^^^ 2 ^ x) l
 | [],_,_,_,_,_,_,_=>trivial
 | t :: l,A,x,hA,hx,⟨t1,t2,t3⟩,ax,xl=>by
  have p32:2 ^ m ≤ 2 ^ 5:=Ao (by decide) m5
  have xt:x ≠ t:=fun z=>xl (z ▸ Af)
  refine ⟨t1,?_,?_⟩
  ·rw [(kG (show A < 32 by omega) (show x < 5 by omega) (show t < 5 by omega)).1,t2,Al (fun z=>xt z.symm)];rfl
  ·rw [jZ]
   refine tX m5 l (kO m5 hA t1) hx t3 ?_ (fun z=>xl (Ad _ z))
   rw [(kG (show A < 32 by omega) (show t < 5 by omega) (show x < 5 by omega)).1,ax,Al xt];rfl
theorem sF {s:Nat→Int}{m:Nat}(m5:m ≤ 5)(sb:rT s m):∀ (l:List Nat) {A x:Nat},A < 2 ^ m→x < m→eD m A l→qA A x=false→x ∉ l→s (zB A l ^^^ 2 ^ x) - s (zB A l) ≤ s (A ^^^ 2 ^ x) - s A
 | [],A,x,_,_,_,_,_=>Aw _
 | t :: l,A,x,hA,hx,⟨t1,t2,t3⟩,ax,xl=>by
  have p32:2 ^ m ≤ 2 ^ 5:=Ao (by decide) m5
  have xt:x ≠ t:=fun z=>xl (z ▸ Af)
  have ih:=sF m5 sb l (kO m5 hA t1) hx t3 (by rw [(kG (show A < 32 by omega) (show t < 5 by omega) (show x < 5 by omega)).1,ax,Al xt];rfl) (fun z=>xl (Ad _ z))
  have:=sb A t x hA t1 hx (fun z=>xt z.symm) t2 ax
  show s (zB (A ^^^ 2 ^ t) l ^^^ 2 ^ x) - s (zB (A ^^^ 2 ^ t) l) ≤ _
  omega
theorem foldX_tog (l:List Nat):∀ (A t:Nat),zB (A ^^^ 2 ^ t) l=zB A l ^^^ 2 ^ t:=by
 induction l with
 | nil=>intro A t;rfl
 | cons x l ih =>
  intro A t
  show zB (A ^^^ 2 ^ t ^^^ 2 ^ x) l=zB (A ^^^ 2 ^ x) l ^^^ 2 ^ t
  rw [jZ,ih]
theorem iB {s:Nat→Int}{m:Nat}(m5:m ≤ 5)(sb:rT s m)(d:List Nat):∀ (l:List Nat) {C:Nat},C < 2 ^ m→eD m C l→eD m C d→(∀ x ∈ l,x ∉ d)→s (zB (zB C d) l) - s (zB C d) ≤ s (zB C l) - s C
 | [],_,_,_,_,_=>by show s _ - s _ ≤ s _ - s _;exact Int.le_of_eq (by show s (zB _ _) - s (zB _ _)=s _ - s _;simp [zB])
 | t :: l,C,hC,⟨t1,t2,t3⟩,fd,xl=>by
  have td:=xl t Af
  have ih:=iB m5 sb d l (kO m5 hC t1) t3 (tX m5 d hC t1 fd t2 td) (fun x hx=>xl x (Ad _ hx))
  have:=sF m5 sb d hC t1 fd t2 td
  rw [foldX_tog] at ih
  show s (zB (zB C d ^^^ 2 ^ t) l) - s (zB C d) ≤ s (zB (C ^^^ 2 ^ t) l) - s C
  omega
def mE (A B:Nat):List Nat:=(List.range 5).filter fun t=>qA A t && !qA B t
def oI (A:Nat):List Nat→Bool
 | []=>true
 | t :: l=>decide (t < 5) && (!qA A t) && oI (A ^^^ 2 ^ t) l
theorem sW:∀ A B:_root_.Fin 32,oI (A.val &&& B.val) (mE A.val B.val)=true∧zB (A.val &&& B.val) (mE A.val B.val)=A.val∧zB B.val (mE A.val B.val)=A.val ||| B.val∧(A.val ||| B.val) < 32:=by decide +kernel
theorem rK {m A:Nat}:∀ l:List Nat,(∀ t ∈ l,t < m)→oI A l=true→eD m A l
 | [],_,_=>trivial
 | t :: l,hl,h=>by
  have h':(decide (t < 5) && (!qA A t) && oI (A ^^^ 2 ^ t) l)=true:=h
  rw [AL,AL] at h'
  exact ⟨hl t Af,by simpa using h'.1.2,rK l (fun x hx=>hl x (Ad _ hx)) h'.2⟩
theorem sub_lat {s:Nat→Int}{m:Nat}(m5:m ≤ 5)(sb:rT s m){A B:Nat}(hA:A < 2 ^ m)(hB:B < 2 ^ m):s (A &&& B) + s (A ||| B) ≤ s A + s B:=by
 have p32:2 ^ m ≤ 2 ^ 5:=Ao (by decide) m5
 obtain ⟨f1,e1,e2,_⟩:=sW ⟨A,by omega⟩ ⟨B,by omega⟩
 obtain ⟨f2,e3,_,_⟩:=sW ⟨B,by omega⟩ ⟨A,by omega⟩
 simp only at f1 e1 e2 f2 e3
 rw [Nat.and_comm] at f2 e3
 have mem:∀ (A B:Nat),A < 2 ^ m→∀ t ∈ mE A B,t < m∧qA A t=true∧qA B t=false:=fun A B hA t ht=>by
  unfold mE at ht
  rw [Bj,AI,AL] at ht
  exact ⟨yC m5 hA ht.1 ht.2.1,ht.2.1,by simpa using ht.2.2⟩
 have hC:A &&& B < 2 ^ m:=Cf Nat.and_le_left hA
 have:=iB m5 sb (mE B A) (mE A B) hC (rK _ (fun t ht=>(mem A B hA t ht).1) f1) (rK _ (fun t ht=>(mem B A hB t ht).1) f2) (fun x hx hy=>by
  have a:=(mem A B hA x hx).2.1
  have b:=(mem B A hB x hy).2.2
  rw [a] at b
  cases b)
 rw [e3,e2,e1] at this
 omega
def fmin (s:Nat→Int)(al:Nat→Bool):Nat→Nat
 | 0=>0
 | n + 1=>if al n=true∧s n < s (fmin s al n) then n else fmin s al n
theorem zH {s:Nat→Int}{al:Nat→Bool}(a0:al 0=true):∀ n,al (fmin s al n)=true∧(fmin s al n=0∨fmin s al n < n)∧∀ Y,Y < n→al Y=true→s (fmin s al n) < s Y∨(s (fmin s al n)=s Y∧fmin s al n ≤ Y)
 | 0=>⟨a0,.inl rfl,fun Y h=>by omega⟩
 | n + 1=>by
  obtain ⟨i1,i2,i3⟩:=zH (s:=s) a0 n
  show al (if al n=true∧s n < s (fmin s al n) then n else fmin s al n)=true∧_
  have e:fmin s al (n + 1)=if al n=true∧s n < s (fmin s al n) then n else fmin s al n:=rfl
  rw [e]
  by_cases c:al n=true∧s n < s (fmin s al n)
  ·rw [Ak c]
   refine ⟨c.1,.inr (Be n),fun Y hY aY=>?_⟩
   by_cases z:Y=n
   ·rw [z];exact .inr ⟨rfl,Ag _⟩
   ·rcases i3 Y (by omega) aY with h | h
    ·exact .inl (by omega)
    ·exact .inl (by omega)
  ·rw [Aj c]
   refine ⟨i1,i2.imp id (by omega),fun Y hY aY=>?_⟩
   by_cases z:Y=n
   ·subst z
    by_cases d:s Y < s (fmin s al Y)
    ·exact absurd ⟨aY,d⟩ c
    ·rcases i2 with h | h
     ·by_cases q:s (fmin s al Y) < s Y
      ·exact .inl q
      ·exact .inr ⟨by omega,by omega⟩
     ·by_cases q:s (fmin s al Y) < s Y
      ·exact .inl q
      ·exact .inr ⟨by omega,by omega⟩
   ·exact i3 Y (by omega) aY
theorem mW {s s':Nat→Int}{al al':Nat→Bool}{c:Int}:∀ {n},(∀ Y,Y ≤ n→s Y=s' Y + c)→(∀ Y,Y < n→al Y=al' Y)→fmin s al n=fmin s' al' n
 | 0,_,_=>rfl
 | n + 1,hs,ha=>by
  have ih:=mW (n:=n) (fun Y hY=>hs Y (by omega)) (fun Y hY=>ha Y (by omega))
  have l:∀ n,fmin s' al' n ≤ n:=fun n=>by
   induction n with
   | zero=>exact Ag _
   | succ n ih=>show (if _ then n else _) ≤ n + 1;split <;> omega
  show (if _ then n else _)=if _ then n else _
  rw [ih,ha n (by omega)]
  have e1:=hs n (by omega)
  have e2:=hs (fmin s' al' n) (by have:=l n;omega)
  have e:(s n < s (fmin s' al' n)) ↔ (s' n < s' (fmin s' al' n)):=by omega
  simp only [e]
theorem fmin_uniq {s:Nat→Int}{al:Nat→Bool}(a0:al 0=true){n b:Nat}(n0:0 < n)(hb:b < n)(ab:al b=true)(h:∀ Y,Y < n→al Y=true→s b < s Y∨(s b=s Y∧b ≤ Y)):b=fmin s al n:=by
 obtain ⟨i1,i2,i3⟩:=zH (s:=s) a0 n
 have l:fmin s al n < n:=by omega
 have h1:=h _ l i1
 have h2:=i3 b hb ab
 omega
theorem tY {s:Nat→Int}{m K:Nat}(m5:m ≤ 5)(sb:rT s m){B:Nat}(hB:B < 2 ^ m)(aB:B &&& K=0)(eB:s B=s (fmin s (fun X=>decide (X &&& K=0)) (2 ^ m))):fmin s (fun X=>decide (X &&& K=0)) (2 ^ m) &&& B=fmin s (fun X=>decide (X &&& K=0)) (2 ^ m):=by
 have pp:=As m
 obtain ⟨i1,i2,i3⟩:=zH (s:=s) (al:=fun X=>decide (X &&& K=0)) (by simp) (2 ^ m)
 revert i1 i2 i3 eB
 generalize fmin s (fun X=>decide (X &&& K=0)) (2 ^ m)=b
 intro eB i1 i2 i3
 have bl:b < 2 ^ m:=by omega
 have bK:b &&& K=0:=by simpa using i1
 have le:=sub_lat m5 sb bl hB
 have k1:(b &&& B) &&& K=0:=by rw [Nat.and_assoc,Nat.and_comm B K,← Nat.and_assoc,bK,Nat.zero_and]
 have k2:(b ||| B) &&& K=0:=by rw [Nat.and_or_distrib_right,bK,aB,Nat.or_self]
 have l1:b &&& B ≤ b:=Nat.and_le_left
 have o1:=i3 (b &&& B) (by omega) (by simpa using k1)
 have o2:=i3 (b ||| B) (Nat.or_lt_two_pow bl hB) (by simpa using k2)
 omega
def yW (ws ps:List Int)(h:Nat):Int:=ws.getD h 0 - q9 ps h ps.length
def kE (ws ps:List Int):Int:=mxf (yW ws ps) (2 ^ ps.length - 1)
def q5 (ts:List (List Int))(ps:List Int):Int:=(ts.map fun ws=>kE ws ps).sum + ps.sum
theorem nS {ws ps:List Int}{F X:Nat}:kE ws (qS ps F X)=upX (yW ws ps) ps.length F X:=by
 unfold kE upX
 rw [jB]
 refine lK fun h _=>?_
 unfold yW
 rw [jB,fD _ (Ag _)]
 omega
theorem zD {m t:Nat}(m5:m ≤ 5)(ht:t < m):qA (2 ^ m - 1) t=true:=by
 have key:∀ (m:_root_.Fin 6) (t:_root_.Fin 5),t.val < m.val→qA (2 ^ m.val - 1) t.val=true:=by decide +kernel
 exact key ⟨m,by omega⟩ ⟨t,by omega⟩ ht
theorem yZ:∀ (ps:List Int) (h n:Nat),(∀ t,t < n→qA h t=true)→q9 ps h n=(ps.take n).sum
 | ps,h,0,_=>by simp [q9]
 | ps,h,n + 1,b=>by
  show q9 ps h n + (if qA h n=true then ps.getD n 0 else 0)=_
  rw [yZ ps h n (fun t ht=>b t (by omega)),Ak (b n (by omega)),AB,BD]
  congr 1
  rw [Aa]
  cases ps[n]? <;> simp
theorem fB {ps:List Int}{F X:Nat}(p5:ps.length ≤ 5):(qS ps F X).sum=ps.sum + zF F X (2 ^ ps.length - 1) ps.length:=by
 have on:=fun t (ht:t < ps.length)=>zD p5 ht
 have a:=yZ (qS ps F X) (2 ^ ps.length - 1) ps.length on
 have b:=yZ ps (2 ^ ps.length - 1) ps.length on
 rw [A9 (by rw [jB];exact Ag _)] at a
 rw [A9 (Ag _)] at b
 rw [← a,← b,fD _ (Ag _)]
theorem eZ {α:Type}{m:Nat}{g:α→Nat→Int}:∀ l:List α,(∀ x ∈ l,rT (g x) m)→rT (fun X=>(l.map fun x=>g x X).sum) m
 | [],_=>fun A i j _ _ _ _ _ _=>by simp
 | x :: l,h=>fun A i j a1 a2 a3 a4 a5 a6=>by
  have h1:=h x Af A i j a1 a2 a3 a4 a5 a6
  have h2:=eZ l (fun y hy=>h y (Ad _ hy)) A i j a1 a2 a3 a4 a5 a6
  simp only [Av,AF] at h2 ⊢
  omega
def Kinds (ts:List (List Int))(m F:Nat):Prop:=∀ ws ∈ ts,pJ (fun h=>ws.getD h 0) m F
theorem aL {ws ps:List Int}{F:Nat}(p5:ps.length ≤ 5)(hF:F < 2 ^ ps.length)(ex:pJ (fun h=>ws.getD h 0) ps.length F):pJ (yW ws ps) ps.length F:=ext_less p5 hF ex
theorem sS {m F:Nat}(m5:m ≤ 5)(hF:F < 2 ^ m):rT (fun X=>zF F X (2 ^ m - 1) m) m:=by
 intro A i j hA hi hj ij ai aj
 have p32:2 ^ m ≤ 2 ^ 5:=Ao (by decide) m5
 have pp:=As m
 have aij:qA (A ^^^ 2 ^ i) j=false:=by rw [(kG (show A < 32 by omega) (show i < 5 by omega) (show j < 5 by omega)).1,aj,Al (fun z=>ij z.symm)];rfl
 have l:=kO m5 hA hi
 have m1:=yF (F:=F) (h:=2 ^ m - 1) (show A < 32 by omega) (by omega) (by omega) (show i < 5 by omega) ai m m5
 have m2:=yF (F:=F) (h:=2 ^ m - 1) (show A < 32 by omega) (by omega) (by omega) (show j < 5 by omega) aj m m5
 have m3:=yF (F:=F) (h:=2 ^ m - 1) (show A ^^^ 2 ^ i < 32 by omega) (by omega) (by omega) (show j < 5 by omega) aij m m5
 rw [Ak hi] at m1
 rw [Ak hj] at m2 m3
 show zF F A (2 ^ m - 1) m + zF F (A ^^^ 2 ^ i ^^^ 2 ^ j) (2 ^ m - 1) m ≤ zF F (A ^^^ 2 ^ i) (2 ^ m - 1) m + zF F (A ^^^ 2 ^ j) (2 ^ m - 1) m
 omega
theorem surp_sub {ts:List (List Int)}{ps:List Int}{F:Nat}(p5:ps.length ≤ 5)(hF:F < 2 ^ ps.length)(kd:Kinds ts ps.length F):rT (fun X=>q5 ts (qS ps F X)) ps.length:=by
 have h1:=eZ (m:=ps.length) (g:=fun ws X=>kE ws (qS ps F X)) ts (fun ws hw=>by
  have:=up_sub p5 hF (aL p5 hF (kd ws hw))
  intro A i j a1 a2 a3 a4 a5 a6
  simp only [nS]
  exact this A i j a1 a2 a3 a4 a5 a6)
 have h2:=sS p5 hF
 intro A i j a1 a2 a3 a4 a5 a6
 have g1:=h1 A i j a1 a2 a3 a4 a5 a6
 have g2:=h2 A i j a1 a2 a3 a4 a5 a6
 unfold q5
 simp only [fB p5]
 simp only at g1 g2
 omega
def j6 (F:Nat)(ps:List Int):Nat→Nat
 | 0=>0
 | n + 1=>j6 F ps n + if qA F n=true∧ps.getD n 0=0 then 2 ^ n else 0
theorem y3 (F:Nat)(ps:List Int):∀ n,j6 F ps n < 2 ^ n
 | 0=>by show 0 < 1;decide
 | n + 1=>by
  have:=y3 F ps n
  have e:2 ^ (n + 1)=2 ^ n + 2 ^ n:=by rw [CT];omega
  show j6 F ps n + (if qA F n=true∧ps.getD n 0=0 then 2 ^ n else 0) < 2 ^ (n + 1)
  rw [e]
  have pp:=As n
  revert this pp
  generalize 2 ^ n=q
  intro this pp
  split <;> omega
theorem wD (F:Nat)(ps:List Int):∀ k,k ≤ 5→∀ t,t < 5→(qA (j6 F ps k) t=true ↔ t < k∧qA F t=true∧ps.getD t 0=0)
 | 0,_,t,ht=>by
  show qA 0 t=true ↔ _
  unfold qA
  simp
 | k + 1,hk,t,ht=>by
  have ih:=wD F ps k (by omega) t ht
  have lt:=y3 F ps k
  have p:2 ^ k ≤ 2 ^ 4:=Ao (by decide) (by omega)
  have key:∀ (x:_root_.Fin 32) (k t:_root_.Fin 5),x.val < 2 ^ k.val→qA (x.val + 2 ^ k.val) t.val=(if t.val=k.val then true else qA x.val t.val)∧qA x.val k.val=false:=by decide +kernel
  have kk:=key ⟨j6 F ps k,by omega⟩ ⟨k,by omega⟩ ⟨t,ht⟩ lt
  show qA (j6 F ps k + (if qA F k=true∧ps.getD k 0=0 then 2 ^ k else 0)) t=true ↔ _
  by_cases e:qA F k=true∧ps.getD k 0=0
  ·rw [Ak e,kk.1]
   by_cases z:t=k
   ·rw [Ak z,z]
    exact ⟨fun _=>⟨Be k,e⟩,fun _=>rfl⟩
   ·rw [Aj z,ih]
    constructor
    ·rintro ⟨a,b⟩;exact ⟨by omega,b⟩
    ·rintro ⟨a,b⟩;exact ⟨by omega,b⟩
  ·rw [Aj e,Nat.add_zero,ih]
   constructor
   ·rintro ⟨a,b⟩;exact ⟨by omega,b⟩
   ·rintro ⟨a,b⟩
    refine ⟨?_,b⟩
    by_cases z:t=k
    ·exact absurd (z ▸ b) e
    ·omega
theorem hV {X K:Nat}(hX:X < 32)(hK:K < 32):X &&& K=0 ↔ ∀ t,t < 5→¬ (qA X t=true∧qA K t=true):=by
 have key:∀ (X K:_root_.Fin 32),X.val &&& K.val=0 ↔ ∀ t:_root_.Fin 5,¬ (qA X.val t.val=true∧qA K.val t.val=true):=by decide +kernel
 rw [key ⟨X,hX⟩ ⟨K,hK⟩]
 exact ⟨fun h t ht=>h ⟨t,ht⟩,fun h t=>h t.val t.isLt⟩
def wA (F:Nat)(ps:List Int)(X:Nat):Bool:=decide (X &&& j6 F ps ps.length=0)
def vQ (ts:List (List Int))(F:Nat)(ps:List Int):Nat:=fmin (fun X=>q5 ts (qS ps F X)) (wA F ps) (2 ^ ps.length)
theorem yO (F:Nat)(ps:List Int):wA F ps 0=true:=by unfold wA;simp
theorem aA (ts:List (List Int))(F:Nat)(ps:List Int):vQ ts F ps < 2 ^ ps.length:=by
 have pp:=As ps.length
 have:=(zH (s:=fun X=>q5 ts (qS ps F X)) (yO F ps) (2 ^ ps.length)).2.1
 unfold vQ
 omega
theorem nR (ps:List Int)(F:Nat):qS ps F 0=ps:=by
 refine List.ext_getElem? fun t=>?_
 by_cases h:t < ps.length
 ·rw [step_at h,Aj (by unfold qA;simp),Aa,Am h]
  rfl
 ·rw [Bx (by rw [jB];omega),Bx (by omega)]
theorem nxt_less {ts:List (List Int)}{F:Nat}{ps:List Int}(n:vQ ts F ps ≠ 0):q5 ts (qS ps F (vQ ts F ps)) < q5 ts ps:=by
 have pp:=As ps.length
 have:=(zH (s:=fun X=>q5 ts (qS ps F X)) (yO F ps) (2 ^ ps.length)).2.2 0 pp (yO F ps)
 have e:fmin (fun X=>q5 ts (qS ps F X)) (wA F ps) (2 ^ ps.length)=vQ ts F ps:=rfl
 rw [e] at this
 simp only [nR] at this
 omega
theorem pS {F X:Nat}{ps:List Int}(p5:ps.length ≤ 5)(hX:X < 2 ^ ps.length)(al:wA F ps X=true)(nn:∀ x ∈ ps,0 ≤ x):∀ x ∈ qS ps F X,0 ≤ x:=by
 intro x hx
 have p32:2 ^ ps.length ≤ 2 ^ 5:=Ao (by decide) p5
 have st:=y3 F ps ps.length
 unfold qS at hx
 obtain ⟨t,ht,rfl⟩:=Ae.mp hx
 rw [AI] at ht
 have g:0 ≤ ps.getD t 0:=by
  rw [Aa,Am ht]
  exact nn _ (AN ht)
 unfold wA at al
 have al':=(hV (show X < 32 by omega) (show j6 F ps ps.length < 32 by omega)).mp (Bs al) t (by omega)
 rw [wD F ps _ p5 t (by omega)] at al'
 split
 ·rename_i b
  split
  ·rename_i c
   have:ps.getD t 0 ≠ 0:=fun z=>al' ⟨b,ht,c,z⟩
   omega
  ·omega
 ·exact g
theorem aD (ts:List (List Int))(F:Nat)(ps:List Int):wA F ps (vQ ts F ps)=true:=(zH (s:=fun X=>q5 ts (qS ps F X)) (yO F ps) (2 ^ ps.length)).1
theorem vV:∀ (l:List Int),(∀ x ∈ l,0 ≤ x)→0 ≤ l.sum
 | [],_=>by simp
 | x :: l,h=>by
  have:=h x Af
  have:=vV l fun y hy=>h y (Ad _ hy)
  rw [AF]
  omega
theorem dA (ps:List Int):∀ n,q9 ps 0 n=0
 | 0=>rfl
 | n + 1=>by
  show q9 ps 0 n + (if qA 0 n=true then ps.getD n 0 else 0)=0
  rw [dA ps n,Aj (by unfold qA;simp)]
  rfl
theorem surp_nn {ts:List (List Int)}{ps:List Int}(z:∀ ws ∈ ts,0 ≤ ws.getD 0 0)(nn:∀ x ∈ ps,0 ≤ x):0 ≤ q5 ts ps:=by
 have h1:=vV (ts.map fun ws=>kE ws ps) (fun x hx=>by
  obtain ⟨ws,hw,rfl⟩:=Ae.mp hx
  have:=zM (yW ws ps) (AZ (2 ^ ps.length - 1))
  have g:yW ws ps 0=ws.getD 0 0:=by unfold yW;rw [dA];omega
  have:=z ws hw
  unfold kE
  omega)
 have h2:=vV ps nn
 unfold q5
 omega
def uF (ts:List (List Int))(ps qs:List Int):Prop:=∀ ws ∈ ts,∀ h,h < 2 ^ ps.length→(yW ws ps h=kE ws ps ↔ yW ws qs h=kE ws qs)
theorem up_same {ws ps qs:List Int}{F:Nat}(p5:ps.length ≤ 5)(hl:ps.length=qs.length)(hF:F < 2 ^ ps.length)(ex:pJ (fun h=>ws.getD h 0) ps.length F)(bs:∀ h,h < 2 ^ ps.length→(yW ws ps h=kE ws ps ↔ yW ws qs h=kE ws qs))(X:Nat):kE ws (qS ps F X) - kE ws ps=kE ws (qS qs F X) - kE ws qs:=by
 have pp:=As ps.length
 obtain ⟨k,k1,k2⟩:=zV (yW ws ps) (2 ^ ps.length - 1)
 have k2':kE ws ps=yW ws ps k:=k2
 obtain ⟨T,t1,t2,t3⟩:=mX (fun h=>yW ws ps h=kE ws ps) (fun h=>- zF F X h ps.length) (2 ^ ps.length) ⟨k,by omega,k2'.symm⟩
 have t2':=(bs T t1).mp t2
 have one:∀ (rs:List Int),rs.length=ps.length→pJ (yW ws rs) rs.length F→yW ws rs T=kE ws rs→(∀ h,h < 2 ^ ps.length→(yW ws rs h=kE ws rs→yW ws ps h=kE ws ps))→kE ws (qS rs F X)=kE ws rs - zF F X T ps.length:=fun rs hr er tr br=>by
  rw [nS]
  have top:∀ S,S < 2 ^ rs.length→yW ws rs S ≤ yW ws rs T:=fun S hS=>by
   rw [tr]
   exact zM (yW ws rs) (show S ≤ 2 ^ rs.length - 1 by omega)
  have bm:=aU (X:=X) (by omega) (by rw [hr];exact hF) er (by rw [hr];exact t1) top (fun S hS e=>by
   have:=t3 S (by rw [← hr];exact hS) (br S (by rw [← hr];exact hS) (by omega))
   rw [hr]
   omega)
  have e:=mxf_is (u:=fun h=>yW ws rs h - zF F X h rs.length) (n:=2 ^ rs.length - 1) (k:=T) (by rw [hr];omega) (fun j hj=>bm j (by rw [hr] at hj ⊢;omega))
  unfold upX
  rw [e,tr,hr]
 have a:=one ps rfl (aL p5 hF ex) t2 (fun _ _ e=>e)
 have b:=one qs hl.symm (by rw [← hl];exact (hl ▸ aL (ws:=ws) (ps:=qs) (F:=F) (by omega) (by rw [← hl];exact hF) (by rw [← hl];exact ex))) t2' (fun h hh e=>(bs h hh).mpr e)
 omega
theorem nxt_same {ts:List (List Int)}{F:Nat}{ps qs:List Int}(p5:ps.length ≤ 5)(hl:ps.length=qs.length)(hF:F < 2 ^ ps.length)(kd:Kinds ts ps.length F)(bs:uF ts ps qs)(al:∀ X,X < 2 ^ ps.length→wA F ps X=wA F qs X):vQ ts F ps=vQ ts F qs:=by
 unfold vQ
 rw [← hl]
 refine mW (c:=q5 ts ps - q5 ts qs) (fun X _=>?_) al
 have g:∀ l:List (List Int),(∀ ws ∈ l,ws ∈ ts)→(l.map fun ws=>kE ws (qS ps F X)).sum - (l.map fun ws=>kE ws ps).sum=(l.map fun ws=>kE ws (qS qs F X)).sum - (l.map fun ws=>kE ws qs).sum:=by
  intro l
  induction l with
  | nil=>intro _;rfl
  | cons ws l ih =>
   intro h
   have a:=ih fun x hx=>h x (Ad _ hx)
   have hw:=h ws Af
   have b:=up_same p5 hl hF (kd ws hw) (bs ws hw) X
   simp only [Av,AF]
   omega
 have a:=g ts (fun _ h=>h)
 have b:=fB (F:=F) (X:=X) p5
 have c:=fB (ps:=qs) (F:=F) (X:=X) (by omega)
 rw [← hl] at c
 show q5 ts (qS ps F X)=q5 ts (qS qs F X) + (q5 ts ps - q5 ts qs)
 unfold q5
 omega
def zE (ts:List (List Int))(F:Nat):Nat→List Int→List Nat × List Int
 | 0,ps=>([],ps)
 | n + 1,ps=>if vQ ts F ps=0 then ([],ps) else (vQ ts F ps :: (zE ts F n (qS ps F (vQ ts F ps))).1,(zE ts F n (qS ps F (vQ ts F ps))).2)
theorem iP {ts:List (List Int)}{F n:Nat}{ps:List Int}(h:vQ ts F ps=0):zE ts F n ps=([],ps):=by
 cases n with
 | zero=>rfl
 | succ n=>show (if _ then _ else _)=_;rw [Ak h]
theorem mD {ts:List (List Int)}{F n:Nat}{ps:List Int}(z:∀ ws ∈ ts,0 ≤ ws.getD 0 0)(p5:ps.length ≤ 5)(nn:∀ x ∈ ps,0 ≤ x)(sn:q5 ts ps ≤ (n:Int))(h:vQ ts F ps ≠ 0):∃ k,n=k + 1∧q5 ts (qS ps F (vQ ts F ps)) ≤ (k:Int)∧(∀ x ∈ qS ps F (vQ ts F ps),0 ≤ x)∧zE ts F n ps=(vQ ts F ps :: (zE ts F k (qS ps F (vQ ts F ps))).1,(zE ts F k (qS ps F (vQ ts F ps))).2):=by
 have l:=nxt_less h
 have nn':=pS p5 (aA ts F ps) (aD ts F ps) nn
 have g:=surp_nn z nn'
 cases n with
 | zero=>omega
 | succ k=>exact ⟨k,rfl,by omega,nn',by show (if _ then _ else _)=_;rw [Aj h]⟩
theorem pQ {ps:List Int}{F X:Nat}{c:Int}(h:∀ x ∈ ps,x ≤ c):∀ x ∈ qS ps F X,x ≤ c + 1:=fun x hx=>by
 unfold qS at hx
 obtain ⟨t,ht,rfl⟩:=Ae.mp hx
 rw [AI] at ht
 have g:ps.getD t 0 ≤ c:=by
  rw [Aa,Am ht]
  exact h _ (AN ht)
 split
 ·split <;> omega
 ·omega
theorem ex_most (P:Int→Prop)(B:Int)(hb:∀ x,P x→x ≤ B)(h:∃ x,P x):∃ x,P x∧∀ y,P y→y ≤ x:=by
 obtain ⟨x,px⟩:=h
 have go:∀ (n:Nat) (x:Int),P x→(B - x).toNat ≤ n→∃ x,P x∧∀ y,P y→y ≤ x:=by
  intro n
  induction n with
  | zero=>exact fun x px hn=>⟨x,px,fun y py=>by have:=hb y py;omega⟩
  | succ n ih =>
   intro x px hn
   by_cases c:∃ y,P y∧x < y
   ·obtain ⟨y,py,xy⟩:=c
    have:=hb y py
    exact ih y py (by omega)
   ·refine ⟨x,px,fun y py=>?_⟩
    by_cases d:x < y
    ·exact absurd ⟨y,py,d⟩ c
    ·omega
 exact go _ x px (Ag _)
def IsNu (Ed:Edge→Prop)(A:Nat→Prop)(x:Int):Prop:=(∃ M,Mat Ed pL pR A M∧jN M=x)∧∀ M,Mat Ed pL pR A M→jN M ≤ x
theorem nu_ex {Ed:Edge→Prop}{A:Nat→Prop}(B:Int)(hb:∀ M,Mat Ed pL pR A M→jN M ≤ B):∃ x,IsNu Ed A x:=by
 obtain ⟨x,⟨M,hM,e⟩,h⟩:=ex_most (fun x=>∃ M,Mat Ed pL pR A M∧jN M=x) B (fun x ⟨M,hM,e⟩=>e ▸ hb M hM) ⟨0,[],Mat.nil,rfl⟩
 exact ⟨x,⟨M,hM,e⟩,fun M hM=>h _ ⟨M,hM,rfl⟩⟩
def sumF (f:Nat→Int)(l:List Nat):Int:=(l.map f).sum
theorem kD (f:Nat→Int)(x:Nat)(l:List Nat):sumF f (x :: l)=f x + sumF f l:=by unfold sumF;rw [Av,AF]
theorem cJ (f:Nat→Int)(l k:List Nat):sumF f (l ++ k)=sumF f l + sumF f k:=by unfold sumF;rw [A4,BD]
theorem sumF_perm (f:Nat→Int){l k:List Nat}(h:l.Perm k):sumF f l=sumF f k:=by
 induction h with
 | nil=>rfl
 | cons x _ ih=>rw [kD,kD,ih]
 | swap x y l=>rw [kD,kD,kD,kD];omega
 | trans _ _ h1 h2=>exact h1.trans h2
theorem bP {f:Nat→Int}:∀ {l:List Nat},(∀ x ∈ l,0 ≤ f x)→0 ≤ sumF f l
 | [],_=>Aw _
 | x :: l,h=>by
  have a:=h x Af
  have b:=bP (f:=f) fun y (hy:y ∈ l)=>h y (Ad _ hy)
  rw [kD]
  omega
theorem gX {f g:Nat→Int}:∀ {l:List Nat},(∀ x ∈ l,f x ≤ g x)→sumF f l ≤ sumF g l
 | [],_=>Aw _
 | x :: l,h=>by
  have a:=h x Af
  have b:=gX (f:=f) (g:=g) fun y (hy:y ∈ l)=>h y (Ad _ hy)
  rw [kD,kD]
  omega
theorem j0 (f g:Nat→Int):∀ l:List Nat,sumF (fun x=>f x + g x) l=sumF f l + sumF g l
 | []=>rfl
 | x :: l=>by
  rw [kD,kD,kD,j0 f g l]
  omega
theorem sE (f g:Nat→Int):∀ l:List Nat,sumF (fun x=>f x - g x) l=sumF f l - sumF g l
 | []=>rfl
 | x :: l=>by
  rw [kD,kD,kD,sE f g l]
  omega
theorem zS (f:Nat→Int):∀ (l' l:List Nat),l'.Nodup→(∀ x ∈ l,0 ≤ f x)→(∀ x ∈ l',f x ≤ 0∨x ∈ l)→sumF f l' ≤ sumF f l
 | [],l,_,h0,_=>bP h0
 | x :: l',l,nd,h0,hm=>by
  rw [AS] at nd
  rw [kD]
  by_cases c:x ∈ l
  ·have ih:=zS f l' (l.erase x) nd.2 (fun y hy=>h0 y (Cp hy)) (fun y hy=>(hm y (Ad _ hy)).imp id fun z=>by
    have:y ≠ x:=fun e=>nd.1 (e ▸ hy)
    exact (List.mem_erase_of_ne this).mpr z)
   rw [sumF_perm f (C0 c),kD]
   omega
  ·have ih:=zS f l' l nd.2 h0 fun y hy=>hm y (Ad _ hy)
   have:=(hm x Af).resolve_right c
   omega
theorem gP {f:Nat→Nat}:∀ {l:List Nat},l.Nodup→(∀ x ∈ l,∀ y ∈ l,f x=f y→x=y)→(l.map f).Nodup
 | [],_,_=>List.nodup_nil
 | x :: l,h,k=>by
  rw [AS] at h
  rw [Av,AS]
  refine ⟨fun z=>?_,gP h.2 fun a ha b hb=>k a (Ad _ ha) b (Ad _ hb)⟩
  obtain ⟨y,hy,e⟩:=Ae.mp z
  exact h.1 (k y (Ad _ hy) x Af e ▸ hy)
def zQ (M:List Edge):List Nat:=M.map pL ++ M.map pR
theorem ends_nd {Ed:Edge→Prop}{S:Nat→Bool}{A:Nat→Prop}{M:List Edge}(hS:∀ e,Ed e→S (pL e)=true∧S (pR e)=false)(h:Mat Ed pL pR A M):(zQ M).Nodup:=by
 unfold zQ
 rw [Cm]
 refine ⟨h.np,h.nq,fun a ha b hb z=>?_⟩
 obtain ⟨x,hx,rfl⟩:=Ae.mp ha
 obtain ⟨y,hy,rfl⟩:=Ae.mp hb
 have a1:=(hS x (h.ed x hx)).1
 rw [z,(hS y (h.ed y hy)).2] at a1
 cases a1
theorem oO {Ed:Edge→Prop}{A:Nat→Prop}{M:List Edge}(h:Mat Ed pL pR A M):∀ x ∈ zQ M,A x:=fun x hx=>by
 rcases AG.mp hx with z | z
 ·obtain ⟨e,he,rfl⟩:=Ae.mp z
  exact h.ap e he
 ·obtain ⟨e,he,rfl⟩:=Ae.mp z
  exact h.aq e he
theorem wW (f:Nat→Int)(e:Edge)(M:List Edge):sumF f (zQ (e :: M))=f (pL e) + f (pR e) + sumF f (zQ M):=by
 unfold zQ
 rw [Av,Av,cJ,cJ,kD,kD]
 omega
theorem eH {c:Nat→Int}:∀ {M:List Edge},(∀ e ∈ M,e.2.2 ≤ c (pL e) + c (pR e))→jN M ≤ sumF c (zQ M)
 | [],_=>Aw _
 | e :: M,h=>by
  have a:=h e Af
  have b:=eH (c:=c) fun x (hx:x ∈ M)=>h x (Ad _ hx)
  rw [kI,wW]
  omega
theorem oN {c:Nat→Int}:∀ {M:List Edge},(∀ e ∈ M,c (pL e) + c (pR e) ≤ e.2.2)→sumF c (zQ M) ≤ jN M
 | [],_=>Aw _
 | e :: M,h=>by
  have a:=h e Af
  have b:=oN (c:=c) fun x (hx:x ∈ M)=>h x (Ad _ hx)
  rw [kI,wW]
  omega
def Ed2 (Ed:Edge→Prop)(A:Nat→Prop)(K:Nat)(e:Edge):Prop:=∃ e0,Ed e0∧A (pL e0)∧A (pR e0)∧(e=e0∨e=(e0.1,e0.2.1 + K,e0.2.2))
section
variable {Ed:Edge→Prop}{S:Nat→Bool}{A:Nat→Prop}{K:Nat}
theorem t6 (hS:∀ e,Ed e→S (pL e)=true∧S (pR e)=false)(hA:∀ v,A v→v < K):∀ e,Ed2 Ed A K e→(decide (pL e < K) && S (pL e))=true∧(decide (pR e < K) && S (pR e))=false:=by
 rintro e ⟨e0,h0,a1,a2,rfl | rfl⟩
 ·rw [(hS _ h0).1,(hS _ h0).2,Ar (hA _ a1),Bool.and_false]
  exact ⟨rfl,rfl⟩
 ·have a:=hA _ a1
  have b:=(hS _ h0).1
  unfold pL at a b
  unfold pL pR
  show (decide (e0.1 < K) && S e0.1)=true∧(decide (e0.2.1 + K < K) && S (e0.2.1 + K))=false
  rw [b,Ar a,Al (by omega),BW]
  exact ⟨rfl,rfl⟩
theorem mP {B:Nat→Prop}{M:List Edge}(hB:∀ v,B v→A v)(h:Mat Ed pL pR B M):Mat (Ed2 Ed A K) pL pR B M:=⟨fun e he=>⟨e,h.ed e he,hB _ (h.ap e he),hB _ (h.aq e he),.inl rfl⟩,h.np,h.nq,h.ap,h.aq⟩
theorem fU (hA:∀ v,A v→v < K){B:Nat→Prop}{M:List Edge}(hB:∀ v,B v→A v)(h:Mat (Ed2 Ed A K) pL pR B M):Mat Ed pL pR B M:=by
 refine ⟨fun e he=>?_,h.np,h.nq,h.ap,h.aq⟩
 obtain ⟨e0,h0,a1,a2,rfl | rfl⟩:=h.ed e he
 ·exact h0
 ·have:=hA _ (hB _ (h.aq _ he))
  unfold pR at this
  have:e0.2.1 + K < K:=this
  omega
theorem tO (hA:∀ v,A v→v < K){B:Nat→Prop}{v:Nat}(hB:∀ x,B x→A x)(av:A v)(nb:¬ B v){M:List Edge}(h:Mat (Ed2 Ed A K) pL pR (plus B (v + K)) M):∃ M',Mat Ed pL pR (plus B v) M'∧jN M'=jN M:=by
 have vK:=hA v av
 have low:∀ x,plus B (v + K) x→x < K→B x:=fun x hx hk=>hx.elim id fun z=>by omega
 refine ⟨M.map fun e=>(e.1,if e.2.1=v + K then v else e.2.1,e.2.2),⟨?_,?_,?_,?_,?_⟩,?_⟩
 ·intro e he
  obtain ⟨x,hx,rfl⟩:=Ae.mp he
  have aq:=h.aq x hx
  obtain ⟨e0,h0,a1,a2,rfl | rfl⟩:=h.ed x hx
  ·have:=hA _ a2
   unfold pR at this
   rw [Aj (by omega)]
   exact h0
  ·have aq':plus B (v + K) (e0.2.1 + K):=aq
   have:e0.2.1=v:=by
    rcases aq' with z | z
    ·have:=hA _ (hB _ z)
     omega
    ·omega
   show Ed (e0.1,if e0.2.1 + K=v + K then v else e0.2.1 + K,e0.2.2)
   rw [Ak (by omega),← this]
   exact h0
 ·rw [A8]
  exact h.np
 ·have:(M.map fun e:Edge=>((e.1,if e.2.1=v + K then v else e.2.1,e.2.2):Edge)).map pR=(M.map pR).map fun r=>if r=v + K then v else r:=by
   rw [A8,A8]
   rfl
  rw [this]
  have out:∀ r ∈ M.map pR,r ≠ v:=fun r hr z=>by
   obtain ⟨e,he,rfl⟩:=Ae.mp hr
   rcases h.aq e he with y | y
   ·exact nb (z ▸ y)
   ·omega
  refine gP h.nq fun a ha b hb z=>?_
  have oa:=out a ha
  have ob:=out b hb
  by_cases c:a=v + K
  ·by_cases d:b=v + K
   ·omega
   ·rw [Ak c,Aj d] at z
    exact absurd z.symm ob
  ·by_cases d:b=v + K
   ·rw [Aj c,Ak d] at z
    exact absurd z oa
   ·rw [Aj c,Aj d] at z
    exact z
 ·intro e he
  obtain ⟨x,hx,rfl⟩:=Ae.mp he
  show plus B v x.1
  obtain ⟨e0,h0,a1,a2,z⟩:=h.ed x hx
  have e1:x.1=e0.1:=by rcases z with rfl | rfl <;> rfl
  have:=hA _ a1
  unfold pL at this
  exact .inl (low _ (h.ap x hx) (by show x.1 < K;omega))
 ·intro e he
  obtain ⟨x,hx,rfl⟩:=Ae.mp he
  show plus B v (if x.2.1=v + K then v else x.2.1)
  split
  ·exact .inr rfl
  ·rename_i n
   rcases h.aq x hx with z | z
   ·exact .inl z
   ·exact absurd z n
 ·unfold jN
  rw [A8]
  rfl
theorem swp (hS:∀ e,Ed e→S (pL e)=true∧S (pR e)=false)(hA:∀ v,A v→v < K){B:Nat→Prop}{v:Nat}(hB:∀ x,B x→A x)(av:A v)(sv:S v=false)(nb:¬ B v){M N:List Edge}(hN:Mat (Ed2 Ed A K) pL pR (plus A (v + K)) N)(hM:Mat Ed pL pR B M):∃ M' N',jN M' + jN N'=jN N + jN M∧((Mat Ed pL pR A M'∧Mat Ed pL pR (plus B v) N')∨∃ u,S u=true∧A u∧¬ B u∧Mat Ed pL pR (minus A u) M'∧Mat Ed pL pR (plus (plus B u) v) N'):=by
 have side:=t6 hS hA
 have noK:¬ B (v + K):=fun z=>by have:=hA _ (hB _ z);omega
 obtain ⟨M',N',e,alt⟩:=eY (Ed:=Ed2 Ed A K) (p:=pR) (q:=pL) (S:=fun x=>!(decide (x < K) && S x)) (fun e he=>by
  show (!(decide (pR e < K) && S (pR e)))=true∧(!(decide (pL e < K) && S (pL e)))=false
  rw [(side e he).1,(side e he).2]
  exact ⟨rfl,rfl⟩) N.length N M (plus A (v + K)) B (v + K) (Ag _) hN.flip (mP hB hM).flip (.inr rfl) noK (by
  show (!(decide (v + K < K) && S (v + K)))=true
  rw [Al (by omega)]
  rfl)
 rcases alt with ⟨m1,m2⟩ | ⟨j,sj,aj,bj,m1,m2⟩ | ⟨j,sj,bj,aj,m1,m2⟩
 ·obtain ⟨N2,n1,n2⟩:=tO hA hB av nb m2.flip
  exact ⟨M',N2,by omega,.inl ⟨fU hA (fun _ z=>z) (m1.flip.imp fun x z=>z.1.resolve_right z.2),n1⟩⟩
 ·have sj':j < K∧S j=true:=by
   have z:(!(decide (j < K) && S j))=false:=sj
   cases h:(decide (j < K) && S j) with
   | false=>rw [h] at z;cases z
   | true=>rw [AL,AE] at h;exact h
  have jA:A j:=aj.resolve_right (by omega)
  have jv:v ≠ j:=fun z=>by rw [z,sj'.2] at sv;cases sv
  obtain ⟨N2,n1,n2⟩:=tO (B:=plus B j) hA (fun x z=>z.elim (hB x) fun y=>y ▸ jA) av (fun z=>z.elim nb jv) (m2.flip.imp fun x z=>z.elim (fun y=>y.elim (fun w=>.inl (.inl w)) .inr) fun y=>.inl (.inr y))
  refine ⟨M',N2,by omega,.inr ⟨j,sj'.2,jA,bj,fU hA (fun x z=>z.1) (m1.flip.imp fun x z=>⟨z.1.1.resolve_right z.1.2,z.2⟩),n1⟩⟩
 ·exact absurd (.inl (hB j bj)) aj
theorem mZ (hS:∀ e,Ed e→S (pL e)=true∧S (pR e)=false)(hA:∀ v,A v→v < K){B:Int}(hb:∀ M,Mat Ed pL pR A M→jN M ≤ B):∃ c:Nat→Int,(∀ x,0 ≤ c x)∧(∀ x,¬ A x→c x=0)∧(∀ e,Ed e→A (pL e)→A (pR e)→e.2.2 ≤ c (pL e) + c (pR e))∧∃ M,Mat Ed pL pR A M∧sumF c (List.range K) ≤ jN M∧(∀ N,Mat Ed pL pR A N→jN N ≤ jN M)∧(∀ x,A x→S x=false→∃ N,Mat (Ed2 Ed A K) pL pR (plus A (x + K)) N∧c x=jN N - jN M)∧∀ x,A x→S x=true→∃ N,Mat Ed pL pR (minus A x) N∧c x=jN M - jN N:=by
 obtain ⟨v,⟨Ms,hMs,eMs⟩,top⟩:=nu_ex B hb
 have mA:∀ x y,minus A x y→A y:=fun x y z=>z.1
 have pA:∀ x,A x→∀ y,plus (fun _=>False) x y→A y:=fun x ax y z=>z.elim False.elim fun e=>e ▸ ax
 have h2:∀ x,A x→S x=false→∀ N,Mat (Ed2 Ed A K) pL pR (plus A (x + K)) N→jN N ≤ 2 * v:=fun x ax sx N hN=>by
  obtain ⟨M',N',e,alt⟩:=swp hS hA (B:=fun _=>False) (fun _ z=>z.elim) ax sx id hN (Mat.nil (A:=fun _=>False))
  have e':jN M' + jN N'=jN N + 0:=e
  rcases alt with ⟨m1,m2⟩ | ⟨u,_,au,_,m1,m2⟩
  ·have a:=top _ m1
   have b:=top _ (m2.imp (pA x ax))
   omega
  ·have a:=top _ (m1.imp (mA u))
   have b:=top _ (m2.imp fun y z=>z.elim (pA u au y) fun e=>e ▸ ax)
   omega
 have ch:∀ x,∃ n:Int,(A x∧S x=true∧∃ a,IsNu Ed (minus A x) a∧n=v - a)∨(A x∧S x=false∧∃ b,IsNu (Ed2 Ed A K) (plus A (x + K)) b∧n=b - v)∨(¬ A x∧n=0):=fun x=>by
  by_cases ax:A x
  ·cases sx:S x with
   | true =>
    obtain ⟨a,ha⟩:=nu_ex (Ed:=Ed) (A:=minus A x) v (fun M hM=>top M (hM.imp (mA x)))
    exact ⟨v - a,.inl ⟨ax,rfl,a,ha,rfl⟩⟩
   | false =>
    obtain ⟨b,hb⟩:=nu_ex (2 * v) (h2 x ax sx)
    exact ⟨b - v,.inr (.inl ⟨ax,rfl,b,hb,rfl⟩)⟩
  ·exact ⟨0,.inr (.inr ⟨ax,rfl⟩)⟩
 obtain ⟨c,hc⟩:=Classical.axiomOfChoice ch
 have cL:∀ x,A x→S x=true→∃ a,IsNu Ed (minus A x) a∧c x=v - a:=fun x ax sx=>by
  rcases hc x with ⟨_,_,h⟩ | ⟨_,z,_⟩ | ⟨z,_⟩
  ·exact h
  ·rw [sx] at z;cases z
  ·exact absurd ax z
 have cR:∀ x,A x→S x=false→∃ b,IsNu (Ed2 Ed A K) (plus A (x + K)) b∧c x=b - v:=fun x ax sx=>by
  rcases hc x with ⟨_,z,_⟩ | ⟨_,_,h⟩ | ⟨z,_⟩
  ·rw [sx] at z;cases z
  ·exact h
  ·exact absurd ax z
 have c0:∀ x,¬ A x→c x=0:=fun x nx=>by
  rcases hc x with ⟨z,_⟩ | ⟨z,_⟩ | ⟨_,h⟩
  ·exact absurd z nx
  ·exact absurd z nx
  ·exact h
 have cn:∀ x,0 ≤ c x:=fun x=>by
  by_cases ax:A x
  ·cases sx:S x with
   | true =>
    obtain ⟨a,⟨⟨M,hM,e⟩,_⟩,h⟩:=cL x ax sx
    have:=top M (hM.imp (mA x))
    omega
   | false =>
    obtain ⟨b,⟨_,ge⟩,h⟩:=cR x ax sx
    have:=ge Ms ((mP (fun _ z=>z) hMs).imp fun _ z=>.inl z)
    omega
  ·rw [c0 x ax];exact Aw _
 refine ⟨c,cn,c0,?_,Ms,hMs,?_,fun N hN=>by rw [eMs];exact top N hN,fun x ax sx=>?_,fun x ax sx=>?_⟩
 ·intro e he a1 a2
  obtain ⟨s1,s2⟩:=hS e he
  obtain ⟨a,⟨⟨M,hM,ea⟩,_⟩,h⟩:=cL _ a1 s1
  obtain ⟨b,⟨_,ge⟩,h'⟩:=cR _ a2 s2
  have:=ge ((e.1,e.2.1 + K,e.2.2) :: M) ((mP (fun x z=>z.1) hM).cons ⟨e,he,a1,a2,.inr rfl⟩ (fun z=>z.2 rfl) (fun z=>by
   have:=hA _ z.1
   unfold pR at this
   have:e.2.1 + K < K:=this
   omega) (fun x z=>.inl z.1) (.inl a1) (.inr rfl))
  rw [kI] at this
  have:e.2.2 + jN M ≤ b:=this
  omega
 ·have key:sumF c (zQ Ms) ≤ jN Ms:=oN fun e he=>by
   obtain ⟨s1,s2⟩:=hS e (hMs.ed e he)
   have a1:=hMs.ap e he
   have a2:=hMs.aq e he
   obtain ⟨a,⟨_,gea⟩,h⟩:=cL _ a1 s1
   obtain ⟨b,⟨⟨N,hN,eb⟩,_⟩,h'⟩:=cR _ a2 s2
   obtain ⟨M1,pm,_,hM1⟩:=hMs.take hS he
   have w1:jN Ms=e.2.2 + jN M1:=by rw [yE pm,kI]
   have ne:pR e ≠ pL e:=fun z=>by rw [z,s1] at s2;cases s2
   obtain ⟨M',N',ew,alt⟩:=swp hS hA (B:=minus (minus A (pL e)) (pR e)) (fun x z=>z.1.1) a2 s2 (fun z=>z.2 rfl) hN hM1
   rcases alt with ⟨m1,m2⟩ | ⟨u,su,au,bu,m1,m2⟩
   ·have p1:=top _ m1
    have p2:=gea _ (m2.imp fun x z=>z.elim (fun y=>y.1) fun y=>⟨y ▸ a2,y ▸ ne⟩)
    omega
   ·have uL:u=pL e:=BA fun n=>bu ⟨⟨au,n⟩,fun z=>by rw [z,s2] at su;cases su⟩
    subst uL
    have p1:=gea _ m1
    have p2:=top _ (m2.imp fun x z=>z.elim (fun y=>y.elim (fun w=>w.1.1) fun w=>w ▸ a1) fun y=>y ▸ a2)
    omega
  refine By (zS c (List.range K) (zQ Ms) List.nodup_range (fun x _=>cn x) fun x _=>?_) key
  by_cases ax:A x
  ·by_cases mem:x ∈ zQ Ms
   ·exact .inr mem
   ·have out:Mat Ed pL pR (minus A x) Ms:=⟨hMs.ed,hMs.np,hMs.nq,fun e he=>⟨hMs.ap e he,fun z=>mem (AM _ (Ae.mpr ⟨e,he,z⟩))⟩,fun e he=>⟨hMs.aq e he,fun z=>mem (A7 _ (Ae.mpr ⟨e,he,z⟩))⟩⟩
    refine .inl ?_
    cases sx:S x with
    | true =>
     obtain ⟨a,⟨_,ge⟩,h⟩:=cL x ax sx
     have:=ge _ out
     omega
    | false =>
     obtain ⟨b,⟨⟨N,hN,eb⟩,_⟩,h⟩:=cR x ax sx
     obtain ⟨M',N',ew,alt⟩:=swp hS hA (B:=minus A x) (mA x) ax sx (fun z=>z.2 rfl) hN out
     rcases alt with ⟨m1,m2⟩ | ⟨u,su,au,bu,m1,m2⟩
     ·have p1:=top _ m1
      have p2:=top _ (m2.imp fun y z=>z.elim (fun w=>w.1) fun w=>w ▸ ax)
      omega
     ·have:u=x:=BA fun n=>bu ⟨au,n⟩
      rw [this,sx] at su
      cases su
  ·exact .inl (by rw [c0 x ax];exact Aw _)
 ·obtain ⟨b,⟨⟨N,hN,eb⟩,_⟩,h⟩:=cR x ax sx
  exact ⟨N,hN,by rw [h,eb,eMs]⟩
 ·obtain ⟨a,⟨⟨N,hN,ea⟩,_⟩,h⟩:=cL x ax sx
  exact ⟨N,hN,by rw [h,ea,eMs]⟩
end
def thL (h m:Nat):List Nat:=(List.range m).filter (qA h)
theorem rS (ps:List Int)(h:Nat):∀ m,q9 ps h m=sumF (fun t=>ps.getD t 0) (thL h m)
 | 0=>rfl
 | m + 1=>by
  have ih:=rS ps h m
  have e:thL h (m + 1)=thL h m ++ if qA h m=true then [m] else []:=by
   unfold thL
   rw [Bb,Bq]
   congr 1
   cases z:qA h m <;> simp [List.filter,z]
  rw [e,cJ,← ih]
  show q9 ps h m + _=_
  congr 1
  cases qA h m <;> simp [sumF]
theorem th_mem {h m t:Nat}:t ∈ thL h m ↔ t < m∧qA h t=true:=by
 unfold thL
 rw [Bj,AI]
theorem th_nd (h m:Nat):(thL h m).Nodup:=List.nodup_range.sublist List.filter_sublist
theorem dY {m h:Nat}(m5:m ≤ 5)(hh:h < 32)(b:∀ t,t < 5→qA h t=true→t < m):h < 2 ^ m:=by
 have key:∀ (m:_root_.Fin 6) (h:_root_.Fin 32),(∀ t:_root_.Fin 5,qA h.val t.val=true→t.val < m.val)→h.val < 2 ^ m.val:=by decide +kernel
 exact key ⟨m,by omega⟩ ⟨h,hh⟩ fun t=>b t.val t.isLt
theorem rP {sl:Nat→Prop}{m h v:Nat}(m5:m ≤ 5)(hh:h < 2 ^ m)(a:qZ sl h v):qZ sl (2 ^ m - 1) v:=by
 rcases a with a | ⟨v5,b⟩
 ·exact .inl a
 ·exact .inr ⟨v5,zD m5 (yC m5 hh v5 b)⟩
theorem kP {ps:List Int}{m x:Nat}(pl:ps.length=m)(h:m ≤ x):ps.getD x 0=0:=by
 rw [Aa,Bx (by omega)]
 rfl
structure Cov (Ed:Edge→Prop)(sl:Nat→Prop)(m:Nat)(ps:List Int)(c:Nat→Int):Prop where
 nn:∀ x,0 ≤ c x
 th:∀ x,ps.getD x 0 ≤ c x
 ed:∀ e,Ed e→qZ sl (2 ^ m - 1) (pL e)→qZ sl (2 ^ m - 1) (pR e)→e.2.2 ≤ c (pL e) + c (pR e)
def yM (K:Nat)(ps:List Int)(c:Nat→Int):Int:=sumF (fun x=>c x - ps.getD x 0) (List.range K)
section
variable {Ed:Edge→Prop}{sl:Nat→Prop}{F m K:Nat}{ws ps:List Int}
theorem rM {c:Nat→Int}{S:Nat→Bool}(m5:m ≤ 5)(V:Val Ed sl m ws)(sd:∀ e,Ed e→S (pL e)=true∧S (pR e)=false)(hK:∀ v,sl v→v < K)(K5:5 ≤ K)(pl:ps.length=m)(p0:∀ x,0 ≤ ps.getD x 0)(C:Cov Ed sl m ps c):kE ws ps ≤ yM K ps c:=by
 have pp:=As m
 obtain ⟨h,h1,h2⟩:=zV (yW ws ps) (2 ^ ps.length - 1)
 have h2':kE ws ps=ws.getD h 0 - q9 ps h m:=by rw [← pl];exact h2
 rw [pl] at h1
 have hh:h < 2 ^ m:=by omega
 obtain ⟨M,hM,w⟩:=V.at' h hh
 have nd:=ends_nd sd hM
 have inn:=oO hM
 have a1:jN M ≤ sumF c (zQ M):=eH fun e he=>C.ed e (hM.ed e he) (rP m5 hh (hM.ap e he)) (rP m5 hh (hM.aq e he))
 have a2:=zS (fun t=>ps.getD t 0) (zQ M) (thL h m) nd (fun x _=>p0 x) fun x hx=>by
  rcases inn x hx with z | z
  ·exact .inl (Int.le_of_eq (kP pl (by omega)))
  ·by_cases xm:x < m
   ·exact .inr (th_mem.mpr ⟨xm,z.2⟩)
   ·exact .inl (Int.le_of_eq (kP pl (by omega)))
 have a3:=zS (fun x=>c x - ps.getD x 0) (zQ M) (List.range K) nd (fun x _=>by have:=C.th x;show 0 ≤ c x - ps.getD x 0;omega) fun x hx=>by
  refine .inr (AI.mpr ?_)
  rcases inn x hx with z | z
  ·exact hK x z.2
  ·omega
 rw [sE] at a3
 rw [h2',rS]
 unfold yM
 omega
theorem eI (p:Nat→Int):∀ M:List Edge,jN (M.map fun e=>((e.1,e.2.1,e.2.2 + p e.1 + p e.2.1):Edge))=jN M + sumF p (zQ M)
 | []=>rfl
 | e :: M=>by
  rw [Av,kI,kI,wW,eI p M]
  show e.2.2 + p e.1 + p e.2.1 + _=e.2.2 + jN M + (p e.1 + p e.2.1 + _)
  omega
theorem cov_ex (m5:m ≤ 5)(V:Val Ed sl m ws)(sd:gU F Ed)(hK:∀ v,sl v→v < K)(K5:5 ≤ K)(pl:ps.length=m)(p0:∀ x,0 ≤ ps.getD x 0):∃ c,Cov Ed sl m ps c∧yM K ps c ≤ kE ws ps:=by
 have pp:=As m
 have bound:∀ M,Mat (fun e=>∃ e0,Ed e0∧e=(e0.1,e0.2.1,e0.2.2 - ps.getD e0.1 0 - ps.getD e0.2.1 0)) pL pR (qZ sl (2 ^ m - 1)) M→jN M ≤ kE ws ps:=fun M hM=>by
  have inn:=oO hM
  obtain ⟨h,h32,hb⟩:=bV fun t=>decide (t ∈ zQ M)
  have hlt:=dY m5 h32 fun t t5 b=>by
   rw [hb t t5,AE] at b
   rcases inn t b with z | z
   ·omega
   ·exact yC m5 (show 2 ^ m - 1 < 2 ^ m by omega) z.1 z.2
  have av:∀ x ∈ zQ M,qZ sl h x:=fun x hx=>by
   rcases inn x hx with z | z
   ·exact .inl z
   ·exact .inr ⟨z.1,by rw [hb x z.1,AE];exact hx⟩
  have g:=V.ge h hlt (M.map fun e=>(e.1,e.2.1,e.2.2 + ps.getD e.1 0 + ps.getD e.2.1 0)) ⟨fun e he=>by
   obtain ⟨x,hx,rfl⟩:=Ae.mp he
   obtain ⟨e0,h0,rfl⟩:=hM.ed x hx
   show Ed (e0.1,e0.2.1,e0.2.2 - ps.getD e0.1 0 - ps.getD e0.2.1 0 + ps.getD e0.1 0 + ps.getD e0.2.1 0)
   rw [show e0.2.2 - ps.getD e0.1 0 - ps.getD e0.2.1 0 + ps.getD e0.1 0 + ps.getD e0.2.1 0=e0.2.2 by omega]
   exact h0,by rw [A8];exact hM.np,by rw [A8];exact hM.nq,fun e he=>by
   obtain ⟨x,hx,rfl⟩:=Ae.mp he
   exact av _ (AM _ (Ae.mpr ⟨x,hx,rfl⟩)),fun e he=>by
   obtain ⟨x,hx,rfl⟩:=Ae.mp he
   exact av _ (A7 _ (Ae.mpr ⟨x,hx,rfl⟩))⟩
  rw [eI fun t=>ps.getD t 0] at g
  have a:=zS (fun t=>ps.getD t 0) (thL h m) (zQ M) (th_nd h m) (fun x _=>p0 x) fun x hx=>by
   obtain ⟨xm,b⟩:=th_mem.mp hx
   rw [hb x (by omega),AE] at b
   exact .inr b
  rw [← rS] at a
  have l:ws.getD h 0 - q9 ps h ps.length ≤ kE ws ps:=zM (yW ws ps) (show h ≤ 2 ^ ps.length - 1 by rw [pl];omega)
  rw [pl] at l
  omega
 obtain ⟨c,cn,c0,ce,M,hM,le,_⟩:=mZ (S:=kR F) (K:=K) (by
  rintro e ⟨e0,h0,rfl⟩
  exact sd e0 h0) (fun v a=>by
  rcases a with z | z
  ·exact hK v z.2
  ·omega) bound
 refine ⟨fun x=>c x + ps.getD x 0,⟨fun x=>?_,fun x=>?_,fun e he a1 a2=>?_⟩,?_⟩
 ·have:=cn x
  have:=p0 x
  show 0 ≤ c x + ps.getD x 0
  omega
 ·have:=cn x
  show ps.getD x 0 ≤ c x + ps.getD x 0
  omega
 ·have:=ce _ ⟨e,he,rfl⟩ a1 a2
  have:e.2.2 - ps.getD e.1 0 - ps.getD e.2.1 0 ≤ c e.1 + c e.2.1:=this
  show e.2.2 ≤ c e.1 + ps.getD e.1 0 + (c e.2.1 + ps.getD e.2.1 0)
  omega
 ·have e:yM K ps (fun x=>c x + ps.getD x 0)=sumF c (List.range K):=by
   unfold yM
   congr 1
   funext x
   show c x + ps.getD x 0 - ps.getD x 0=c x
   omega
  rw [e]
  exact By le (bound M hM)
end
structure Tr (F m:Nat)(a:Int)(ps qs rs us:List Int):Prop where
 pl:ps.length=m
 ql:qs.length=m
 rl:rs.length=m
 ul:us.length=m
 lo:∀ t,t < m→qA F t=false→rs.getD t 0=max (ps.getD t 0) (qs.getD t 0 - a)∧us.getD t 0=min (ps.getD t 0 + a) (qs.getD t 0)
 hi:∀ t,t < m→qA F t=true→rs.getD t 0=min (ps.getD t 0) (qs.getD t 0 + a)∧us.getD t 0=max (ps.getD t 0 - a) (qs.getD t 0)
section
variable {F m:Nat}{a:Int}{ps qs rs us:List Int}
theorem Tr.nn (T:Tr F m a ps qs rs us)(a0:0 ≤ a)(p0:∀ x,0 ≤ ps.getD x 0)(q0:∀ x,0 ≤ qs.getD x 0)(x:Nat):0 ≤ rs.getD x 0∧0 ≤ us.getD x 0:=by
 have:=p0 x
 have:=q0 x
 by_cases xm:x < m
 ·cases b:qA F x with
  | false=>have:=T.lo x xm b;omega
  | true=>have:=T.hi x xm b;omega
 ·rw [kP T.rl (by omega),kP T.ul (by omega)]
  exact ⟨Aw _,Aw _⟩
theorem Tr.sum (T:Tr F m a ps qs rs us)(x:Nat):rs.getD x 0 + us.getD x 0=ps.getD x 0 + qs.getD x 0:=by
 by_cases xm:x < m
 ·cases b:qA F x with
  | false=>have:=T.lo x xm b;omega
  | true=>have:=T.hi x xm b;omega
 ·rw [kP T.rl (by omega),kP T.ul (by omega),kP T.pl (by omega),kP T.ql (by omega)]
theorem yA:∀ (ps:List Int) {m:Nat},ps.length ≤ m→ps.sum=sumF (fun t=>ps.getD t 0) (List.range m)
 | [],m,_=>by
  have e:sumF (fun t=>([] : List Int).getD t 0) (List.range m)=sumF (fun _=>0) (List.range m):=rfl
  have z:∀ l:List Nat,sumF (fun _=>0) l=0:=fun l=>by
   induction l with
   | nil=>rfl
   | cons x l ih=>rw [kD,ih];rfl
  rw [e,z]
  rfl
 | p :: ps,0,h=>by rw [Az] at h;omega
 | p :: ps,m + 1,h=>by
  rw [Az] at h
  rw [AF,yA ps (m:=m) (by omega),List.range_succ_eq_map,kD]
  unfold sumF
  rw [A8]
  rfl
theorem Tr.all (T:Tr F m a ps qs rs us):rs.sum + us.sum=ps.sum + qs.sum:=by
 rw [yA rs (m:=m) (by rw [T.rl];exact Ag _),yA us (m:=m) (by rw [T.ul];exact Ag _),yA ps (m:=m) (by rw [T.pl];exact Ag _),yA qs (m:=m) (by rw [T.ql];exact Ag _),← j0,← j0]
 congr 1
 funext x
 exact T.sum x
theorem vmax_tr {Ed:Edge→Prop}{sl:Nat→Prop}{G K:Nat}{ws:List Int}(m5:m ≤ 5)(V:Val Ed sl m ws)(sd:gU G Ed)(ag:∀ t,t < m→qA G t=qA F t)(hK:∀ v,sl v→v < K)(K5:5 ≤ K)(a0:0 ≤ a)(p0:∀ x,0 ≤ ps.getD x 0)(q0:∀ x,0 ≤ qs.getD x 0)(T:Tr F m a ps qs rs us):kE ws rs + kE ws us ≤ kE ws ps + kE ws qs:=by
 obtain ⟨c,C,cl⟩:=cov_ex m5 V sd hK K5 T.pl p0
 obtain ⟨d,D,dl⟩:=cov_ex m5 V sd hK K5 T.ql q0
 have nn:=T.nn a0 p0 q0
 have side:∀ x,x < m→kR G x = !qA F x:=fun x xm=>by unfold kR;rw [Ak (by omega),ag x xm]
 have g1:=rM (c:=fun x=>if kR G x then max (c x) (d x - a) else min (c x) (d x + a)) m5 V sd hK K5 T.rl (fun x=>(nn x).1) ⟨fun x=>by
  have:=C.nn x
  have:=D.nn x
  show 0 ≤ if kR G x then max (c x) (d x - a) else min (c x) (d x + a)
  split <;> omega,fun x=>by
  have:=C.th x
  have:=D.th x
  have:=C.nn x
  have:=D.nn x
  show rs.getD x 0 ≤ if kR G x then max (c x) (d x - a) else min (c x) (d x + a)
  by_cases xm:x < m
  ·rw [side x xm]
   cases b:qA F x with
   | false=>have:=T.lo x xm b;rw [Ak (show (!false)=true from rfl)];omega
   | true=>have:=T.hi x xm b;rw [Aj (by decide)];omega
  ·rw [kP T.rl (by omega)]
   split <;> omega,fun e he a1 a2=>by
  have:=C.ed e he a1 a2
  have:=D.ed e he a1 a2
  show e.2.2 ≤ (if kR G (pL e) then max (c (pL e)) (d (pL e) - a) else min (c (pL e)) (d (pL e) + a)) + if kR G (pR e) then max (c (pR e)) (d (pR e) - a) else min (c (pR e)) (d (pR e) + a)
  rw [(sd e he).1,(sd e he).2]
  simp
  omega⟩
 have g2:=rM (c:=fun x=>if kR G x then min (c x + a) (d x) else max (c x - a) (d x)) m5 V sd hK K5 T.ul (fun x=>(nn x).2) ⟨fun x=>by
  have:=C.nn x
  have:=D.nn x
  show 0 ≤ if kR G x then min (c x + a) (d x) else max (c x - a) (d x)
  split <;> omega,fun x=>by
  have:=C.th x
  have:=D.th x
  have:=C.nn x
  have:=D.nn x
  show us.getD x 0 ≤ if kR G x then min (c x + a) (d x) else max (c x - a) (d x)
  by_cases xm:x < m
  ·rw [side x xm]
   cases b:qA F x with
   | false=>have:=T.lo x xm b;rw [Ak (show (!false)=true from rfl)];omega
   | true=>have:=T.hi x xm b;rw [Aj (by decide)];omega
  ·rw [kP T.ul (by omega)]
   split <;> omega,fun e he a1 a2=>by
  have:=C.ed e he a1 a2
  have:=D.ed e he a1 a2
  show e.2.2 ≤ (if kR G (pL e) then min (c (pL e) + a) (d (pL e)) else max (c (pL e) - a) (d (pL e))) + if kR G (pR e) then min (c (pR e) + a) (d (pR e)) else max (c (pR e) - a) (d (pR e))
  rw [(sd e he).1,(sd e he).2]
  simp
  omega⟩
 have e:yM K rs (fun x=>if kR G x then max (c x) (d x - a) else min (c x) (d x + a)) + yM K us (fun x=>if kR G x then min (c x + a) (d x) else max (c x - a) (d x))=yM K ps c + yM K qs d:=by
  unfold yM
  rw [← j0,← j0]
  congr 1
  funext x
  have:=T.sum x
  show (if kR G x then max (c x) (d x - a) else min (c x) (d x + a)) - rs.getD x 0 + ((if kR G x then min (c x + a) (d x) else max (c x - a) (d x)) - us.getD x 0)=c x - ps.getD x 0 + (d x - qs.getD x 0)
  split <;> omega
 omega
end
def pK (k v:Nat):Nat:=if v < 10 then v else v + 100 * k
theorem eJ {k a b:Nat}(h:pK k a=pK k b):a=b:=by
 unfold pK at h
 split at h <;> split at h <;> omega
def shF (k:Nat)(e:Edge):Edge:=(pK k e.1,pK k e.2.1,e.2.2)
def shE (k:Nat)(Ed:Edge→Prop)(e:Edge):Prop:=∃ e0,Ed e0∧e=shF k e0
def sR (k:Nat)(sl:Nat→Prop)(v:Nat):Prop:=∃ v0,sl v0∧10 ≤ v0∧v=v0 + 100 * k
theorem p9 {Ed:Edge→Prop}{f:Edge→Edge}:∀ {N:List Edge},(∀ e ∈ N,∃ e0,Ed e0∧e=f e0)→∃ N0:List Edge,N=N0.map f∧∀ e ∈ N0,Ed e
 | [],_=>⟨[],rfl,fun _ z=>by cases z⟩
 | e :: N,h=>by
  obtain ⟨e0,h0,he⟩:=h e Af
  obtain ⟨N0,h1,h2⟩:=p9 fun x (hx:x ∈ N)=>h x (Ad _ hx)
  refine ⟨e0 :: N0,by rw [Av,← h1,← he],fun x hx=>?_⟩
  rcases Ax.mp hx with rfl | z
  ·exact h0
  ·exact h2 x z
theorem dW {f:Nat→Nat}{l:List Nat}(h:(l.map f).Nodup):l.Nodup:=(List.pairwise_map.mp h).imp fun n e=>n (Bi f e)
theorem sh_val {Ed:Edge→Prop}{sl:Nat→Prop}{m:Nat}{ws:List Int}(k:Nat)(V:Val Ed sl m ws)(ow:eA Ed sl):Val (shE k Ed) (sR k sl) m ws:=by
 have mL:∀ M:List Edge,(M.map (shF k)).map pL=(M.map pL).map (pK k):=fun M=>by rw [A8,A8];rfl
 have mR:∀ M:List Edge,(M.map (shF k)).map pR=(M.map pR).map (pK k):=fun M=>by rw [A8,A8];rfl
 have wm:∀ M:List Edge,jN (M.map (shF k))=jN M:=fun M=>by unfold jN;rw [A8];rfl
 have fw:∀ {h v:Nat},qZ sl h v→qZ (sR k sl) h (pK k v):=fun {h v} a=>by
  unfold pK
  rcases a with ⟨v10,s⟩ | ⟨v5,b⟩
  ·rw [Aj (by omega)]
   exact .inl ⟨by omega,v,s,v10,rfl⟩
  ·rw [Ak (by omega)]
   exact .inr ⟨v5,b⟩
 have bw:∀ {h v:Nat},(v < 5∨(10 ≤ v∧sl v))→qZ (sR k sl) h (pK k v)→qZ sl h v:=fun {h v} o a=>by
  rcases o with v5 | z
  ·unfold pK at a
   rw [Ak (by omega)] at a
   rcases a with ⟨v10,_⟩ | a
   ·omega
   ·exact .inr a
  ·exact .inl z
 refine ⟨fun h hh=>?_,fun h hh N hN=>?_⟩
 ·obtain ⟨M,hM,w⟩:=V.at' h hh
  refine ⟨M.map (shF k),⟨fun e he=>?_,?_,?_,fun e he=>?_,fun e he=>?_⟩,by rw [wm,w]⟩
  ·obtain ⟨x,hx,rfl⟩:=Ae.mp he
   exact ⟨x,hM.ed x hx,rfl⟩
  ·rw [mL]
   exact gP hM.np fun a _ b _ e=>eJ e
  ·rw [mR]
   exact gP hM.nq fun a _ b _ e=>eJ e
  ·obtain ⟨x,hx,rfl⟩:=Ae.mp he
   exact fw (hM.ap x hx)
  ·obtain ⟨x,hx,rfl⟩:=Ae.mp he
   exact fw (hM.aq x hx)
 ·obtain ⟨M,rfl,hE⟩:=p9 hN.ed
  have n1:=hN.np
  have n2:=hN.nq
  rw [mL] at n1
  rw [mR] at n2
  rw [wm]
  exact V.ge h hh M ⟨hE,dW n1,dW n2,fun e he=>bw (ow e (hE e he)).1 (hN.ap _ (AU he)),fun e he=>bw (ow e (hE e he)).2 (hN.aq _ (AU he))⟩
theorem sh_own {k:Nat}{Ed:Edge→Prop}{sl:Nat→Prop}(ow:eA Ed sl):eA (shE k Ed) (sR k sl):=by
 rintro e ⟨e0,h0,rfl⟩
 have u:∀ v,(v < 5∨(10 ≤ v∧sl v))→(pK k v < 5∨(10 ≤ pK k v∧sR k sl (pK k v))):=fun v o=>by
  unfold pK
  rcases o with v5 | ⟨v10,s⟩
  ·rw [Ak (by omega)];exact .inl v5
  ·rw [Aj (by omega)];exact .inr ⟨by omega,v,s,v10,rfl⟩
 exact ⟨u _ (ow e0 h0).1,u _ (ow e0 h0).2⟩
def j7 (m:Nat):List (List Int)→List Int→List Int→Prop
 | [],s,r=>s=r
 | ws :: ts,s,r=>∃ s',JoinTab m s ws s'∧j7 m ts s' r
theorem pI {q:List Int}{h a:Nat}(hh:h < 32)(al:a ≤ h)(as:a &&& h=a):∀ n,n ≤ 5→q9 q h n=q9 q a n + q9 q (h - a) n
 | 0,_=>rfl
 | n + 1,hn=>by
  have ih:=pI (q:=q) hh al as n (by omega)
  obtain ⟨r1,r2⟩:=dQ hh al as (show n < 5 by omega)
  show q9 q h n + (if qA h n=true then q.getD n 0 else 0)=q9 q a n + (if qA a n=true then q.getD n 0 else 0) + (q9 q (h - a) n + if qA (h - a) n=true then q.getD n 0 else 0)
  rw [ih,r1]
  revert r2
  cases qA a n <;> cases qA h n <;> simp <;> omega
theorem cB {m:Nat}{q:List Int}(m5:m ≤ 5)(ql:q.length=m):∀ (ts:List (List Int)) (s r:List Int) (U:Int),j7 m ts s r→(∀ h,h < 2 ^ m→s.getD h 0 - q9 q h m ≤ U)→∀ h,h < 2 ^ m→r.getD h 0 - q9 q h m ≤ U + (ts.map fun ws=>kE ws q).sum
 | [],s,r,U,e,b,h,hh=>by
  have e':s=r:=e
  have:=b h hh
  rw [← e']
  simpa using this
 | ws :: ts,s,r,U,⟨s',J,e⟩,b,h,hh=>by
  have p32:2 ^ m ≤ 2 ^ 5:=Ao (by decide) m5
  have ih:=cB m5 ql ts s' r (U + kE ws q) e (fun h hh=>by
   obtain ⟨a,al,as,x⟩:=J.att h hh
   have y:=b a (by omega)
   have z:=pI (q:=q) (show h < 32 by omega) al as m m5
   have g:ws.getD (h - a) 0 - q9 q (h - a) q.length ≤ kE ws q:=zM (yW ws q) (show h - a ≤ 2 ^ q.length - 1 by rw [ql];omega)
   rw [ql] at g
   omega) h hh
  rw [Av,AF]
  omega
def jI (m:Nat):List Int:=List.replicate (2 ^ m) 0
theorem zR (m h:Nat):(jI m).getD h 0=0:=by
 unfold jI
 rw [Aa]
 by_cases z:h < 2 ^ m
 ·rw [Cg,Ak z];rfl
 ·rw [Bx (by rw [AW];omega)];rfl
theorem h9 {q:List Int}(q0:∀ x ∈ q,0 ≤ x)(h:Nat):∀ n,0 ≤ q9 q h n:=fun n=>aW (fun t=>by
 rw [Aa]
 cases e:q[t]? with
 | none=>exact Aw _
 | some x=>exact q0 x (A0 e)) h n
theorem jW {q:List Int}(q0:∀ x ∈ q,0 ≤ x)(t:Nat):0 ≤ q.getD t 0:=by
 rw [Aa]
 cases e:q[t]? with
 | none=>exact Aw _
 | some x=>exact q0 x (A0 e)
theorem surp_tr {F G m:Nat}{a:Int}{ps qs rs us:List Int}(m5:m ≤ 5)(ag:∀ t,t < m→qA G t=qA F t)(a0:0 ≤ a)(p0:∀ x,0 ≤ ps.getD x 0)(q0:∀ x,0 ≤ qs.getD x 0)(T:Tr F m a ps qs rs us){ts:List (List Int)}(hv:∀ ws ∈ ts,VV G m ws):q5 ts rs + q5 ts us ≤ q5 ts ps + q5 ts qs:=by
 have go:∀ l:List (List Int),(∀ ws ∈ l,VV G m ws)→(l.map fun ws=>kE ws rs).sum + (l.map fun ws=>kE ws us).sum ≤ (l.map fun ws=>kE ws ps).sum + (l.map fun ws=>kE ws qs).sum:=by
  intro l
  induction l with
  | nil=>intro _;exact Aw _
  | cons ws l ih =>
   intro h
   have i:=ih fun x hx=>h x (Ad _ hx)
   obtain ⟨Ed,sl,V,sd,_,b⟩:=h ws Af
   have v:=vmax_tr (K:=100) m5 V sd ag (fun v z=>(b v z).2) (by decide) a0 p0 q0 T
   simp only [Av,AF]
   omega
 have g:=go ts hv
 have s:=T.all
 unfold q5
 omega
def trR (F:Nat)(a:Int)(ps qs:List Int):List Int:=(List.range ps.length).map fun t=>if qA F t=true then min (ps.getD t 0) (qs.getD t 0 + a) else max (ps.getD t 0) (qs.getD t 0 - a)
def trU (F:Nat)(a:Int)(ps qs:List Int):List Int:=(List.range ps.length).map fun t=>if qA F t=true then max (ps.getD t 0 - a) (qs.getD t 0) else min (ps.getD t 0 + a) (qs.getD t 0)
theorem gL {f:Nat→Int}{n t:Nat}(h:t < n):((List.range n).map f).getD t 0=f t:=by
 rw [Aa,Ah,B4 h]
 rfl
theorem tr_mk {F m:Nat}{a:Int}{ps qs:List Int}(pl:ps.length=m)(ql:qs.length=m):Tr F m a ps qs (trR F a ps qs) (trU F a ps qs):=by
 subst pl
 refine ⟨rfl,ql,by unfold trR;simp,by unfold trU;simp,fun t ht b=>?_,fun t ht b=>?_⟩
 ·unfold trR trU
  rw [gL ht,gL ht,b,Aj (by decide),Aj (by decide)]
  exact ⟨rfl,rfl⟩
 ·unfold trR trU
  rw [gL ht,gL ht,b,Ak rfl,Ak rfl]
  exact ⟨rfl,rfl⟩
theorem gR {a b:List Int}(h:a.length=b.length)(e:∀ t,t < a.length→a.getD t 0=b.getD t 0):a=b:=by
 refine BH h fun t h1 h2=>?_
 have:=e t h1
 rw [Aa,Aa,Am h1,Am h2] at this
 exact this
theorem wJ {q:List Int}(h:∀ t,0 ≤ q.getD t 0):∀ x ∈ q,0 ≤ x:=fun x hx=>by
 obtain ⟨t,ht,rfl⟩:=C7 hx
 have:=h t
 rw [Aa,Am ht] at this
 exact this
theorem sG {ps:List Int}{F X t:Nat}(h:t < ps.length):(qS ps F X).getD t 0=if qA X t=true then ps.getD t 0 + (if qA F t=true then -1 else 1) else ps.getD t 0:=by
 rw [Aa,step_at h]
 rfl
structure IsMin (ts:List (List Int))(m:Nat)(q:List Int):Prop where
 len:q.length=m
 nn:∀ x ∈ q,0 ≤ x
 le:∀ r:List Int,r.length=m→(∀ x ∈ r,0 ≤ x)→q5 ts q ≤ q5 ts r
def Below (F m:Nat)(p q:List Int):Prop:=∀ t,t < m→(qA F t=false→p.getD t 0 ≤ q.getD t 0)∧(qA F t=true→q.getD t 0 ≤ p.getD t 0)
def nC (ts:List (List Int))(F m:Nat):Prop:=∀ (a:Int) (ps qs rs us:List Int),0 ≤ a→(∀ x,0 ≤ ps.getD x 0)→(∀ x,0 ≤ qs.getD x 0)→Tr F m a ps qs rs us→q5 ts rs + q5 ts us ≤ q5 ts ps + q5 ts qs
theorem tr_cpl {ts:List (List Int)}{F C m:Nat}(c:∀ t,t < m→qA C t = !qA F t)(h:nC ts F m):nC ts C m:=fun a ps qs rs us a0 p0 q0 T=>by
 have:=h a qs ps us rs a0 q0 p0 ⟨T.ql,T.pl,T.ul,T.rl,fun t ht b=>by
  have:=T.hi t ht (by rw [c t ht,b];rfl)
  omega,fun t ht b=>by
  have:=T.lo t ht (by rw [c t ht,b];rfl)
  omega⟩
 omega
theorem pick_lo (x:Bool){a b:Int}(h:a ≤ b):min ((if x=true then a + 1 else a) + 0) b=if (x && decide (a ≠ b))=true then a + 1 else a:=by
 by_cases e:a=b
 ·rw [Al (fun n=>n e)];cases x <;> simp <;> omega
 ·rw [Ar e];cases x <;> simp <;> omega
theorem pick_hi (x:Bool){a b:Int}(h:b ≤ a):max ((if x=true then a + -1 else a) - 0) b=if (x && decide (a ≠ b))=true then a + -1 else a:=by
 by_cases e:a=b
 ·rw [Al (fun n=>n e)];cases x <;> simp <;> omega
 ·rw [Ar e];cases x <;> simp <;> omega
theorem far_lo {a b D:Int}(h:a ≤ b)(d:b - a ≤ D + 1)(d0:0 ≤ D):max a (b - D)=if (decide (b - a=D + 1) || decide (a - b=D + 1))=true then a + 1 else a:=by
 by_cases e:b - a=D + 1
 ·rw [Ar e,CM,Ak rfl];omega
 ·rw [Al e,Al (show ¬ a - b=D + 1 by omega)];simp;omega
theorem far_hi {a b D:Int}(h:b ≤ a)(d:a - b ≤ D + 1)(d0:0 ≤ D):min a (b + D)=if (decide (b - a=D + 1) || decide (a - b=D + 1))=true then a + -1 else a:=by
 by_cases e:a - b=D + 1
 ·rw [Ar e,CL,Ak rfl];omega
 ·rw [Al e,Al (show ¬ b - a=D + 1 by omega)];simp;omega
section
variable {ts:List (List Int)}{F m:Nat}{ps:List Int}
theorem uQ (m5:m ≤ 5)(hF:F < 2 ^ m)(kd:Kinds ts m F)(tr:nC ts F m)(pl:ps.length=m)(p0:∀ x ∈ ps,0 ≤ x){q:List Int}(Q:IsMin ts m q)(B:Below F m ps q):Below F m (qS ps F (vQ ts F ps)) q:=by
 subst pl
 have p32:2 ^ ps.length ≤ 2 ^ 5:=Ao (by decide) m5
 have hX:=aA ts F ps
 have aX:=aD ts F ps
 have nX:=pS m5 hX aX p0
 have eX:vQ ts F ps=fmin (fun X=>q5 ts (qS ps F X)) (fun X=>decide (X &&& j6 F ps ps.length=0)) (2 ^ ps.length):=rfl
 have least:=(zH (s:=fun X=>q5 ts (qS ps F X)) (yO F ps) (2 ^ ps.length)).2.2
 have within:=fun {Y:Nat}=>tY (s:=fun X=>q5 ts (qS ps F X)) (K:=j6 F ps ps.length) m5 (surp_sub m5 hF kd) (B:=Y)
 have least':∀ Y,Y < 2 ^ ps.length→wA F ps Y=true→q5 ts (qS ps F (vQ ts F ps)) < q5 ts (qS ps F Y)∨(q5 ts (qS ps F (vQ ts F ps))=q5 ts (qS ps F Y)∧vQ ts F ps ≤ Y):=least
 rw [← eX] at within
 revert hX aX nX least' within
 generalize vQ ts F ps=X
 intro hX aX nX within least'
 obtain ⟨Y,y32,yb⟩:=bV fun t=>qA X t && decide (ps.getD t 0 ≠ q.getD t 0)
 have yX:∀ t,t < 5→qA Y t=true→qA X t=true∧ps.getD t 0 ≠ q.getD t 0:=fun t ht b=>by
  rw [yb t ht,AL,AE] at b
  exact b
 have hY:=dY m5 y32 fun t ht b=>yC m5 hX ht (yX t ht b).1
 have st:=y3 F ps ps.length
 have kY:Y &&& j6 F ps ps.length=0:=by
  unfold wA at aX
  have aX':=(hV (show X < 32 by omega) (show j6 F ps ps.length < 32 by omega)).mp (Bs aX)
  exact (hV y32 (by omega)).mpr fun t ht z=>aX' t ht ⟨(yX t ht z.1).1,z.2⟩
 have aY:wA F ps Y=true:=by unfold wA;exact Ar kY
 have T:=tr_mk (F:=F) (a:=0) (ps:=qS ps F X) (qs:=q) (m:=ps.length) (jB _ _ _) Q.len
 have eU:trU F 0 (qS ps F X) q=qS ps F Y:=by
  refine gR (by rw [T.ul,jB]) fun t ht=>?_
  rw [T.ul] at ht
  have sx:=sG (F:=F) (X:=X) ht
  have sy:=sG (F:=F) (X:=Y) ht
  have b:=B t ht
  have ybt:=yb t (by omega)
  cases f:qA F t with
  | false =>
   rw [(T.lo t ht f).2,sy,sx,f,ybt]
   exact pick_lo _ (b.1 f)
  | true =>
   rw [(T.hi t ht f).2,sy,sx,f,ybt]
   exact pick_hi _ (b.2 f)
 have nn:=T.nn (Aw 0) (jW nX) (jW Q.nn)
 have t1:=tr 0 _ _ _ _ (Aw 0) (jW nX) (jW Q.nn) T
 have t2:=Q.le _ T.rl (wJ fun t=>(nn t).1)
 rw [eU] at t1
 have l:=least' Y hY aY
 have w:=within hY kY (by show q5 ts (qS ps F Y)=q5 ts (qS ps F X);omega)
 intro t ht
 have b:=B t ht
 rw [sG ht]
 cases x:qA X t with
 | false=>rw [Aj (by decide)];exact b
 | true =>
  have yt:qA Y t=true:=by
   have key:∀ (X Y:_root_.Fin 32) (t:_root_.Fin 5),X.val &&& Y.val=X.val→qA X.val t.val=true→qA Y.val t.val=true:=by decide +kernel
   exact key ⟨X,by omega⟩ ⟨Y,y32⟩ ⟨t,by omega⟩ w x
  have ne:=(yX t (by omega) yt).2
  rw [Ak rfl]
  refine ⟨fun f=>?_,fun f=>?_⟩
  ·have:=b.1 f
   rw [f,Aj (by decide)]
   omega
  ·have:=b.2 f
   rw [f,Ak rfl]
   omega
theorem oP (m5:m ≤ 5)(tr:nC ts F m)(pl:ps.length=m)(p0:∀ x ∈ ps,0 ≤ x)(e:vQ ts F ps=0):∀ (D:Nat) (q:List Int),IsMin ts m q→Below F m ps q→(∀ t,t < m→q.getD t 0 - ps.getD t 0 ≤ (D:Int)∧ps.getD t 0 - q.getD t 0 ≤ (D:Int))→q5 ts ps ≤ q5 ts q
 | 0,q,Q,B,h=>by
  have:ps=q:=gR (by rw [pl,Q.len]) fun t ht=>by have:=h t (by omega);omega
  rw [this]
  exact Aw _
 | D + 1,q,Q,B,h=>by
  have p32:2 ^ m ≤ 2 ^ 5:=Ao (by decide) m5
  have T:=tr_mk (F:=F) (a:=(D:Int)) pl Q.len
  have pg:=jW p0
  have qg:=jW Q.nn
  have nn:=T.nn (by omega) pg qg
  have t1:=tr D _ _ _ _ (by omega) pg qg T
  obtain ⟨X,x32,xb⟩:=bV fun t=>decide (t < m) && (decide (q.getD t 0 - ps.getD t 0=(D:Int) + 1) || decide (ps.getD t 0 - q.getD t 0=(D:Int) + 1))
  have hX:=dY m5 x32 fun t ht b=>by
   rw [xb t ht,AL,AE] at b
   exact b.1
  have st:=y3 F ps m
  have aX:wA F ps X=true:=by
   unfold wA
   rw [pl]
   refine Ar ((hV x32 (by omega)).mpr fun t ht z=>?_)
   obtain ⟨z1,z2⟩:=z
   rw [wD F ps m m5 t ht] at z2
   obtain ⟨tm,f,pz⟩:=z2
   rw [xb t ht,Ar tm,BZ,Cc,AE,AE] at z1
   have:=(B t tm).2 f
   have:=qg t
   omega
  have least:=(zH (s:=fun X=>q5 ts (qS ps F X)) (yO F ps) (2 ^ ps.length)).2.2 X (by rw [pl];exact hX) aX
  have ee:fmin (fun X=>q5 ts (qS ps F X)) (wA F ps) (2 ^ ps.length)=0:=e
  rw [ee] at least
  have least':q5 ts (qS ps F 0) < q5 ts (qS ps F X)∨(q5 ts (qS ps F 0)=q5 ts (qS ps F X)∧0 ≤ X):=least
  rw [nR] at least'
  have eR:trR F (D:Int) ps q=qS ps F X:=by
   refine gR (by rw [T.rl,jB,pl]) fun t ht=>?_
   rw [T.rl] at ht
   have sx:=sG (F:=F) (X:=X) (show t < ps.length by omega)
   have b:=B t ht
   have hd:=h t ht
   have xbt:=xb t (by omega)
   rw [Ar ht,BZ] at xbt
   cases f:qA F t with
   | false =>
    rw [(T.lo t ht f).1,sx,f,xbt]
    exact far_lo (b.1 f) (by omega) (by omega)
   | true =>
    rw [(T.hi t ht f).1,sx,f,xbt]
    exact far_hi (b.2 f) (by omega) (by omega)
  rw [eR] at t1
  have U:IsMin ts m (trU F (D:Int) ps q):=⟨T.ul,wJ fun t=>(nn t).2,fun r rl r0=>by have:=Q.le r rl r0;omega⟩
  have ih:=oP m5 tr pl p0 e D (trU F (D:Int) ps q) U (fun t ht=>⟨fun f=>by
   have:=(T.lo t ht f).2
   have:=(B t ht).1 f
   omega,fun f=>by
   have:=(T.hi t ht f).2
   have:=(B t ht).2 f
   omega⟩) (fun t ht=>by
   cases f:qA F t with
   | false=>have:=(T.lo t ht f).2;have:=(B t ht).1 f;omega
   | true=>have:=(T.hi t ht f).2;have:=(B t ht).2 f;omega)
  omega
theorem i4 (p q:List Int):∀ m,∃ D:Nat,∀ t,t < m→q.getD t 0 - p.getD t 0 ≤ (D:Int)∧p.getD t 0 - q.getD t 0 ≤ (D:Int)
 | 0=>⟨0,fun t h=>by omega⟩
 | m + 1=>by
  obtain ⟨D,h⟩:=i4 p q m
  refine ⟨D + (q.getD m 0 - p.getD m 0).natAbs,fun t ht=>?_⟩
  by_cases e:t=m
  ·subst e;omega
  ·have:=h t (by omega);omega
theorem pY (m5:m ≤ 5)(hF:F < 2 ^ m)(kd:Kinds ts m F)(tr:nC ts F m)(z:∀ ws ∈ ts,0 ≤ ws.getD 0 0){q0:List Int}(Q0:IsMin ts m q0):∀ (n:Nat) (ps:List Int),ps.length=m→(∀ x ∈ ps,0 ≤ x)→q5 ts ps ≤ (n:Int)→(∀ q,IsMin ts m q→Below F m ps q)→IsMin ts m (zE ts F n ps).2∧∀ q,IsMin ts m q→Below F m (zE ts F n ps).2 q:=by
 have done:∀ (n:Nat) (ps:List Int),ps.length=m→(∀ x ∈ ps,0 ≤ x)→(∀ q,IsMin ts m q→Below F m ps q)→vQ ts F ps=0→IsMin ts m (zE ts F n ps).2∧∀ q,IsMin ts m q→Below F m (zE ts F n ps).2 q:=fun n ps pl p0 B e=>by
  rw [iP e]
  obtain ⟨D,hD⟩:=i4 ps q0 m
  have:=oP m5 tr pl p0 e D q0 Q0 (B q0 Q0) hD
  exact ⟨⟨pl,p0,fun r rl r0=>by have:=Q0.le r rl r0;show q5 ts ps ≤ q5 ts r;omega⟩,B⟩
 intro n
 induction n with
 | zero =>
  intro ps pl p0 sn B
  by_cases e:vQ ts F ps=0
  ·exact done 0 ps pl p0 B e
  ·obtain ⟨k,hk,_⟩:=mD z (by omega) p0 sn e
   omega
 | succ n ih =>
  intro ps pl p0 sn B
  by_cases e:vQ ts F ps=0
  ·exact done _ ps pl p0 B e
  ·obtain ⟨k,hk,s1,n1,r1⟩:=mD z (by omega) p0 sn e
   have:k=n:=by omega
   subst this
   rw [r1]
   exact ih _ (by rw [jB,pl]) n1 s1 fun q Q=>uQ m5 hF kd tr pl p0 Q (B q Q)
theorem iM (F h:Nat):∀ n,zF F 0 h n=0
 | 0=>rfl
 | n + 1=>by
  show zF F 0 h n + (if qA 0 n=true∧qA h n=true then _ else 0)=0
  rw [iM F h n,Aj (by unfold qA;simp)]
  rfl
theorem uD {q:List Int}(q0:∀ x ∈ q,0 ≤ x){h t:Nat}(b:qA h t=true):∀ n,t < n→q.getD t 0 ≤ q9 q h n
 | 0,z=>by omega
 | n + 1,z=>by
  show q.getD t 0 ≤ q9 q h n + if qA h n=true then q.getD n 0 else 0
  have g:=jW q0 n
  by_cases e:t=n
  ·subst e
   rw [Ak b]
   have:=h9 q0 h t
   omega
  ·have:=uD q0 b n (by omega)
   split <;> omega
theorem min_top (m5:m ≤ 5){G:Nat}(hG:G < 2 ^ m){top:Int}(t0:0 ≤ top)(wt:∀ ws ∈ ts,ws.getD 0 0=0∧∀ h,h < 2 ^ m→ws.getD h 0 ≤ top){q:List Int}(Q:IsMin ts m q){t:Nat}(ht:t < m)(g:qA G t=true):q.getD t 0 ≤ top:=by
 refine BA fun n=>?_
 have n':top + 1 ≤ q.getD t 0:=by omega
 have p32:2 ^ m ≤ 2 ^ 5:=Ao (by decide) m5
 have pp:=As m
 have ql:=Q.len
 have x0:qA 0 t=false:=by unfold qA;simp
 have tt:(0:Nat) ^^^ 2 ^ t < 2 ^ m:=kO m5 (by omega) ht
 have bt:=fun v (hv:v < 5)=>(kG (show 0 < 32 by decide) (show t < 5 by omega) hv).1
 have b0:∀ v,qA 0 v=false:=fun v=>by unfold qA;simp
 have sg:=fun h (hh:h < 2 ^ m)=>yF (F:=G) (X:=0) (h:=h) (i:=t) (by decide) (by omega) (by omega) (by omega) x0 m m5
 have less:∀ h,h < 2 ^ m→zF G (0 ^^^ 2 ^ t) h m=if qA h t=true then -1 else 0:=fun h hh=>by
  rw [sg h hh,iM,Ak ht,g,Ak rfl,dJ (by omega) (by omega) (by omega),g]
  cases qA h t <;> simp
 have nn:∀ x ∈ qS q G (0 ^^^ 2 ^ t),0 ≤ x:=wJ fun v=>by
  have qv:=jW Q.nn v
  by_cases hv:v < m
  ·rw [sG (by omega),bt v (by omega),b0 v]
   by_cases e:v=t
   ·subst e
    rw [Ar rfl,g]
    show 0 ≤ q.getD v 0 + -1
    omega
   ·rw [Al e]
    simpa using qv
  ·rw [kP (m:=m) (by rw [jB,ql]) (by omega)]
   exact Aw _
 have le:=Q.le (qS q G (0 ^^^ 2 ^ t)) (by rw [jB,ql]) nn
 have sum:(qS q G (0 ^^^ 2 ^ t)).sum=q.sum - 1:=by
  rw [fB (by omega),ql,less _ (by omega),Ak (zD m5 ht)]
  omega
 have go:∀ l:List (List Int),(∀ ws ∈ l,ws.getD 0 0=0∧∀ h,h < 2 ^ m→ws.getD h 0 ≤ top)→(l.map fun ws=>kE ws (qS q G (0 ^^^ 2 ^ t))).sum ≤ (l.map fun ws=>kE ws q).sum:=by
  intro l
  induction l with
  | nil=>intro _;exact Aw _
  | cons ws l ih =>
   intro hw
   have i:=ih fun x hx=>hw x (Ad _ hx)
   obtain ⟨w0,w1⟩:=hw ws Af
   have v:kE ws (qS q G (0 ^^^ 2 ^ t)) ≤ kE ws q:=by
    obtain ⟨h,h1,h2⟩:=zV (yW ws (qS q G (0 ^^^ 2 ^ t))) (2 ^ (qS q G (0 ^^^ 2 ^ t)).length - 1)
    have h2':kE ws (qS q G (0 ^^^ 2 ^ t))=ws.getD h 0 - q9 (qS q G (0 ^^^ 2 ^ t)) h (qS q G (0 ^^^ 2 ^ t)).length:=h2
    rw [jB,ql] at h1 h2'
    have hh:h < 2 ^ m:=by omega
    rw [fD _ (by omega),less h hh] at h2'
    have a0:ws.getD 0 0 - q9 q 0 q.length ≤ kE ws q:=zM (yW ws q) (AZ _)
    rw [dA,w0] at a0
    have ah:ws.getD h 0 - q9 q h q.length ≤ kE ws q:=zM (yW ws q) (show h ≤ 2 ^ q.length - 1 by rw [ql];omega)
    rw [ql] at ah
    by_cases b:qA h t=true
    ·rw [Ak b] at h2'
     have:=uD Q.nn b m ht
     have:=w1 h hh
     omega
    ·rw [Aj b] at h2'
     omega
   simp only [Av,AF]
   omega
 have g:=go ts wt
 unfold q5 at le
 omega
end
def iR (t b:Nat)(e:Edge):Edge:=(e.1,if e.2.1=t then b else e.2.1,e.2.2)
def FrE (Ed:Edge→Prop)(t b:Nat)(e:Edge):Prop:=∃ e0,Ed e0∧e=iR t b e0
def GtE (Ed:Edge→Prop)(t a b:Nat)(W:Int)(e:Edge):Prop:=FrE Ed t b e∨e=(a,t,W)∨e=(a,b,W)
theorem iQ (t b:Nat)(M:List Edge):jN (M.map (iR t b))=jN M:=by unfold jN;rw [A8];rfl
theorem rp_L (t b:Nat)(M:List Edge):(M.map (iR t b)).map pL=M.map pL:=by rw [A8];rfl
theorem rp_R (t b:Nat)(M:List Edge):(M.map (iR t b)).map pR=(M.map pR).map fun r=>if r=t then b else r:=by rw [A8,A8];rfl
theorem mI {h t v:Nat}(hh:h < 32)(ht:t < 5)(hv:v < 5):qA (h ||| 2 ^ t) v=(qA h v || decide (v=t))∧h ||| 2 ^ t < 32:=by
 have key:∀ (h:_root_.Fin 32) (t v:_root_.Fin 5),qA (h.val ||| 2 ^ t.val) v.val=(qA h.val v.val || decide (v.val=t.val))∧h.val ||| 2 ^ t.val < 32:=by decide +kernel
 exact key ⟨h,hh⟩ ⟨t,ht⟩ ⟨v,hv⟩
theorem iW {m h t:Nat}(hh:h < 2 ^ m)(ht:t < m):h ||| 2 ^ t < 2 ^ m:=Nat.or_lt_two_pow hh (Nat.pow_lt_pow_right (by decide) ht)
section
variable {Ed:Edge→Prop}{sl:Nat→Prop}{S:Nat→Bool}{m t a b:Nat}{ws us:List Int}{W:Int}
theorem oJ (V:Val Ed sl m ws)(ow:eA Ed sl)(t5:t < 5)(b10:10 ≤ b)(nb:¬ sl b){g:Nat}(hg:g < 2 ^ m){N:List Edge}(hE:∀ e ∈ N,FrE Ed t b e)(np:(N.map pL).Nodup)(nq:(N.map pR).Nodup)(hL:∀ e ∈ N,qZ sl g (pL e))(hR:∀ e ∈ N,(pR e=b∧qA g t=true)∨qZ sl g (pR e)):jN N ≤ ws.getD g 0:=by
 obtain ⟨N0,rfl,h0⟩:=p9 hE
 rw [rp_L] at np
 rw [rp_R] at nq
 rw [iQ]
 refine V.ge g hg N0 ⟨h0,np,dW nq,fun e he=>hL (iR t b e) (AU he),fun e he=>?_⟩
 have r:=hR (iR t b e) (AU he)
 unfold iR pR at r
 have r':((if e.2.1=t then b else e.2.1)=b∧qA g t=true)∨qZ sl g (if e.2.1=t then b else e.2.1):=r
 have o:=(ow e (h0 e he)).2
 unfold pR at o ⊢
 by_cases c:e.2.1=t
 ·rw [Ak c] at r'
  rcases r' with ⟨_,z⟩ | z
  ·rw [c];exact .inr ⟨t5,z⟩
  ·rcases z with z | z
   ·exact absurd z.2 nb
   ·omega
 ·rw [Aj c] at r'
  rcases r' with ⟨z,_⟩ | z
  ·rcases o with y | y
   ·omega
   ·exact absurd (z ▸ y.2) nb
  ·exact z
theorem rp_nd (t5:t < 5)(b10:10 ≤ b)(nb:¬ sl b){A:Nat→Prop}{h:Nat}(hA:∀ v,A v→qZ sl h v){M:List Edge}(hM:Mat Ed pL pR A M):((M.map pR).map fun r=>if r=t then b else r).Nodup:=by
 have out:∀ r ∈ M.map pR,r ≠ b:=fun r hr z=>by
  obtain ⟨e,he,rfl⟩:=Ae.mp hr
  rcases hA _ (hM.aq e he) with y | y
  ·exact nb (z ▸ y.2)
  ·omega
 refine gP hM.nq fun x hx y hy e=>?_
 have ox:=out x hx
 have oy:=out y hy
 by_cases c:x=t
 ·by_cases d:y=t
  ·omega
  ·rw [Ak c,Aj d] at e
   exact absurd e.symm oy
 ·by_cases d:y=t
  ·rw [Aj c,Ak d] at e
   exact absurd e ox
  ·rw [Aj c,Aj d] at e
   exact e
theorem lV (sd:∀ e,Ed e→S (pL e)=true∧S (pR e)=false)(st:S t=false)(sa:S a=true)(sb:S b=false):∀ e,GtE Ed t a b W e→S (pL e)=true∧S (pR e)=false:=by
 rintro e (⟨e0,h0,rfl⟩ | rfl | rfl)
 ·obtain ⟨s1,s2⟩:=sd e0 h0
  refine ⟨s1,?_⟩
  show S (if e0.2.1=t then b else e0.2.1)=false
  split
  ·exact sb
  ·exact s2
 ·exact ⟨sa,st⟩
 ·exact ⟨sa,sb⟩
theorem fr_side (sd:∀ e,Ed e→S (pL e)=true∧S (pR e)=false)(sb:S b=false):∀ e,FrE Ed t b e→S (pL e)=true∧S (pR e)=false:=by
 rintro e ⟨e0,h0,rfl⟩
 obtain ⟨s1,s2⟩:=sd e0 h0
 refine ⟨s1,?_⟩
 show S (if e0.2.1=t then b else e0.2.1)=false
 split
 ·exact sb
 ·exact s2
theorem x6 (ow:eA Ed sl){e:Edge}(h:FrE Ed t b e):(pL e < 5∨(10 ≤ pL e∧sl (pL e)))∧(pR e=b∨(pR e ≠ t∧(pR e < 5∨(10 ≤ pR e∧sl (pR e))))):=by
 obtain ⟨e0,h0,rfl⟩:=h
 obtain ⟨o1,o2⟩:=ow e0 h0
 refine ⟨o1,?_⟩
 show (if e0.2.1=t then b else e0.2.1)=b∨((if e0.2.1=t then b else e0.2.1) ≠ t∧((if e0.2.1=t then b else e0.2.1) < 5∨(10 ≤ (if e0.2.1=t then b else e0.2.1)∧sl (if e0.2.1=t then b else e0.2.1))))
 by_cases c:e0.2.1=t
 ·rw [Ak c];exact .inl rfl
 ·rw [Aj c];exact .inr ⟨c,o2⟩
theorem nB {s':Nat→Prop}{h v:Nat}(o:v < 5∨(10 ≤ v∧sl v))(a:qZ s' h v):qZ sl h v:=by
 rcases o with z | z
 ·rcases a with y | y
  ·omega
  ·exact .inr y
 ·exact .inl z
theorem gate_val (m5:m ≤ 5)(V:Val Ed sl m ws)(sd:∀ e,Ed e→S (pL e)=true∧S (pR e)=false)(ow:eA Ed sl)(tm:t < m)(st:S t=false)(sa:S a=true)(sb:S b=false)(a10:10 ≤ a)(b10:10 ≤ b)(na:¬ sl a)(nb:¬ sl b)(hW:∀ h,h < 2 ^ m→ws.getD h 0 ≤ W)(hu:∀ h,h < 2 ^ m→us.getD h 0=W + ws.getD h 0):Val (GtE Ed t a b W) (fun v=>sl v∨v=a∨v=b) m us:=by
 have pp:=As m
 have up:∀ {h v:Nat},qZ sl h v→qZ (fun v=>sl v∨v=a∨v=b) h v:=fun {h v} z=>z.imp (fun y=>⟨y.1,.inl y.2⟩) id
 have ab:a ≠ b:=fun z=>by rw [z,sb] at sa;cases sa
 have noA:∀ {h:Nat} {A:Nat→Prop},(∀ v,A v→qZ sl h v)→∀ {M:List Edge},Mat Ed pL pR A M→a ∉ M.map pL:=fun {h A} k {M} hM z=>by
  obtain ⟨e,he,e1⟩:=Ae.mp z
  rcases k _ (hM.ap e he) with y | y
  ·exact na (e1 ▸ y.2)
  ·omega
 refine ⟨fun h hh=>?_,fun h hh N hN=>?_⟩
 ·obtain ⟨M,hM,w⟩:=V.at' h hh
  have nd:=rp_nd (t:=t) (by omega) b10 nb (fun _ z=>z) hM
  have na':=noA (fun _ z=>z) hM
  have edR:∀ e ∈ M.map (iR t b),GtE Ed t a b W e:=fun e he=>by
   obtain ⟨x,hx,rfl⟩:=Ae.mp he
   exact .inl ⟨x,hM.ed x hx,rfl⟩
  have apR:∀ e ∈ M.map (iR t b),qZ (fun v=>sl v∨v=a∨v=b) h (pL e):=fun e he=>by
   obtain ⟨x,hx,rfl⟩:=Ae.mp he
   exact up (hM.ap x hx)
  have aqR:∀ e ∈ M.map (iR t b),qZ (fun v=>sl v∨v=a∨v=b) h (pR e):=fun e he=>by
   obtain ⟨x,hx,rfl⟩:=Ae.mp he
   show qZ _ h (if x.2.1=t then b else x.2.1)
   split
   ·exact .inl ⟨b10,.inr (.inr rfl)⟩
   ·exact up (hM.aq x hx)
  cases bt:qA h t with
  | true =>
   refine ⟨(a,t,W) :: M.map (iR t b),⟨fun e he=>?_,?_,?_,fun e he=>?_,fun e he=>?_⟩,by rw [kI,iQ,w,hu h hh]⟩
   ·rcases Ax.mp he with rfl | z
    ·exact .inr (.inl rfl)
    ·exact edR e z
   ·rw [Av,rp_L,AS]
    exact ⟨na',hM.np⟩
   ·rw [Av,rp_R,AS]
    refine ⟨fun z=>?_,nd⟩
    obtain ⟨r,_,e⟩:=Ae.mp z
    have e':(if r=t then b else r)=t:=e
    by_cases c:r=t
    ·rw [Ak c] at e';omega
    ·rw [Aj c] at e';exact c e'
   ·rcases Ax.mp he with rfl | z
    ·exact .inl ⟨a10,.inr (.inl rfl)⟩
    ·exact apR e z
   ·rcases Ax.mp he with rfl | z
    ·exact .inr ⟨by show t < 5;omega,bt⟩
    ·exact aqR e z
  | false =>
   refine ⟨(a,b,W) :: M.map (iR t b),⟨fun e he=>?_,?_,?_,fun e he=>?_,fun e he=>?_⟩,by rw [kI,iQ,w,hu h hh]⟩
   ·rcases Ax.mp he with rfl | z
    ·exact .inr (.inr rfl)
    ·exact edR e z
   ·rw [Av,rp_L,AS]
    exact ⟨na',hM.np⟩
   ·rw [Av,rp_R,AS]
    refine ⟨fun z=>?_,nd⟩
    obtain ⟨r,hr,e⟩:=Ae.mp z
    obtain ⟨x,hx,rfl⟩:=Ae.mp hr
    have e':(if pR x=t then b else pR x)=b:=e
    have ax:=hM.aq x hx
    by_cases c:pR x=t
    ·rw [c] at ax
     rcases ax with y | y
     ·omega
     ·rw [bt] at y;cases y.2
    ·rw [Aj c] at e'
     rw [e'] at ax
     rcases ax with y | y
     ·exact nb y.2
     ·omega
   ·rcases Ax.mp he with rfl | z
    ·exact .inl ⟨a10,.inr (.inl rfl)⟩
    ·exact apR e z
   ·rcases Ax.mp he with rfl | z
    ·exact .inl ⟨b10,.inr (.inr rfl)⟩
    ·exact aqR e z
 ·rw [hu h hh]
  have side:=lV (W:=W) sd st sa sb
  have full:h < 2 ^ m:=hh
  have w0:0 ≤ W:=by
   have:=V.ge h hh [] Mat.nil
   have e:jN ([] : List Edge)=0:=rfl
   have:=hW h hh
   omega
  have rest:∀ {N1:List Edge},(∀ e ∈ N1,FrE Ed t b e)→(N1.map pL).Nodup→(N1.map pR).Nodup→(∀ e ∈ N1,qZ (fun v=>sl v∨v=a∨v=b) h (pL e)∧qZ (fun v=>sl v∨v=a∨v=b) h (pR e))→((∃ e ∈ N1,pR e=b)→qA h t=true)→jN N1 ≤ ws.getD h 0:=fun {N1} hE np nq hav hb=>by
   refine oJ V ow (by omega) b10 nb hh hE np nq (fun e he=>nB (x6 ow (hE e he)).1 (hav e he).1) fun e he=>?_
   rcases (x6 ow (hE e he)).2 with z | z
   ·exact .inl ⟨z,hb ⟨e,he,z⟩⟩
   ·exact .inr (nB z.2 (hav e he).2)
  by_cases ga:∃ e ∈ N,pL e=a
  ·obtain ⟨e,he,ea⟩:=ga
   obtain ⟨N1,pm,_,hN1⟩:=hN.take side he
   have w1:jN N=e.2.2 + jN N1:=by rw [yE pm,kI]
   have fr:∀ x ∈ N1,FrE Ed t b x:=fun x hx=>by
    rcases hN1.ed x hx with z | rfl | rfl
    ·exact z
    ·exact absurd ea.symm (hN1.ap _ hx).1.2
    ·exact absurd ea.symm (hN1.ap _ hx).1.2
   have av:∀ x ∈ N1,qZ (fun v=>sl v∨v=a∨v=b) h (pL x)∧qZ (fun v=>sl v∨v=a∨v=b) h (pR x):=fun x hx=>⟨(hN1.ap x hx).1.1,(hN1.aq x hx).1.1⟩
   rcases hN.ed e he with z | rfl | rfl
   ·rcases (x6 ow z).1 with y | y
    ·omega
    ·exact absurd (ea ▸ y.2) na
   ·have bt:qA h t=true:=by
     rcases hN.aq _ he with y | y
     ·have:10 ≤ t:=y.1
      omega
     ·exact y.2
    have:=rest fr hN1.np hN1.nq av (fun _=>bt)
    have w2:jN N=W + jN N1:=w1
    omega
   ·have:=rest fr hN1.np hN1.nq av (fun ⟨x,hx,e⟩=>absurd e (hN1.aq x hx).2)
    have w2:jN N=W + jN N1:=w1
    omega
  ·have fr:∀ x ∈ N,FrE Ed t b x:=fun x hx=>by
    rcases hN.ed x hx with z | rfl | rfl
    ·exact z
    ·exact absurd ⟨_,hx,rfl⟩ ga
    ·exact absurd ⟨_,hx,rfl⟩ ga
   by_cases gb:∃ e ∈ N,pR e=b
   ·obtain ⟨e,he,eb⟩:=gb
    obtain ⟨N1,pm,_,hN1⟩:=hN.take side he
    have w1:jN N=e.2.2 + jN N1:=by rw [yE pm,kI]
    have mem:∀ x ∈ N1,x ∈ N:=fun x hx=>pm.mem_iff.mpr (Ad _ hx)
    have:=rest (fun x hx=>fr x (mem x hx)) hN1.np hN1.nq (fun x hx=>⟨(hN1.ap x hx).1.1,(hN1.aq x hx).1.1⟩) (fun ⟨x,hx,e'⟩=>absurd (e'.trans eb.symm) (hN1.aq x hx).2)
    obtain ⟨e0,h0,ee⟩:=fr e he
    have ff:2 ^ m - 1 < 2 ^ m:=by omega
    have one:=V.ge (2 ^ m - 1) ff [e0] ((Mat.nil (A:=fun _=>False)).cons h0 id id (fun v z=>z.elim) (by
     have av:=nB (ow e0 h0).1 (show qZ (fun v=>sl v∨v=a∨v=b) h (pL e0) by have:=hN.ap e he;rw [ee] at this;exact this)
     exact rP m5 hh av) (by
     rcases (ow e0 h0).2 with z | z
     ·by_cases c:pR e0=t
      ·rw [c];exact .inr ⟨by omega,zD m5 tm⟩
      ·have:pR e=pR e0:=by rw [ee];show (if e0.2.1=t then b else e0.2.1)=e0.2.1;rw [Aj (show ¬ e0.2.1=t from c)]
       omega
     ·exact .inl z))
    have w3:jN [e0] = e0.2.2:=by rw [kI];show e0.2.2 + 0=_;omega
    have:e.2.2=e0.2.2:=by rw [ee];rfl
    have:=hW _ ff
    omega
   ·have:=rest fr hN.np hN.nq (fun x hx=>⟨hN.ap x hx,hN.aq x hx⟩) (fun z=>absurd z gb)
    omega
theorem free_val (m5:m ≤ 5)(V:Val Ed sl m ws)(sd:∀ e,Ed e→S (pL e)=true∧S (pR e)=false)(ow:eA Ed sl)(tm:t < m)(st:S t=false)(b10:10 ≤ b)(nb:¬ sl b)(hu:∀ h,h < 2 ^ m→us.getD h 0=ws.getD (h ||| 2 ^ t) 0):Val (FrE Ed t b) (fun v=>sl v∨v=b) m us:=by
 have p32:2 ^ m ≤ 2 ^ 5:=Ao (by decide) m5
 refine ⟨fun h hh=>?_,fun h hh N hN=>?_⟩
 ·obtain ⟨M,hM,w⟩:=V.at' _ (iW hh tm)
  have nd:=rp_nd (t:=t) (by omega) b10 nb (fun _ z=>z) hM
  have av:∀ v,v ≠ t→qZ sl (h ||| 2 ^ t) v→qZ (fun v=>sl v∨v=b) h v:=fun v n z=>by
   rcases z with y | ⟨v5,y⟩
   ·exact .inl ⟨y.1,.inl y.2⟩
   ·rw [(mI (by omega) (by omega) v5).1,Al n,Bool.or_false] at y
    exact .inr ⟨v5,y⟩
  refine ⟨M.map (iR t b),⟨fun e he=>?_,by rw [rp_L];exact hM.np,by rw [rp_R];exact nd,fun e he=>?_,fun e he=>?_⟩,by rw [iQ,w,hu h hh]⟩
  ·obtain ⟨x,hx,rfl⟩:=Ae.mp he
   exact ⟨x,hM.ed x hx,rfl⟩
  ·obtain ⟨x,hx,rfl⟩:=Ae.mp he
   refine av _ (fun z=>?_) (hM.ap x hx)
   have:=(sd x (hM.ed x hx)).1
   rw [show pL x=t from z,st] at this
   cases this
  ·obtain ⟨x,hx,rfl⟩:=Ae.mp he
   show qZ _ h (if x.2.1=t then b else x.2.1)
   split
   ·exact .inl ⟨b10,.inr rfl⟩
   ·rename_i n
    exact av _ n (hM.aq x hx)
 ·rw [hu h hh]
  have bt:qA (h ||| 2 ^ t) t=true:=by rw [(mI (by omega) (by omega) (by omega)).1,Ar rfl,CL]
  have up:∀ v,qZ sl h v→qZ sl (h ||| 2 ^ t) v:=fun v z=>by
   rcases z with y | ⟨v5,y⟩
   ·exact .inl y
   ·exact .inr ⟨v5,by rw [(mI (by omega) (by omega) v5).1,y,CM]⟩
  refine oJ V ow (by omega) b10 nb (iW hh tm) hN.ed hN.np hN.nq (fun e he=>up _ (nB (x6 ow (hN.ed e he)).1 (hN.ap e he))) fun e he=>?_
  rcases (x6 ow (hN.ed e he)).2 with z | z
  ·exact .inl ⟨z,bt⟩
  ·exact .inr (up _ (nB z.2 (hN.aq e he)))
end
structure Gr where
 E:Edge→Prop
 s:Nat→Prop
 w:List Int
structure GrOk (S:Nat→Bool)(m:Nat)(g:Gr)(lo hi:Nat):Prop where
 val:Val g.E g.s m g.w
 sd:∀ e,g.E e→S (pL e)=true∧S (pR e)=false
 own:eA g.E g.s
 blk:∀ v,g.s v→10 ≤ v∧lo ≤ v∧v < hi
theorem val_congr {E E':Edge→Prop}{s s':Nat→Prop}{m:Nat}{ws:List Int}(hE:∀ e,E e ↔ E' e)(hs:∀ v,s v ↔ s' v)(V:Val E s m ws):Val E' s' m ws:=by
 have e1:E=E':=funext fun e=>propext (hE e)
 have e2:s=s':=funext fun v=>propext (hs v)
 subst e1
 subst e2
 exact V
def GL (S:Nat→Bool)(m:Nat):Nat→List Gr→Prop
 | _,[]=>True
 | k,g :: L=>GrOk S m g (200 * k) (200 * (k + 1))∧GL S m (k + 1) L
theorem cA {S:Nat→Bool}{m:Nat}(m5:m ≤ 5):∀ (L:List Gr) (k:Nat) (s r:List Int) (Ed:Edge→Prop) (sl:Nat→Prop),j7 m (L.map fun g=>g.w) s r→Val Ed sl m s→(∀ e,Ed e→S (pL e)=true∧S (pR e)=false)→eA Ed sl→(∀ v,sl v→10 ≤ v∧v < 200 * k)→GL S m k L→Val (fun e=>Ed e∨∃ g ∈ L,g.E e) (fun v=>sl v∨∃ g ∈ L,g.s v) m r∧(∀ e,(Ed e∨∃ g ∈ L,g.E e)→S (pL e)=true∧S (pR e)=false)∧∀ v,(sl v∨∃ g ∈ L,g.s v)→10 ≤ v∧v < 200 * (k + L.length)
 | [],k,s,r,Ed,sl,f,V,sd,ow,b,_=>by
  have f':s=r:=f
  subst f'
  refine ⟨val_congr (fun e=>⟨.inl,fun z=>z.elim id fun ⟨_,h,_⟩=>by cases h⟩) (fun v=>⟨.inl,fun z=>z.elim id fun ⟨_,h,_⟩=>by cases h⟩) V,fun e z=>z.elim (sd e) (fun ⟨_,h,_⟩=>by cases h),fun v z=>z.elim (b v) (fun ⟨_,h,_⟩=>by cases h)⟩
 | g :: L,k,s,r,Ed,sl,⟨s',J,f⟩,V,sd,ow,b,⟨ok,gl⟩=>by
  have JV:=mQ m5 V ok.val ow ok.own (fun v z1 z2=>by have:=b v z1;have:=ok.blk v z2;omega) sd ok.sd J
  obtain ⟨V',sd',b'⟩:=cA m5 L (k + 1) s' r _ _ f JV (fun e z=>z.elim (sd e) (ok.sd e)) (fun e he=>by
   rcases he with z | z
   ·exact ⟨(ow e z).1.imp id fun y=>⟨y.1,.inl y.2⟩,(ow e z).2.imp id fun y=>⟨y.1,.inl y.2⟩⟩
   ·exact ⟨(ok.own e z).1.imp id fun y=>⟨y.1,.inr y.2⟩,(ok.own e z).2.imp id fun y=>⟨y.1,.inr y.2⟩⟩) (fun v z=>by
   rcases z with z | z
   ·have:=b v z;omega
   ·have:=ok.blk v z;omega) gl
  have iE:∀ {α:Type} {P:α→Prop} {Pg:Gr→α→Prop} (x:α),((P x∨Pg g x)∨∃ g' ∈ L,Pg g' x) ↔ (P x∨∃ g' ∈ g :: L,Pg g' x):=fun {α P Pg} x=>by
   constructor
   ·rintro ((z | z) | ⟨g',h,z⟩)
    ·exact .inl z
    ·exact .inr ⟨g,Af,z⟩
    ·exact .inr ⟨g',Ad _ h,z⟩
   ·rintro (z | ⟨g',h,z⟩)
    ·exact .inl (.inl z)
    ·rcases Ax.mp h with rfl | y
     ·exact .inl (.inr z)
     ·exact .inr ⟨g',y,z⟩
  refine ⟨val_congr (fun e=>iE (P:=Ed) (Pg:=fun g e=>g.E e) e) (fun v=>iE (P:=sl) (Pg:=fun g v=>g.s v) v) V',fun e z=>sd' e ((iE (P:=Ed) (Pg:=fun g e=>g.E e) e).mpr z),fun v z=>?_⟩
  have:=b' v ((iE (P:=sl) (Pg:=fun g v=>g.s v) v).mpr z)
  rw [Az]
  omega
def aN (k:Nat):Nat:=200 * k + 150
def bN (k:Nat):Nat:=200 * k + 151
def oneT (m t:Nat)(ws:List Int):List Int:=(List.range (2 ^ m)).map fun h=>ws.getD (h ||| 2 ^ t) 0
def zW (m:Nat)(c:Int)(ws:List Int):List Int:=(List.range (2 ^ m)).map fun h=>c + ws.getD h 0
theorem j8 {m h:Nat}{c:Int}{ws:List Int}(hh:h < 2 ^ m):(zW m c ws).getD h 0=c + ws.getD h 0:=gL hh
theorem u7 {m t h:Nat}{ws:List Int}(hh:h < 2 ^ m):(oneT m t ws).getD h 0=ws.getD (h ||| 2 ^ t) 0:=gL hh
def vM (m t k:Nat)(W:Int)(g:Gr):Gr:=⟨GtE (shE (2 * k) g.E) t (aN k) (bN k) W,fun v=>sR (2 * k) g.s v∨v=aN k∨v=bN k,zW m W g.w⟩
def fW (m t k:Nat)(g:Gr):Gr:=⟨FrE (shE (2 * k) g.E) t (bN k),fun v=>sR (2 * k) g.s v∨v=bN k,zW m 0 (oneT m t g.w)⟩
def jG (m t:Nat)(W:Int)(j:Nat):Nat→List Gr→List Gr
 | _,[]=>[]
 | k,g :: L=>(if k=j then fW m t k g else vM m t k W g) :: jG m t W j (k + 1) L
def dB (m t j:Nat):Nat→List (List Int)→List (List Int)
 | _,[]=>[]
 | k,ws :: ts=>(if k=j then oneT m t ws else ws) :: dB m t j (k + 1) ts
def nI (j:Nat):Nat→List (List Int)→Int
 | _,[]=>0
 | k,_ :: ts=>(if k=j then 0 else 1) + nI j (k + 1) ts
theorem sY {m t j:Nat}:∀ (ts:List (List Int)) (k:Nat),k + ts.length ≤ j→dB m t j k ts=ts∧nI j k ts=(ts.length:Int)
 | [],_,_=>⟨rfl,rfl⟩
 | ws :: ts,k,h=>by
  rw [Az] at h ⊢
  obtain ⟨a,b⟩:=sY (m:=m) (t:=t) (j:=j) ts (k + 1) (by omega)
  show (if k=j then _ else _) :: dB m t j (k + 1) ts=_∧(if k=j then 0 else 1) + nI j (k + 1) ts=_
  rw [Aj (by omega),Aj (by omega),a,b]
  exact ⟨rfl,by push_cast;omega⟩
theorem oU {j:Nat}:∀ (ts:List (List Int)) (k:Nat),k ≤ j→j < k + ts.length→nI j k ts=(ts.length:Int) - 1
 | [],k,h1,h2=>by rw [C2] at h2;omega
 | ws :: ts,k,h1,h2=>by
  rw [Az] at h2 ⊢
  show (if k=j then 0 else 1) + nI j (k + 1) ts=_
  by_cases e:k=j
  ·have:∀ (ts:List (List Int)) (k:Nat),j < k→nI j k ts=(ts.length:Int):=fun ts=>by
    induction ts with
    | nil=>exact fun _ _=>rfl
    | cons w ts ih =>
     intro k hk
     show (if k=j then 0 else 1) + nI j (k + 1) ts=_
     rw [Aj (by omega),ih (k + 1) (by omega),Az]
     push_cast
     omega
   rw [Ak e,this ts (k + 1) (by omega)]
   push_cast
   omega
  ·rw [Aj e,oU ts (k + 1) (by omega) (by omega)]
   push_cast
   omega
theorem lQ {m:Nat}{c d:Int}{s w r:List Int}(J:JoinTab m s w r):JoinTab m (zW m c s) (zW m d w) (zW m (c + d) r):=by
 refine ⟨fun h a hh al as=>?_,fun h hh=>?_⟩
 ·have:=J.ge h a hh al as
  rw [j8 (by omega),j8 (by omega),j8 hh]
  omega
 ·obtain ⟨a,al,as,e⟩:=J.att h hh
  exact ⟨a,al,as,by rw [j8 hh,j8 (show a < 2 ^ m by omega),j8 (show h - a < 2 ^ m by omega),e];omega⟩
theorem bZ {m t j:Nat}{W:Int}:∀ (L:List Gr) (k:Nat) (s r:List Int) (c:Int),j7 m (dB m t j k (L.map fun g=>g.w)) s r→j7 m ((jG m t W j k L).map fun g=>g.w) (zW m c s) (zW m (c + nI j k (L.map fun g=>g.w) * W) r)
 | [],k,s,r,c,f=>by
  have f':s=r:=f
  subst f'
  show zW m c s=zW m (c + 0 * W) s
  rw [Int.zero_mul,Int.add_zero]
 | g :: L,k,s,r,c,⟨s',J,f⟩=>by
  by_cases e:k=j
  ·rw [Ak e] at J
   have ih:=bZ (W:=W) L (k + 1) s' r (c + 0) f
   refine ⟨zW m (c + 0) s',?_,?_⟩
   ·show JoinTab m _ (if k=j then fW m t k g else vM m t k W g).w _
    rw [Ak e]
    exact lQ J
   ·show j7 m _ _ (zW m (c + ((if k=j then 0 else 1) + nI j (k + 1) _) * W) r)
    rw [Ak e,CN]
    rw [Int.add_zero] at ih ⊢
    exact ih
  ·rw [Aj e] at J
   have ih:=bZ (W:=W) L (k + 1) s' r (c + W) f
   refine ⟨zW m (c + W) s',?_,?_⟩
   ·show JoinTab m _ (if k=j then fW m t k g else vM m t k W g).w _
    rw [Aj e]
    exact lQ J
   ·show j7 m _ _ (zW m (c + ((if k=j then 0 else 1) + nI j (k + 1) _) * W) r)
    rw [Aj e,Cw,BL,← Int.add_assoc]
    exact ih
structure Base (S:Nat→Bool)(m:Nat)(W:Int)(g:Gr):Prop where
 val:Val g.E g.s m g.w
 sd:∀ e,g.E e→S (pL e)=true∧S (pR e)=false
 own:eA g.E g.s
 blk:∀ v,g.s v→10 ≤ v∧v < 100
 top:∀ h,h < 2 ^ m→g.w.getD h 0 ≤ W
structure Sds (S:Nat→Bool):Prop where
 up:∀ k v,v < 100→S (pK (2 * k) v)=S v
 a:∀ k,S (aN k)=true
 b:∀ k,S (bN k)=false
section
variable {S:Nat→Bool}{m t:Nat}{W:Int}
theorem fZ (SS:Sds S){g:Gr}(B:Base S m W g)(k:Nat):Val (shE (2 * k) g.E) (sR (2 * k) g.s) m g.w∧(∀ e,shE (2 * k) g.E e→S (pL e)=true∧S (pR e)=false)∧eA (shE (2 * k) g.E) (sR (2 * k) g.s)∧∀ v,sR (2 * k) g.s v→10 ≤ v∧200 * k ≤ v∧v < 200 * k + 100:=by
 refine ⟨sh_val (2 * k) B.val B.own,?_,sh_own B.own,fun v ⟨v0,z,v10,e⟩=>by have:=B.blk v0 z;omega⟩
 rintro e ⟨e0,h0,rfl⟩
 obtain ⟨s1,s2⟩:=B.sd e0 h0
 have lt:∀ v,(v < 5∨(10 ≤ v∧g.s v))→v < 100:=fun v o=>by
  rcases o with z | z
  ·omega
  ·exact (B.blk v z.2).2
 show S (pK (2 * k) (pL e0))=true∧S (pK (2 * k) (pR e0))=false
 rw [SS.up k _ (lt _ (B.own e0 h0).1),SS.up k _ (lt _ (B.own e0 h0).2)]
 exact ⟨s1,s2⟩
theorem gx_ok (m5:m ≤ 5)(tm:t < m)(st:S t=false)(SS:Sds S)(j:Nat):∀ (L:List Gr) (k:Nat),(∀ g ∈ L,Base S m W g)→GL S m k (jG m t W j k L)
 | [],_,_=>trivial
 | g :: L,k,hB=>by
  obtain ⟨V,sd,ow,bk⟩:=fZ SS (hB g Af) k
  have B:=hB g Af
  have na:¬ sR (2 * k) g.s (aN k):=fun z=>by have:=bk _ z;unfold aN at this;omega
  have nb:¬ sR (2 * k) g.s (bN k):=fun z=>by have:=bk _ z;unfold bN at this;omega
  have a10:10 ≤ aN k:=by unfold aN;omega
  have b10:10 ≤ bN k:=by unfold bN;omega
  refine ⟨?_,gx_ok m5 tm st SS j L (k + 1) fun x hx=>hB x (Ad _ hx)⟩
  have fo:∀ {e:Edge},FrE (shE (2 * k) g.E) t (bN k) e→(pL e < 5∨(10 ≤ pL e∧sR (2 * k) g.s (pL e)))∧(pR e < 5∨(10 ≤ pR e∧(sR (2 * k) g.s (pR e)∨pR e=bN k))):=fun {e} h=>by
   obtain ⟨o1,o2⟩:=x6 ow h
   refine ⟨o1,?_⟩
   rcases o2 with z | ⟨_,z | z⟩
   ·exact .inr ⟨by omega,.inr z⟩
   ·exact .inl z
   ·exact .inr ⟨z.1,.inl z.2⟩
  by_cases e:k=j
  ·rw [Ak e]
   refine ⟨free_val m5 V sd ow tm st b10 nb (fun h hh=>by show (zW m 0 (oneT m t g.w)).getD h 0=_;rw [j8 hh,u7 hh];omega),fr_side sd (SS.b k),fun e he=>?_,fun v z=>?_⟩
   ·obtain ⟨o1,o2⟩:=fo he
    exact ⟨o1.imp id fun y=>⟨y.1,.inl y.2⟩,o2⟩
   ·rcases z with z | z
    ·have:=bk v z;omega
    ·unfold bN at z;omega
  ·rw [Aj e]
   refine ⟨gate_val m5 V sd ow tm st (SS.a k) (SS.b k) a10 b10 na nb B.top (fun h hh=>j8 hh),lV sd st (SS.a k) (SS.b k),fun e he=>?_,fun v z=>?_⟩
   ·rcases he with he | rfl | rfl
    ·obtain ⟨o1,o2⟩:=fo he
     exact ⟨o1.imp id fun y=>⟨y.1,.inl y.2⟩,o2.imp id fun y=>⟨y.1,y.2.imp id .inr⟩⟩
    ·exact ⟨.inr ⟨a10,.inr (.inl rfl)⟩,.inl (show t < 5 by omega)⟩
    ·exact ⟨.inr ⟨a10,.inr (.inl rfl)⟩,.inr ⟨b10,.inr (.inr rfl)⟩⟩
   ·rcases z with z | z | z
    ·have:=bk v z;omega
    ·unfold aN at z;omega
    ·unfold bN at z;omega
theorem oH {n j:Nat}{e:Edge}(ne:pL e ≠ aN j):∀ (L:List Gr) (k:Nat),k + L.length ≤ n→(∃ g ∈ jG m t W n k L,g.E e)→∃ g ∈ jG m t W j k L,g.E e
 | [],_,_,⟨_,h,_⟩=>by cases h
 | g :: L,k,hn,⟨g',h,z⟩=>by
  rw [Az] at hn
  have h':g' ∈ (if k=n then fW m t k g else vM m t k W g) :: jG m t W n (k + 1) L:=h
  show ∃ g' ∈ (if k=j then fW m t k g else vM m t k W g) :: jG m t W j (k + 1) L,g'.E e
  rcases Ax.mp h' with y | y
  ·rw [Aj (by omega)] at y
   subst y
   by_cases c:k=j
   ·refine ⟨_,Af,?_⟩
    rw [Ak c]
    rcases z with z | z | z
    ·exact z
    ·exact absurd (by rw [z,c];rfl) ne
    ·exact absurd (by rw [z,c];rfl) ne
   ·refine ⟨_,Af,?_⟩
    rw [Aj c]
    exact z
  ·obtain ⟨g2,h2,z2⟩:=oH ne L (k + 1) (by omega) ⟨g',y,z⟩
   exact ⟨g2,Ad _ h2,z2⟩
theorem oF {n j v:Nat}(ne:v ≠ aN j):∀ (L:List Gr) (k:Nat),k + L.length ≤ n→(∃ g ∈ jG m t W n k L,g.s v)→∃ g ∈ jG m t W j k L,g.s v
 | [],_,_,⟨_,h,_⟩=>by cases h
 | g :: L,k,hn,⟨g',h,z⟩=>by
  rw [Az] at hn
  have h':g' ∈ (if k=n then fW m t k g else vM m t k W g) :: jG m t W n (k + 1) L:=h
  show ∃ g' ∈ (if k=j then fW m t k g else vM m t k W g) :: jG m t W j (k + 1) L,g'.s v
  rcases Ax.mp h' with y | y
  ·rw [Aj (by omega)] at y
   subst y
   by_cases c:k=j
   ·refine ⟨_,Af,?_⟩
    rw [Ak c]
    rcases z with z | z | z
    ·exact .inl z
    ·exact absurd (by rw [z,c]) ne
    ·exact .inr z
   ·refine ⟨_,Af,?_⟩
    rw [Aj c]
    exact z
  ·obtain ⟨g2,h2,z2⟩:=oF ne L (k + 1) (by omega) ⟨g',y,z⟩
   exact ⟨g2,Ad _ h2,z2⟩
theorem oG {n:Nat}{e:Edge}(SS:Sds S)(er:pR e=t)(t5:t < 5):∀ (L:List Gr) (k:Nat),(∀ g ∈ L,Base S m W g)→k + L.length ≤ n→(∃ g ∈ jG m t W n k L,g.E e)→∃ j,k ≤ j∧j < k + L.length∧e=(aN j,t,W)
 | [],_,_,_,⟨_,h,_⟩=>by cases h
 | g :: L,k,hB,hn,⟨g',h,z⟩=>by
  rw [Az] at hn
  have h':g' ∈ (if k=n then fW m t k g else vM m t k W g) :: jG m t W n (k + 1) L:=h
  rcases Ax.mp h' with y | y
  ·rw [Aj (by omega)] at y
   subst y
   rcases z with z | z | z
   ·obtain ⟨_,_,ow,_⟩:=fZ SS (hB g Af) k
    rcases (x6 ow z).2 with x | x
    ·unfold bN at x;omega
    ·exact absurd er x.1
   ·exact ⟨k,Ag _,by rw [Az];omega,z⟩
   ·rw [z] at er
    have:bN k=t:=er
    unfold bN at this
    omega
  ·obtain ⟨j,j1,j2,j3⟩:=oG SS er t5 L (k + 1) (fun x hx=>hB x (Ad _ hx)) (by omega) ⟨g',y,z⟩
   exact ⟨j,by omega,by rw [Az];omega,j3⟩
end
theorem sumF_one {K t:Nat}{y:Int}(y0:0 ≤ y):sumF (fun x=>if x=t then y else 0) (List.range K) ≤ y:=by
 have h:=zS (fun x=>if x=t then y else 0) (List.range K) [t] List.nodup_range (fun x hx=>by rw [AJ.mp hx];show 0 ≤ if t=t then y else 0;rw [Ak rfl];exact y0) fun x _=>by
  by_cases e:x=t
  ·exact .inr (by rw [e];exact List.mem_singleton_self t)
  ·refine .inl ?_
   show (if x=t then y else 0) ≤ 0
   rw [Aj e]
   exact Aw _
 have e:sumF (fun x=>if x=t then y else 0) [t] = y:=by
  rw [kD]
  show (if t=t then y else 0) + 0=y
  rw [Ak rfl]
  omega
 omega
theorem sumF_two {c:Nat→Int}(c0:∀ x,0 ≤ c x){K a b:Nat}(ab:a ≠ b)(aK:a < K)(bK:b < K):c a + c b ≤ sumF (fun x=>if x=a∨x=b then c x else 0) (List.range K):=by
 have h:=zS (fun x=>if x=a∨x=b then c x else 0) [a,b] (List.range K) (by simp [ab]) (fun x _=>by have:=c0 x;show 0 ≤ if _ then c x else 0;split <;> omega) fun x hx=>by
  refine .inr (AI.mpr ?_)
  rcases Ax.mp hx with rfl | z
  ·exact aK
  ·rw [AJ.mp z];exact bK
 have e:sumF (fun x=>if x=a∨x=b then c x else 0) [a,b] = c a + c b:=by
  rw [kD,kD]
  show (if a=a∨a=b then c a else 0) + ((if b=a∨b=b then c b else 0) + 0)=_
  rw [Ak (.inl rfl),Ak (.inr rfl)]
  omega
 omega
theorem gx_len {m t j:Nat}{W:Int}:∀ (L:List Gr) (k:Nat),(jG m t W j k L).length=L.length
 | [],_=>rfl
 | g :: L,k=>by
  show (_ :: jG m t W j (k + 1) L).length=_
  rw [Az,Az,gx_len L (k + 1)]
theorem rX (m:Nat):Val (fun _=>False) (fun _=>False) m (zW m 0 (jI m)):=by
 refine ⟨fun h hh=>⟨[],Mat.nil,by rw [j8 hh,zR];rfl⟩,fun h hh M hM=>?_⟩
 cases M with
 | nil=>rw [j8 hh,zR];exact Aw _
 | cons e M=>exact (hM.ed e Af).elim
section
variable {S:Nat→Bool}{m t:Nat}{W:Int}
theorem mV (m5:m ≤ 5)(tm:t < m)(st:S t=false)(SS:Sds S){n K:Nat}(Kn:K=200 * n){c:Nat→Int}(cn:∀ x,0 ≤ c x)(c0:∀ x,m ≤ x→x < 10→c x=0){EU:Edge→Prop}{A:Nat→Prop}(ce:∀ e,EU e→A (pL e)→A (pR e)→e.2.2 ≤ c (pL e) + c (pR e))(At:∀ x,x < m→A x):∀ (L:List Gr) (k:Nat),k + L.length ≤ n→(∀ g ∈ L,Base S m W g)→(∀ e,(∃ g ∈ jG m t W n k L,g.E e)→EU e)→(∀ v,10 ≤ v→(∃ g ∈ jG m t W n k L,g.s v)→A v)→((L.map fun g=>g.w).map fun ws=>kE ws ((List.range m).map c)).sum + (L.length:Int) * W ≤ sumF (fun x=>if 10 ≤ x∧200 * k ≤ x then c x else 0) (List.range K)
 | [],k,_,_,_,_=>by
  have:=bP (f:=fun x=>if 10 ≤ x∧200 * k ≤ x then c x else 0) (l:=List.range K) fun x _=>by have:=cn x;show 0 ≤ if _ then c x else 0;split <;> omega
  simpa using this
 | g :: L,k,hk,hB,hE,hS=>by
  rw [Az] at hk
  have B:=hB g Af
  obtain ⟨V,sd,ow,bk⟩:=fZ SS B k
  have ih:=mV m5 tm st SS Kn cn c0 ce At L (k + 1) (by omega) (fun x hx=>hB x (Ad _ hx)) (fun e ⟨g',h,z⟩=>hE e ⟨g',Ad _ h,z⟩) (fun v v10 ⟨g',h,z⟩=>hS v v10 ⟨g',Ad _ h,z⟩)
  have hd:(if k=n then fW m t k g else vM m t k W g)=vM m t k W g:=Aj (by omega)
  have inE:∀ e,(vM m t k W g).E e→EU e:=fun e z=>hE e ⟨_,Af,by rw [hd];exact z⟩
  have inS:∀ v,10 ≤ v→(vM m t k W g).s v→A v:=fun v v10 z=>hS v v10 ⟨_,Af,by rw [hd];exact z⟩
  have pg:∀ x,((List.range m).map c).getD x 0=if x < m then c x else 0:=fun x=>by
   rw [Aa,Ah]
   by_cases z:x < m
   ·rw [B4 z,Ak z];rfl
   ·rw [Bx (by rw [BU];omega),Aj z];rfl
  have a10:10 ≤ aN k:=by unfold aN;omega
  have b10:10 ≤ bN k:=by unfold bN;omega
  have g1:W ≤ c (aN k) + c t:=ce (aN k,t,W) (inE _ (.inr (.inl rfl))) (inS _ a10 (.inr (.inl rfl))) (At t tm)
  have g2:W ≤ c (aN k) + c (bN k):=ce (aN k,bN k,W) (inE _ (.inr (.inr rfl))) (inS _ a10 (.inr (.inl rfl))) (inS _ b10 (.inr (.inr rfl)))
  have av:∀ v,qZ (sR (2 * k) g.s) (2 ^ m - 1) v→A v∧(v < 10∨(10 ≤ v∧200 * k ≤ v∧v < 200 * k + 100)):=fun v a=>by
   rcases a with ⟨v10,z⟩ | ⟨v5,z⟩
   ·exact ⟨inS v v10 (.inl z),.inr (bk v z)⟩
   ·have pp:=As m
    exact ⟨At v (yC m5 (show 2 ^ m - 1 < 2 ^ m by omega) v5 z),.inl (by omega)⟩
  have cv:=rM (K:=K) (ps:=(List.range m).map c) (c:=fun x=>if x=t then max (c (bN k)) (c t) else if x < 10∨(200 * k ≤ x∧x < 200 * k + 100) then c x else 0) m5 V sd (fun v z=>by have:=bk v z;omega) (by omega) (by simp) (fun x=>by
   rw [pg]
   have:=cn x
   split <;> omega) ⟨fun x=>by
   have:=cn x
   have:=cn t
   show 0 ≤ if x=t then _ else if _ then c x else 0
   split
   ·omega
   ·split <;> omega,fun x=>by
   rw [pg]
   have:=cn x
   show _ ≤ if x=t then max (c (bN k)) (c t) else if x < 10∨_ then c x else 0
   by_cases z:x < m
   ·rw [Ak z]
    by_cases e:x=t
    ·rw [Ak e,e];omega
    ·rw [Aj e,Ak (.inl (by omega))];exact Aw _
   ·rw [Aj z,Aj (by omega)];split <;> omega,fun e he a1 a2=>by
   obtain ⟨x1,y1⟩:=av _ a1
   obtain ⟨x2,y2⟩:=av _ a2
   have nl:pL e ≠ t:=fun z=>by have:=(sd e he).1;rw [z,st] at this;cases this
   have w:=ce (iR t (bN k) e) (inE _ (.inl ⟨e,he,rfl⟩)) x1 (by
    show A (if e.2.1=t then bN k else e.2.1)
    split
    ·exact inS _ b10 (.inr (.inr rfl))
    ·exact x2)
   have w':e.2.2 ≤ c (pL e) + c (if e.2.1=t then bN k else e.2.1):=w
   show e.2.2 ≤ (if pL e=t then _ else if _ then c (pL e) else 0) + if pR e=t then max (c (bN k)) (c t) else if _ then c (pR e) else 0
   rw [Aj nl,Ak (y1.imp id fun z=>z.2)]
   by_cases z:pR e=t
   ·rw [Ak z]
    rw [Ak (show e.2.1=t from z)] at w'
    omega
   ·rw [Aj z,Ak (y2.imp id fun z=>z.2)]
    rw [Aj (show ¬ e.2.1=t from z)] at w'
    exact w'⟩
  have s1:=sumF_one (K:=K) (t:=t) (y:=max (c (bN k)) (c t) - c t) (by omega)
  have s2:=sumF_two (K:=K) cn (show aN k ≠ bN k by unfold aN bN;omega) (by unfold aN;omega) (by unfold bN;omega)
  have split3:yM K ((List.range m).map c) (fun x=>if x=t then max (c (bN k)) (c t) else if x < 10∨(200 * k ≤ x∧x < 200 * k + 100) then c x else 0) ≤ sumF (fun x=>if x=t then max (c (bN k)) (c t) - c t else 0) (List.range K) + sumF (fun x=>if 10 ≤ x∧200 * k ≤ x∧x < 200 * k + 100 then c x else 0) (List.range K):=by
   unfold yM
   rw [← j0]
   refine gX fun x _=>?_
   have:=cn x
   show (if x=t then max (c (bN k)) (c t) else if x < 10∨(200 * k ≤ x∧x < 200 * k + 100) then c x else 0) - ((List.range m).map c).getD x 0 ≤ (if x=t then max (c (bN k)) (c t) - c t else 0) + if 10 ≤ x∧200 * k ≤ x∧x < 200 * k + 100 then c x else 0
   rw [pg]
   by_cases e:x=t
   ·rw [Ak e,Ak e,Ak (by omega),Aj (by omega),e];omega
   ·rw [Aj e,Aj e]
    by_cases z:x < 10
    ·rw [Ak (.inl z),Aj (show ¬ (10 ≤ x∧_) by omega)]
     by_cases y:x < m
     ·rw [Ak y];omega
     ·rw [Aj y,c0 x (by omega) z];omega
    ·rw [Aj (show ¬ x < m by omega)]
     by_cases y:200 * k ≤ x∧x < 200 * k + 100
     ·rw [Ak (.inr y),Ak ⟨by omega,y⟩];omega
     ·rw [Aj (by omega),Aj (by omega)];omega
  have all:sumF (fun x=>if 10 ≤ x∧200 * k ≤ x∧x < 200 * k + 100 then c x else 0) (List.range K) + (sumF (fun x=>if x=aN k∨x=bN k then c x else 0) (List.range K) + sumF (fun x=>if 10 ≤ x∧200 * (k + 1) ≤ x then c x else 0) (List.range K)) ≤ sumF (fun x=>if 10 ≤ x∧200 * k ≤ x then c x else 0) (List.range K):=by
   rw [← j0,← j0]
   refine gX fun x _=>?_
   have:=cn x
   show (if 10 ≤ x∧200 * k ≤ x∧x < 200 * k + 100 then c x else 0) + ((if x=aN k∨x=bN k then c x else 0) + if 10 ≤ x∧200 * (k + 1) ≤ x then c x else 0) ≤ if 10 ≤ x∧200 * k ≤ x then c x else 0
   unfold aN bN
   repeat' split
   all_goals omega
  rw [Av,Av,AF,Az]
  push_cast
  rw [Cw,BL]
  omega
theorem aM (m5:m ≤ 5)(tm:t < m)(st:S t=false)(SS:Sds S){L:List Gr}(L1:1 ≤ L.length)(hB:∀ g ∈ L,Base S m W g){r:List Int}(f:j7 m (L.map fun g=>g.w) (jI m) r){G2:Int}(g2:r.getD (2 ^ m - 1) 0 ≤ G2)(hj:∀ j,j < L.length→∃ rj,j7 m (dB m t j 0 (L.map fun g=>g.w)) (jI m) rj∧rj.getD (2 ^ m - 1) 0 ≤ G2):∃ ps:List Int,ps.length=m∧(∀ x ∈ ps,0 ≤ x)∧q5 (L.map fun g=>g.w) ps ≤ r.getD (2 ^ m - 1) 0∧ps.getD t 0 ≤ G2 - r.getD (2 ^ m - 1) 0:=by
 have pp:=As m
 have full:2 ^ m - 1 < 2 ^ m:=by omega
 have t5:t < 5:=by omega
 obtain ⟨rn,cn'⟩:=sY (m:=m) (t:=t) (j:=L.length) (L.map fun g=>g.w) 0 (by simp)
 have f0:=bZ (m:=m) (t:=t) (W:=W) (j:=L.length) L 0 (jI m) r 0 (by rw [rn];exact f)
 rw [cn',Ab,CN] at f0
 obtain ⟨VU,sU,bU⟩:=cA m5 (jG m t W L.length 0 L) 0 _ _ (fun _=>False) (fun _=>False) f0 (rX m) (fun e z=>z.elim) (fun e z=>z.elim) (fun v z=>z.elim) (gx_ok m5 tm st SS L.length L 0 hB)
 rw [gx_len,Nat.zero_add] at bU
 have hA:∀ v,qZ (fun v=>False∨∃ g ∈ jG m t W L.length 0 L,g.s v) (2 ^ m - 1) v→v < 200 * L.length:=fun v a=>by
  rcases a with z | z
  ·exact (bU v z.2).2
  ·omega
 obtain ⟨c,cn,c0,ce,M,hM,le,top,cR,_⟩:=mZ (K:=200 * L.length) sU hA (fun M hM=>VU.ge _ full M hM)
 have wM:jN M=(L.length:Int) * W + r.getD (2 ^ m - 1) 0:=by
  obtain ⟨Mx,hMx,wx⟩:=VU.at' _ full
  have a:=top Mx hMx
  have b:=VU.ge _ full M hM
  rw [j8 full] at wx b
  omega
 have At:∀ x,x < m→qZ (fun v=>False∨∃ g ∈ jG m t W L.length 0 L,g.s v) (2 ^ m - 1) x:=fun x hx=>.inr ⟨by omega,zD m5 hx⟩
 obtain ⟨N,hN,cN⟩:=cR t (At t tm) st
 have wN:jN N ≤ (L.length:Int) * W + G2:=by
  have side2:=t6 sU hA
  by_cases cp:∃ e ∈ N,pR e=t + 200 * L.length
  ·obtain ⟨e,he,er⟩:=cp
   obtain ⟨N1,pm,_,hN1⟩:=hN.take (S:=fun x=>decide (x < 200 * L.length) && S x) side2 he
   have w1:jN N=e.2.2 + jN N1:=by rw [yE pm,kI]
   obtain ⟨e0,h0,a1,a2,z⟩:=hN.ed e he
   have et:pR e0=t∧e.2.2=e0.2.2∧pL e=pL e0:=by
    rcases z with rfl | rfl
    ·have:=hA _ a2
     omega
    ·have:e0.2.1 + 200 * L.length=t + 200 * L.length:=er
     exact ⟨by show e0.2.1=t;omega,rfl,rfl⟩
   obtain ⟨j,_,j2,ej⟩:=oG SS et.1 t5 L 0 hB (by omega) (h0.resolve_left id)
   have eL:pL e=aN j:=by rw [et.2.2,ej];rfl
   have eW:e.2.2=W:=by rw [et.2.1,ej]
   obtain ⟨rj,fj,gj⟩:=hj j (by omega)
   have fx:=bZ (m:=m) (t:=t) (W:=W) (j:=j) L 0 (jI m) rj 0 fj
   rw [oU (L.map fun g=>g.w) 0 (AZ _) (by simpa using j2),Ab,CN] at fx
   obtain ⟨VX,_,_⟩:=cA m5 (jG m t W j 0 L) 0 _ _ (fun _=>False) (fun _=>False) fx (rX m) (fun e z=>z.elim) (fun e z=>z.elim) (fun v z=>z.elim) (gx_ok m5 tm st SS j L 0 hB)
   rw [eL,er] at hN1
   have dr:=fU hA (fun v z=>z.1.1.resolve_right z.2) hN1
   have go:∀ v,minus (minus (plus (qZ (fun v=>False∨∃ g ∈ jG m t W L.length 0 L,g.s v) (2 ^ m - 1)) (t + 200 * L.length)) (aN j)) (t + 200 * L.length) v→qZ (fun v=>False∨∃ g ∈ jG m t W j 0 L,g.s v) (2 ^ m - 1) v:=fun v z=>by
    rcases z.1.1.resolve_right z.2 with y | y
    ·exact .inl ⟨y.1,.inr (oF z.1.2 L 0 (by omega) (y.2.resolve_left id))⟩
    ·exact .inr y
   have g:=VX.ge _ full N1 ⟨fun x hx=>.inr (oH (dr.ap x hx).1.2 L 0 (by omega) ((dr.ed x hx).resolve_left id)),dr.np,dr.nq,fun x hx=>go _ (dr.ap x hx),fun x hx=>go _ (dr.aq x hx)⟩
   rw [j8 full,Int.sub_mul,BL] at g
   omega
  ·have hN':Mat (Ed2 (fun e=>False∨∃ g ∈ jG m t W L.length 0 L,g.E e) (qZ (fun v=>False∨∃ g ∈ jG m t W L.length 0 L,g.s v) (2 ^ m - 1)) (200 * L.length)) pL pR (qZ (fun v=>False∨∃ g ∈ jG m t W L.length 0 L,g.s v) (2 ^ m - 1)) N:=⟨hN.ed,hN.np,hN.nq,fun x hx=>(hN.ap x hx).resolve_right fun z=>by
    obtain ⟨e0,h0,a1,a2,y⟩:=hN.ed x hx
    have:=hA _ a1
    have:pL x=pL e0:=by rcases y with rfl | rfl <;> rfl
    omega,fun x hx=>(hN.aq x hx).resolve_right fun z=>cp ⟨x,hx,z⟩⟩
   have g:=VU.ge _ full N (fU hA (fun _ z=>z) hN')
   rw [j8 full] at g
   omega
 have out:∀ x,m ≤ x→x < 10→c x=0:=fun x h1 h2=>c0 x fun a=>by
  rcases a with z | z
  ·omega
  ·have:=yC m5 full z.1 z.2
   omega
 have hands:=mV (W:=W) m5 tm st SS (n:=L.length) rfl cn out ce At L 0 (by omega) hB (fun e z=>.inr z) (fun v v10 z=>.inl ⟨v10,.inr z⟩)
 have pt:((List.range m).map c).getD t 0=c t:=gL tm
 refine ⟨(List.range m).map c,by simp,fun x hx=>?_,?_,by rw [pt,cN,wM];omega⟩
 ·obtain ⟨y,_,rfl⟩:=Ae.mp hx
  exact cn y
 have h2:sumF (fun x=>if 10 ≤ x∧200 * 0 ≤ x then c x else 0) (List.range (200 * L.length)) + ((List.range m).map c).sum ≤ sumF c (List.range (200 * L.length)):=by
  rw [yA ((List.range m).map c) (m:=200 * L.length) (by rw [Ab,BU];omega),← j0]
  refine gX fun x _=>?_
  have:=cn x
  show (if 10 ≤ x∧200 * 0 ≤ x then c x else 0) + ((List.range m).map c).getD x 0 ≤ c x
  by_cases z:x < m
  ·rw [show ((List.range m).map c).getD x 0=c x from gL z,Aj (by omega)];omega
  ·rw [kP (m:=m) (by simp) (by omega)];split <;> omega
 unfold q5
 omega
end
def shG (k:Nat)(g:Gr):Gr:=⟨shE (2 * k) g.E,sR (2 * k) g.s,g.w⟩
def shL:Nat→List Gr→List Gr
 | _,[]=>[]
 | k,g :: L=>shG k g :: shL (k + 1) L
theorem shL_w:∀ (L:List Gr) (k:Nat),((shL k L).map fun g=>g.w)=L.map fun g=>g.w
 | [],_=>rfl
 | g :: L,k=>by
  show g.w :: _=g.w :: _
  rw [shL_w L (k + 1)]
theorem iK:∀ (L:List Gr) (k:Nat),(shL k L).length=L.length
 | [],_=>rfl
 | g :: L,k=>by
  show (_ :: shL (k + 1) L).length=_
  rw [Az,Az,iK L (k + 1)]
section
variable {S:Nat→Bool}{m t:Nat}{W:Int}
theorem shL_ok (SS:Sds S):∀ (L:List Gr) (k:Nat),(∀ g ∈ L,Base S m W g)→GL S m k (shL k L)
 | [],_,_=>trivial
 | g :: L,k,hB=>by
  obtain ⟨V,sd,ow,bk⟩:=fZ SS (hB g Af) k
  exact ⟨⟨V,sd,ow,fun v z=>by have:=bk v z;omega⟩,shL_ok SS L (k + 1) fun x hx=>hB x (Ad _ hx)⟩
theorem bI (m5:m ≤ 5)(SS:Sds S){n K:Nat}(Kn:K=200 * n){c:Nat→Int}(cn:∀ x,0 ≤ c x)(c0:∀ x,m ≤ x→x < 10→c x=0){EU:Edge→Prop}{A:Nat→Prop}(ce:∀ e,EU e→A (pL e)→A (pR e)→e.2.2 ≤ c (pL e) + c (pR e))(At:∀ x,x < m→A x):∀ (L:List Gr) (k:Nat),k + L.length ≤ n→(∀ g ∈ L,Base S m W g)→(∀ e,(∃ g ∈ shL k L,g.E e)→EU e)→(∀ v,10 ≤ v→(∃ g ∈ shL k L,g.s v)→A v)→((L.map fun g=>g.w).map fun ws=>kE ws ((List.range m).map c)).sum ≤ sumF (fun x=>if 10 ≤ x∧200 * k ≤ x then c x else 0) (List.range K)
 | [],k,_,_,_,_=>by
  have:=bP (f:=fun x=>if 10 ≤ x∧200 * k ≤ x then c x else 0) (l:=List.range K) fun x _=>by have:=cn x;show 0 ≤ if _ then c x else 0;split <;> omega
  simpa using this
 | g :: L,k,hk,hB,hE,hS=>by
  rw [Az] at hk
  obtain ⟨V,sd,ow,bk⟩:=fZ SS (hB g Af) k
  have ih:=bI m5 SS Kn cn c0 ce At L (k + 1) (by omega) (fun x hx=>hB x (Ad _ hx)) (fun e ⟨g',h,z⟩=>hE e ⟨g',Ad _ h,z⟩) (fun v v10 ⟨g',h,z⟩=>hS v v10 ⟨g',Ad _ h,z⟩)
  have pg:∀ x,((List.range m).map c).getD x 0=if x < m then c x else 0:=fun x=>by
   rw [Aa,Ah]
   by_cases z:x < m
   ·rw [B4 z,Ak z];rfl
   ·rw [Bx (by rw [BU];omega),Aj z];rfl
  have av:∀ v,qZ (sR (2 * k) g.s) (2 ^ m - 1) v→A v∧(v < 10∨(200 * k ≤ v∧v < 200 * (k + 1))):=fun v a=>by
   rcases a with ⟨v10,z⟩ | ⟨v5,z⟩
   ·have:=bk v z
    exact ⟨hS v v10 ⟨_,Af,z⟩,.inr (by omega)⟩
   ·have pp:=As m
    exact ⟨At v (yC m5 (show 2 ^ m - 1 < 2 ^ m by omega) v5 z),.inl (by omega)⟩
  have cv:=rM (K:=K) (ps:=(List.range m).map c) (c:=fun x=>if x < 10∨(200 * k ≤ x∧x < 200 * (k + 1)) then c x else 0) m5 V sd (fun v z=>by have:=bk v z;omega) (by omega) (by simp) (fun x=>by
   rw [pg]
   have:=cn x
   split <;> omega) ⟨fun x=>by have:=cn x;show 0 ≤ if _ then c x else 0;split <;> omega,fun x=>by
   rw [pg]
   have:=cn x
   show _ ≤ if _ then c x else 0
   by_cases z:x < m
   ·rw [Ak z,Ak (.inl (by omega))];exact Aw _
   ·rw [Aj z];split <;> omega,fun e he a1 a2=>by
   obtain ⟨x1,y1⟩:=av _ a1
   obtain ⟨x2,y2⟩:=av _ a2
   show e.2.2 ≤ (if _ then c (pL e) else 0) + if _ then c (pR e) else 0
   rw [Ak y1,Ak y2]
   exact ce e (hE e ⟨_,Af,he⟩) x1 x2⟩
  have all:yM K ((List.range m).map c) (fun x=>if x < 10∨(200 * k ≤ x∧x < 200 * (k + 1)) then c x else 0) + sumF (fun x=>if 10 ≤ x∧200 * (k + 1) ≤ x then c x else 0) (List.range K) ≤ sumF (fun x=>if 10 ≤ x∧200 * k ≤ x then c x else 0) (List.range K):=by
   unfold yM
   rw [← j0]
   refine gX fun x _=>?_
   have:=cn x
   show (if x < 10∨(200 * k ≤ x∧x < 200 * (k + 1)) then c x else 0) - ((List.range m).map c).getD x 0 + (if 10 ≤ x∧200 * (k + 1) ≤ x then c x else 0) ≤ if 10 ≤ x∧200 * k ≤ x then c x else 0
   rw [pg]
   by_cases z:x < 10
   ·rw [Ak (.inl z),Aj (show ¬ (10 ≤ x∧_) by omega),Aj (show ¬ (10 ≤ x∧_) by omega)]
    by_cases y:x < m
    ·rw [Ak y];omega
    ·rw [Aj y,c0 x (by omega) z];omega
   ·rw [Aj (show ¬ x < m by omega)]
    repeat' split
    all_goals omega
  rw [Av,Av,AF]
  omega
theorem lG (m5:m ≤ 5)(SS:Sds S){L:List Gr}(L1:1 ≤ L.length)(hB:∀ g ∈ L,Base S m W g){r:List Int}(f:j7 m (L.map fun g=>g.w) (jI m) r):∃ ps:List Int,ps.length=m∧(∀ x ∈ ps,0 ≤ x)∧q5 (L.map fun g=>g.w) ps ≤ r.getD (2 ^ m - 1) 0∧∀ t,t < m→S t=true→r.getD (2 ^ m - 1) 0 - r.getD ((2 ^ m - 1) ^^^ 2 ^ t) 0 ≤ ps.getD t 0:=by
 have pp:=As m
 have full:2 ^ m - 1 < 2 ^ m:=by omega
 have p32:2 ^ m ≤ 2 ^ 5:=Ao (by decide) m5
 obtain ⟨VU,sU,bU⟩:=cA m5 (shL 0 L) 0 _ _ (fun _=>False) (fun _=>False) (by rw [shL_w];exact f) (⟨fun h _=>⟨[],Mat.nil,(zR m h).symm⟩,fun h _ M hM=>by
   cases M with
   | nil=>rw [zR];exact Aw _
   | cons e M=>exact (hM.ed e Af).elim⟩:Val _ _ m (jI m)) (fun e z=>z.elim) (fun e z=>z.elim) (fun v z=>z.elim) (shL_ok SS L 0 hB)
 rw [iK,Nat.zero_add] at bU
 have hA:∀ v,qZ (fun v=>False∨∃ g ∈ shL 0 L,g.s v) (2 ^ m - 1) v→v < 200 * L.length:=fun v a=>by
  rcases a with z | z
  ·exact (bU v z.2).2
  ·omega
 obtain ⟨c,cn,c0,ce,M,hM,le,top,_,cL⟩:=mZ (K:=200 * L.length) sU hA (fun M hM=>VU.ge _ full M hM)
 have At:∀ x,x < m→qZ (fun v=>False∨∃ g ∈ shL 0 L,g.s v) (2 ^ m - 1) x:=fun x hx=>.inr ⟨by omega,zD m5 hx⟩
 have wM:jN M=r.getD (2 ^ m - 1) 0:=by
  obtain ⟨Mx,hMx,wx⟩:=VU.at' _ full
  have a:=top Mx hMx
  have b:=VU.ge _ full M hM
  omega
 have out:∀ x,m ≤ x→x < 10→c x=0:=fun x h1 h2=>c0 x fun a=>by
  rcases a with z | z
  ·omega
  ·have:=yC m5 full z.1 z.2
   omega
 have hands:=bI (W:=W) m5 SS (n:=L.length) rfl cn out ce At L 0 (by omega) hB (fun e z=>.inr z) (fun v v10 z=>.inl ⟨v10,.inr z⟩)
 refine ⟨(List.range m).map c,by simp,fun x hx=>?_,?_,fun t tm st=>by
  obtain ⟨N,hN,cN⟩:=cL t (At t tm) st
  have wN:=VU.ge _ (kO m5 full tm) N (hN.imp (zC (by omega) (by omega) (zD m5 tm)))
  rw [show ((List.range m).map c).getD t 0=c t from gL tm,cN,wM]
  omega⟩
 ·obtain ⟨y,_,rfl⟩:=Ae.mp hx
  exact cn y
 have h2:sumF (fun x=>if 10 ≤ x∧200 * 0 ≤ x then c x else 0) (List.range (200 * L.length)) + ((List.range m).map c).sum ≤ sumF c (List.range (200 * L.length)):=by
  rw [yA ((List.range m).map c) (m:=200 * L.length) (by rw [Ab,BU];omega),← j0]
  refine gX fun x _=>?_
  have:=cn x
  show (if 10 ≤ x∧200 * 0 ≤ x then c x else 0) + ((List.range m).map c).getD x 0 ≤ c x
  by_cases z:x < m
  ·rw [show ((List.range m).map c).getD x 0=c x from gL z,Aj (by omega)];omega
  ·rw [kP (m:=m) (by simp) (by omega)];split <;> omega
 unfold q5
 omega
end
theorem iX {q:List Int}(q0:∀ x ∈ q,0 ≤ x){h t:Nat}(hh:h < 32)(ht:t < 5):∀ n,n ≤ 5→q9 q (h ||| 2 ^ t) n ≤ q9 q h n + if t < n then q.getD t 0 else 0
 | 0,_=>by simp [q9]
 | n + 1,hn=>by
  have ih:=iX q0 hh ht n (by omega)
  have b:=(mI hh ht (show n < 5 by omega)).1
  have g:=jW q0 n
  have gt:=jW q0 t
  show q9 q (h ||| 2 ^ t) n + (if qA (h ||| 2 ^ t) n=true then q.getD n 0 else 0) ≤ q9 q h n + (if qA h n=true then q.getD n 0 else 0) + if t < n + 1 then q.getD t 0 else 0
  rw [b]
  by_cases e:n=t
  ·subst e
   rw [Aj (AQ n)] at ih
   rw [Ar rfl,CL,Ak rfl,Ak (Be n)]
   split <;> omega
  ·rw [Al e,Bool.or_false]
   by_cases z:t < n
   ·rw [Ak z] at ih
    rw [Ak (show t < n + 1 by omega)]
    omega
   ·rw [Aj z] at ih
    rw [Aj (show ¬ t < n + 1 by omega)]
    omega
theorem one_vmax {ws q:List Int}{m t:Nat}(m5:m ≤ 5)(tm:t < m)(ql:q.length=m)(q0:∀ x ∈ q,0 ≤ x):kE (oneT m t ws) q ≤ kE ws q + q.getD t 0:=by
 have p32:2 ^ m ≤ 2 ^ 5:=Ao (by decide) m5
 have pp:=As m
 obtain ⟨h,h1,h2⟩:=zV (yW (oneT m t ws) q) (2 ^ q.length - 1)
 have h2':kE (oneT m t ws) q=(oneT m t ws).getD h 0 - q9 q h q.length:=h2
 rw [ql] at h1 h2'
 have hh:h < 2 ^ m:=by omega
 rw [u7 hh] at h2'
 have l:ws.getD (h ||| 2 ^ t) 0 - q9 q (h ||| 2 ^ t) q.length ≤ kE ws q:=zM (yW ws q) (show h ||| 2 ^ t ≤ 2 ^ q.length - 1 by rw [ql];have:=iW hh tm;omega)
 rw [ql] at l
 have o:=iX q0 (show h < 32 by omega) (show t < 5 by omega) m m5
 rw [Ak tm] at o
 omega
theorem sX {m t j:Nat}{q:List Int}(m5:m ≤ 5)(tm:t < m)(ql:q.length=m)(q0:∀ x ∈ q,0 ≤ x):∀ (ts:List (List Int)) (k:Nat),((dB m t j k ts).map fun ws=>kE ws q).sum ≤ (ts.map fun ws=>kE ws q).sum + if k ≤ j then q.getD t 0 else 0
 | [],k=>by
  have:=jW q0 t
  show (0:Int) ≤ 0 + _
  split <;> omega
 | ws :: ts,k=>by
  have ih:=sX m5 tm ql q0 ts (k + 1) (j:=j)
  have g:=jW q0 t
  show (((if k=j then oneT m t ws else ws) :: dB m t j (k + 1) ts).map fun ws=>kE ws q).sum ≤ _
  rw [Av,Av,AF,AF]
  by_cases e:k=j
  ·rw [Ak e]
   rw [Aj (show ¬ k + 1 ≤ j by omega)] at ih
   rw [Ak (show k ≤ j by omega)]
   have:=one_vmax (ws:=ws) m5 tm ql q0
   omega
  ·rw [Aj e]
   by_cases z:k ≤ j
   ·rw [Ak (show k + 1 ≤ j by omega)] at ih
    rw [Ak z]
    omega
   ·rw [Aj (show ¬ k + 1 ≤ j by omega)] at ih
    rw [Aj z]
    omega
theorem least_ge {m t j:Nat}{q:List Int}(m5:m ≤ 5)(tm:t < m)(ql:q.length=m)(q0:∀ x ∈ q,0 ≤ x){ts:List (List Int)}{rj:List Int}(f:j7 m (dB m t j 0 ts) (jI m) rj):rj.getD (2 ^ m - 1) 0 ≤ q5 ts q + q.getD t 0:=by
 have pp:=As m
 have fl:=cB m5 ql _ (jI m) rj 0 f (fun h _=>by
  rw [zR]
  have:=h9 q0 h m
  omega) (2 ^ m - 1) (by omega)
 have e:=yZ q (2 ^ m - 1) m fun t ht=>zD m5 ht
 rw [A9 (by omega)] at e
 have v:=sX (j:=j) m5 tm ql q0 ts 0
 rw [Ak (AZ _)] at v
 unfold q5
 omega
theorem most_le {m t:Nat}{q:List Int}(m5:m ≤ 5)(tm:t < m)(ql:q.length=m)(q0:∀ x ∈ q,0 ≤ x){ts:List (List Int)}{r:List Int}(f:j7 m ts (jI m) r):r.getD ((2 ^ m - 1) ^^^ 2 ^ t) 0 ≤ q5 ts q - q.getD t 0:=by
 have pp:=As m
 have p32:2 ^ m ≤ 2 ^ 5:=Ao (by decide) m5
 have full:2 ^ m - 1 < 2 ^ m:=by omega
 have fl:=cB m5 ql _ (jI m) r 0 f (fun h _=>by
  rw [zR]
  have:=h9 q0 h m
  omega) _ (kO m5 full tm)
 have e:=yZ q (2 ^ m - 1) m fun t ht=>zD m5 ht
 rw [A9 (by omega)] at e
 have a:=h8 (ws:=q) (show 2 ^ m - 1 < 32 by omega) (show t < 5 by omega) (zD m5 tm) m m5
 rw [Ak tm] at a
 unfold q5
 omega
def stS (s:Nat→Bool)(v:Nat):Bool:=if v % 200=150 then true else if v % 200=151 then false else s v
theorem dP {s:Nat→Bool}{v:Nat}(h:v < 100):stS s v=s v:=by
 unfold stS
 rw [Aj (by omega),Aj (by omega)]
theorem uR {s:Nat→Bool}(h:∀ k v,10 ≤ v→s (v + 10 * k)=s v):Sds (stS s):=by
 refine ⟨fun k v hv=>?_,fun k=>?_,fun k=>?_⟩
 ·unfold pK
  by_cases c:v < 10
  ·rw [Ak c]
  ·rw [Aj c,dP hv]
   unfold stS
   rw [Aj (by omega),Aj (by omega),show v + 100 * (2 * k)=v + 10 * (20 * k) by omega]
   exact h _ _ (by omega)
 ·unfold stS aN
  rw [Ak (by omega)]
 ·unfold stS bN
  rw [Aj (by omega),Ak (by omega)]
theorem cW (G k v:Nat)(h:10 ≤ v):kR G (v + 10 * k)=kR G v:=by
 unfold kR
 rw [Aj (by omega),Aj (by omega)]
 congr 1
 omega
theorem cF {G m:Nat}{W:Int}:∀ (ts:List (List Int)),(∀ ws ∈ ts,VV G m ws∧∀ h,h < 2 ^ m→ws.getD h 0 ≤ W)→∃ L1 L2:List Gr,(L1.map fun g=>g.w)=ts∧(L2.map fun g=>g.w)=ts∧(∀ g ∈ L1,Base (stS (kR G)) m W g)∧∀ g ∈ L2,Base (stS (fF G)) m W g
 | [],_=>⟨[],[],rfl,rfl,(fun _ z=>by cases z),fun _ z=>by cases z⟩
 | ws :: ts,h=>by
  obtain ⟨L1,L2,e1,e2,b1,b2⟩:=cF ts fun x hx=>h x (Ad _ hx)
  obtain ⟨⟨Ed,sl,V,sd,ow,lt⟩,tp⟩:=h ws Af
  have l:∀ v,(v < 5∨(10 ≤ v∧sl v))→v < 100:=fun v o=>by
   rcases o with z | z
   ·omega
   ·exact (lt v z.2).2
  refine ⟨⟨Ed,sl,ws⟩ :: L1,⟨fun e=>Ed (e.2.1,e.1,e.2.2),sl,ws⟩ :: L2,by rw [Av,e1],by rw [Av,e2],fun g hg=>?_,fun g hg=>?_⟩
  ·rcases Ax.mp hg with rfl | z
   ·refine ⟨V,fun e he=>?_,ow,lt,tp⟩
    rw [dP (l _ (ow e he).1),dP (l _ (ow e he).2)]
    exact sd e he
   ·exact b1 g z
  ·rcases Ax.mp hg with rfl | z
   ·refine ⟨r6 V,fun e he=>?_,fun e he=>⟨(ow _ he).2,(ow _ he).1⟩,lt,tp⟩
    have o:=ow _ he
    rw [dP (show pL e < 100 from l _ o.2),dP (show pR e < 100 from l _ o.1)]
    have s:=sd _ he
    unfold fF
    exact ⟨by rw [show kR G (pL e)=false from s.2];rfl,by rw [show kR G (pR e)=true from s.1];rfl⟩
   ·exact b2 g z
theorem end_price {S:Nat→Bool}{m C t:Nat}{W:Int}(m5:m ≤ 5)(tm:t < m)(hS:S t=qA C t)(SS:Sds S){L:List Gr}(L1:1 ≤ L.length)(hB:∀ g ∈ L,Base S m W g){r:List Int}(f:j7 m (L.map fun g=>g.w) (jI m) r){low:List Int}(Q:IsMin (L.map fun g=>g.w) m low)(B:∀ q,IsMin (L.map fun g=>g.w) m q→Below C m low q)(eM:∀ q,IsMin (L.map fun g=>g.w) m q→q5 (L.map fun g=>g.w) q=r.getD (2 ^ m - 1) 0):(qA C t=false→∀ G2:Int,(∀ j,j < L.length→∃ rj,j7 m (dB m t j 0 (L.map fun g=>g.w)) (jI m) rj∧rj.getD (2 ^ m - 1) 0 ≤ G2)→(∃ j rj,j7 m (dB m t j 0 (L.map fun g=>g.w)) (jI m) rj∧rj.getD (2 ^ m - 1) 0=G2)→r.getD (2 ^ m - 1) 0 ≤ G2→low.getD t 0=G2 - r.getD (2 ^ m - 1) 0)∧(qA C t=true→low.getD t 0=r.getD (2 ^ m - 1) 0 - r.getD ((2 ^ m - 1) ^^^ 2 ^ t) 0):=by
 have qm:∀ ps:List Int,ps.length=m→(∀ x ∈ ps,0 ≤ x)→q5 (L.map fun g=>g.w) ps ≤ r.getD (2 ^ m - 1) 0→IsMin (L.map fun g=>g.w) m ps:=fun ps pl p0 le=>⟨pl,p0,fun x xl x0=>by
  have:=eM low Q
  have:=Q.le x xl x0
  omega⟩
 refine ⟨fun c G2 h1 h2 h3=>?_,fun c=>?_⟩
 ·obtain ⟨ps,pl,p0,le,pt⟩:=aM m5 tm (by rw [hS,c]) SS L1 hB f h3 h1
  have b:=(B ps (qm ps pl p0 le) t tm).1 c
  obtain ⟨j,rj,fj,ej⟩:=h2
  have g:=least_ge m5 tm Q.len Q.nn fj
  have:=eM low Q
  omega
 ·obtain ⟨ps,pl,p0,le,pt⟩:=lG m5 SS L1 hB f
  have pt:=pt t tm (by rw [hS,c])
  have b:=(B ps (qm ps pl p0 le) t tm).2 c
  have g:=most_le m5 tm Q.len Q.nn f
  have:=eM low Q
  omega
theorem sD {G m:Nat}{ts:List (List Int)}{r:List Int}(m5:m ≤ 5)(hv:∀ ws ∈ ts,VV G m ws)(fj:j7 m ts (jI m) r):(∃ ps:List Int,ps.length=m∧(∀ x ∈ ps,0 ≤ x)∧q5 ts ps ≤ r.getD (2 ^ m - 1) 0)∧∀ qs:List Int,qs.length=m→(∀ x ∈ qs,0 ≤ x)→r.getD (2 ^ m - 1) 0 ≤ q5 ts qs:=by
 have pp:=As m
 constructor
 ·by_cases ne:ts=[]
  ·subst ne
   have e:jI m=r:=fj
   refine ⟨List.replicate m 0,by simp,fun x hx=>by rw [Cb hx];exact Aw _,?_⟩
   rw [← e,zR]
   unfold q5
   have z:∀ n:Nat,(List.replicate n (0:Int)).sum=0:=fun n=>by
    induction n with
    | zero=>rfl
    | succ n ih=>rw [Ba,AF,ih];rfl
   rw [z]
   exact Aw _
  ·have top:∃ W:Int,∀ ws ∈ ts,∀ h,h < 2 ^ m→ws.getD h 0 ≤ W:=by
    have nn:∀ l:List Int,∀ h,l.getD h 0 ≤ (l.map fun x=>(x.natAbs:Int)).sum:=fun l=>by
     induction l with
     | nil=>intro h;exact Aw _
     | cons x l ih =>
      intro h
      have s0:=vV (l.map fun x=>(x.natAbs:Int)) fun y hy=>by
       obtain ⟨z,_,rfl⟩:=Ae.mp hy
       omega
      rw [Av,AF]
      cases h with
      | zero=>show x ≤ _;omega
      | succ h=>have:=ih h;show l.getD h 0 ≤ _;omega
    refine ⟨(ts.map fun l=>(l.map fun x=>(x.natAbs:Int)).sum).sum,fun ws hw h _=>By (nn ws h) ?_⟩
    clear fj hv ne
    induction ts with
    | nil=>cases hw
    | cons l ts ih =>
     have p:∀ l:List Int,0 ≤ (l.map fun x=>(x.natAbs:Int)).sum:=fun l=>vV _ fun y hy=>by
      obtain ⟨z,_,rfl⟩:=Ae.mp hy
      omega
     have s0:=vV (ts.map fun l=>(l.map fun x=>(x.natAbs:Int)).sum) fun y hy=>by
      obtain ⟨z,_,rfl⟩:=Ae.mp hy
      exact p z
     have p1:=p l
     rw [Av,AF]
     rcases Ax.mp hw with rfl | z
     ·omega
     ·have:=ih z
      omega
   obtain ⟨W,hW⟩:=top
   obtain ⟨L1,_,e1,_,b1,_⟩:=cF (G:=G) (m:=m) (W:=W) ts fun ws hw=>⟨hv ws hw,hW ws hw⟩
   have l1:1 ≤ L1.length:=by
    cases L1 with
    | nil=>exact absurd e1.symm ne
    | cons _ _=>simp
   obtain ⟨ps,pl,p0,le,_⟩:=lG m5 (uR (s:=kR G) fun k v h=>cW G k v h) l1 b1 (by rw [e1];exact fj)
   rw [e1] at le
   exact ⟨ps,pl,p0,le⟩
 ·intro qs ql q0
  have f:=cB m5 ql ts (jI m) r 0 fj (fun h _=>by
   rw [zR]
   have:=h9 q0 h m
   omega) (2 ^ m - 1) (by omega)
  have e:=yZ qs (2 ^ m - 1) m fun t ht=>zD m5 ht
  rw [A9 (by omega)] at e
  unfold q5
  omega
end
end K98
end
section
namespace K98
namespace S
open PySem L2
section
variable {P:Program}{w:World}{K:PySem.W.Frag}{mg:Str→Option Value}{base:Heap}{f:Addr}{fd:FuncData}
def topI (L:List Int):Int:=L.max?.getD 0
theorem eS {L:List Int}{m:Int}(hm:m ∈ L)(hx:∀ x ∈ L,x ≤ m):topI L=m:=by
 unfold topI
 rw [List.max?_eq_some_iff.mpr ⟨hm,hx⟩]
 rfl
def sL:Sp:=fun vs H Q _=>∃ (d:Addr) (ws:List Int) (b:Int),vs=[.ref d,.int b]∧H d=some (.tup (ws.map V.int))∧0 ≤ b∧b ≤ 1000000000∧ws.length ≤ 32∧∀ (t:Addr) (H':Hp),H t=none→Same H H'→H' t=some (.tup ((ws.map fun x=>b * x).map V.int))→Q (.ref t) H'
def PI (c:Addr)(ws:List Int)(b:Int)(G:Hp)(i:Nat)(σ:St)(H:Hp):Prop:=∃ v:Option V,σ=[v,some (.int b)]∧SameX c G H∧H c=some (.lst (((ws.take i).map fun x=>b * x).map V.int))
theorem bE:FnScope ["want", "by"] ["want", "by"] (qE s_in_parts):=⟨rfl,rfl,rfl,by decide +kernel,rfl,by decide +kernel,by decide +kernel⟩
theorem ok_parts (F:Fun K "in_parts" "in_parts" s_in_parts f fd) (hm:mg "in_parts" = some (.ref f)) (hb:Binds K fd ["want", "by"] []) (T:Txt mg):kL P w K mg base "in_parts" ["want", "by"] 1 sL:=by
 refine qW F hm hb bE (fun vs H Q E h=>?_) (fun cdv A outer s H vs Q E hr h=>?_)
 ·obtain ⟨_,_,_,rfl,_⟩:=h;rfl
 ·obtain ⟨d,ws,b,rfl,hd,b0,b1,wl,q⟩:=h
  have sc:=bE
  refine ⟨_,qI (qP (kX z9 rfl T.tuple_ jM (qC (jR (N:=["worth", "by"]) (fr:=[none,some 1]) rfl (fQ (pv 0)) (CScope.of rfl rfl rfl) rfl (fun _ _ _=>⟨qL (i:=0) (show List.Nodup (α:=Str) ["worth", "by"] by decide +kernel) rfl (Or.inl rfl),kZ,qV dU (pv 1) (pv 0)⟩)) qD))),?_⟩
  rw [show L2.start ["want", "by"] [.ref d,.int b] = [some (.ref d),some (.int b)] from rfl]
  (push_cast only [hd])
  intro c nc
  have ndc:d ≠ c:=qF hd nc
  refine zN (PI c ws b H) ⟨none,rfl,SameX.upd,qG⟩ (fun j σ H' _ ⟨_,_,s,_⟩=>s _ _ ndc hd) ?_ ?_
  ·rintro j x σ H1 hx ⟨v,rfl,s1,e1⟩
   rw [Ah] at hx
   obtain ⟨n,hn',rfl⟩:=An.mp hx
   have hj:j < ws.length:=(Ai.mp hn').1
   (push_cast only [e1])
   refine ⟨.inl ⟨by omega,by omega⟩,qR (by rw [A6];omega),⟨_,rfl,s1.trans SameX.upd,?_⟩⟩
   rw [qG,AB,hn']
   simp
  ·rintro σ H1 ⟨v,rfl,s1,e1⟩
   rw [Ab,Bc] at e1
   have S1:=s1.same nc
   exact ⟨_,e1,fun t H2 n2 s2 e2=>q t H2 (jO S1 n2) (S1.trans s2) e2⟩
structure Rows (H:Hp)(tw sa wa:Addr)(ts:List (Addr × List Int))(m:Nat):Prop where
 tw:H tw=some (.tup [.ref sa,.ref wa])
 wa:H wa=some (.tup (ts.map fun t=>V.ref t.1))
 few:ts.length ≤ 5
 five:m ≤ 5
 row:∀ t ∈ ts,H t.1=some (.tup (t.2.map V.int))∧t.2.length=2 ^ m∧∀ x ∈ t.2,0 ≤ x∧x ≤ 10000
theorem Rows.same {H H':Hp}{tw sa wa:Addr}{ts:List (Addr × List Int)}{m:Nat}(R:Rows H tw sa wa ts m)(s:Same H H'):Rows H' tw sa wa ts m :=
 ⟨s _ _ R.tw,s _ _ R.wa,R.few,R.five,fun t ht=>⟨s _ _ (R.row t ht).1,(R.row t ht).2⟩⟩
def yL (b:Int)(ns ws:List Int):Int:=topI (kN (ws.map fun x=>b * x) ns)
def wC (ts:List (Addr × List Int))(b:Int)(ns:List Int):Int:=(ts.map fun t=>yL b ns t.2).sum + ns.sum
theorem costs_abs:∀ (ns:List Int),(∀ x ∈ ns,0 ≤ x∧x ≤ 100000000000000)→∀ y ∈ kA ns,0 ≤ y∧y ≤ 100000000000000 * (ns.length:Int):=by
 intro ns
 generalize hn:ns.length=n
 induction n generalizing ns with
 | zero =>
  intro _ y hy
  rw [BM hn] at hy
  have:y=0:=by simpa [kA] using hy
  omega
 | succ n ih =>
  intro h y hy
  obtain ⟨ms,p,rfl⟩:∃ ms p,ns=ms ++ [p]:=by
   have hne:ns ≠ []:=by rintro rfl;simp at hn
   exact ⟨ns.dropLast,ns.getLast hne,(B3 hne).symm⟩
  have hml:ms.length=n:=by simpa using hn
  have ihm:=ih ms hml fun x hx=>h x (AM _ hx)
  have hp:=h p (by simp)
  rw [x9] at hy
  rcases AG.mp hy with z | z
  ·have:=ihm y z
   omega
  ·obtain ⟨u,hu,rfl⟩:=Ae.mp z
   have:=ihm u hu
   omega
theorem gains_abs {b:Int}{ns ws:List Int}(b0:0 ≤ b)(b1:b ≤ 1000000000)(n5:ns.length ≤ 5)(hn:∀ x ∈ ns,0 ≤ x∧x ≤ 100000000000000)(hw:∀ x ∈ ws,0 ≤ x∧x ≤ 10000):∀ y ∈ kN (ws.map fun x=>b * x) ns,-(2 ^ 50) ≤ y∧y ≤ 2 ^ 50:=by
 intro y hy
 unfold kN zw at hy
 obtain ⟨⟨u,c⟩,hq,rfl⟩:=Ae.mp hy
 obtain ⟨h1,h2⟩:=C3 hq
 obtain ⟨x,hx,rfl⟩:=Ae.mp h1
 have hc:=costs_abs ns hn c h2
 have hx':=hw x hx
 have m0:0 ≤ b * x:=Cj b0 hx'.1
 have m1:b * x ≤ 1000000000 * 10000:=Int.mul_le_mul b1 hx'.2 hx'.1 (by decide)
 show -(2 ^ 50) ≤ b * x - c∧b * x - c ≤ 2 ^ 50
 have e:(2:Int) ^ 50=1125899906842624:=by decide
 omega
theorem great_abs {b:Int}{ns ws:List Int}(b0:0 ≤ b)(b1:b ≤ 1000000000)(n5:ns.length ≤ 5)(hn:∀ x ∈ ns,0 ≤ x∧x ≤ 100000000000000)(hw:∀ x ∈ ws,0 ≤ x∧x ≤ 10000) : -(2 ^ 50) ≤ yL b ns ws∧yL b ns ws ≤ 2 ^ 50:=by
 unfold yL topI
 cases e:(kN (ws.map fun x=>b * x) ns).max? with
 | none=>decide
 | some m=>exact gains_abs b0 b1 n5 hn hw m (List.max?_eq_some_iff.mp e).1
theorem wZ {ns:List Int}(h:∀ n ∈ ns,-(2 ^ 50) ≤ n∧n ≤ 2 ^ 50)(hl:ns.length ≤ 1000):pP ns:=by
 have e:(2:Int) ^ 50=1125899906842624:=by decide
 rw [e] at h
 have key:∀ (l:List Int),(∀ n ∈ l,-1125899906842624 ≤ n∧n ≤ 1125899906842624)→-(1125899906842624 * (l.length:Int)) ≤ l.sum∧l.sum ≤ 1125899906842624 * (l.length:Int):=fun l=>by
  induction l with
  | nil=>intro _;simp
  | cons a l ih =>
   intro h
   have i:=ih fun n hn=>h n (Ad _ hn)
   have x:=h a (by simp)
   rw [AF,Az]
   push_cast
   omega
 refine ⟨fun n hn=>?_,fun j hj=>?_⟩
 ·have:=h n hn
  have e2:(2:Int) ^ 62=4611686018427387904:=by decide
  omega
 ·have:=key (ns.take j) fun n hn=>h n (Cz hn)
  rw [A6] at this
  have e3:(2:Int) ^ 63=9223372036854775808:=by decide
  unfold InLong
  omega
def cP:Sp:=fun vs H Q _=>∃ (tw sa wa na:Addr) (ts:List (Addr × List Int)) (b:Int) (ns:List Int),vs=[.ref tw,.int b,.ref na]∧Rows H tw sa wa ts ns.length∧H na=some (.tup (ns.map V.int))∧(∀ x ∈ ns,0 ≤ x∧x ≤ 100000000000000)∧0 ≤ b∧b ≤ 1000000000∧∀ H',Same H H'→Q (.int (wC ts b ns)) H'
def SI (c na:Addr)(b:Int)(ns:List Int)(ts:List (Addr × List Int))(G:Hp)(i:Nat)(σ:St)(H:Hp):Prop:=∃ v:Option V,σ=[v,some (.int b),some (.ref na)]∧SameX c G H∧H c=some (.lst (((ts.take i).map fun t=>yL b ns t.2).map V.int))
theorem cX:FnScope ["town", "by", "numbers"] ["town", "by", "numbers"] (qE s_surplus):=⟨rfl,rfl,rfl,by decide +kernel,rfl,by decide +kernel,by decide +kernel⟩
theorem ok_surplus (F:Fun K "surplus" "surplus" s_surplus f fd) (T:Txt mg) (c_in_parts:kL P w K mg base "in_parts" ["want", "by"] 1 sL) (c_greatest_gain:kL P w K mg base "greatest_gain" ["want", "prices"] 3 cT):FnOk P w K mg base CX0 4 f fd ["town", "by", "numbers"] cP:=by
 refine F.ok cX (fun vs H Q E h=>?_) (fun cdv A outer s H vs Q E hr h=>?_)
 ·obtain ⟨_,_,_,_,_,_,_,rfl,_⟩:=h;rfl
 ·obtain ⟨tw,sa,wa,na,ts,b,ns,rfl,R,hna,nb,b0,b1,q⟩:=h
  have sc:=cX
  refine ⟨_,qI (qP (qV jD (qX (sum0 rfl) rfl T.sum_ m9 (qC (jR (N:=["want", "by", "numbers"]) (fr:=[none,some 1,some 2]) rfl (fQ (kF zP (pv 0) qH (fun _ _=>rfl))) (CScope.of rfl rfl rfl) rfl (fun _ _ _=>⟨qL (i:=0) (show List.Nodup (α:=Str) ["want", "by", "numbers"] by decide +kernel) rfl (Or.inl rfl),kZ,qJ c_greatest_gain hr (qC (qJ c_in_parts hr (qC (pv 0) (qC (pv 1) qD))) (qC (pv 2) qD))⟩)) qD)) (qX (sum0 rfl) rfl T.sum_ m9 (qC (pv 2) qD)))),?_⟩
  rw [show L2.start ["town", "by", "numbers"] [.ref tw,.int b,.ref na] = [some (.ref tw),some (.int b),some (.ref na)] from rfl]
  have hstw:=qY R.tw
  have hwa:=R.wa
  have hswa:=qY R.wa
  (push_cast only [hstw,hswa,hwa])
  intro c nc
  have nwc:wa ≠ c:=qF R.wa nc
  have nnc:na ≠ c:=qF hna nc
  refine zN (SI c na b ns ts H) ⟨none,rfl,SameX.upd,qG⟩ (fun j σ H' _ ⟨_,_,s,_⟩=>s _ _ nwc R.wa) ?_ ?_
  ·rintro j x σ H1 hx ⟨v,rfl,s1,e1⟩
   rw [Ah] at hx
   obtain ⟨t,ht,rfl⟩:=An.mp hx
   have hj:j < ts.length:=(Ai.mp ht).1
   obtain ⟨et,tl,tb⟩:=R.row t (A0 ht)
   have et1:=s1 _ _ (qF et nc) et
   have hp:=jF R.five
   have few:=R.few
   (push_cast only [])
   refine ⟨t.1,t.2,b,rfl,et1,b0,b1,by omega,fun u H2 nu s2 e2=>?_⟩
   have hna2:=s2 _ _ (s1 _ _ nnc hna)
   refine ⟨u,na,_,ns,rfl,e2,hna2,R.five,by rw [Ab];exact tl,fun g H3 s3 hg hgx=>?_⟩
   have eg:yL b ns t.2=g:=eS hg hgx
   have e3:=s3 _ _ (s2 _ _ e1)
   (push_cast only [e3])
   refine ⟨qR (by rw [A6];omega),⟨_,rfl,(s1.trans (s2.trans s3).x).trans SameX.upd,?_⟩⟩
   rw [qG,AB,ht,← eg]
   simp
  ·rintro σ H1 ⟨v,rfl,s1,e1⟩
   rw [Ab,Bc] at e1
   have S1:=s1.same nc
   have few:=R.few
   refine ⟨_,jC e1,wZ (fun n hn=>?_) (by rw [Ab];omega),ns,qY (S1 _ _ hna),wZ (fun n hn=>?_) (by have:=R.five;omega),q H1 S1⟩
   ·obtain ⟨t,ht,rfl⟩:=Ae.mp hn
    exact great_abs b0 b1 R.five nb (R.row t ht).2.2
   ·have:=nb n hn
    have e:(2:Int) ^ 50=1125899906842624:=by decide
    omega
def nV:Sp:=fun vs H Q _=>∃ s:Int,vs=[.int s]∧Q (.int (if s=1 then -1 else 1)) H
theorem cZ:FnScope ["side"] ["side"] (qE s_step_of):=⟨rfl,rfl,rfl,by decide +kernel,rfl,by decide +kernel,by decide +kernel⟩
theorem ok_stepof (F:Fun K "step_of" "step_of" s_step_of f fd) (hm:mg "step_of" = some (.ref f)) (hb:Binds K fd ["side"] []) (T:Txt mg):kL P w K mg base "step_of" ["side"] 1 nV:=by
 refine qW F hm hb cZ (fun vs H Q E h=>?_) (fun cdv A outer s H vs Q E hr h=>?_)
 ·obtain ⟨_,rfl,_⟩:=h;rfl
 ·obtain ⟨x,rfl,q⟩:=h
  have sc:=cZ
  refine ⟨_,qI (qP (gN (kH zL (pv 0) qH (kK _)) (iT pM qH) qH)),?_⟩
  rw [show L2.start ["side"] [.int x] = [some (.int x)] from rfl]
  by_cases e:x=1
  ·subst e
   (push_cast only [])
   exact q
  ·rw [Aj e] at q
   (push_cast only [e])
   exact q
def pT:Sp:=fun vs H Q _=>∃ (a b:Addr) (ps:List Int) (F hp:Nat),vs=[.ref b,.ref a,.int (hp:Int)]∧H a=some (.tup (ps.map V.int))∧H b=some (.tup ((bitsL F ps.length).map V.int))∧ps.length ≤ 5∧hp < 32∧∀ (t:Addr) (H':Hp),Same H H'→H' t=some (.tup ((qS ps F hp).map V.int))→Q (.ref t) H'
def STI (c:Addr)(ps:List Int)(F hp:Nat)(G:Hp)(i:Nat)(σ:St)(H:Hp):Prop:=∃ v1 v2 v3:Option V,σ=[v1,v2,v3,some (.int (hp:Int))]∧SameX c G H∧H c=some (.lst (((qS ps F hp).take i).map V.int))
theorem cY:FnScope ["sides", "prices", "heap"] ["sides", "prices", "heap"] (qE s_stepped):=⟨rfl,rfl,rfl,by decide +kernel,rfl,by decide +kernel,by decide +kernel⟩
theorem ok_step (F:Fun K "stepped" "stepped" s_stepped f fd) (hm:mg "stepped" = some (.ref f)) (hb:Binds K fd ["sides", "prices", "heap"] []) (T:Txt mg) (c_has:kL P w K mg base "has" ["heap", "thing"] 1 uV) (c_step_of:kL P w K mg base "step_of" ["side"] 1 nV):kL P w K mg base "stepped" ["sides", "prices", "heap"] 2 pT:=by
 refine qW F hm hb cY (fun vs H Q E h=>?_) (fun cdv A outer s H vs Q E hr h=>?_)
 ·obtain ⟨_,_,_,_,_,rfl,_⟩:=h;rfl
 ·obtain ⟨a,b,ps,Fn,hp,rfl,ha,hb',p5,h32,q⟩:=h
  have sc:=cY
  refine ⟨_,qI (qP (kX z9 rfl T.tuple_ jM (qC (jR (N:=["thing", "side", "price", "heap"]) (fr:=[none,none,none,some 2]) rfl (pi_ez rfl T.enumerate_ rfl T.zip_ (qC (pv 0) (qC (pv 1) qD))) (CScope.of rfl rfl rfl) rfl (fun _ _ _=>⟨kW (n:=2) rfl (qQ (qL (i:=0) (show List.Nodup (α:=Str) ["thing", "side", "price", "heap"] by decide +kernel) rfl (Or.inl rfl)) (qQ (kW (n:=2) rfl (qQ (qL (i:=1) (show List.Nodup (α:=Str) ["thing", "side", "price", "heap"] by decide +kernel) rfl (Or.inl rfl)) (qQ (qL (i:=2) (show List.Nodup (α:=Str) ["thing", "side", "price", "heap"] by decide +kernel) rfl (Or.inl rfl)) kU))) kU)),kZ,gN (yQ (qJ c_has hr (qC (pv 3) (qC (pv 0) qD)))) (qV jD (pv 2) (qJ c_step_of hr (qC (pv 1) qD))) (pv 2)⟩)) qD))),?_⟩
  rw [show L2.start ["sides", "prices", "heap"] [.ref b,.ref a,.int (hp:Int)] = [some (.ref b),some (.ref a),some (.int (hp:Int))] from rfl]
  (push_cast only [])
  refine ⟨_,_,_,.inr ⟨rfl,hb'⟩,_,.inr ⟨rfl,ha⟩,fun c nc=>?_⟩
  have nac:=qF ha nc
  have nbc:=qF hb' nc
  refine cl_ez (STI c ps Fn hp H) ⟨none,none,none,rfl,SameX.upd,qG⟩ (fun i σ H2 ⟨_,_,_,_,s,_⟩=>⟨.inr ⟨rfl,s _ _ nbc hb'⟩,.inr ⟨rfl,s _ _ nac ha⟩⟩) ?_ ?_
  ·rintro i u v T1 T2 σ H1 H2 hu hv ⟨v1,v2,v3,rfl,s1,e1⟩ s2 eT1 eT2
   rw [Ah] at hu hv
   obtain ⟨y,hy,rfl⟩:=An.mp hu
   obtain ⟨x,hx,rfl⟩:=An.mp hv
   have hi:i < ps.length:=(Ai.mp hx).1
   have hy':y=if qA Fn i=true then 1 else 0:=by
    have:=bits_at (F:=Fn) hi
    rw [Aa,hy] at this
    exact this
   have xg:ps.getD i 0=x:=by rw [Aa,hx];rfl
   have e12:=s2 _ _ e1
   have st:=step_at (F:=Fn) (hp:=hp) hi
   rw [xg] at st
   have fin:∀ z:Int,z=(if qA hp i=true then x + (if qA Fn i=true then -1 else 1) else x)→((qS ps Fn hp).take i).length < sizeLine∧STI c ps Fn hp H (i + 1) [some (.int (i:Int)),some (.int y),some (.int x),some (.int (hp:Int))] (upd H2 c (.lst (((qS ps Fn hp).take i).map V.int ++ [V.int z]))):=fun z hz=>⟨qR (by rw [A6];omega),_,_,_,rfl,(s1.trans s2.x).trans SameX.upd,by rw [qG,AB,st,hz,A4];rfl⟩
   (push_cast only [eT1,eT2])
   refine ⟨hp,i,rfl,h32,by omega,?_⟩
   cases e:qA hp i
   ·rw [e] at fin
    (push_cast only [e12])
    exact fin _ rfl
   ·rw [e] at fin
    (push_cast only [])
    refine ⟨y,rfl,?_⟩
    (push_cast only [e12])
    refine fin _ ?_
    rw [Ak rfl,hy']
    cases qA Fn i <;> rfl
  ·rintro σ H1 ⟨v1,v2,v3,rfl,s1,e1⟩
   rw [Ab,Ab,bits_len,CP,A9 (by rw [jB];exact Ag _)] at e1
   exact ⟨_,e1,fun l H2 _ s2 e2=>q l H2 ((s1.same nc).trans s2) e2⟩
theorem rJ {ws ns:List Int}(n5:ns.length ≤ 5)(wl:ws.length=2 ^ ns.length){h:Nat}(hh:h < 2 ^ ns.length):(kN ws ns).getD h 0=yW ws ns h:=by
 have p32:=jF n5
 unfold kN yW
 have hw:ws[h]? = some (ws.getD h 0):=by rw [Aa,Am (by omega)];rfl
 rw [Aa,zw_at hw (d7 _ ns rfl n5 h hh),← aT (ws:=ns) (h:=h) (by omega) _ n5]
 rfl
theorem top_vmax {ws ns:List Int}(n5:ns.length ≤ 5)(wl:ws.length=2 ^ ns.length):kE ws ns ∈ kN ws ns∧∀ x ∈ kN ws ns,x ≤ kE ws ns:=by
 have p32:=jF n5
 have gl:=x4 wl
 obtain ⟨k,k1,k2⟩:=zV (yW ws ns) (2 ^ ns.length - 1)
 refine ⟨?_,fun x hx=>?_⟩
 ·have e:kE ws ns=(kN ws ns).getD k 0:=by rw [rJ n5 wl (by omega)];exact k2
  rw [e,Aa,Am (by omega)]
  exact AN _
 ·obtain ⟨j,hj,rfl⟩:=C7 hx
  have e:=rJ n5 wl (h:=j) (by omega)
  rw [Aa,Am hj] at e
  have:=zM (yW ws ns) (show j ≤ 2 ^ ns.length - 1 by omega)
  show (kN ws ns)[j] ≤ mxf _ _
  rw [← e] at this
  exact this
theorem great_is {ws ns:List Int}(n5:ns.length ≤ 5)(wl:ws.length=2 ^ ns.length):yL 1 ns ws=kE ws ns:=by
 have m1:(ws.map fun x=>1 * x)=ws:=by
  refine (C8 (g:=id) fun x _=>BL x).trans ?_
  simp
 obtain ⟨a,b⟩:=top_vmax n5 wl
 unfold yL
 rw [m1]
 exact eS a b
theorem surp_is {ts:List (Addr × List Int)}{ns:List Int}(n5:ns.length ≤ 5)(wl:∀ t ∈ ts,t.2.length=2 ^ ns.length):wC ts 1 ns=q5 (ts.map fun t=>t.2) ns:=by
 unfold wC q5
 congr 1
 rw [A8]
 congr 1
 refine C8 fun t ht=>?_
 exact great_is n5 (wl t ht)
def dO (F:Nat)(ps:List Int)(n:Nat):List Nat:=(List.range n).filter fun t=>qA F t && decide (ps.getD t 0=0)
theorem w4 (F:Nat)(ps:List Int)(n:Nat):dO F ps (n + 1)=dO F ps n ++ if qA F n=true∧ps.getD n 0=0 then [n] else []:=by
 unfold dO
 rw [Bb,Bq]
 congr 1
 by_cases z:qA F n=true∧ps.getD n 0=0
 ·rw [Ak z]
  have:(qA F n && decide (ps.getD n 0=0))=true:=by rw [z.1,Ar z.2];rfl
  simp only [List.filter,this]
 ·rw [Aj z]
  have:(qA F n && decide (ps.getD n 0=0))=false:=by
   cases h:qA F n
   ·rfl
   ·rw [Al (fun y=>z ⟨h,y⟩)];rfl
  simp only [List.filter,this]
theorem cM (F:Nat)(ps:List Int)(n:Nat):(dO F ps n).length ≤ n:=AK (Bo _ _) (by simp)
theorem cK (F:Nat)(ps:List Int):∀ n,((dO F ps n).map fun t:Nat=>(2:Int) ^ t).sum=((j6 F ps n:Nat):Int)
 | 0=>rfl
 | n + 1=>by
  rw [w4,A4,BD,cK F ps n]
  show _=((j6 F ps n + (if qA F n=true∧ps.getD n 0=0 then 2 ^ n else 0):Nat):Int)
  split
  ·simp
  ·simp
def xY (F:Nat)(ps:List Int)(n:Nat):List Nat:=(List.range n).filter (wA F ps)
theorem mayN_succ (F:Nat)(ps:List Int)(n:Nat):xY F ps (n + 1)=xY F ps n ++ if wA F ps n=true then [n] else []:=by
 unfold xY
 rw [Bb,Bq]
 congr 1
 cases h:wA F ps n <;> simp [h]
theorem tM (F:Nat)(ps:List Int)(n:Nat):(xY F ps n).length ≤ n:=AK (Bo _ _) (by simp)
def uU:Sp:=fun vs H Q _=>∃ (a b:Addr) (ps:List Int) (F:Nat),vs=[.ref b,.ref a]∧H a=some (.tup (ps.map V.int))∧H b=some (.tup ((bitsL F ps.length).map V.int))∧ps.length ≤ 5∧∀ (l:Addr) (H':Hp),H l=none→Same H H'→H' l=some (.lst (natI (xY F ps (2 ^ ps.length))))→Q (.ref l) H'
def MYI (c:Addr)(ps:List Int)(F:Nat)(G:Hp)(i:Nat)(σ:St)(H:Hp):Prop:=∃ v1 v2 v3:Option V,σ=[v1,v2,v3]∧SameX c G H∧H c=some (.lst (natI (dO F ps i)))
def MYJ (c:Addr)(ps:List Int)(F:Nat)(G:Hp)(i:Nat)(σ:St)(H:Hp):Prop:=∃ v:Option V,σ=[v,some (.int ((j6 F ps ps.length:Nat):Int))]∧SameX c G H∧H c=some (.lst (natI (xY F ps i)))
theorem yH:FnScope ["sides", "prices", "stuck"] ["sides", "prices"] (qE s_heaps_that_may):=⟨rfl,rfl,rfl,by decide +kernel,rfl,by decide +kernel,by decide +kernel⟩
theorem ok_may (F:Fun K "heaps_that_may" "heaps_that_may" s_heaps_that_may f fd) (hm:mg "heaps_that_may" = some (.ref f)) (hb:Binds K fd ["sides", "prices"] []) (T:Txt mg) (c_heap_of:kL P w K mg base "heap_of" ["things"] 1 pV):kL P w K mg base "heaps_that_may" ["sides", "prices"] 2 uU:=by
 refine qW F hm hb yH (fun vs H Q E h=>?_) (fun cdv A outer s H vs Q E hr h=>?_)
 ·obtain ⟨_,_,_,_,rfl,_⟩:=h;rfl
 ·obtain ⟨a,b,ps,Fn,rfl,ha,hb',p5,q⟩:=h
  have sc:=yH
  have p32:=jF p5
  have stl:=y3 Fn ps ps.length
  refine ⟨_,qK (q8 (i:=2) sc.nd rfl (Or.inr rfl) (qJ c_heap_of hr (qC (jR (N:=["thing", "side", "price"]) (fr:=[none,none,none]) rfl (pi_ez rfl T.enumerate_ rfl T.zip_ (qC (pv 0) (qC (pv 1) qD))) (CScope.of rfl rfl rfl) rfl (fun _ _ _=>⟨kW (n:=2) rfl (qQ (qL (i:=0) (show List.Nodup (α:=Str) ["thing", "side", "price"] by decide +kernel) rfl (Or.inl rfl)) (qQ (kW (n:=2) rfl (qQ (qL (i:=1) (show List.Nodup (α:=Str) ["thing", "side", "price"] by decide +kernel) rfl (Or.inl rfl)) (qQ (qL (i:=2) (show List.Nodup (α:=Str) ["thing", "side", "price"] by decide +kernel) rfl (Or.inl rfl)) kU))) kU)),zZ (PW.pt (gM (kH zL (pv 1) qH (kK _)) (gZ (kH zL (pv 2) qH (kK _))))),pv 0⟩)) qD))) (qI (qP (jR (N:=["heap", "stuck"]) (fr:=[none,some 2]) rfl (jH rfl T.range_ (qC (qV dS qH (qX len0 rfl T.len_ jT (qC (pv 0) qD))) qD)) (CScope.of rfl rfl rfl) rfl (fun _ _ _=>⟨qL (i:=0) (show List.Nodup (α:=Str) ["heap", "stuck"] by decide +kernel) rfl (Or.inl rfl),zZ (kH zL (qV p8 (pv 0) (pv 1)) qH (kK _)),pv 0⟩)))),?_⟩
  rw [show L2.start ["sides", "prices", "stuck"] [.ref b,.ref a] = [some (.ref b),some (.ref a),none] from rfl]
  (push_cast only [])
  refine ⟨_,_,_,.inr ⟨rfl,hb'⟩,_,.inr ⟨rfl,ha⟩,fun c nc=>?_⟩
  have nac:=qF ha nc
  have nbc:=qF hb' nc
  refine cl_ez (MYI c ps Fn H) ⟨none,none,none,rfl,SameX.upd,qG⟩ (fun i σ H2 ⟨_,_,_,_,s,_⟩=>⟨.inr ⟨rfl,s _ _ nbc hb'⟩,.inr ⟨rfl,s _ _ nac ha⟩⟩) ?_ ?_
  ·rintro i u v T1 T2 σ H1 H2 hu hv ⟨v1,v2,v3,rfl,s1,e1⟩ s2 eT1 eT2
   rw [Ah] at hu hv
   obtain ⟨y,hy,rfl⟩:=An.mp hu
   obtain ⟨x,hx,rfl⟩:=An.mp hv
   have hi:i < ps.length:=(Ai.mp hx).1
   have hy':y=if qA Fn i=true then 1 else 0:=by
    have:=bits_at (F:=Fn) hi
    rw [Aa,hy] at this
    exact this
   have xg:ps.getD i 0=x:=by rw [Aa,hx];rfl
   have e12:=s2 _ _ e1
   have sl:=cM Fn ps i
   have nx:=w4 Fn ps i
   rw [xg] at nx
   (push_cast only [eT1,eT2])
   cases e:qA Fn i with
   | false =>
    rw [e] at hy' nx
    rw [Aj (by decide)] at hy'
    rw [Aj (fun z=>by cases z.1),Bv] at nx
    subst hy'
    rw [Aj (by decide)]
    exact ⟨_,_,_,rfl,s1.trans s2.x,by rw [nx];exact e12⟩
   | true =>
    rw [e] at hy' nx
    rw [Ak rfl] at hy'
    subst hy'
    rw [Ak rfl]
    by_cases z:x=0
    ·rw [Ak ⟨rfl,z⟩] at nx
     rw [Ak z]
     refine ⟨_,e12,qR (by unfold natI;rw [Ab];omega),⟨_,_,_,rfl,(s1.trans s2.x).trans SameX.upd,?_⟩⟩
     rw [qG,nx]
     unfold natI
     simp
    ·rw [Aj (fun y=>z y.2),Bv] at nx
     rw [Aj z]
     exact ⟨_,_,_,rfl,s1.trans s2.x,by rw [nx];exact e12⟩
  ·rintro σ H1 ⟨v1,v2,v3,rfl,s1,e1⟩
   rw [Ab,Ab,bits_len,CP] at e1
   have S1:=s1.same nc
   have sl:=cM Fn ps ps.length
   have hb1:=S1 _ _ hb'
   have hsb:=qY hb1
   refine ⟨c,dO Fn ps ps.length,rfl,e1,by omega,fun t ht=>?_,fun H2 s2=>?_⟩
   ·have:=AI.mp (Bj.mp ht).1
    omega
   rw [cK]
   have hsb2:=qY (s2 _ _ hb1)
   (push_cast only [])
   (simp only [qO])
   (push_cast only [hsb2])
   rw [bits_len,hpow]
   refine ⟨⟨by omega,by omega,by decide⟩,by omega,by omega,fun d nd=>?_⟩
   refine zO (MYJ d ps Fn H2) ⟨none,rfl,SameX.upd,qG⟩ ?_ ?_
   ·rintro i σ H3 hi ⟨v,rfl,s3,e3⟩
    rw [Ay] at hi
    have ml:=tM Fn ps i
    (push_cast only [])
    rw [rR (show i < 32 by omega) (show j6 Fn ps ps.length < 32 by omega)]
    have nx:=mayN_succ Fn ps i
    by_cases z:i &&& j6 Fn ps ps.length=0
    ·have al:wA Fn ps i=true:=by unfold wA;exact Ar z
     rw [Ak al] at nx
     rw [Ak (by simpa using z)]
     (push_cast only [e3])
     refine ⟨qR (by unfold natI;rw [Ab];omega),⟨_,rfl,s3.trans SameX.upd,?_⟩⟩
     rw [qG,nx]
     unfold natI
     simp
    ·have al:wA Fn ps i=false:=by unfold wA;exact Al z
     rw [al,Aj (by decide),Bv] at nx
     rw [Aj (by simpa using z)]
     exact ⟨_,rfl,s3,by rw [nx];exact e3⟩
   ·rintro σ H3 ⟨v,rfl,s3,e3⟩
    rw [Ay] at e3
    exact q d H3 (jO (S1.trans s2) nd) ((S1.trans s2).trans (s3.same nd)) e3
end
end S
end K98
end
section
namespace K98
namespace S
open PySem L2
section
variable {P:Program}{w:World}{K:PySem.W.Frag}{mg:Str→Option Value}{base:Heap}{f:Addr}{fd:FuncData}
structure Tn (H:Hp)(tw sa wa:Addr)(ts:List (Addr × List Int))(m F:Nat):Prop where
 R:Rows H tw sa wa ts m
 sa:H sa=some (.tup ((bitsL F m).map V.int))
 hF:F < 2 ^ m
 kd:Kinds (ts.map fun t=>t.2) m F
 ne:ts ≠ []
theorem Tn.same {H H':Hp}{tw sa wa:Addr}{ts:List (Addr × List Int)}{m F:Nat}(R:Tn H tw sa wa ts m F)(s:Same H H'):Tn H' tw sa wa ts m F:=⟨R.R.same s,s _ _ R.sa,R.hF,R.kd,R.ne⟩
theorem pair_ge {w h a b:Int}(z:HT.lexLt (jL [Ky.i a,Ky.i b]) (jL [Ky.i w,Ky.i h])=false):w < a∨(w=a∧h ≤ b):=by
 have e1:jL [Ky.i w,Ky.i h] = [w,h]:=rfl
 have e2:jL [Ky.i a,Ky.i b] = [a,b]:=rfl
 rw [e1,e2,HT.lexLt_cons] at z
 by_cases e:a=w
 ·rw [Ak e,HT.lexLt_cons] at z
  by_cases e':b=h
  ·exact .inr ⟨e.symm,by omega⟩
  ·rw [Aj e'] at z
   have:=of_decide_eq_false z
   exact .inr ⟨e.symm,by omega⟩
 ·rw [Aj e] at z
  have:=of_decide_eq_false z
  exact .inl (by omega)
def R2 (H:Hp)(rs:List (Addr × Int × Int)):Prop:=∀ r ∈ rs,H r.1=some (.tup [.int r.2.1,.int r.2.2])
theorem R2.k {H:Hp}{rs:List (Addr × Int × Int)}(R:R2 H rs):RowsK H (rs.map fun r=>(r.1,[Ky.i r.2.1,Ky.i r.2.2])):=by
 refine ⟨fun r hr=>?_,[none,none],fun r hr=>?_⟩
 ·obtain ⟨r',hr',rfl⟩:=Ae.mp hr
  refine ⟨R r' hr',fun k hk=>?_⟩
  have:k = .i r'.2.1∨k = .i r'.2.2:=by simpa using hk
  rcases this with rfl | rfl <;> trivial
 ·obtain ⟨r',hr',rfl⟩:=Ae.mp hr
  rfl
theorem R2.least {rs:List (Addr × Int × Int)}{m:Addr × List Ky}(hm:m ∈ rs.map fun r=>(r.1,[Ky.i r.2.1,Ky.i r.2.2]))(hmin:∀ r ∈ rs.map (fun r=>(r.1,[Ky.i r.2.1,Ky.i r.2.2])),HT.lexLt (jL r.2) (jL m.2)=false):∃ r ∈ rs,m=(r.1,[Ky.i r.2.1,Ky.i r.2.2])∧∀ r' ∈ rs,r.2.1 < r'.2.1∨(r.2.1=r'.2.1∧r.2.2 ≤ r'.2.2):=by
 obtain ⟨r,hr,rfl⟩:=Ae.mp hm
 exact ⟨r,hr,rfl,fun r' hr'=>pair_ge (hmin _ (Ae.mpr ⟨r',hr',rfl⟩))⟩
def iG:Sp:=fun vs H Q _=>∃ (tw sa wa na:Addr) (ts:List (Addr × List Int)) (ps:List Int) (F:Nat),vs=[.ref tw,.ref na]∧Tn H tw sa wa ts ps.length F∧H na=some (.tup (ps.map V.int))∧(∀ x ∈ ps,0 ≤ x∧x ≤ 100000)∧∀ H',Same H H'→Q (.int ((vQ (ts.map fun t=>t.2) F ps:Nat):Int)) H'
def NXI (tw sa na c:Addr)(ts:List (List Int))(ps:List Int)(F:Nat)(G:Hp)(i:Nat)(σ:St)(H:Hp):Prop:=∃ (v:Option V) (rs:List (Addr × Int × Int)),σ=[v,some (.ref tw),some (.ref sa),some (.ref na)]∧(rs.map fun r=>r.2)=((xY F ps (2 ^ ps.length)).take i).map (fun X:Nat=>(q5 ts (qS ps F X),(X:Int)))∧R2 H rs∧SameX c G H∧H c=some (.lst (rs.map fun r=>V.ref r.1))
theorem xM {F:Nat}{ps:List Int}{n X:Nat}:X ∈ xY F ps n ↔ X < n∧wA F ps X=true:=by
 unfold xY
 rw [Bj,AI]
theorem fJ:FnScope ["town", "prices", "sides"] ["town", "prices"] (qE s_next_step):=⟨rfl,rfl,rfl,by decide +kernel,rfl,by decide +kernel,by decide +kernel⟩
theorem ok_next (F:Fun K "next_step" "next_step" s_next_step f fd) (hm:mg "next_step" = some (.ref f)) (hb:Binds K fd ["town", "prices"] []) (T:Txt mg) (c_surplus:kL P w K mg base "surplus" ["town", "by", "numbers"] 4 cP) (c_stepped:kL P w K mg base "stepped" ["sides", "prices", "heap"] 2 pT) (c_heaps_that_may:kL P w K mg base "heaps_that_may" ["sides", "prices"] 2 uU):kL P w K mg base "next_step" ["town", "prices"] 5 iG:=by
 refine qW F hm hb fJ (fun vs H Q E h=>?_) (fun cdv A outer s H vs Q E hr h=>?_)
 ·obtain ⟨_,_,_,_,_,_,_,rfl,_⟩:=h;rfl
 ·obtain ⟨tw,sa,wa,na,ts,ps,Fn,rfl,TN,hna,nb,q⟩:=h
  have sc:=fJ
  have p5:=TN.R.five
  have p32:=jF p5
  have htw:=qY TN.R.tw
  have i0:∀ x y:V,vC [x,y] 0=some x:=fun _ _=>rfl
  refine ⟨_,qK (q8 (i:=2) sc.nd rfl (Or.inr rfl) (kF zP (pv 0) qH (fun _ _=>rfl))) (qI (qP (kF zP (qX (minP0 rfl (hu128 hr)) rfl T.min_ bt_min (qC (jR (N:=["heap", "town", "sides", "prices"]) (fr:=[none,some 0,some 2,some 1]) rfl (dH (qJ c_heaps_that_may hr (qC (pv 2) (qC (pv 1) qD)))) (CScope.of rfl rfl rfl) rfl (fun _ _ _=>⟨qL (i:=0) (show List.Nodup (α:=Str) ["heap", "town", "sides", "prices"] by decide +kernel) rfl (Or.inl rfl),kZ,jK (qC (qJ c_surplus hr (qC (pv 1) (qC qH (qC (qJ c_stepped hr (qC (pv 2) (qC (pv 3) (qC (pv 0) qD)))) qD)))) (qC (pv 0) qD))⟩)) qD)) qH (fun _ _=>rfl)))),?_⟩
  rw [show L2.start ["town", "prices", "sides"] [.ref tw,.ref na] = [some (.ref tw),some (.ref na),none] from rfl]
  (push_cast only [htw,i0])
  (simp only [qO])
  (push_cast only [])
  refine ⟨na,sa,ps,Fn,rfl,hna,TN.sa,p5,fun l H1 n1 s1 e1=>?_⟩
  (push_cast only [e1])
  intro c nc
  have nlc:l ≠ c:=qF e1 nc
  have TN1:=TN.same s1
  have na1:=s1 _ _ hna
  refine zN (NXI tw sa na c (ts.map fun t=>t.2) ps Fn H1) ⟨none,[],rfl,rfl,(fun _ z=>by cases z),SameX.upd,qG⟩ (fun j σ H' _ ⟨_,_,_,_,_,s,_⟩=>s _ _ nlc e1) ?_ ?_
  ·rintro i x σ H2 hx ⟨v,rs,rfl,re,rr,s2,e2⟩
   unfold natI at hx
   rw [Ah] at hx
   obtain ⟨X,hX,rfl⟩:=An.mp hx
   obtain ⟨xl,xa⟩:=xM.mp (A0 hX)
   have hi:i < (xY Fn ps (2 ^ ps.length)).length:=(Ai.mp hX).1
   have ml:=tM Fn ps (2 ^ ps.length)
   have na2:=s2 _ _ (qF na1 nc) na1
   have sa2:=s2 _ _ (qF TN1.sa nc) TN1.sa
   (push_cast only [])
   refine ⟨na,sa,ps,Fn,X,rfl,na2,sa2,p5,by omega,fun t H3 s3 e3=>?_⟩
   (push_cast only [])
   have c2:=s3 _ _ e2
   have st:∀ {b:Addr} {o:HO},H1 b=some o→H3 b=some o:=fun {b o} e=>s3 _ _ (s2 _ _ (qF e nc) e)
   have wl:∀ t ∈ ts,t.2.length=2 ^ ps.length:=fun t ht=>(TN.R.row t ht).2.1
   have nn:=pS p5 xl xa (fun x hx=>(nb x hx).1)
   have up:=pQ (F:=Fn) (X:=X) (c:=100000) (fun x hx=>(nb x hx).2)
   refine ⟨tw,sa,wa,t,ts,1,qS ps Fn X,rfl,?_,e3,fun x hx=>⟨nn x hx,by have:=up x hx;omega⟩,by decide,by decide,fun H4 s4=>⟨by decide,fun p H5 np s5 e5=>?_⟩⟩
   ·rw [jB]
    exact ⟨st TN1.R.tw,st TN1.R.wa,TN1.R.few,p5,fun t ht=>⟨st (TN1.R.row t ht).1,(TN1.R.row t ht).2⟩⟩
   ·rw [surp_is (by rw [jB];exact p5) (by rw [jB];exact wl)] at e5
    have c5:=s5 _ _ (s4 _ _ c2)
    have rl:rs.length=i:=by
     have:=Bi List.length re
     rw [Ab,Ab,A6] at this
     omega
    refine ⟨_,c5,qR (by rw [Ab];omega),⟨_,rs ++ [(p,q5 (ts.map fun t=>t.2) (qS ps Fn X),(X:Int))],rfl,?_,fun r hr=>?_,(s2.trans ((s3.trans s4).trans s5).x).trans SameX.upd,by rw [qG];simp⟩⟩
    ·rw [A4,re,AB,hX]
     simp
    ·have ne:∀ {b:Addr} {L:List V},H5 b=some (.tup L)→b ≠ c:=fun h z=>by rw [z,c5] at h;cases h
     rcases AG.mp hr with z | z
     ·have h:=s5 _ _ (s4 _ _ (s3 _ _ (rr r z)))
      rw [qT (ne h)]
      exact h
     ·rw [AJ.mp z]
      rw [qT (ne e5)]
      exact e5
  ·rintro σ H2 ⟨v,rs,rfl,re,rr,s2,e2⟩
   unfold natI at re
   rw [Ab,Bc] at re
   (push_cast only [])
   have hne:rs ≠ []:=by
    intro z
    rw [z,CO] at re
    have:=xM.mpr ⟨p32.2,yO Fn ps⟩
    rw [List.map_eq_nil_iff.mp re.symm] at this
    cases this
   refine ⟨rs.map fun r=>(r.1,[Ky.i r.2.1,Ky.i r.2.2]),by rw [jC e2,A8];rfl,R2.k rr,by simpa using hne,fun m hm hmin=>?_⟩
   obtain ⟨r,hr',rfl,lst⟩:=R2.least hm hmin
   refine ⟨_,qY (rr r hr'),_,rfl,?_⟩
   have in1:r.2 ∈ (xY Fn ps (2 ^ ps.length)).map fun X:Nat=>(q5 (ts.map fun t=>t.2) (qS ps Fn X),(X:Int)):=by rw [← re];exact Ae.mpr ⟨r,hr',rfl⟩
   obtain ⟨X,hX,ex⟩:=Ae.mp in1
   obtain ⟨xl,xa⟩:=xM.mp hX
   have x1:r.2.1=q5 (ts.map fun t=>t.2) (qS ps Fn X):=by rw [← ex]
   have x2:r.2.2=(X:Int):=by rw [← ex]
   have un:=fmin_uniq (s:=fun X=>q5 (ts.map fun t=>t.2) (qS ps Fn X)) (yO Fn ps) p32.2 xl xa (fun Y hY aY=>by
    have in2:(q5 (ts.map fun t=>t.2) (qS ps Fn Y),(Y:Int)) ∈ rs.map fun r=>r.2:=by rw [re];exact Ae.mpr ⟨Y,xM.mpr ⟨hY,aY⟩,rfl⟩
    obtain ⟨r',h',e'⟩:=Ae.mp in2
    have y1:r'.2.1=q5 (ts.map fun t=>t.2) (qS ps Fn Y):=by rw [e']
    have y2:r'.2.2=(Y:Int):=by rw [e']
    have:=lst r' h'
    show q5 (ts.map fun t=>t.2) (qS ps Fn X) < q5 (ts.map fun t=>t.2) (qS ps Fn Y)∨q5 (ts.map fun t=>t.2) (qS ps Fn X)=q5 (ts.map fun t=>t.2) (qS ps Fn Y)∧X ≤ Y
    omega)
   rw [x2]
   have:=q H2 (s1.trans (s2.same nc))
   unfold vQ at this
   rw [← un] at this
   exact this
def lA:Sp:=fun vs H Q _=>∃ (tw sa wa na:Addr) (ts:List (Addr × List Int)) (ps:List Int) (F:Nat),vs=[.ref tw,.ref na]∧Tn H tw sa wa ts ps.length F∧H na=some (.tup (ps.map V.int))∧∀ (g l1 l2:Addr) (rs:List (Addr × List Int)) (H':Hp),H l1=none→H l2=none→Same H H'→H' g=some (.tup [.ref l1,.ref l2])→H' l1=some (.lst (natI (xY F ps (2 ^ ps.length))))→H' l2=some (.lst (rs.map fun r=>V.ref r.1))→(∀ r ∈ rs,H' r.1=some (.tup (r.2.map V.int)))→(rs.map fun r=>r.2)=ts.map (fun t=>d4 (kN t.2 ps) (kE t.2 ps) (kN t.2 ps).length)→Q (.ref g) H'
def GRI (na c:Addr)(ts:List (Addr × List Int))(ps:List Int)(G:Hp)(i:Nat)(σ:St)(H:Hp):Prop:=∃ (v:Option V) (rs:List (Addr × List Int)),σ=[v,some (.ref na)]∧(rs.map fun r=>r.2)=(ts.take i).map (fun t=>d4 (kN t.2 ps) (kE t.2 ps) (kN t.2 ps).length)∧(∀ r ∈ rs,H r.1=some (.tup (r.2.map V.int)))∧SameX c G H∧H c=some (.lst (rs.map fun r=>V.ref r.1))
theorem fL:FnScope ["town", "prices", "sides", "wants"] ["town", "prices"] (qE s_ground_of):=⟨rfl,rfl,rfl,by decide +kernel,rfl,by decide +kernel,by decide +kernel⟩
theorem ok_ground (F:Fun K "ground_of" "ground_of" s_ground_of f fd) (hm:mg "ground_of" = some (.ref f)) (hb:Binds K fd ["town", "prices"] []) (T:Txt mg) (c_heaps_that_may:kL P w K mg base "heaps_that_may" ["sides", "prices"] 2 uU) (c_best_heaps:kL P w K mg base "best_heaps" ["want", "prices"] 3 iJ):kL P w K mg base "ground_of" ["town", "prices"] 4 lA:=by
 refine qW F hm hb fL (fun vs H Q E h=>?_) (fun cdv A outer s H vs Q E hr h=>?_)
 ·obtain ⟨_,_,_,_,_,_,_,rfl,_⟩:=h;rfl
 ·obtain ⟨tw,sa,wa,na,ts,ps,Fn,rfl,TN,hna,q⟩:=h
  have sc:=fL
  have p5:=TN.R.five
  have few:=TN.R.few
  have p32:=jF p5
  have htw:=TN.R.tw
  refine ⟨_,qK (yR (pv 0) (kW (n:=2) rfl (qQ (qL (i:=2) sc.nd rfl (Or.inl rfl)) (qQ (qL (i:=3) sc.nd rfl (Or.inl rfl)) kU)))) (qI (qP (jK (qC (qJ c_heaps_that_may hr (qC (pv 2) (qC (pv 1) qD))) (qC (jR (N:=["want", "prices"]) (fr:=[none,some 1]) rfl (fQ (pv 3)) (CScope.of rfl rfl rfl) rfl (fun _ _ _=>⟨qL (i:=0) (show List.Nodup (α:=Str) ["want", "prices"] by decide +kernel) rfl (Or.inl rfl),kZ,qJ c_best_heaps hr (qC (pv 0) (qC (pv 1) qD))⟩)) qD))))),?_⟩
  rw [show L2.start ["town", "prices", "sides", "wants"] [.ref tw,.ref na] = [some (.ref tw),some (.ref na),none,none] from rfl]
  (push_cast only [htw])
  (simp only [qO])
  (push_cast only [])
  refine ⟨na,sa,ps,Fn,rfl,hna,TN.sa,p5,fun l H1 n1 s1 e1=>?_⟩
  have TN1:=TN.same s1
  have na1:=s1 _ _ hna
  have wa1:=TN1.R.wa
  (push_cast only [wa1])
  intro c nc
  have nwc:wa ≠ c:=qF wa1 nc
  have nnc:na ≠ c:=qF na1 nc
  have nlc:l ≠ c:=qF e1 nc
  refine zN (GRI na c ts ps H1) ⟨none,[],rfl,rfl,(fun _ z=>by cases z),SameX.upd,qG⟩ (fun j σ H' _ ⟨_,_,_,_,_,s,_⟩=>s _ _ nwc wa1) ?_ ?_
  ·rintro i x σ H2 hx ⟨v,rs,rfl,re,rr,s2,e2⟩
   rw [Ah] at hx
   obtain ⟨t,ht,rfl⟩:=An.mp hx
   have hi:i < ts.length:=(Ai.mp ht).1
   obtain ⟨et,tl,tb⟩:=TN1.R.row t (A0 ht)
   obtain ⟨v1,v2⟩:=top_vmax p5 tl
   have et2:=s2 _ _ (qF et nc) et
   (push_cast only [])
   refine ⟨t.1,na,t.2,ps,kE t.2 ps,rfl,et2,s2 _ _ nnc na1,p5,tl,v1,v2,fun u H3 n3 s3 e3=>?_⟩
   have c3:=s3 _ _ e2
   have rl:rs.length=i:=by
    have:=Bi List.length re
    rw [Ab,Ab,A6] at this
    omega
   (push_cast only [c3])
   refine ⟨qR (by omega),⟨_,rs ++ [(u,d4 (kN t.2 ps) (kE t.2 ps) (kN t.2 ps).length)],rfl,?_,fun r hr=>?_,(s2.trans s3.x).trans SameX.upd,by rw [qG];simp⟩⟩
   ·rw [A4,re,AB,ht]
    simp
   ·have ne:∀ {b:Addr} {L:List V},H3 b=some (.tup L)→b ≠ c:=fun h z=>by rw [z,c3] at h;cases h
    rcases AG.mp hr with z | z
    ·have h:=s3 _ _ (rr r z)
     rw [qT (ne h)]
     exact h
    ·rw [AJ.mp z]
     rw [qT (ne e3)]
     exact e3
  ·rintro σ H2 ⟨v,rs,rfl,re,rr,s2,e2⟩
   rw [Ab,Bc] at re
   have S2:=s1.trans (s2.same nc)
   (push_cast only [])
   refine ⟨by decide,fun g H3 n3 s3 e3=>?_⟩
   exact q g l c rs H3 n1 (jO s1 nc) (S2.trans s3) e3 (s3 _ _ (s2 _ _ nlc e1)) (s3 _ _ e2) (fun r hr=>s3 _ _ (rr r hr)) re
end
end S
end K98
end
section
namespace K98
namespace S
open PySem L2
section
variable {P:Program}{w:World}{K:PySem.W.Frag}{mg:Str→Option Value}{base:Heap}{f:Addr}{fd:FuncData}
def firstL (F m:Nat)(top:Int):List Int:=(List.range m).map fun t=>if qA F t=true then top else 0
theorem first_len (F m:Nat)(top:Int):(firstL F m top).length=m:=by unfold firstL;simp
theorem first_mem {F m:Nat}{top x:Int}(h:x ∈ firstL F m top):x=top∨x=0:=by
 unfold firstL at h
 obtain ⟨t,_,rfl⟩:=Ae.mp h
 split
 ·exact .inl rfl
 ·exact .inr rfl
def IsTop (ts:List (List Int))(m:Nat)(x:Int):Prop:=(∃ ws ∈ ts,ws.getD (2 ^ m - 1) 0=x)∧∀ ws ∈ ts,ws.getD (2 ^ m - 1) 0 ≤ x
theorem IsTop.one {ts:List (List Int)}{m:Nat}{x y:Int}(a:IsTop ts m x)(b:IsTop ts m y):x=y:=by
 obtain ⟨⟨u,u1,u2⟩,u3⟩:=a
 obtain ⟨⟨v,v1,v2⟩,v3⟩:=b
 have:=u3 v v1
 have:=v3 u u1
 omega
theorem last_at {xs:List Int}{m:Nat}(h:xs.length=2 ^ m):vC (xs.map V.int) (-1)=some (V.int (xs.getD (2 ^ m - 1) 0)):=by
 have pp:=As m
 have hne:xs ≠ []:=by rintro rfl;simp at h;omega
 obtain ⟨ys,y,rfl⟩:∃ ys y,xs=ys ++ [y]:=⟨xs.dropLast,xs.getLast hne,(B3 hne).symm⟩
 rw [A4]
 refine (L2.atI_last _ _).trans ?_
 rw [← h]
 simp
def sQ:Sp:=fun vs H Q _=>∃ (tw sa wa:Addr) (ts:List (Addr × List Int)) (m F:Nat),vs=[.ref tw]∧Tn H tw sa wa ts m F∧∀ (top:Int) (t:Addr) (H':Hp),IsTop (ts.map fun t=>t.2) m top→Same H H'→H' t=some (.tup ((firstL F m top).map V.int))→Q (.ref t) H'
def FSJ (c:Addr)(ts:List (Addr × List Int))(m:Nat)(G:Hp)(i:Nat)(σ:St)(H:Hp):Prop:=∃ v:Option V,σ=[v]∧SameX c G H∧H c=some (.lst (((ts.take i).map fun t=>t.2.getD (2 ^ m - 1) 0).map V.int))
def FSK (c:Addr)(F m:Nat)(top:Int)(G:Hp)(i:Nat)(σ:St)(H:Hp):Prop:=∃ v:Option V,σ=[v,some (.int top)]∧SameX c G H∧H c=some (.lst (((firstL F m top).take i).map V.int))
theorem vG:FnScope ["town", "top"] ["town"] (qE s_first_prices):=⟨rfl,rfl,rfl,by decide +kernel,rfl,by decide +kernel,by decide +kernel⟩
theorem ok_first (F:Fun K "first_prices" "first_prices" s_first_prices f fd) (hm:mg "first_prices" = some (.ref f)) (hb:Binds K fd ["town"] []) (T:Txt mg):kL P w K mg base "first_prices" ["town"] 1 sQ:=by
 refine qW F hm hb vG (fun vs H Q E h=>?_) (fun cdv A outer s H vs Q E hr h=>?_)
 ·obtain ⟨_,_,_,_,_,_,rfl,_⟩:=h;rfl
 ·obtain ⟨tw,sa,wa,ts,m,Fn,rfl,TN,q⟩:=h
  have sc:=vG
  have few:=TN.R.few
  have p5:=TN.R.five
  have htw:=qY TN.R.tw
  have hwa:=TN.R.wa
  have i0:∀ x y:V,vC [x,y] 0=some x:=fun _ _=>rfl
  have i1:∀ x y:V,vC [x,y] 1=some y:=fun _ _=>rfl
  refine ⟨_,qK (q8 (i:=1) sc.nd rfl (Or.inr rfl) (qX (max0 rfl) rfl T.max_ gT (qC (jR (N:=["want"]) (fr:=[none]) rfl (fQ (kF zP (pv 0) qH (fun _ _=>rfl))) (CScope.of rfl rfl rfl) rfl (fun _ _ _=>⟨qL (i:=0) (show List.Nodup (α:=Str) ["want"] by decide +kernel) rfl (Or.inl rfl),kZ,kF zP (pv 0) (iT pM qH) (fun _ _=>rfl)⟩)) qD))) (qI (qP (kX z9 rfl T.tuple_ jM (qC (jR (N:=["side", "top"]) (fr:=[none,some 1]) rfl (fQ (kF zP (pv 0) qH (fun _ _=>rfl))) (CScope.of rfl rfl rfl) rfl (fun _ _ _=>⟨qL (i:=0) (show List.Nodup (α:=Str) ["side", "top"] by decide +kernel) rfl (Or.inl rfl),kZ,gN (kH zL (pv 0) qH (kK _)) (pv 1) qH⟩)) qD)))),?_⟩
  rw [show L2.start ["town", "top"] [.ref tw] = [some (.ref tw),none] from rfl]
  (push_cast only [htw,i0,i1,hwa])
  intro c nc
  have nwc:wa ≠ c:=qF hwa nc
  refine zN (FSJ c ts m H) ⟨none,rfl,SameX.upd,qG⟩ (fun j σ H' _ ⟨_,_,s,_⟩=>s _ _ nwc hwa) ?_ ?_
  ·rintro i x σ H2 hx ⟨v,rfl,s2,e2⟩
   rw [Ah] at hx
   obtain ⟨t,ht,rfl⟩:=An.mp hx
   have hi:i < ts.length:=(Ai.mp ht).1
   obtain ⟨et,tl,tb⟩:=TN.R.row t (A0 ht)
   have et2:=qY (s2 _ _ (qF et nc) et)
   have la:=last_at tl
   (push_cast only [et2,la,e2])
   refine ⟨qR (by rw [A6];omega),⟨_,rfl,s2.trans SameX.upd,?_⟩⟩
   rw [qG,AB,ht]
   simp
  ·rintro σ H2 ⟨v,rfl,s2,e2⟩
   rw [Ab,Bc] at e2
   have S2:=s2.same nc
   have TN2:=TN.same S2
   have htw2:=qY TN2.R.tw
   have sa2:=TN2.sa
   refine ⟨_,jC e2,by simpa using TN.ne,fun top tm tx=>?_⟩
   have it:IsTop (ts.map fun t=>t.2) m top:=by
    obtain ⟨t,ht,et⟩:=Ae.mp tm
    refine ⟨⟨t.2,Ae.mpr ⟨t,ht,rfl⟩,et⟩,fun ws hw=>?_⟩
    obtain ⟨t',ht',rfl⟩:=Ae.mp hw
    exact tx _ (Ae.mpr ⟨t',ht',rfl⟩)
   (push_cast only [])
   (simp only [qO])
   (push_cast only [htw2,i0,sa2])
   intro d nd
   have nsd:sa ≠ d:=qF sa2 nd
   refine zN (FSK d Fn m top H2) ⟨none,rfl,SameX.upd,qG⟩ (fun j σ H' _ ⟨_,_,s,_⟩=>s _ _ nsd sa2) ?_ ?_
   ·rintro i x σ H3 hx ⟨v,rfl,s3,e3⟩
    rw [Ah] at hx
    obtain ⟨y,hy,rfl⟩:=An.mp hx
    have hi:i < m:=by
     have:=(Ai.mp hy).1
     rwa [bits_len] at this
    have hy':y=if qA Fn i=true then 1 else 0:=by
     have:=bits_at (F:=Fn) hi
     rw [Aa,hy] at this
     exact this
    have fa:(firstL Fn m top)[i]? = some (if qA Fn i=true then top else 0):=by
     unfold firstL
     rw [Ah,B4 hi]
     rfl
    have fin:∀ z:Int,z=(if qA Fn i=true then top else 0)→((firstL Fn m top).take i).length < sizeLine∧FSK d Fn m top H2 (i + 1) [some (.int y),some (.int top)] (upd H3 d (.lst (((firstL Fn m top).take i).map V.int ++ [V.int z]))):=fun z hz=>⟨qR (by rw [A6];omega),_,rfl,s3.trans SameX.upd,by rw [qG,AB,fa,hz,A4];rfl⟩
    cases e:qA Fn i with
    | false =>
     rw [e,Aj (by decide)] at hy'
     rw [e] at fin
     subst hy'
     (push_cast only [e3])
     exact fin _ rfl
    | true =>
     rw [e,Ak rfl] at hy'
     rw [e] at fin
     subst hy'
     (push_cast only [e3])
     exact fin _ rfl
   ·rintro σ H3 ⟨v,rfl,s3,e3⟩
    rw [Ab,bits_len,A9 (by rw [first_len];exact Ag _)] at e3
    (push_cast only [])
    exact ⟨_,e3,fun l H4 _ s4 e4=>q top l H4 it ((S2.trans (s3.same nd)).trans s4) e4⟩
theorem tV {ts:List (List Int)}{F:Nat}{ps qs:List Int}(p5:ps.length ≤ 5)(hl:ps.length=qs.length)(wl:∀ ws ∈ ts,ws.length=2 ^ ps.length)(g1:xY F ps (2 ^ ps.length)=xY F qs (2 ^ qs.length))(g2:ts.map (fun ws=>d4 (kN ws ps) (kE ws ps) (kN ws ps).length)=ts.map (fun ws=>d4 (kN ws qs) (kE ws qs) (kN ws qs).length)):uF ts ps qs∧∀ X,X < 2 ^ ps.length→wA F ps X=wA F qs X:=by
 refine ⟨fun ws hw h hh=>?_,fun X hX=>?_⟩
 ·have e:=List.map_inj_left.mp g2 ws hw
  have w1:=wl ws hw
  have w2:ws.length=2 ^ qs.length:=by rw [w1,hl]
  have key:∀ (rs:List Int),rs.length ≤ 5→ws.length=2 ^ rs.length→h < 2 ^ rs.length→((h:Int) ∈ d4 (kN ws rs) (kE ws rs) (kN ws rs).length ↔ yW ws rs h=kE ws rs):=fun rs r5 rl rh=>by
   rw [← rJ r5 rl rh]
   unfold d4
   rw [Ae]
   constructor
   ·rintro ⟨k,hk,ek⟩
    have ek':k=h:=by exact_mod_cast ek
    subst ek'
    exact Bs (Bj.mp hk).2
   ·intro z
    exact ⟨h,Bj.mpr ⟨AI.mpr (by rw [x4 rl];exact rh),Ar z⟩,rfl⟩
  rw [← key ps p5 w1 hh,← key qs (by omega) w2 (by rw [← hl];exact hh),e]
 ·have:X ∈ xY F ps (2 ^ ps.length) ↔ X ∈ xY F qs (2 ^ qs.length):=by rw [g1]
  rw [xM,xM,← hl] at this
  cases a:wA F ps X <;> cases b:wA F qs X
  ·rfl
  ·exact absurd (this.mpr ⟨hX,b⟩).2 (by rw [a];decide)
  ·exact absurd (this.mp ⟨hX,a⟩).2 (by rw [b];decide)
  ·rfl
def sp_on:Sp:=fun vs H Q _=>∃ (tw sa wa na:Addr) (ts:List (Addr × List Int)) (ps:List Int) (F N:Nat),vs=[.ref tw,.ref na]∧Tn H tw sa wa ts ps.length F∧H na=some (.tup (ps.map V.int))∧(∀ x ∈ ps,0 ≤ x∧x ≤ 1000)∧q5 (ts.map fun t=>t.2) ps ≤ (N:Int)∧N ≤ 900∧∀ (t r p:Addr) (H':Hp),Same H H'→H' t=some (.tup [.ref r,.ref p])→H' r=some (.tup (natI (zE (ts.map fun t=>t.2) F N ps).1))→H' p=some (.tup ((zE (ts.map fun t=>t.2) F N ps).2.map V.int))→Q (.ref t) H'
structure Grd (r:Addr)(H:Hp)(g:Addr)(ts:List (Addr × List Int))(F:Nat)(ps:List Int):Prop where
 ex:∃ (l1 l2:Addr) (rs:List (Addr × List Int)),l1 ≠ r∧l2 ≠ r∧H g=some (.tup [.ref l1,.ref l2])∧H l1=some (.lst (natI (xY F ps (2 ^ ps.length))))∧H l2=some (.lst (rs.map fun r=>V.ref r.1))∧(∀ r ∈ rs,H r.1=some (.tup (r.2.map V.int)))∧(rs.map fun r=>r.2)=ts.map (fun t=>d4 (kN t.2 ps) (kE t.2 ps) (kN t.2 ps).length)
def SOI (tw r:Addr)(ts:List (Addr × List Int))(F N:Nat)(ps0:List Int)(G:Hp)(n:Nat)(σ:St)(H:Hp):Prop:=∃ (v5:Option V) (pa g:Addr) (ps:List Int) (row:List Nat),σ=[some (.ref tw),some (.ref pa),some (.ref r),some (.ref g),some (.int ((vQ (ts.map fun t=>t.2) F ps:Nat):Int)),v5]∧ps.length=ps0.length∧(∀ x ∈ ps,0 ≤ x∧x ≤ 1000 + (row.length:Int))∧row.length + n=N∧q5 (ts.map fun t=>t.2) ps ≤ (n:Int)∧zE (ts.map fun t=>t.2) F N ps0=(row ++ (zE (ts.map fun t=>t.2) F n ps).1,(zE (ts.map fun t=>t.2) F n ps).2)∧SameX r G H∧G r=some (.lst [])∧H r=some (.lst (natI row))∧H pa=some (.tup (ps.map V.int))∧Grd r H g ts F ps
theorem Grd.same {r:Addr}{H H':Hp}{g:Addr}{ts:List (Addr × List Int)}{F:Nat}{ps:List Int}(G:Grd r H g ts F ps)(hr:∃ xs,H r=some (.lst xs))(s:SameX r H H'):Grd r H' g ts F ps:=by
 obtain ⟨l1,l2,rs,n1,n2,h1,h2,h3,h4,h5⟩:=G.ex
 obtain ⟨xs,er⟩:=hr
 have nt:∀ {b:Addr} {L:List V},H b=some (.tup L)→b ≠ r:=fun h z=>by rw [z,er] at h;cases h
 exact ⟨l1,l2,rs,n1,n2,s _ _ (nt h1) h1,s _ _ n1 h2,s _ _ n2 h3,fun x hx=>s _ _ (nt (h4 x hx)) (h4 x hx),h5⟩
theorem bC:FnScope ["town", "prices", "row", "ground", "heap", "before"] ["town", "prices"] (qE s_steps_on):=⟨rfl,rfl,rfl,by decide +kernel,rfl,by decide +kernel,by decide +kernel⟩
theorem ok_on (F:Fun K "steps_on" "steps_on" s_steps_on f fd) (hm:mg "steps_on" = some (.ref f)) (hb:Binds K fd ["town", "prices"] []) (T:Txt mg) (c_ground_of:kL P w K mg base "ground_of" ["town", "prices"] 4 lA) (c_next_step:kL P w K mg base "next_step" ["town", "prices"] 5 iG) (c_stepped:kL P w K mg base "stepped" ["sides", "prices", "heap"] 2 pT):kL P w K mg base "steps_on" ["town", "prices"] 6 sp_on:=by
 refine qW F hm hb bC (fun vs H Q E h=>?_) (fun cdv A outer s H vs Q E hr h=>?_)
 ·obtain ⟨_,_,_,_,_,_,_,_,rfl,_⟩:=h;rfl
 ·obtain ⟨tw,sa,wa,na,ts,ps0,Fn,N,rfl,TN,hna,nb,sN,N9,q⟩:=h
  have sc:=bC
  have p5:=TN.R.five
  have few:=TN.R.few
  refine ⟨_,qK (q8 (i:=2) sc.nd rfl (Or.inl rfl) (zK qD)) (qK (q8 (i:=3) sc.nd rfl (Or.inl rfl) (qJ c_ground_of hr (qC (pv 0) (qC (pv 1) qD)))) (qK (q8 (i:=4) sc.nd rfl (Or.inl rfl) (qJ c_next_step hr (qC (pv 0) (qC (pv 1) qD)))) (qK (ps_while AO (kH op_ne (pv 4) qH (kK _)) (qK (zJ (xK (pv 2) (qC (pv 4) qD))) (qK (q8 (i:=1) sc.nd rfl (Or.inl rfl) (qJ c_stepped hr (qC (kF zP (pv 0) qH (fun _ _=>rfl)) (qC (pv 1) (qC (pv 4) qD))))) (qK (q8 (i:=5) sc.nd rfl (Or.inl rfl) (pv 3)) (qK (q8 (i:=3) sc.nd rfl (Or.inl rfl) (qJ c_ground_of hr (qC (pv 0) (qC (pv 1) qD)))) (qI (zI (kH (neGr0 hr.units) (pv 3) (pv 5) (kK _)) (qI (q8 (i:=4) sc.nd rfl (Or.inl rfl) (qJ c_next_step hr (qC (pv 0) (qC (pv 1) qD))))) jJ))))))) (qI (qP (jK (qC (kX z9 rfl T.tuple_ jM (qC (pv 2) qD)) (qC (pv 1) qD)))))))),?_⟩
  rw [show L2.start ["town", "prices", "row", "ground", "heap", "before"] [.ref tw,.ref na] = [some (.ref tw),some (.ref na),none,none,none,none] from rfl]
  (push_cast only [])
  refine ⟨by decide,fun r H1 nr s1 e1=>?_⟩
  have TN1:=TN.same s1
  have na1:=s1 _ _ hna
  (push_cast only [])
  (simp only [qO])
  (push_cast only [])
  refine ⟨tw,sa,wa,na,ts,ps0,Fn,rfl,TN1,na1,fun g l1 l2 rs H2 f1 f2 s2 g1 g2 g3 g4 g5=>?_⟩
  (push_cast only [])
  (simp only [qO])
  (push_cast only [])
  refine ⟨tw,sa,wa,na,ts,ps0,Fn,rfl,TN1.same s2,s2 _ _ na1,fun x hx=>by have:=nb x hx;omega,fun H3 s3=>?_⟩
  (push_cast only [])
  (simp only [qO])
  have e13:=s3 _ _ (s2 _ _ e1)
  have S3:=(s1.trans s2).trans s3
  have up3:∀ {b:Addr} {o:HO},H2 b=some o→H3 b=some o:=fun {b o} e=>s3 _ _ e
  have TN3:=TN.same S3
  have wl:∀ ws ∈ ts.map (fun t=>t.2),ws.length=2 ^ ps0.length:=fun ws hw=>by
   obtain ⟨t,ht,rfl⟩:=Ae.mp hw
   exact (TN.R.row t ht).2.1
  have z0:∀ ws ∈ ts.map (fun t=>t.2),0 ≤ ws.getD 0 0:=fun ws hw=>by
   have l:=wl ws hw
   obtain ⟨t,ht,rfl⟩:=Ae.mp hw
   have pp:=As ps0.length
   rw [Aa,Am (show 0 < t.2.length by rw [l];exact pp)]
   exact ((TN.R.row t ht).2.2 _ (AN _)).1
  refine ⟨SOI tw r ts Fn N ps0 H3,⟨N,_,na,g,ps0,[],rfl,rfl,(fun x hx=>by have:=nb x hx;simp;omega),by simp,sN,rfl,SameX.refl,e13,e13,s3 _ _ (s2 _ _ na1),⟨l1,l2,rs,(qF e1 f1).symm,(qF e1 f2).symm,up3 g1,up3 g2,up3 g3,fun r hr=>up3 (g4 r hr),g5⟩⟩,?_⟩
  rintro n σ H4 ⟨v5,pa,g',ps,row,rfl,pl,pb,rn,sn,run,s4,r0,r4,pa4,G4⟩
  have p5':ps.length ≤ 5:=by omega
  have p32:=jF p5'
  have nlt:=aA (ts.map fun t=>t.2) Fn ps
  have nal:=aD (ts.map fun t=>t.2) Fn ps
  have k4:∀ {b:Addr} {o:HO},H b=some o→H4 b=some o:=fun {b o} e=>s4 _ _ (qF e nr) (S3 _ _ e)
  by_cases z:vQ (ts.map fun t=>t.2) Fn ps=0
  ·rw [iP z,Bv] at run
   rw [z]
   (push_cast only [])
   rw [Aj (by simp)]
   refine ⟨_,r4,fun l H5 n5 s5 e5=>⟨by decide,fun p H6 n6 s6 e6=>?_⟩⟩
   exact q p l pa H6 (fun b o e=>s6 _ _ (s5 _ _ (k4 e))) e6 (by rw [run];exact s6 _ _ e5) (by rw [run];exact s6 _ _ (s5 _ _ pa4))
  ·have z':((vQ (ts.map fun t=>t.2) Fn ps:Nat):Int) ≠ 0:=by omega
   obtain ⟨k,rfl,sk,nn',rm⟩:=mD z0 p5' (fun x hx=>(pb x hx).1) sn z
   generalize hX:vQ (ts.map fun t=>t.2) Fn ps=X at *
   (push_cast only [z'])
   refine ⟨fun σ' H'=>SOI tw r ts Fn N ps0 H3 k σ' H',fun σ' H' zz=>⟨k,by omega,zz⟩,_,r4,_,r4,qR (by unfold natI;rw [Ab];omega),?_⟩
   have npr:pa ≠ r:=fun y=>by rw [y,r4] at pa4;cases pa4
   have u5:SameX r H4 (upd H4 r (.lst (natI row ++ [V.int (X:Int)]))):=SameX.upd
   have r5:upd H4 r (.lst (natI row ++ [V.int (X:Int)])) r=some (.lst (natI (row ++ [X]))):=by rw [qG];unfold natI;simp
   have G5:=G4.same ⟨_,r4⟩ u5
   revert u5 r5 G5
   generalize upd H4 r (.lst (natI row ++ [V.int (X:Int)]))=H5
   intro u5 r5 G5
   have k5:∀ {b:Addr} {o:HO},H b=some o→H5 b=some o:=fun {b o} e=>u5 _ _ (qF e nr) (k4 e)
   have TN5:Tn H5 tw sa wa ts ps0.length Fn:=TN.same fun b o e=>k5 e
   have htw5:=qY TN5.R.tw
   have i0:∀ x y:V,vC [x,y] 0=some x:=fun _ _=>rfl
   (simp only [qO])
   (push_cast only [htw5,i0])
   refine ⟨pa,sa,ps,Fn,X,rfl,u5 _ _ npr pa4,by rw [pl];exact TN5.sa,p5',by omega,fun pc H6 s6 e6=>?_⟩
   (push_cast only [])
   (simp only [qO])
   (push_cast only [])
   (simp only [qO])
   (push_cast only [])
   have sl:(qS ps Fn X).length=ps0.length:=by rw [jB];exact pl
   refine ⟨tw,sa,wa,pc,ts,qS ps Fn X,Fn,rfl,by rw [sl];exact TN5.same s6,e6,fun g2 m1 m2 rs2 H7 f1' f2' s7 h1 h2 h3 h4 h5=>?_⟩
   have r67:=s6 _ _ r5
   have r7:=s7 _ _ r67
   have G7:Grd r H7 g2 ts Fn (qS ps Fn X):=⟨m1,m2,rs2,(qF r67 f1').symm,(qF r67 f2').symm,h1,h2,h3,h4,h5⟩
   obtain ⟨o1,o2,rs1,_,_,j1,j2,j3,j4,j5⟩:=G5.ex
   have S57:=s6.trans s7
   (push_cast only [])
   (simp only [qO])
   (push_cast only [↓a_rNeGr])
   have ni:∀ xs:List Nat,natI xs=(xs.map fun x:Nat=>(x:Int)).map V.int:=fun xs=>by unfold natI;rw [A8];rfl
   refine ⟨m1,m2,h1,o1,o2,S57 _ _ j1,_,by rw [h2,ni],_,rs2,h3,by rw [← ni];exact S57 _ _ j2,rs1,S57 _ _ j3,h4,fun x hx=>S57 _ _ (j4 x hx),?_⟩
   have fin:∀ H8,Same H7 H8→SOI tw r ts Fn N ps0 H3 k [some (V.ref tw),some (V.ref pc),some (V.ref r),some (V.ref g2),some (V.int ((vQ (ts.map fun t=>t.2) Fn (qS ps Fn X):Nat):Int)),some (V.ref g')] H8:=fun H8 s8=>by
    refine ⟨_,pc,g2,qS ps Fn X,row ++ [X],rfl,sl,fun x hx=>⟨nn' x hx,?_⟩,by rw [AD,AY];omega,sk,?_,(s4.trans u5).trans (S57.trans s8).x,r0,s8 _ _ r7,s8 _ _ (s7 _ _ e6),G7.same ⟨_,r7⟩ s8.x⟩
    ·have:=pQ (F:=Fn) (X:=X) (c:=1000 + (row.length:Int)) (fun x hx=>(pb x hx).2) x hx
     rw [AD,AY]
     omega
    ·rw [run,rm,List.append_assoc]
     rfl
   by_cases c:(!(decide ((xY Fn (qS ps Fn X) (2 ^ (qS ps Fn X).length)).map (fun x:Nat=>(x:Int))=(xY Fn ps (2 ^ ps.length)).map fun x:Nat=>(x:Int)) && decide (rs2.map (fun x=>x.2)=rs1.map fun x=>x.2)))=true
   ·rw [Ak c]
    refine ⟨tw,sa,wa,pc,ts,qS ps Fn X,Fn,rfl,by rw [sl];exact TN5.same S57,s7 _ _ e6,fun x hx=>?_,fun H8 s8=>fin H8 s8⟩
    have:=pQ (F:=Fn) (X:=X) (c:=1000 + (row.length:Int)) (fun x hx=>(pb x hx).2) x hx
    exact ⟨nn' x hx,by omega⟩
   ·rw [Aj c]
    simp only [Bool.not_eq_true,Bool.not_eq_false',AL,AE] at c
    obtain ⟨c1,c2⟩:=c
    have c1':=(Ce (fun a b h=>by exact_mod_cast h)).mp c1
    rw [h5,j5] at c2
    have gs:=tV (ts:=ts.map fun t=>t.2) (F:=Fn) (ps:=ps) (qs:=qS ps Fn X) p5' (jB ps Fn X).symm (by rw [pl];exact wl) c1'.symm (by rw [A8,A8];exact c2.symm)
    have ns:=nxt_same p5' (jB ps Fn X).symm (by rw [pl];exact TN.hF) (by rw [pl];exact TN.kd) gs.1 gs.2
    have:=fin H7 (Same.refl H7)
    rw [← ns,hX] at this
    exact this
def sp_steps:Sp:=fun vs H Q _=>∃ (tw sa wa:Addr) (ts:List (Addr × List Int)) (m F:Nat),vs=[.ref tw]∧Tn H tw sa wa ts m F∧(∀ top,IsTop (ts.map fun t=>t.2) m top→0 ≤ top∧top ≤ 1000∧q5 (ts.map fun t=>t.2) (firstL F m top) ≤ 399)∧∀ (top:Int) (t r p:Addr) (H':Hp),IsTop (ts.map fun t=>t.2) m top→Same H H'→H' t=some (.tup [.ref r,.ref p])→H' r=some (.tup (natI (zE (ts.map fun t=>t.2) F 399 (firstL F m top)).1))→H' p=some (.tup ((zE (ts.map fun t=>t.2) F 399 (firstL F m top)).2.map V.int))→Q (.ref t) H'
theorem bD:FnScope ["town"] ["town"] (qE s_steps_of):=⟨rfl,rfl,rfl,by decide +kernel,rfl,by decide +kernel,by decide +kernel⟩
theorem ok_steps (F:Fun K "steps_of" "steps_of" s_steps_of f fd) (hm:mg "steps_of" = some (.ref f)) (hb:Binds K fd ["town"] []) (T:Txt mg) (c_first_prices:kL P w K mg base "first_prices" ["town"] 1 sQ) (c_steps_on:kL P w K mg base "steps_on" ["town", "prices"] 6 sp_on):kL P w K mg base "steps_of" ["town"] 7 sp_steps:=by
 refine qW F hm hb bD (fun vs H Q E h=>?_) (fun cdv A outer s H vs Q E hr h=>?_)
 ·obtain ⟨_,_,_,_,_,_,rfl,_⟩:=h;rfl
 ·obtain ⟨tw,sa,wa,ts,m,Fn,rfl,TN,bd,q⟩:=h
  have sc:=bD
  refine ⟨_,qI (qP (qJ c_steps_on hr (qC (pv 0) (qC (qJ c_first_prices hr (qC (pv 0) qD)) qD)))),?_⟩
  rw [show L2.start ["town"] [.ref tw] = [some (.ref tw)] from rfl]
  (push_cast only [])
  refine ⟨tw,sa,wa,ts,m,Fn,rfl,TN,fun top p H1 it s1 e1=>?_⟩
  obtain ⟨t0,t1,t2⟩:=bd top it
  refine ⟨tw,sa,wa,p,ts,firstL Fn m top,Fn,399,rfl,by rw [first_len];exact TN.same s1,e1,fun x hx=>?_,t2,by decide,fun t r p2 H2 s2 e2 r2 p2'=>?_⟩
  ·rcases first_mem hx with z | z <;> omega
  ·exact q top t r p2 H2 it (s1.trans s2) e2 r2 p2'
theorem lC:FnScope ["town"] ["town"] (qE s_rising):=⟨rfl,rfl,rfl,by decide +kernel,rfl,by decide +kernel,by decide +kernel⟩
theorem ok_rising (F:Fun K "rising" "rising" s_rising f fd) (T:Txt mg) (c_refuse_strange:kL P w K mg base "refuse_strange" ["town"] 7 sp_refuse) (c_steps_of:kL P w K mg base "steps_of" ["town"] 7 sp_steps):FnOk P w K mg base CX0 8 f fd ["town"] sp_steps:=by
 refine F.ok lC (fun vs H Q E h=>?_) (fun cdv A outer s H vs Q E hr h=>?_)
 ·obtain ⟨_,_,_,_,_,_,rfl,_⟩:=h;rfl
 ·obtain ⟨tw,sa,wa,ts,m,Fn,rfl,TN,bd,q⟩:=h
  have sc:=lC
  refine ⟨_,qK (zJ (qJ c_refuse_strange hr (qC (pv 0) qD))) (qI (qP (qJ c_steps_of hr (qC (pv 0) qD)))),?_⟩
  rw [show L2.start ["town"] [.ref tw] = [some (.ref tw)] from rfl]
  (push_cast only [])
  refine ⟨tw,sa,wa,ts,Fn,m,rfl,TN.R.tw,TN.sa,TN.R.wa,(fun r hr=>⟨(TN.R.row r hr).1,(TN.R.row r hr).2.1⟩),TN.R.five,TN.hF,(fun r hr=>TN.kd r.2 (Ae.mpr ⟨r,hr,rfl⟩)),fun H1 s1=>?_⟩
  (push_cast only [])
  (simp only [qO])
  (push_cast only [])
  exact ⟨tw,sa,wa,ts,m,Fn,rfl,TN.same s1,bd,fun top t r p H2 it s2 e2 r2 p2=>q top t r p H2 it (s1.trans s2) e2 r2 p2⟩
def cpl (m F:Nat):Nat:=(2 ^ m - 1) ^^^ F
theorem cpl_facts {m F t:Nat}(m5:m ≤ 5)(hF:F < 2 ^ m)(ht:t < m):qA (cpl m F) t = !qA F t:=by
 have key:∀ (m:_root_.Fin 6) (F:_root_.Fin 32) (t:_root_.Fin 5),F.val < 2 ^ m.val→t.val < m.val→qA (cpl m.val F.val) t.val = !qA F.val t.val:=by decide +kernel
 have:=jF m5
 exact key ⟨m,by omega⟩ ⟨F,by omega⟩ ⟨t,by omega⟩ hF ht
theorem cpl_lt {m F:Nat}(hF:F < 2 ^ m):cpl m F < 2 ^ m:=by
 have pp:=As m
 exact BO (by omega) hF
theorem ext_cpl {g:Nat→Int}{m F:Nat}(m5:m ≤ 5)(hF:F < 2 ^ m)(ex:pJ g m F):pJ g m (cpl m F):=by
 intro X Y i hX hY hi xi yi
 have p32:=jF m5
 have hC:=cpl_lt hF
 have fl:∀ Z t,Z < 2 ^ m→t < m→qA (Z ^^^ cpl m F) t = !qA (Z ^^^ F) t:=fun Z t hZ ht=>by
  rw [dJ (show Z < 32 by omega) (show cpl m F < 32 by omega) (show t < 5 by omega),dJ (show Z < 32 by omega) (show F < 32 by omega) (show t < 5 by omega),cpl_facts m5 hF ht]
  cases qA Z t <;> cases qA F t <;> rfl
 rw [fl X i hX hi] at xi
 rw [fl Y i hY hi] at yi
 rcases ex Y X i hY hX hi (by cases b:qA (Y ^^^ F) i;(· rw [b] at yi;cases yi);rfl) (by cases b:qA (X ^^^ F) i;(· rfl);rw [b] at xi;cases xi) with le | ⟨j,hj,b1,b2,le⟩
 ·exact .inl (by omega)
 ·exact .inr ⟨j,hj,by rw [fl Y j hY hj,b2];rfl,by rw [fl X j hX hj,b1];rfl,by omega⟩
theorem bits_cpl {m F:Nat}(m5:m ≤ 5)(hF:F < 2 ^ m):(bitsL F m).map (fun x=>1 - x)=bitsL (cpl m F) m:=by
 unfold bitsL
 rw [A8]
 refine C8 fun t ht=>?_
 show 1 - (if qA F t=true then (1:Int) else 0)=if qA (cpl m F) t=true then 1 else 0
 rw [cpl_facts m5 hF (AI.mp ht)]
 cases qA F t <;> rfl
def z3 (f:Int→Int→Int→Int)(ss ns ms:List Int):List Int:=(ss.zip (ns.zip ms)).map fun q=>f q.1 q.2.1 q.2.2
def others (ss:List Int):List Int:=ss.map fun s=>1 - s
def nY:Sp:=fun vs H Q _=>∃ (a:Addr) (ss:List Int),vs=[.ref a]∧H a=some (.tup (ss.map V.int))∧ss.length ≤ 5∧∀ (t:Addr) (H':Hp),H t=none→Same H H'→H' t=some (.tup ((others ss).map V.int))→Q (.ref t) H'
def O1 (c:Addr)(ss:List Int)(G:Hp)(i:Nat)(σ:St)(H:Hp):Prop:=∃ v:Option V,σ=[v]∧SameX c G H∧H c=some (.lst (((others ss).take i).map V.int))
theorem gA:FnScope ["sides"] ["sides"] (qE s_other_sides):=⟨rfl,rfl,rfl,by decide +kernel,rfl,by decide +kernel,by decide +kernel⟩
theorem ok_others (F:Fun K "other_sides" "other_sides" s_other_sides f fd) (hm:mg "other_sides" = some (.ref f)) (hb:Binds K fd ["sides"] []) (T:Txt mg):kL P w K mg base "other_sides" ["sides"] 1 nY:=by
 refine qW F hm hb gA (fun vs H Q E h=>?_) (fun cdv A outer s H vs Q E hr h=>?_)
 ·obtain ⟨_,_,rfl,_⟩:=h;rfl
 ·obtain ⟨a,ss,rfl,ha,h5,q⟩:=h
  have sc:=gA
  refine ⟨_,qI (qP (kX z9 rfl T.tuple_ jM (qC (jR (N:=["side"]) (fr:=[none]) rfl (fQ (pv 0)) (CScope.of rfl rfl rfl) rfl (fun _ _ _=>⟨qL (i:=0) (show List.Nodup (α:=Str) ["side"] by decide +kernel) rfl (Or.inl rfl),kZ,qV yU qH (pv 0)⟩)) qD))),?_⟩
  rw [show L2.start ["sides"] [.ref a] = [some (.ref a)] from rfl]
  (push_cast only [ha])
  intro c nc
  have nca:a ≠ c:=qF ha nc
  refine zN (O1 c ss H) ⟨none,rfl,SameX.upd,qG⟩ (fun j σ H' _ ⟨_,_,s,_⟩=>s _ _ nca ha) ?_ ?_
  ·rintro j x σ H3 hx ⟨v3,rfl,s3,e3⟩
   rw [Ah] at hx
   obtain ⟨t,ht,rfl⟩:=An.mp hx
   have hj:j < ss.length:=(Ai.mp ht).1
   (push_cast only [e3])
   refine ⟨qR (by rw [A6];omega),⟨_,rfl,s3.trans SameX.upd,?_⟩⟩
   have ho:(others ss)[j]? = some (1 - t):=by unfold others;rw [Ah,ht];rfl
   rw [qG,AB,ho]
   simp
  ·rintro σ H3 ⟨v3,rfl,s3,e3⟩
   rw [Ab,A9 (by unfold others;simp)] at e3
   refine ⟨_,e3,fun l H2 nl s2 e2=>?_⟩
   have s3':=s3.same nc
   exact q l H2 (jO s3' nl) (s3'.trans s2) e2
def IsT (H:Hp)(a:Addr)(ns:List Int):Prop:=H a=some (.tup (ns.map V.int))∨H a=some (.lst (ns.map V.int))
def sp_ow:Sp:=fun vs H Q _=>∃ (tw sa wa:Addr) (ts:List (Addr × List Int)) (m F:Nat),vs=[.ref tw]∧Tn H tw sa wa ts m F∧∀ (tw' sa':Addr) (H':Hp),Same H H'→Tn H' tw' sa' wa ts m (cpl m F)→Q (.ref tw') H'
theorem fI:FnScope ["town", "sides", "wants"] ["town"] (qE s_other_way):=⟨rfl,rfl,rfl,by decide +kernel,rfl,by decide +kernel,by decide +kernel⟩
theorem ok_ow (F:Fun K "other_way" "other_way" s_other_way f fd) (hm:mg "other_way" = some (.ref f)) (hb:Binds K fd ["town"] []) (T:Txt mg) (c_other_sides:kL P w K mg base "other_sides" ["sides"] 1 nY):kL P w K mg base "other_way" ["town"] 2 sp_ow:=by
 refine qW F hm hb fI (fun vs H Q E h=>?_) (fun cdv A outer s H vs Q E hr h=>?_)
 ·obtain ⟨_,_,_,_,_,_,rfl,_⟩:=h;rfl
 ·obtain ⟨tw,sa,wa,ts,m,Fn,rfl,TN,q⟩:=h
  have sc:=fI
  refine ⟨_,kM (yR (pv 0) (kW (n:=2) rfl (qQ (qL (i:=1) sc.nd rfl (Or.inl rfl)) (qQ (qL (i:=2) sc.nd rfl (Or.inl rfl)) kU)))) (qI (qP (jK (qC (qJ c_other_sides hr (qC (pv 1) qD)) (qC (pv 2) qD))))),?_⟩
  rw [show L2.start ["town", "sides", "wants"] [.ref tw] = [some (.ref tw),none,none] from rfl]
  have et:=TN.R.tw
  have p5:=TN.R.five
  (push_cast only [et])
  refine ⟨sa,bitsL Fn m,rfl,TN.sa,by rw [bits_len];exact p5,fun sd' H1 n1 s1 e1=>⟨by decide,fun t' H2 n2 s2 e2=>?_⟩⟩
  have S2:=s1.trans s2
  have TN2:=TN.same S2
  refine q t' sd' H2 S2 ⟨⟨e2,TN2.R.wa,TN.R.few,p5,TN2.R.row⟩,?_,cpl_lt TN.hF,fun ws hw=>ext_cpl p5 TN.hF (TN.kd ws hw),TN.ne⟩
  rw [← bits_cpl p5 TN.hF]
  exact s2 _ _ e1
def sp_fall:Sp:=fun vs H Q _=>∃ (tw sa wa:Addr) (ts:List (Addr × List Int)) (m F:Nat),vs=[.ref tw]∧Tn H tw sa wa ts m F∧(∀ top,IsTop (ts.map fun t=>t.2) m top→0 ≤ top∧top ≤ 1000∧q5 (ts.map fun t=>t.2) (firstL (cpl m F) m top) ≤ 399)∧∀ (top:Int) (t r p:Addr) (H':Hp),IsTop (ts.map fun t=>t.2) m top→Same H H'→H' t=some (.tup [.ref r,.ref p])→H' r=some (.tup (natI (zE (ts.map fun t=>t.2) (cpl m F) 399 (firstL (cpl m F) m top)).1))→H' p=some (.tup ((zE (ts.map fun t=>t.2) (cpl m F) 399 (firstL (cpl m F) m top)).2.map V.int))→Q (.ref t) H'
theorem mC:FnScope ["town"] ["town"] (qE s_falling):=⟨rfl,rfl,rfl,by decide +kernel,rfl,by decide +kernel,by decide +kernel⟩
theorem ok_falling (F:Fun K "falling" "falling" s_falling f fd) (T:Txt mg) (c_refuse_strange:kL P w K mg base "refuse_strange" ["town"] 7 sp_refuse) (c_other_way:kL P w K mg base "other_way" ["town"] 2 sp_ow) (c_steps_of:kL P w K mg base "steps_of" ["town"] 7 sp_steps):FnOk P w K mg base CX0 8 f fd ["town"] sp_fall:=by
 refine F.ok mC (fun vs H Q E h=>?_) (fun cdv A outer s H vs Q E hr h=>?_)
 ·obtain ⟨_,_,_,_,_,_,rfl,_⟩:=h;rfl
 ·obtain ⟨tw,sa,wa,ts,m,Fn,rfl,TN,bd,q⟩:=h
  have sc:=mC
  refine ⟨_,qK (zJ (qJ c_refuse_strange hr (qC (pv 0) qD))) (qI (qP (qJ c_steps_of hr (qC (qJ c_other_way hr (qC (pv 0) qD)) qD)))),?_⟩
  rw [show L2.start ["town"] [.ref tw] = [some (.ref tw)] from rfl]
  (push_cast only [])
  refine ⟨tw,sa,wa,ts,Fn,m,rfl,TN.R.tw,TN.sa,TN.R.wa,(fun r hr=>⟨(TN.R.row r hr).1,(TN.R.row r hr).2.1⟩),TN.R.five,TN.hF,(fun r hr=>TN.kd r.2 (Ae.mpr ⟨r,hr,rfl⟩)),fun H1 s1=>?_⟩
  (push_cast only [])
  (simp only [qO])
  (push_cast only [])
  refine ⟨tw,sa,wa,ts,m,Fn,rfl,TN.same s1,fun tw' sa' H2 s2 TN2=>?_⟩
  exact ⟨tw',sa',wa,ts,m,cpl m Fn,rfl,TN2,bd,fun top t r p H3 it s3 e3 r3 p3=>q top t r p H3 it ((s1.trans s2).trans s3) e3 r3 p3⟩
end
end S
namespace Z
section
variable {P:Program}{w:World}{K:PySem.W.Frag}{mg:Str→Option Value}{base:Heap}{f:Addr}{fd:FuncData}
def fV (a b:Int):Int:=a - Builtin.bitAnd a b
def gY:Sp:=fun vs H Q _=>∃ a b:Int,vs=[.int a,.int b]∧Q (.int (fV a b)) H
theorem iO:FnScope ["one", "other"] ["one", "other"] (qE s_less):=⟨rfl,rfl,rfl,by decide +kernel,rfl,by decide +kernel,by decide +kernel⟩
theorem ok_less (F:Fun K "less" "less" s_less f fd) (hm:mg "less" = some (.ref f)) (hb:Binds K fd ["one", "other"] []) (T:Txt mg):kL P w K mg base "less" ["one", "other"] 1 gY:=by
 refine qW F hm hb iO (fun vs H Q E h=>?_) (fun cdv A outer s H vs Q E hr h=>?_)
 ·obtain ⟨_,_,rfl,_⟩:=h;rfl
 ·obtain ⟨h,t,rfl,q⟩:=h
  have sc:=iO
  refine ⟨_,qI (qP (qV yU (pv 0) (qV p8 (pv 0) (pv 1)))),?_⟩
  rw [show L2.start ["one", "other"] [.int h,.int t] = [some (.int h),some (.int t)] from rfl]
  (push_cast only [])
  exact q
def sp_isw:Sp:=fun vs H Q _=>∃ a b:Int,vs=[.int a,.int b]∧Q (.bl (decide (fV a b=0))) H
theorem fK:FnScope ["one", "other"] ["one", "other"] (qE s_is_within):=⟨rfl,rfl,rfl,by decide +kernel,rfl,by decide +kernel,by decide +kernel⟩
theorem ok_isw (F:Fun K "is_within" "is_within" s_is_within f fd) (hm:mg "is_within" = some (.ref f)) (hb:Binds K fd ["one", "other"] []) (T:Txt mg) (c_less:kL P w K mg base "less" ["one", "other"] 1 gY):kL P w K mg base "is_within" ["one", "other"] 2 sp_isw:=by
 refine qW F hm hb fK (fun vs H Q E h=>?_) (fun cdv A outer s H vs Q E hr h=>?_)
 ·obtain ⟨_,_,rfl,_⟩:=h;rfl
 ·obtain ⟨h,t,rfl,q⟩:=h
  have sc:=fK
  refine ⟨_,qI (qP (xQ zL (qJ c_less hr (qC (pv 0) (qC (pv 1) qD))) qH (kK _))),?_⟩
  rw [show L2.start ["one", "other"] [.int h,.int t] = [some (.int h),some (.int t)] from rfl]
  (push_cast only [gY])
  exact q
def tN:List Int→Int
 | []=>0
 | a :: l=>if l=[] then a else max a (tN l)
theorem mO:∀ {l:List Int},l ≠ []→tN l ∈ l
 | [],h=>absurd rfl h
 | a :: l,_=>by
  unfold tN
  by_cases e:l=[]
  ·rw [Ak e];exact Af
  ·rw [Aj e]
   have:=mO e
   rcases Int.le_total a (tN l) with z | z
   ·rw [Cs z];exact Ad _ this
   ·rw [Int.max_eq_left z];exact Af
theorem rA:∀ {l:List Int} {x:Int},x ∈ l→x ≤ tN l
 | a :: l,x,h=>by
  unfold tN
  by_cases e:l=[]
  ·subst e;rw [Ak rfl];have:x=a:=by simpa using h
   omega
  ·rw [Aj e]
   rcases Ax.mp h with rfl | h
   ·exact Int.le_max_left _ _
   ·exact By (rA h) (Int.le_max_right _ _)
theorem maxL_eq {l:List Int}{m:Int}(h1:m ∈ l)(h2:∀ x ∈ l,x ≤ m):tN l=m:=by
 have ne:l ≠ []:=by rintro rfl;cases h1
 have a:=h2 _ (mO ne)
 have b:=rA h1
 omega
def rF (p h:Nat):Bool:=decide (fV (p:Int) (h:Int)=0)
def dR (h:Nat):List Nat:=(List.range (h + 1)).filter fun p=>rF p h
theorem u6 {p h:Nat}(hh:h < 32)(hp:p ≤ h):rF p h=true→fV (h:Int) (p:Int)=((h - p:Nat):Int)∧rF (h - p) h=true:=by
 have key:∀ (a b:_root_.Fin 32),b.val ≤ a.val→rF b.val a.val=true→fV (a.val:Int) (b.val:Int)=((a.val - b.val:Nat):Int)∧rF (a.val - b.val) a.val=true:=by decide +kernel
 exact key ⟨h,hh⟩ ⟨p,by omega⟩ hp
theorem iN {h:Nat}(hh:h < 32):rF h h=true∧rF 0 h=true:=by
 have key:∀ a:_root_.Fin 32,rF a.val a.val=true∧rF 0 a.val=true:=by decide +kernel
 exact key ⟨h,hh⟩
def yY (one other:List Int)(ps:List Nat)(h:Nat):List Int:=ps.map fun p=>one.getD p 0 + other.getD (h - p) 0
def wR (one other:List Int)(h:Nat):Int:=tN (yY one other (dR h) h)
theorem g7 {p h:Nat}:p ∈ dR h ↔ p ≤ h∧rF p h=true:=by
 unfold dR
 rw [Bj,AI]
 constructor
 ·rintro ⟨a,b⟩;exact ⟨by omega,b⟩
 ·rintro ⟨a,b⟩;exact ⟨by omega,b⟩
structure Two (one other:List Int):Prop where
 same:one.length=other.length
 few:one.length ≤ 32
def y6:Sp:=fun vs H Q _=>∃ (a b:Addr) (one other:List Int) (h:Nat),vs=[.ref a,.ref b,.int (h:Int)]∧H a=some (.tup (one.map V.int))∧H b=some (.tup (other.map V.int))∧Two one other∧h < one.length∧∀ H',Same H H'→Q (.int (wR one other h)) H'
def LP (a b c:Addr)(one other:List Int)(h:Nat)(G:Hp)(i:Nat)(σ:St)(H:Hp):Prop:=∃ v,σ=[v,some (.ref a),some (.ref b),some (.int (h:Int))]∧SameX c G H∧H c=some (.lst ((yY one other ((List.range i).filter fun p=>rF p h) h).map V.int))
theorem gC:FnScope ["one", "other", "heap"] ["one", "other", "heap"] (qE s_most_parted):=⟨rfl,rfl,rfl,by decide +kernel,rfl,by decide +kernel,by decide +kernel⟩
theorem ok_parted (F:Fun K "most_parted" "most_parted" s_most_parted f fd) (hm:mg "most_parted" = some (.ref f)) (hb:Binds K fd ["one", "other", "heap"] []) (T:Txt mg) (c_less:kL P w K mg base "less" ["one", "other"] 1 gY) (c_is_within:kL P w K mg base "is_within" ["one", "other"] 2 sp_isw):kL P w K mg base "most_parted" ["one", "other", "heap"] 3 y6:=by
 refine qW F hm hb gC (fun vs H Q E h=>?_) (fun cdv A outer s H vs Q E hr h=>?_)
 ·obtain ⟨_,_,_,_,_,rfl,_⟩:=h;rfl
 ·obtain ⟨a,b,one,other,h,rfl,ha,hb',tw,hh,q⟩:=h
  have sc:=gC
  have tw1:=tw.same
  have tw2:=tw.few
  refine ⟨_,qI (qP (qX (max0 rfl) rfl T.max_ gT (qC (jR (N:=["part", "one", "other", "heap"]) (fr:=[none,some 0,some 1,some 2]) rfl (jH rfl T.range_ (qC (qV jD (pv 2) qH) qD)) (CScope.of rfl rfl rfl) rfl (fun _ _ _=>⟨qL (i:=0) (show List.Nodup (α:=Str) ["part", "one", "other", "heap"] by decide +kernel) rfl (Or.inl rfl),zZ (yQ (qJ c_is_within hr (qC (pv 0) (qC (pv 3) qD)))),qV jD (kF zP (pv 1) (pv 0) (fun _ _=>rfl)) (kF zP (pv 2) (qJ c_less hr (qC (pv 3) (qC (pv 0) qD))) (fun _ _=>rfl))⟩)) qD))),?_⟩
  rw [show L2.start ["one", "other", "heap"] [.ref a,.ref b,.int (h:Int)] = [some (.ref a),some (.ref b),some (.int (h:Int))] from rfl]
  (push_cast only [])
  refine ⟨by omega,by omega,fun c nc=>?_⟩
  have nac:a ≠ c:=qF ha nc
  have nbc:b ≠ c:=qF hb' nc
  refine zO (LP a b c one other h H) ⟨none,rfl,SameX.upd,qG⟩ ?_ ?_
  ·rintro i σ H1 hi ⟨v,rfl,s1,e1⟩
   have hi':i ≤ h:=by omega
   have hsa:=qY (s1 _ _ nac ha)
   have hsb:=qY (s1 _ _ nbc hb')
   (push_cast only [])
   refine ⟨(i:Int),(h:Int),rfl,?_⟩
   have el:((List.range (i + 1)).filter fun p=>rF p h)=((List.range i).filter fun p=>rF p h) ++ if rF i h=true then [i] else []:=by
    rw [Bb,Bq]
    congr 1
    cases e:rF i h <;> simp [List.filter,e]
   cases hw:rF i h with
   | true =>
    have hd:decide (fV (i:Int) (h:Int)=0)=true:=hw
    rw [hd]
    obtain ⟨f1,_⟩:=u6 (h:=h) (p:=i) (by omega) hi' hw
    have hat1:=jX (ns:=one) (n:=i) (by omega)
    have hat2:=jX (ns:=other) (n:=h - i) (by omega)
    (push_cast only [hsa,hsb,hat1])
    refine ⟨(h:Int),(i:Int),rfl,?_⟩
    rw [f1]
    (push_cast only [hsb,hat2,e1])
    have ll:(yY one other ((List.range i).filter fun p=>rF p h) h).length ≤ i:=by
     unfold yY
     rw [Ab]
     exact AK (Bo _ _) (by simp)
    refine ⟨qR (by omega),⟨_,rfl,s1.trans SameX.upd,?_⟩⟩
    rw [qG,el,Ak hw]
    unfold yY
    simp
   | false =>
    have hd:decide (fV (i:Int) (h:Int)=0)=false:=hw
    rw [hd]
    (push_cast only [])
    refine ⟨_,rfl,s1,?_⟩
    rw [e1,el,Aj (by rw [hw];decide),Bv]
  ·rintro σ H1 ⟨v,rfl,s1,e1⟩
   have en:((h:Int) + 1).toNat=h + 1:=by omega
   rw [en] at e1
   have ne:yY one other (dR h) h ≠ []:=by
    intro z
    have:one.getD h 0 + other.getD (h - h) 0 ∈ yY one other (dR h) h:=by
     unfold yY
     exact Ae.mpr ⟨h,g7.mpr ⟨Ag _,(iN (by omega)).1⟩,rfl⟩
    rw [z] at this
    cases this
   refine ⟨_,jC e1,ne,fun mx m1 m2=>?_⟩
   have:=q H1 (s1.same nc)
   have em:wR one other h=mx:=maxL_eq m1 m2
   rw [em] at this
   exact this
def yD (one other:List Int):List Int:=(List.range one.length).map fun h=>wR one other h
def nZ:Sp:=fun vs H Q _=>∃ (a b:Addr) (one other:List Int),vs=[.ref a,.ref b]∧H a=some (.tup (one.map V.int))∧H b=some (.tup (other.map V.int))∧Two one other∧∀ (l:Addr) (H':Hp),Same H H'→H' l=some (.tup ((yD one other).map V.int))→Q (.ref l) H'
def LJ (a b c:Addr)(one other:List Int)(G:Hp)(i:Nat)(σ:St)(H:Hp):Prop:=∃ v,σ=[v,some (.ref a),some (.ref b)]∧SameX c G H∧H c=some (.lst (((List.range i).map fun h=>wR one other h).map V.int))
theorem lE:FnScope ["one", "other"] ["one", "other"] (qE s_joined):=⟨rfl,rfl,rfl,by decide +kernel,rfl,by decide +kernel,by decide +kernel⟩
theorem ok_joined (F:Fun K "joined" "joined" s_joined f fd) (hm:mg "joined" = some (.ref f)) (hb:Binds K fd ["one", "other"] []) (T:Txt mg) (c_most_parted:kL P w K mg base "most_parted" ["one", "other", "heap"] 3 y6):kL P w K mg base "joined" ["one", "other"] 4 nZ:=by
 refine qW F hm hb lE (fun vs H Q E h=>?_) (fun cdv A outer s H vs Q E hr h=>?_)
 ·obtain ⟨_,_,_,_,rfl,_⟩:=h;rfl
 ·obtain ⟨a,b,one,other,rfl,ha,hb',tw,q⟩:=h
  have sc:=lE
  have tw2:=tw.few
  refine ⟨_,qI (qP (kX z9 rfl T.tuple_ jM (qC (jR (N:=["heap", "one", "other"]) (fr:=[none,some 0,some 1]) rfl (jH rfl T.range_ (qC (qX len0 rfl T.len_ jT (qC (pv 0) qD)) qD)) (CScope.of rfl rfl rfl) rfl (fun _ _ _=>⟨qL (i:=0) (show List.Nodup (α:=Str) ["heap", "one", "other"] by decide +kernel) rfl (Or.inl rfl),kZ,qJ c_most_parted hr (qC (pv 1) (qC (pv 2) (qC (pv 0) qD)))⟩)) qD))),?_⟩
  rw [show L2.start ["one", "other"] [.ref a,.ref b] = [some (.ref a),some (.ref b)] from rfl]
  have hsa:=qY ha
  (push_cast only [hsa])
  refine ⟨by omega,by omega,fun c nc=>?_⟩
  have nac:a ≠ c:=qF ha nc
  have nbc:b ≠ c:=qF hb' nc
  refine zO (LJ a b c one other H) ⟨none,rfl,SameX.upd,qG⟩ ?_ ?_
  ·rintro i σ H1 hi ⟨v,rfl,s1,e1⟩
   rw [Ay] at hi
   (push_cast only [])
   refine ⟨a,b,one,other,i,rfl,s1 _ _ nac ha,s1 _ _ nbc hb',tw,hi,fun H2 s2=>?_⟩
   have e2:=s2 _ _ e1
   (push_cast only [e2])
   refine ⟨qR (by simp;omega),⟨_,rfl,(s1.trans s2.x).trans SameX.upd,?_⟩⟩
   rw [qG,Bb]
   simp
  ·rintro σ H1 ⟨v,rfl,s1,e1⟩
   rw [Ay] at e1
   refine ⟨_,e1,fun l H2 nl s2 e2=>?_⟩
   exact q l H2 ((s1.same nc).trans s2) e2
def dpL (m:Nat)(wss:List (List Int)):List Int:=wss.foldl yD (List.replicate (2 ^ m) 0)
theorem lR (one other:List Int):(yD one other).length=one.length:=by unfold yD;simp
theorem rL (m:Nat):∀ (wss:List (List Int)) (s:List Int),s.length=2 ^ m→(wss.foldl yD s).length=2 ^ m
 | [],_,h=>h
 | _ :: wss,s,h=>rL m wss _ (by rw [lR];exact h)
def cS:Sp:=fun vs H Q _=>∃ (wt:Addr) (m:Nat) (ts:List (Addr × List Int)),vs=[.ref wt,.int (m:Int)]∧H wt=some (.tup (ts.map fun t=>V.ref t.1))∧m ≤ 5∧ts.length ≤ 5∧(∀ t ∈ ts,H t.1=some (.tup (t.2.map V.int))∧t.2.length=2 ^ m) ∧
 ∀ (l:Addr) (H':Hp),Same H H'→H' l=some (.tup ((dpL m (ts.map fun t=>t.2)).map V.int))→Q (.ref l) H'
def GS (wt:Addr)(m:Nat)(ts:List (Addr × List Int))(G:Hp)(i:Nat)(σ:St)(H:Hp):Prop:=∃ (v:Option V) (l:Addr),σ=[some (.ref wt),some (.int (m:Int)),some (.ref l),v]∧Same G H∧H l=some (.tup ((dpL m ((ts.take i).map fun t=>t.2)).map V.int))
theorem rep_flat (x:Int):∀ n:Nat,(List.replicate n [V.int x]).flatten=(List.replicate n x).map V.int
 | 0=>rfl
 | n + 1=>by rw [Ba,Bz,rep_flat x n,Ba,Av];rfl
theorem xH:FnScope ["wants", "many", "sums", "want"] ["wants", "many"] (qE s_greatest_sums):=⟨rfl,rfl,rfl,by decide +kernel,rfl,by decide +kernel,by decide +kernel⟩
theorem ok_gsums (F:Fun K "greatest_sums" "greatest_sums" s_greatest_sums f fd) (hm:mg "greatest_sums" = some (.ref f)) (hb:Binds K fd ["wants", "many"] []) (T:Txt mg) (c_joined:kL P w K mg base "joined" ["one", "other"] 4 nZ):kL P w K mg base "greatest_sums" ["wants", "many"] 5 cS:=by
 refine qW F hm hb xH (fun vs H Q E h=>?_) (fun cdv A outer s H vs Q E hr h=>?_)
 ·obtain ⟨_,_,_,rfl,_⟩:=h;rfl
 ·obtain ⟨wt,m,ts,rfl,hwt,m5,t5,hrow,q⟩:=h
  have sc:=xH
  refine ⟨_,kM (q8 (i:=2) sc.nd rfl (Or.inl rfl) (qV mulT0 (jK (qC qH qD)) (qV dS qH (pv 1)))) (kM (j9 AO rfl (fQ (pv 0)) (qL (i:=3) sc.nd rfl (Or.inl rfl)) (qI (q8 (i:=2) sc.nd rfl (Or.inl rfl) (qJ c_joined hr (qC (pv 2) (qC (pv 3) qD)))))) (qI (qP (pv 2)))),?_⟩
  rw [show L2.start ["wants", "many", "sums", "want"] [.ref wt,.int (m:Int)] = [some (.ref wt),some (.int (m:Int)),none,none] from rfl]
  have p32:=jF m5
  (push_cast only [])
  rw [hpow]
  refine ⟨by decide,fun z H1 n1 s1 e1=>⟨⟨by omega,by omega,by decide⟩,2 ^ m,rfl,_,e1,by simp;omega,by omega,fun l H2 s2 e2=>?_⟩⟩
  rw [rep_flat] at e2
  have S2:=s1.trans s2
  have ew:=S2 _ _ hwt
  (push_cast only [ew])
  refine d6 (GS wt m ts H) ⟨_,l,rfl,S2,e2⟩ (fun j σ H' _ ⟨_,_,_,s,_⟩=>s _ _ hwt) ?_ ?_
  ·rintro i x σ H3 hx ⟨v,l3,rfl,s3,e3⟩
   rw [Ah] at hx
   obtain ⟨t,ht,rfl⟩:=An.mp hx
   obtain ⟨et,lt⟩:=hrow t (A0 ht)
   have dl:(dpL m ((ts.take i).map fun t=>t.2)).length=2 ^ m:=rL m _ _ AW
   (push_cast only [])
   refine ⟨l3,t.1,_,t.2,rfl,e3,s3 _ _ et,⟨by rw [dl,lt],by omega⟩,fun l4 H4 s4 e4=>?_⟩
   (push_cast only [])
   refine ⟨_,l4,rfl,s3.trans s4,?_⟩
   rw [e4,AB,ht]
   unfold dpL
   simp [List.foldl_append]
  ·rintro σ H3 ⟨v,l3,rfl,s3,e3⟩
   rw [Ab,Bc] at e3
   (push_cast only [])
   exact q l3 H3 s3 e3
structure TownW (H:Hp)(t sd wt:Addr)(m:Nat)(ss:List Int)(ts:List (Addr × List Int)):Prop where
 at':H t=some (.tup [.ref sd,.ref wt])
 sd:H sd=some (.tup (ss.map V.int))
 wt:H wt=some (.tup (ts.map fun t=>V.ref t.1))
 m5:m ≤ 5
 slen:ss.length=m
 t5:ts.length ≤ 5
 row:∀ t ∈ ts,H t.1=some (.tup (t.2.map V.int))∧t.2.length=2 ^ m
def sp_greatest:Sp:=fun vs H Q _=>∃ (t sd wt:Addr) (m:Nat) (ss:List Int) (ts:List (Addr × List Int)),vs=[.ref t]∧TownW H t sd wt m ss ts∧∀ H',Same H H'→Q (.int ((dpL m (ts.map fun t=>t.2)).getD (2 ^ m - 1) 0)) H'
theorem atI_last {xs:List Int}(h:0 < xs.length):vC (xs.map V.int) (-1)=some (V.int (xs.getD (xs.length - 1) 0)):=by
 have hne:xs ≠ []:=by rintro rfl;simp at h
 obtain ⟨ys,y,rfl⟩:∃ ys y,xs=ys ++ [y]:=⟨xs.dropLast,xs.getLast hne,(B3 hne).symm⟩
 unfold vC rW
 rw [Aj (by decide),Ak (by simp;omega)]
 have e:(-1 + ((List.map V.int (ys ++ [y])).length:Int)).toNat=ys.length:=by simp;omega
 rw [e]
 simp
theorem bF:FnScope ["town"] ["town"] (qE s_greatest):=⟨rfl,rfl,rfl,by decide +kernel,rfl,by decide +kernel,by decide +kernel⟩
theorem ok_greatest (F:Fun K "greatest" "greatest" s_greatest f fd) (hm:mg "greatest" = some (.ref f)) (hb:Binds K fd ["town"] []) (T:Txt mg) (c_greatest_sums:kL P w K mg base "greatest_sums" ["wants", "many"] 5 cS):kL P w K mg base "greatest" ["town"] 6 sp_greatest:=by
 refine qW F hm hb bF (fun vs H Q E h=>?_) (fun cdv A outer s H vs Q E hr h=>?_)
 ·obtain ⟨_,_,_,_,_,_,rfl,_⟩:=h;rfl
 ·obtain ⟨t,sd,wt,m,ss,ts,rfl,W,q⟩:=h
  have sc:=bF
  refine ⟨_,qI (qP (kF zP (qJ c_greatest_sums hr (qC (kF zP (pv 0) qH (fun _ _=>rfl)) (qC (qX len0 rfl T.len_ jT (qC (kF zP (pv 0) qH (fun _ _=>rfl)) qD)) qD))) (iT pM qH) (fun _ _=>rfl))),?_⟩
  rw [show L2.start ["town"] [.ref t] = [some (.ref t)] from rfl]
  have hst:=qY W.at'
  have hss:=qY W.sd
  have i1:∀ x y:V,vC [x,y] 1=some y:=fun _ _=>rfl
  have i0:∀ x y:V,vC [x,y] 0=some x:=fun _ _=>rfl
  (push_cast only [hst,i1,i0,hss])
  rw [W.slen]
  have dl:(dpL m (ts.map fun t=>t.2)).length=2 ^ m:=rL m _ _ AW
  have p32:=jF W.m5
  refine ⟨wt,m,ts,rfl,W.wt,W.m5,W.t5,W.row,fun l H1 s1 e1=>?_⟩
  have hs1:=qY e1
  have hat:=atI_last (xs:=dpL m (ts.map fun t=>t.2)) (by omega)
  (push_cast only [hs1,hat])
  rw [dl]
  exact q H1 s1
theorem oD {p h:Nat}(hp:p < 32)(hh:h < 32):rF p h=decide (p &&& h=p):=by
 have key:∀ a b:_root_.Fin 32,rF a.val b.val=decide (a.val &&& b.val=a.val):=by decide +kernel
 exact key ⟨p,hp⟩ ⟨h,hh⟩
theorem join_ge {one other:List Int}{h p:Nat}(hh:h < one.length)(h32:one.length ≤ 32)(hp:p ≤ h)(e:p &&& h=p):one.getD p 0 + other.getD (h - p) 0 ≤ (yD one other).getD h 0:=by
 have:(yD one other).getD h 0=wR one other h:=by unfold yD;simp [Aa,hh]
 rw [this]
 refine rA ?_
 unfold yY
 refine Ae.mpr ⟨p,g7.mpr ⟨hp,?_⟩,rfl⟩
 rw [oD (by omega) (by omega)]
 simpa using e
theorem join_at {one other:List Int}{h:Nat}(hh:h < one.length)(h32:one.length ≤ 32):∃ p,p ≤ h∧p &&& h=p∧(yD one other).getD h 0=one.getD p 0 + other.getD (h - p) 0:=by
 have e:(yD one other).getD h 0=wR one other h:=by unfold yD;simp [Aa,hh]
 have ne:yY one other (dR h) h ≠ []:=by
  intro z
  have:one.getD h 0 + other.getD (h - h) 0 ∈ yY one other (dR h) h:=by
   unfold yY
   exact Ae.mpr ⟨h,g7.mpr ⟨Ag _,(iN (by omega)).1⟩,rfl⟩
  rw [z] at this
  cases this
 have m:=mO ne
 unfold yY at m
 obtain ⟨p,hp,ep⟩:=Ae.mp m
 obtain ⟨p1,p2⟩:=g7.mp hp
 rw [oD (by omega) (by omega)] at p2
 refine ⟨p,p1,by simpa using p2,?_⟩
 rw [e]
 exact ep.symm
theorem join_tab {m:Nat}{f g:List Int}(m5:m ≤ 5)(fl:f.length=2 ^ m):JoinTab m f g (yD f g):=by
 have p32:2 ^ m ≤ 2 ^ 5:=Ao (by decide) m5
 refine ⟨fun h a hh al e=>?_,fun h hh=>?_⟩
 ·exact join_ge (by omega) (by omega) al e
 ·obtain ⟨p,p1,p2,p3⟩:=join_at (one:=f) (other:=g) (h:=h) (by omega) (by omega)
  exact ⟨p,p1,p2,p3⟩
theorem dp_fold {m:Nat}(m5:m ≤ 5):∀ (ts:List (List Int)) (s:List Int),s.length=2 ^ m→j7 m ts s (ts.foldl yD s)
 | [],s,_=>rfl
 | ws :: ts,s,sl=>⟨yD s ws,join_tab m5 sl,dp_fold m5 ts (yD s ws) (by rw [lR,sl])⟩
end
end Z
namespace Z
section
variable {P:Program}{w:World}{K:PySem.W.Frag}{mg:Str→Option Value}{base:Heap}{f:Addr}{fd:FuncData}
theorem z7 {h t m:Nat}(hm:m ≤ 5)(hh:h < 2 ^ m)(ht:t < m):Builtin.bitOr (h:Int) ((2 ^ t:Nat):Int)=((h ||| 2 ^ t:Nat):Int)∧(h ||| 2 ^ t) < 2 ^ m:=by
 have key:∀ (a:_root_.Fin 6) (b:_root_.Fin 32) (c:_root_.Fin 5),b.val < 2 ^ a.val→c.val < a.val→Builtin.bitOr (b.val:Int) ((2 ^ c.val:Nat):Int)=((b.val ||| 2 ^ c.val:Nat):Int)∧(b.val ||| 2 ^ c.val) < 2 ^ a.val:=by decide +kernel
 have:=jF hm
 exact key ⟨m,by omega⟩ ⟨h,by omega⟩ ⟨t,by omega⟩ hh ht
def orL (ws:List Int)(t:Nat):List Int:=(List.range ws.length).map fun h=>ws.getD (h ||| 2 ^ t) 0
def dpk (m t:Nat)(wss:List (List Int))(k:Nat):Int:=(dpL m (wss.set k (orL (wss.getD k []) t))).getD (2 ^ m - 1) 0
def wF:Sp:=fun vs H Q _=>∃ h t:Nat,vs=[.int (h:Int),.int (t:Int)]∧t < 5∧Q (.int (Builtin.bitOr (h:Int) ((2 ^ t:Nat):Int))) H
theorem xG:FnScope ["heap", "thing"] ["heap", "thing"] (qE s_put_in):=⟨rfl,rfl,rfl,by decide +kernel,rfl,by decide +kernel,by decide +kernel⟩
theorem ok_put (F:Fun K "put_in" "put_in" s_put_in f fd) (hm:mg "put_in" = some (.ref f)) (hb:Binds K fd ["heap", "thing"] []) (T:Txt mg):kL P w K mg base "put_in" ["heap", "thing"] 1 wF:=by
 refine qW F hm hb xG (fun vs H Q E h=>?_) (fun cdv A outer s H vs Q E hr h=>?_)
 ·obtain ⟨_,_,rfl,_⟩:=h;rfl
 ·obtain ⟨h,t,rfl,ht,q⟩:=h
  have sc:=xG
  refine ⟨_,qI (qP (qV op_or (pv 0) (qV dS qH (pv 1)))),?_⟩
  rw [show L2.start ["heap", "thing"] [.int (h:Int),.int (t:Int)] = [some (.int (h:Int)),some (.int (t:Int))] from rfl]
  (push_cast only [])
  rw [hpow]
  exact ⟨⟨by omega,by omega,by decide⟩,q⟩
def cQ:Sp:=fun vs H Q _=>∃ (a:Addr) (m t:Nat) (ws:List Int),vs=[.ref a,.int (t:Int)]∧H a=some (.tup (ws.map V.int))∧m ≤ 5∧ws.length=2 ^ m∧t < m∧∀ (r:Addr) (H':Hp),Same H H'→H' r=some (.tup ((orL ws t).map V.int))→Q (.ref r) H'
def OM (a c:Addr)(ws:List Int)(t:Nat)(G:Hp)(i:Nat)(σ:St)(H:Hp):Prop:=∃ v:Option V,σ=[v,some (.ref a),some (.int (t:Int))]∧SameX c G H∧H c=some (.lst (((orL ws t).take i).map V.int))
theorem xE:FnScope ["want", "thing"] ["want", "thing"] (qE s_with_one_more):=⟨rfl,rfl,rfl,by decide +kernel,rfl,by decide +kernel,by decide +kernel⟩
theorem ok_onemore (F:Fun K "with_one_more" "with_one_more" s_with_one_more f fd) (hm:mg "with_one_more" = some (.ref f)) (hb:Binds K fd ["want", "thing"] []) (T:Txt mg) (c_put_in:kL P w K mg base "put_in" ["heap", "thing"] 1 wF):kL P w K mg base "with_one_more" ["want", "thing"] 2 cQ:=by
 refine qW F hm hb xE (fun vs H Q E h=>?_) (fun cdv A outer s H vs Q E hr h=>?_)
 ·obtain ⟨_,_,_,_,rfl,_⟩:=h;rfl
 ·obtain ⟨a,m,t,ws,rfl,ha,m5,hwl,ht,q⟩:=h
  have sc:=xE
  refine ⟨_,qI (qP (kX z9 rfl T.tuple_ jM (qC (jR (N:=["heap", "want", "thing"]) (fr:=[none,some 0,some 1]) rfl (jH rfl T.range_ (qC (qX len0 rfl T.len_ jT (qC (pv 0) qD)) qD)) (CScope.of rfl rfl rfl) rfl (fun _ _ _=>⟨qL (i:=0) (show List.Nodup (α:=Str) ["heap", "want", "thing"] by decide +kernel) rfl (Or.inl rfl),kZ,kF zP (pv 1) (qJ c_put_in hr (qC (pv 0) (qC (pv 2) qD))) (fun _ _=>rfl)⟩)) qD))),?_⟩
  rw [show L2.start ["want", "thing"] [.ref a,.int (t:Int)] = [some (.ref a),some (.int (t:Int))] from rfl]
  have hs:=qY ha
  have p32:=jF m5
  (push_cast only [hs])
  rw [hwl]
  refine ⟨by omega,by omega,fun c nc=>?_⟩
  have nac:a ≠ c:=qF ha nc
  refine zO (OM a c ws t H) ⟨none,rfl,SameX.upd,qG⟩ ?_ ?_
  ·rintro j σ H1 hj ⟨v,rfl,s1,e1⟩
   rw [Ay] at hj
   obtain ⟨o1,o2⟩:=z7 m5 hj ht
   have hs1:=qY (s1 _ _ nac ha)
   have hat:vC (ws.map V.int) ((j ||| 2 ^ t:Nat):Int)=some (V.int (ws.getD (j ||| 2 ^ t) 0)):=jX (by omega)
   (push_cast only [hs1])
   refine ⟨j,t,rfl,by omega,?_⟩
   rw [o1]
   (push_cast only [hs1,hat,e1])
   refine ⟨qR (by rw [A6];omega),⟨_,rfl,s1.trans SameX.upd,?_⟩⟩
   have hor:(orL ws t)[j]? = some (ws.getD (j ||| 2 ^ t) 0):=by unfold orL;rw [Ah,B4 (by omega)];rfl
   rw [qG,AB,hor]
   simp
  ·rintro σ H1 ⟨v,rfl,s1,e1⟩
   rw [Ay,A9 (by unfold orL;simp;omega)] at e1
   refine ⟨_,e1,fun r H2 nr s2 e2=>?_⟩
   exact q r H2 ((s1.same nc).trans s2) e2
theorem TownW.same {H H':Hp}{t sd wt:Addr}{m:Nat}{ss:List Int}{ts:List (Addr × List Int)}(W:TownW H t sd wt m ss ts)(s:Same H H'):TownW H' t sd wt m ss ts:=⟨s _ _ W.at',s _ _ W.sd,s _ _ W.wt,W.m5,W.slen,W.t5,fun t ht=>⟨s _ _ (W.row t ht).1,(W.row t ht).2⟩⟩
def sI:Sp:=fun vs H Q _=>∃ (t sd wt nw:Addr) (m:Nat) (ss:List Int) (ts:List (Addr × List Int)) (k:Nat) (ws:List Int),vs=[.ref t,.int (k:Int),.ref nw]∧TownW H t sd wt m ss ts∧k < ts.length∧H nw=some (.tup (ws.map V.int))∧ws.length=2 ^ m∧∀ (t' wt':Addr) (H':Hp),Same H H'→TownW H' t' sd wt' m ss (ts.set k (nw,ws))→Q (.ref t') H'
theorem cutV_take (xs:List V)(t:Nat)(ht:t ≤ xs.length):xN xs none (some (t:Int))=xs.take t:=by
 unfold xN
 rw [HT.sIx_none,HT.sIx_nat,Ck,Nat.min_eq_left ht,CU]
theorem cutV_drop (xs:List V)(t:Nat)(ht:t ≤ xs.length):xN xs (some (t:Int)) none=xs.drop t:=by
 unfold xN
 rw [HT.sIx_none,HT.sIx_nat,Nat.min_eq_left ht,A9 (by simp)]
theorem fG:FnScope ["town", "hand", "want", "sides", "wants"] ["town", "hand", "want"] (qE s_with_want):=⟨rfl,rfl,rfl,by decide +kernel,rfl,by decide +kernel,by decide +kernel⟩
theorem ok_wwant (F:Fun K "with_want" "with_want" s_with_want f fd) (hm:mg "with_want" = some (.ref f)) (hb:Binds K fd ["town", "hand", "want"] []) (T:Txt mg):kL P w K mg base "with_want" ["town", "hand", "want"] 1 sI:=by
 refine qW F hm hb fG (fun vs H Q E h=>?_) (fun cdv A outer s H vs Q E hr h=>?_)
 ·obtain ⟨_,_,_,_,_,_,_,_,_,rfl,_⟩:=h;rfl
 ·obtain ⟨t,sd,wt,nw,m,ss,ts,k,ws,rfl,W,hk,hnw,hwl,q⟩:=h
  have sc:=fG
  refine ⟨_,kM (yR (pv 0) (kW (n:=2) rfl (qQ (qL (i:=3) sc.nd rfl (Or.inl rfl)) (qQ (qL (i:=4) sc.nd rfl (Or.inl rfl)) kU)))) (qI (qP (jK (qC (pv 3) (qC (qV catA0 (qV catA0 (fR slA0 (pv 4) bR (bQ (pv 1))) (jK (qC (pv 2) qD))) (fR slA0 (pv 4) (bQ (qV jD (pv 1) qH)) bR)) qD))))),?_⟩
  rw [show L2.start ["town", "hand", "want", "sides", "wants"] [.ref t,.int (k:Int),.ref nw] = [some (.ref t),some (.int (k:Int)),some (.ref nw),none,none] from rfl]
  have et:=W.at'
  have ew:=W.wt
  have t5:=W.t5
  (push_cast only [et,ew])
  intro z1 H1 s1 e1
  rw [cutV_take _ k (by rw [Ab];omega)] at e1
  (push_cast only [])
  refine ⟨by decide,fun z2 H2 n2 s2 e2=>?_⟩
  have e12:=s2 _ _ e1
  (push_cast only [e12,e2])
  refine ⟨B5 (qR (by simp;omega)),fun z3 H3 s3 e3=>?_⟩
  have ew3:=s3 _ _ (s2 _ _ (s1 _ _ ew))
  (push_cast only [ew3])
  intro z4 H4 s4 e4
  rw [show (k:Int) + 1=((k + 1:Nat):Int) by omega,cutV_drop _ (k + 1) (by rw [Ab];omega)] at e4
  have e34:=s4 _ _ e3
  (push_cast only [e34,e4])
  refine ⟨B5 (qR (by simp;omega)),fun z5 H5 s5 e5=>?_⟩
  have e5':H5 z5=some (.tup ((ts.set k (nw,ws)).map fun t=>V.ref t.1)):=by
   rw [e5,List.set_eq_take_append_cons_drop,Ak hk]
   simp
  have S5:=(((s1.trans s2).trans s3).trans s4).trans s5
  (push_cast only [])
  refine ⟨by decide,fun t' H6 nt' s6 e6=>?_⟩
  have S6:=S5.trans s6
  exact q t' z5 H6 S6 ⟨e6,S6 _ _ W.sd,s6 _ _ e5',W.m5,W.slen,by rw [List.length_set];exact t5,fun r hr'=>by
   rcases List.mem_or_eq_of_mem_set hr' with z | z
   ·have:=W.row r z
    exact ⟨S6 _ _ this.1,this.2⟩
   ·rw [z]
    exact ⟨S6 _ _ hnw,hwl⟩⟩
def sp_two:Sp:=fun vs H Q _=>∃ (t sd wt:Addr) (m th:Nat) (ss:List Int) (ts:List (Addr × List Int)),vs=[.ref t,.int (th:Int)]∧TownW H t sd wt m ss ts∧1 ≤ ts.length∧th < m∧∀ (P:Int) (H':Hp),Same H H'→(∃ k,k < ts.length∧P=dpk m th (ts.map fun t=>t.2) k)→(∀ k,k < ts.length→dpk m th (ts.map fun t=>t.2) k ≤ P)→Q (.int P) H'
def TW2 (t c:Addr)(th m:Nat)(ts:List (Addr × List Int))(G:Hp)(i:Nat)(σ:St)(H:Hp):Prop:=∃ v1 v2:Option V,σ=[v1,v2,some (.ref t),some (.int (th:Int))]∧SameX c G H∧H c=some (.lst (((List.range i).map fun k=>dpk m th (ts.map fun t=>t.2) k).map V.int))
theorem zT:FnScope ["town", "thing"] ["town", "thing"] (qE s_greatest_with_two):=⟨rfl,rfl,rfl,by decide +kernel,rfl,by decide +kernel,by decide +kernel⟩
theorem ok_two (F:Fun K "greatest_with_two" "greatest_with_two" s_greatest_with_two f fd) (hm:mg "greatest_with_two" = some (.ref f)) (hb:Binds K fd ["town", "thing"] []) (T:Txt mg) (c_with_one_more:kL P w K mg base "with_one_more" ["want", "thing"] 2 cQ) (c_with_want:kL P w K mg base "with_want" ["town", "hand", "want"] 1 sI) (c_greatest:kL P w K mg base "greatest" ["town"] 6 sp_greatest):kL P w K mg base "greatest_with_two" ["town", "thing"] 7 sp_two:=by
 refine qW F hm hb zT (fun vs H Q E h=>?_) (fun cdv A outer s H vs Q E hr h=>?_)
 ·obtain ⟨_,_,_,_,_,_,_,rfl,_⟩:=h;rfl
 ·obtain ⟨t,sd,wt,m,th,ss,ts,rfl,W,t1,hth,q⟩:=h
  have sc:=zT
  refine ⟨_,qI (qP (qX (max0 rfl) rfl T.max_ gT (qC (jR (N:=["hand", "want", "town", "thing"]) (fr:=[none,none,some 0,some 1]) rfl (yK rfl T.enumerate_ (qC (kF zP (pv 0) qH (fun _ _=>rfl)) qD)) (CScope.of rfl rfl rfl) rfl (fun _ _ _=>⟨kW (n:=2) rfl (qQ (qL (i:=0) (show List.Nodup (α:=Str) ["hand", "want", "town", "thing"] by decide +kernel) rfl (Or.inl rfl)) (qQ (qL (i:=1) (show List.Nodup (α:=Str) ["hand", "want", "town", "thing"] by decide +kernel) rfl (Or.inl rfl)) kU)),kZ,qJ c_greatest hr (qC (qJ c_with_want hr (qC (pv 2) (qC (pv 0) (qC (qJ c_with_one_more hr (qC (pv 1) (qC (pv 3) qD))) qD)))) qD)⟩)) qD))),?_⟩
  rw [show L2.start ["town", "thing"] [.ref t,.int (th:Int)] = [some (.ref t),some (.int (th:Int))] from rfl]
  have hst:=qY W.at'
  have i1:∀ x y:V,vC [x,y] 1=some y:=fun _ _=>rfl
  have t5:=W.t5
  (push_cast only [hst,i1])
  refine ⟨_,_,.inr ⟨rfl,W.wt⟩,fun c nc=>?_⟩
  have nwc:wt ≠ c:=qF W.wt nc
  refine cE (TW2 t c th m ts H) ⟨none,none,rfl,SameX.upd,qG⟩ (fun i σ H2 ⟨_,_,_,s,_⟩=>.inr ⟨rfl,s _ _ nwc W.wt⟩) ?_ ?_
  ·rintro j v T' σ H1 H2 hv ⟨v1,v2,rfl,s1,e1⟩ nT s2 e2
   rw [Ah] at hv
   obtain ⟨tt,htt,rfl⟩:=An.mp hv
   have hj:j < ts.length:=(Ai.mp htt).1
   have keep:∀ {b:Addr} {ys:List V},H b=some (.tup ys)→H2 b=some (.tup ys):=fun {b ys} e=>s2 _ _ (s1 _ _ (qF e nc) e)
   have W2:TownW H2 t sd wt m ss ts:=⟨keep W.at',keep W.sd,keep W.wt,W.m5,W.slen,W.t5,fun t ht=>⟨keep (W.row t ht).1,(W.row t ht).2⟩⟩
   obtain ⟨ett,ltt⟩:=W2.row tt (A0 htt)
   (push_cast only [e2])
   refine ⟨tt.1,m,th,tt.2,rfl,ett,W.m5,ltt,hth,fun r H3 s3 e3=>?_⟩
   (push_cast only [])
   refine ⟨t,sd,wt,r,m,ss,ts,j,_,rfl,W2.same s3,hj,e3,by unfold orL;simp [ltt],fun t' wt' H4 s4 W4=>?_⟩
   (push_cast only [])
   refine ⟨t',sd,wt',m,ss,_,rfl,W4,fun H5 s5=>?_⟩
   have ec:=s5 _ _ (s4 _ _ (s3 _ _ (s2 _ _ e1)))
   have ed:((ts.set j (r,orL tt.2 th)).map fun t=>t.2)=(ts.map fun t=>t.2).set j (orL ((ts.map fun t=>t.2).getD j []) th):=by
    rw [List.map_set]
    congr 1
    simp [Aa,htt]
   (push_cast only [ec])
   refine ⟨qR (by simp;omega),⟨_,_,rfl,((((s1.trans s2.x).trans s3.x).trans s4.x).trans s5.x).trans SameX.upd,?_⟩⟩
   rw [qG,Bb,ed]
   simp [dpk]
  ·rintro σ H1 ⟨v1,v2,rfl,s1,e1⟩
   rw [Ab] at e1
   refine ⟨_,jC e1,?_,fun P p1 p2=>?_⟩
   ·intro z
    have:=Bi List.length z
    rw [Ab,BU,C2] at this
    omega
   ·refine q P H1 (s1.same nc) ?_ fun k hk=>p2 _ (Ae.mpr ⟨k,AI.mpr hk,rfl⟩)
    obtain ⟨k,hk,e⟩:=Ae.mp p1
    exact ⟨k,AI.mp hk,e.symm⟩
def sp_gof:Sp:=fun vs H Q _=>∃ (t sd wt:Addr) (m h:Nat) (ss:List Int) (ts:List (Addr × List Int)),vs=[.ref t,.int (h:Int)]∧TownW H t sd wt m ss ts∧h < 2 ^ m∧∀ H',Same H H'→Q (.int ((dpL m (ts.map fun t=>t.2)).getD h 0)) H'
theorem gH:FnScope ["town", "heap"] ["town", "heap"] (qE s_greatest_of):=⟨rfl,rfl,rfl,by decide +kernel,rfl,by decide +kernel,by decide +kernel⟩
theorem ok_gof (F:Fun K "greatest_of" "greatest_of" s_greatest_of f fd) (hm:mg "greatest_of" = some (.ref f)) (hb:Binds K fd ["town", "heap"] []) (T:Txt mg) (c_greatest_sums:kL P w K mg base "greatest_sums" ["wants", "many"] 5 cS):kL P w K mg base "greatest_of" ["town", "heap"] 6 sp_gof:=by
 refine qW F hm hb gH (fun vs H Q E h=>?_) (fun cdv A outer s H vs Q E hr h=>?_)
 ·obtain ⟨_,_,_,_,_,_,_,rfl,_⟩:=h;rfl
 ·obtain ⟨t,sd,wt,m,hp,ss,ts,rfl,W,hh,q⟩:=h
  have sc:=gH
  refine ⟨_,qI (qP (kF zP (qJ c_greatest_sums hr (qC (kF zP (pv 0) qH (fun _ _=>rfl)) (qC (qX len0 rfl T.len_ jT (qC (kF zP (pv 0) qH (fun _ _=>rfl)) qD)) qD))) (pv 1) (fun _ _=>rfl))),?_⟩
  rw [show L2.start ["town", "heap"] [.ref t,.int (hp:Int)] = [some (.ref t),some (.int (hp:Int))] from rfl]
  have hst:=qY W.at'
  have hss:=qY W.sd
  have i1:∀ x y:V,vC [x,y] 1=some y:=fun _ _=>rfl
  have i0:∀ x y:V,vC [x,y] 0=some x:=fun _ _=>rfl
  (push_cast only [hst,i1,i0,hss])
  rw [W.slen]
  have dl:(dpL m (ts.map fun t=>t.2)).length=2 ^ m:=rL m _ _ AW
  refine ⟨wt,m,ts,rfl,W.wt,W.m5,W.t5,W.row,fun l H1 s1 e1=>?_⟩
  have hs1:=qY e1
  have hat:=jX (ns:=dpL m (ts.map fun t=>t.2)) (n:=hp) (by omega)
  (push_cast only [hs1,hat])
  exact q H1 s1
def out (h t:Nat):Nat:=if h / 2 ^ t % 2=1 then h - 2 ^ t else h
theorem out_int {h t:Nat}(hh:h < 32)(ht:t < 5):fV (h:Int) (1 * 2 ^ (t:Int).toNat)=(out h t:Int):=by
 have key:∀ (a:_root_.Fin 32) (b:_root_.Fin 5),fV (a.val:Int) (1 * 2 ^ (b.val:Int).toNat)=(out a.val b.val:Int):=by decide +kernel
 exact key ⟨h,hh⟩ ⟨t,ht⟩
theorem out_le (h t:Nat):out h t ≤ h:=by
 unfold out
 split
 ·exact Nat.sub_le _ _
 ·exact Ag _
def sJ:Sp:=fun vs H Q _=>∃ h t:Nat,vs=[.int (h:Int),.int (t:Int)]∧h < 32∧t < 5∧Q (.int (out h t:Int)) H
theorem fH:FnScope ["heap", "thing"] ["heap", "thing"] (qE s_taken_out):=⟨rfl,rfl,rfl,by decide +kernel,rfl,by decide +kernel,by decide +kernel⟩
theorem ok_taken (F:Fun K "taken_out" "taken_out" s_taken_out f fd) (hm:mg "taken_out" = some (.ref f)) (hb:Binds K fd ["heap", "thing"] []) (T:Txt mg) (c_less:kL P w K mg base "less" ["one", "other"] 1 gY):kL P w K mg base "taken_out" ["heap", "thing"] 2 sJ:=by
 refine qW F hm hb fH (fun vs H Q E h=>?_) (fun cdv A outer s H vs Q E hr h=>?_)
 ·obtain ⟨_,_,rfl,_⟩:=h;rfl
 ·obtain ⟨h,t,rfl,hh,ht,q⟩:=h
  have sc:=fH
  refine ⟨_,qI (qP (qJ c_less hr (qC (pv 0) (qC (qV dS qH (pv 1)) qD)))),?_⟩
  rw [show L2.start ["heap", "thing"] [.int (h:Int),.int (t:Int)] = [some (.int (h:Int)),some (.int (t:Int))] from rfl]
  (push_cast only [gY])
  refine ⟨⟨by omega,by omega,by decide⟩,?_⟩
  rw [out_int hh ht]
  exact q
end
end Z
namespace Z
section
variable {P:Program}{w:World}{K:PySem.W.Frag}{mg:Str→Option Value}{base:Heap}{f:Addr}{fd:FuncData}
theorem tn_town {H:Hp}{tw sa wa:Addr}{ts:List (Addr × List Int)}{m F:Nat}(TN:S.Tn H tw sa wa ts m F):TownW H tw sa wa m (S.bitsL F m) ts:=⟨TN.R.tw,TN.sa,TN.R.wa,TN.R.five,S.bits_len F m,TN.R.few,fun t ht=>⟨(TN.R.row t ht).1,(TN.R.row t ht).2.1⟩⟩
def gsum (m:Nat)(ts:List (List Int)):Int:=(dpL m ts).getD (2 ^ m - 1) 0
structure IsTwo (m t:Nat)(ts:List (List Int))(P:Int):Prop where
 at':∃ k,k < ts.length∧P=dpk m t ts k
 le:∀ k,k < ts.length→dpk m t ts k ≤ P
def sO:Sp:=fun vs H Q _=>∃ (tw sa wa:Addr) (ts:List (Addr × List Int)) (m F t:Nat),vs=[.ref tw,.int (t:Int)]∧S.Tn H tw sa wa ts m F∧t < m∧∀ (P:Int) (H':Hp),IsTwo m t (ts.map fun t=>t.2) P→Same H H'→Q (.int (P - gsum m (ts.map fun t=>t.2))) H'
theorem gE:FnScope ["town", "thing"] ["town", "thing"] (qE s_least_price):=⟨rfl,rfl,rfl,by decide +kernel,rfl,by decide +kernel,by decide +kernel⟩
theorem ok_least (F:Fun K "least_price" "least_price" s_least_price f fd) (hm:mg "least_price" = some (.ref f)) (hb:Binds K fd ["town", "thing"] []) (T:Txt mg) (c_greatest_with_two:kL P w K mg base "greatest_with_two" ["town", "thing"] 7 sp_two) (c_greatest:kL P w K mg base "greatest" ["town"] 6 sp_greatest):kL P w K mg base "least_price" ["town", "thing"] 8 sO:=by
 refine qW F hm hb gE (fun vs H Q E h=>?_) (fun cdv A outer s H vs Q E hr h=>?_)
 ·obtain ⟨_,_,_,_,_,_,_,rfl,_⟩:=h;rfl
 ·obtain ⟨tw,sa,wa,ts,m,Fn,t,rfl,TN,tm,q⟩:=h
  have sc:=gE
  refine ⟨_,qI (qP (qV yU (qJ c_greatest_with_two hr (qC (pv 0) (qC (pv 1) qD))) (qJ c_greatest hr (qC (pv 0) qD)))),?_⟩
  rw [show L2.start ["town", "thing"] [.ref tw,.int (t:Int)] = [some (.ref tw),some (.int (t:Int))] from rfl]
  (push_cast only [])
  have W:=tn_town TN
  have ne:1 ≤ ts.length:=by
   have:=TN.ne
   cases ts with
   | nil=>exact absurd rfl this
   | cons _ _=>simp
  refine ⟨tw,sa,wa,m,t,_,ts,rfl,W,ne,tm,fun P' H1 s1 p1 p2=>?_⟩
  refine ⟨tw,sa,wa,m,_,ts,rfl,W.same s1,fun H2 s2=>?_⟩
  (push_cast only [])
  exact q P' H2 ⟨by rw [Ab];exact p1,by rw [Ab];exact p2⟩ (s1.trans s2)
def iH:Sp:=fun vs H Q _=>∃ (tw sa wa:Addr) (ts:List (Addr × List Int)) (m F t:Nat),vs=[.ref tw,.int (t:Int)]∧S.Tn H tw sa wa ts m F∧t < m∧∀ H':Hp,Same H H'→Q (.int (gsum m (ts.map fun t=>t.2) - (dpL m (ts.map fun t=>t.2)).getD (out (2 ^ m - 1) t) 0)) H'
theorem yI:FnScope ["town", "thing", "all_things"] ["town", "thing"] (qE s_greatest_price):=⟨rfl,rfl,rfl,by decide +kernel,rfl,by decide +kernel,by decide +kernel⟩
theorem ok_most (F:Fun K "greatest_price" "greatest_price" s_greatest_price f fd) (hm:mg "greatest_price" = some (.ref f)) (hb:Binds K fd ["town", "thing"] []) (T:Txt mg) (c_greatest:kL P w K mg base "greatest" ["town"] 6 sp_greatest) (c_greatest_of:kL P w K mg base "greatest_of" ["town", "heap"] 6 sp_gof) (c_taken_out:kL P w K mg base "taken_out" ["heap", "thing"] 2 sJ):kL P w K mg base "greatest_price" ["town", "thing"] 7 iH:=by
 refine qW F hm hb yI (fun vs H Q E h=>?_) (fun cdv A outer s H vs Q E hr h=>?_)
 ·obtain ⟨_,_,_,_,_,_,_,rfl,_⟩:=h;rfl
 ·obtain ⟨tw,sa,wa,ts,m,Fn,t,rfl,TN,tm,q⟩:=h
  have sc:=yI
  have W:=tn_town TN
  have m5:=TN.R.five
  have p32:=jF m5
  refine ⟨_,qK (q8 (i:=2) sc.nd rfl (Or.inl rfl) (qV yU (qV dS qH (qX len0 rfl T.len_ jT (qC (kF zP (pv 0) qH (fun _ _=>rfl)) qD))) qH)) (qI (qP (qV yU (qJ c_greatest hr (qC (pv 0) qD)) (qJ c_greatest_of hr (qC (pv 0) (qC (qJ c_taken_out hr (qC (pv 2) (qC (pv 1) qD))) qD)))))),?_⟩
  rw [show L2.start ["town", "thing", "all_things"] [.ref tw,.int (t:Int)] = [some (.ref tw),some (.int (t:Int)),none] from rfl]
  have hst:=qY W.at'
  have hss:=qY W.sd
  have i0:∀ x y:V,vC [x,y] 0=some x:=fun _ _=>rfl
  (push_cast only [hst,i0,hss])
  rw [S.bits_len,hpow]
  refine ⟨⟨by omega,by omega,by decide⟩,?_⟩
  rw [show ((2 ^ m:Nat):Int) - 1=((2 ^ m - 1:Nat):Int) by omega]
  (simp only [qO])
  (push_cast only [])
  refine ⟨tw,sa,wa,m,_,ts,rfl,W,fun H1 s1=>?_⟩
  (push_cast only [])
  refine ⟨2 ^ m - 1,t,rfl,by omega,by omega,?_⟩
  refine ⟨tw,sa,wa,m,out (2 ^ m - 1) t,_,ts,rfl,W.same s1,by have:=out_le (2 ^ m - 1) t;omega,fun H2 s2=>?_⟩
  (push_cast only [])
  exact q H2 (s1.trans s2)
structure LastP (ts:List (List Int))(m F:Nat)(ns:List Int)(t:Nat):Prop where
 lo:qA F t=false→∃ P,IsTwo m t ts P∧ns.getD t 0=P - gsum m ts
 hi:qA F t=true→ns.getD t 0=gsum m ts - (dpL m ts).getD (out (2 ^ m - 1) t) 0
theorem LastP.snoc {ts:List (List Int)}{m F t:Nat}{ns:List Int}{x:Int}(L:LastP ts m F ns t)(h:t < ns.length):LastP ts m F (ns ++ [x]) t:=by
 have e:(ns ++ [x]).getD t 0=ns.getD t 0:=wV h
 exact ⟨fun c=>by rw [e];exact L.lo c,fun c=>by rw [e];exact L.hi c⟩
def sp_last:Sp:=fun vs H Q _=>∃ (tw sa wa:Addr) (ts:List (Addr × List Int)) (m F:Nat),vs=[.ref tw]∧S.Tn H tw sa wa ts m F∧∀ (r:Addr) (ns:List Int) (H':Hp),ns.length=m→(∀ t,t < m→LastP (ts.map fun t=>t.2) m F ns t)→Same H H'→H' r=some (.tup (ns.map V.int))→Q (.ref r) H'
def LA (tw c:Addr)(ts:List (List Int))(m F:Nat)(G:Hp)(i:Nat)(σ:St)(H:Hp):Prop:=∃ (v1 v2:Option V) (ns:List Int),σ=[v1,v2,some (.ref tw)]∧SameX c G H∧ns.length=i∧(∀ t,t < i→LastP ts m F ns t)∧H c=some (.lst (ns.map V.int))
theorem gF:FnScope ["town"] ["town"] (qE s_last_prices):=⟨rfl,rfl,rfl,by decide +kernel,rfl,by decide +kernel,by decide +kernel⟩
theorem ok_last (F:Fun K "last_prices" "last_prices" s_last_prices f fd) (hm:mg "last_prices" = some (.ref f)) (hb:Binds K fd ["town"] []) (T:Txt mg) (c_greatest_price:kL P w K mg base "greatest_price" ["town", "thing"] 7 iH) (c_least_price:kL P w K mg base "least_price" ["town", "thing"] 8 sO):kL P w K mg base "last_prices" ["town"] 9 sp_last:=by
 refine qW F hm hb gF (fun vs H Q E h=>?_) (fun cdv A outer s H vs Q E hr h=>?_)
 ·obtain ⟨_,_,_,_,_,_,rfl,_⟩:=h;rfl
 ·obtain ⟨tw,sa,wa,ts,m,Fn,rfl,TN,q⟩:=h
  have sc:=gF
  refine ⟨_,qI (qP (kX z9 rfl T.tuple_ jM (qC (jR (N:=["thing", "side", "town"]) (fr:=[none,none,some 0]) rfl (yK rfl T.enumerate_ (qC (kF zP (pv 0) qH (fun _ _=>rfl)) qD)) (CScope.of rfl rfl rfl) rfl (fun _ _ _=>⟨kW (n:=2) rfl (qQ (qL (i:=0) (show List.Nodup (α:=Str) ["thing", "side", "town"] by decide +kernel) rfl (Or.inl rfl)) (qQ (qL (i:=1) (show List.Nodup (α:=Str) ["thing", "side", "town"] by decide +kernel) rfl (Or.inl rfl)) kU)),kZ,gN (kH zL (pv 1) qH (kK _)) (qJ c_greatest_price hr (qC (pv 2) (qC (pv 0) qD))) (qJ c_least_price hr (qC (pv 2) (qC (pv 0) qD)))⟩)) qD))),?_⟩
  rw [show L2.start ["town"] [.ref tw] = [some (.ref tw)] from rfl]
  have hst:=qY TN.R.tw
  have i0:∀ x y:V,vC [x,y] 0=some x:=fun _ _=>rfl
  (push_cast only [hst,i0])
  refine ⟨_,_,.inr ⟨rfl,TN.sa⟩,fun c nc=>?_⟩
  have ncs:sa ≠ c:=qF TN.sa nc
  refine cE (LA tw c (ts.map fun t=>t.2) m Fn H) ⟨none,none,[],rfl,SameX.upd,rfl,(fun t h=>absurd h (BP t)),qG⟩ (fun i σ H2 ⟨_,_,_,_,s,_⟩=>.inr ⟨rfl,s _ _ ncs TN.sa⟩) ?_ ?_
  ·rintro i v T' σ H2 H3 hv ⟨v1,v2,ns,rfl,s2,nl,nP,e2⟩ nT s3 e3
   have hi:i < m:=by
    have:=(Ai.mp hv).1
    rwa [Ab,S.bits_len] at this
   rw [Ah] at hv
   obtain ⟨y,hy,rfl⟩:=An.mp hv
   have hy':y=if qA Fn i=true then 1 else 0:=by
    have:=S.bits_at (F:=Fn) hi
    rw [Aa,hy] at this
    exact this
   have e23:=s3 _ _ e2
   have TN3:S.Tn H3 tw sa wa ts m Fn:=TN.same fun b o e=>s3 _ _ (s2 _ _ (qF e nc) e)
   have five:=TN.R.five
   have fin:∀ (x:Int) (H4:Hp),Same H3 H4→((qA Fn i=false→∃ P,IsTwo m i (ts.map fun t=>t.2) P∧x=P - gsum m (ts.map fun t=>t.2))∧(qA Fn i=true→x=gsum m (ts.map fun t=>t.2) - (dpL m (ts.map fun t=>t.2)).getD (out (2 ^ m - 1) i) 0))→(ns.map V.int).length < sizeLine∧LA tw c (ts.map fun t=>t.2) m Fn H (i + 1) [some (.int (i:Int)),some (.int y),some (.ref tw)] (upd H4 c (.lst (ns.map V.int ++ [V.int x]))):=fun x H4 s4 hx=>by
    refine ⟨qR (by rw [Ab];omega),⟨_,_,ns ++ [x],rfl,(s2.trans (s3.trans s4).x).trans SameX.upd,by simp [nl],fun t ht=>?_,by rw [qG];simp⟩⟩
    by_cases e:t=i
    ·subst e
     have g:(ns ++ [x]).getD t 0=x:=by rw [← nl];exact rH
     exact ⟨fun c=>by rw [g];exact hx.1 c,fun c=>by rw [g];exact hx.2 c⟩
    ·exact (nP t (by omega)).snoc (by omega)
   (push_cast only [e3])
   cases fb:qA Fn i with
   | true =>
    rw [fb,Ak rfl] at hy'
    subst hy'
    (push_cast only [])
    refine ⟨tw,sa,wa,ts,m,Fn,i,rfl,TN3,hi,fun H4 s4=>?_⟩
    exact ⟨_,s4 _ _ e23,fin _ H4 s4 ⟨(fun c=>by rw [fb] at c;cases c),fun _=>rfl⟩⟩
   | false =>
    rw [fb,Aj (by decide)] at hy'
    subst hy'
    (push_cast only [])
    refine ⟨tw,sa,wa,ts,m,Fn,i,rfl,TN3,hi,fun P' H4 p4 s4=>?_⟩
    exact ⟨_,s4 _ _ e23,fin _ H4 s4 ⟨(fun _=>⟨P',p4,rfl⟩),(fun c=>by rw [fb] at c;cases c)⟩⟩
  ·rintro σ H2 ⟨v1,v2,ns,rfl,s2,nl,nP,e2⟩
   rw [Ab,S.bits_len] at nl nP
   refine ⟨_,e2,fun r H3 nr s3 e3=>?_⟩
   exact q r ns H3 nl nP ((s2.same nc).trans s3) e3
theorem dD:FnScope ["town"] ["town"] (qE s_low_prices):=⟨rfl,rfl,rfl,by decide +kernel,rfl,by decide +kernel,by decide +kernel⟩
theorem ok_low (F:Fun K "low_prices" "low_prices" s_low_prices f fd) (hm:mg "low_prices" = some (.ref f)) (hb:Binds K fd ["town"] []) (T:Txt mg) (c_refuse_strange:kL P w K mg base "refuse_strange" ["town"] 7 S.sp_refuse) (c_last_prices:kL P w K mg base "last_prices" ["town"] 9 sp_last):kL P w K mg base "low_prices" ["town"] 10 sp_last:=by
 refine qW F hm hb dD (fun vs H Q E h=>?_) (fun cdv A outer s H vs Q E hr h=>?_)
 ·obtain ⟨_,_,_,_,_,_,rfl,_⟩:=h;rfl
 ·obtain ⟨tw,sa,wa,ts,m,Fn,rfl,TN,q⟩:=h
  have sc:=dD
  refine ⟨_,qK (zJ (qJ c_refuse_strange hr (qC (pv 0) qD))) (qI (qP (qJ c_last_prices hr (qC (pv 0) qD)))),?_⟩
  rw [show L2.start ["town"] [.ref tw] = [some (.ref tw)] from rfl]
  (push_cast only [])
  refine ⟨tw,sa,wa,ts,Fn,m,rfl,TN.R.tw,TN.sa,TN.R.wa,(fun r hr=>⟨(TN.R.row r hr).1,(TN.R.row r hr).2.1⟩),TN.R.five,TN.hF,(fun r hr=>TN.kd r.2 (Ae.mpr ⟨r,hr,rfl⟩)),fun H1 s1=>?_⟩
  (push_cast only [])
  (simp only [qO])
  (push_cast only [])
  exact ⟨tw,sa,wa,ts,m,Fn,rfl,TN.same s1,fun r ns H2 nl nP s2 e2=>q r ns H2 nl nP (s1.trans s2) e2⟩
def sp_high:Sp:=fun vs H Q _=>∃ (tw sa wa:Addr) (ts:List (Addr × List Int)) (m F:Nat),vs=[.ref tw]∧S.Tn H tw sa wa ts m F∧∀ (r:Addr) (ns:List Int) (H':Hp),ns.length=m→(∀ t,t < m→LastP (ts.map fun t=>t.2) m (S.cpl m F) ns t)→Same H H'→H' r=some (.tup (ns.map V.int))→Q (.ref r) H'
theorem gG:FnScope ["town"] ["town"] (qE s_high_prices):=⟨rfl,rfl,rfl,by decide +kernel,rfl,by decide +kernel,by decide +kernel⟩
theorem ok_high (F:Fun K "high_prices" "high_prices" s_high_prices f fd) (hm:mg "high_prices" = some (.ref f)) (hb:Binds K fd ["town"] []) (T:Txt mg) (c_refuse_strange:kL P w K mg base "refuse_strange" ["town"] 7 S.sp_refuse) (c_other_way:kL P w K mg base "other_way" ["town"] 2 S.sp_ow) (c_last_prices:kL P w K mg base "last_prices" ["town"] 9 sp_last):kL P w K mg base "high_prices" ["town"] 10 sp_high:=by
 refine qW F hm hb gG (fun vs H Q E h=>?_) (fun cdv A outer s H vs Q E hr h=>?_)
 ·obtain ⟨_,_,_,_,_,_,rfl,_⟩:=h;rfl
 ·obtain ⟨tw,sa,wa,ts,m,Fn,rfl,TN,q⟩:=h
  have sc:=gG
  refine ⟨_,qK (zJ (qJ c_refuse_strange hr (qC (pv 0) qD))) (qI (qP (qJ c_last_prices hr (qC (qJ c_other_way hr (qC (pv 0) qD)) qD)))),?_⟩
  rw [show L2.start ["town"] [.ref tw] = [some (.ref tw)] from rfl]
  (push_cast only [])
  refine ⟨tw,sa,wa,ts,Fn,m,rfl,TN.R.tw,TN.sa,TN.R.wa,(fun r hr=>⟨(TN.R.row r hr).1,(TN.R.row r hr).2.1⟩),TN.R.five,TN.hF,(fun r hr=>TN.kd r.2 (Ae.mpr ⟨r,hr,rfl⟩)),fun H1 s1=>?_⟩
  (push_cast only [])
  (simp only [qO])
  (push_cast only [])
  refine ⟨tw,sa,wa,ts,m,Fn,rfl,TN.same s1,fun tw' sa' H2 s2 TN2=>?_⟩
  exact ⟨tw',sa',wa,ts,m,S.cpl m Fn,rfl,TN2,fun r ns H3 nl nP s3 e3=>q r ns H3 nl nP ((s1.trans s2).trans s3) e3⟩
end
end Z
theorem val_up {Ed:Edge→Prop}{sl:Nat→Prop}{m:Nat}{ws:List Int}(V:Val Ed sl m ws){h g:Nat}(hh:h < 2 ^ m)(hg:g < 2 ^ m)(k:∀ t,t < 5→qA h t=true→qA g t=true):ws.getD h 0 ≤ ws.getD g 0:=by
 obtain ⟨M,hM,w⟩:=V.at' h hh
 rw [← w]
 exact V.ge g hg M (hM.imp fun v a=>a.imp id fun z=>⟨z.1,k v z.1 z.2⟩)
theorem bO {ws ps:List Int}(w0:ws.getD 0 0=0):0 ≤ kE ws ps:=by
 have a:ws.getD 0 0 - q9 ps 0 ps.length ≤ kE ws ps:=zM (yW ws ps) (AZ _)
 rw [dA,w0] at a
 omega
theorem iA:∀ {l:List Int},(∀ x ∈ l,0 ≤ x)→∀ x ∈ l,x ≤ l.sum
 | [],_,x,hx=>by cases hx
 | y :: l,h,x,hx=>by
  have a:=h y Af
  have b:=vV l fun z hz=>h z (Ad _ hz)
  rw [AF]
  rcases Ax.mp hx with rfl | z
  ·omega
  ·have:=iA (fun z hz=>h z (Ad _ hz)) x z
   omega
structure EndsT (ts:List (List Int))(m F:Nat)(M:Int):Prop where
 most:∀ r,j7 m ts (jI m) r→r.getD (2 ^ m - 1) 0=M
 min:∀ q,IsMin ts m q→q5 ts q=M
 is:∀ q:List Int,q.length=m→(∀ x ∈ q,0 ≤ x)→q5 ts q=M→IsMin ts m q
 ge:∀ q:List Int,q.length=m→(∀ x ∈ q,0 ≤ x)→M ≤ q5 ts q
theorem ends_of {ts:List (List Int)}{m F:Nat}(m5:m ≤ 5)(hv:∀ ws ∈ ts,VV (upF m F) m ws){r0:List Int}(f0:j7 m ts (jI m) r0):EndsT ts m F (r0.getD (2 ^ m - 1) 0)∧∃ q,IsMin ts m q:=by
 obtain ⟨⟨ps,pl,p0,le⟩,ge⟩:=sD m5 hv f0
 have mq:∀ q,IsMin ts m q→q5 ts q=r0.getD (2 ^ m - 1) 0:=fun q Q=>by
  have a:=Q.le ps pl p0
  have b:=ge q Q.len Q.nn
  omega
 refine ⟨⟨fun r f=>?_,mq,fun q ql q0 e=>⟨ql,q0,fun r rl rn=>by have:=ge r rl rn;omega⟩,ge⟩,ps,pl,p0,fun r rl rn=>by have:=ge r rl rn;omega⟩
 obtain ⟨⟨ps',pl',p0',le'⟩,ge'⟩:=sD m5 hv f
 have a:=ge ps' pl' p0'
 have b:=ge' ps pl p0
 omega
theorem end_low {ts:List (List Int)}{m C:Nat}{top:Int}(m5:m ≤ 5)(hC:C < 2 ^ m)(kd:Kinds ts m C)(tr:nC ts C m)(wt:∀ ws ∈ ts,ws.getD 0 0=0∧∀ h,h < 2 ^ m→ws.getD h 0 ≤ top)(t0:0 ≤ top){q0:List Int}(Q0:IsMin ts m q0){n:Nat}{ps:List Int}(pl:ps.length=m)(pv:∀ t,t < m→ps.getD t 0=if qA C t=true then top else 0)(sn:q5 ts ps ≤ (n:Int)):IsMin ts m (zE ts C n ps).2∧∀ q,IsMin ts m q→Below C m (zE ts C n ps).2 q:=by
 have pn:∀ x ∈ ps,0 ≤ x:=wJ fun t=>by
  by_cases h:t < m
  ·rw [pv t h];split <;> omega
  ·rw [kP pl (by omega)];exact Aw _
 refine pY m5 hC kd tr (fun ws hw=>by rw [(wt ws hw).1];exact Aw _) Q0 n ps pl pn sn fun q Q t ht=>⟨fun f=>?_,fun f=>?_⟩
 ·rw [pv t ht,f,Aj (by decide)]
  exact jW Q.nn t
 ·rw [pv t ht,Ak f]
  exact min_top m5 hC t0 wt Q ht f
theorem end_bd {ts:List (List Int)}{m:Nat}{N:Int}(w0:∀ ws ∈ ts,ws.getD 0 0=0){ps:List Int}(pl:ps.length=m)(pn:∀ x ∈ ps,0 ≤ x)(sn:q5 ts ps ≤ N){q:List Int}(Q:IsMin ts m q):∀ x ∈ q,0 ≤ x∧x ≤ N:=fun x hx=>by
 have a:=Q.le ps pl pn
 have b:=iA Q.nn x hx
 have c:=vV (ts.map fun ws=>kE ws q) (fun y hy=>by
  obtain ⟨ws,hw,rfl⟩:=Ae.mp hy
  exact bO (w0 ws hw))
 refine ⟨Q.nn x hx,?_⟩
 unfold q5 at a sn
 omega
theorem iS {m t:Nat}:∀ (ts:List (List Int)) (k j:Nat),k ≤ j→j < k + ts.length→dB m t j k ts=ts.set (j - k) (oneT m t (ts.getD (j - k) []))
 | [],k,j,h1,h2=>by rw [C2] at h2;omega
 | ws :: ts,k,j,h1,h2=>by
  rw [Az] at h2
  show (if k=j then oneT m t ws else ws) :: dB m t j (k + 1) ts=_
  by_cases e:k=j
  ·subst e
   have none:∀ (ts:List (List Int)) (n:Nat),k < n→dB m t k n ts=ts:=fun ts=>by
    induction ts with
    | nil=>exact fun _ _=>rfl
    | cons w ts ih =>
     intro n hn
     show (if n=k then _ else w) :: dB m t k (n + 1) ts=_
     rw [Aj (by omega),ih (n + 1) (by omega)]
   rw [Ak rfl,none ts (k + 1) (by omega),Nat.sub_self]
   rfl
  ·rw [Aj e,iS ts (k + 1) j (by omega) (by omega),show j - k=(j - (k + 1)) + 1 by omega]
   rfl
theorem one_or {m t:Nat}{ws:List Int}(h:ws.length=2 ^ m):oneT m t ws=Z.orL ws t:=by
 unfold oneT Z.orL
 rw [h]
def LeT (m:Nat)(a b:List Int):Prop:=∀ h,h < 2 ^ m→a.getD h 0 ≤ b.getD h 0
theorem sZ {m t j:Nat}:∀ (ts:List (List Int)) (k:Nat) (s s' r r':List Int),LeT m s s'→j7 m ts s r→j7 m (dB m t j k ts) s' r'→(∀ ws ∈ ts,LeT m ws (oneT m t ws))→LeT m r r'
 | [],k,s,s',r,r',l,f,f',_=>by
  have e:s=r:=f
  have e':s'=r':=f'
  rw [← e,← e']
  exact l
 | ws :: ts,k,s,s',r,r',l,⟨u,J,f⟩,⟨u',J',f'⟩,hw=>by
  refine sZ ts (k + 1) u u' r r' (fun h hh=>?_) f f' fun x hx=>hw x (Ad _ hx)
  obtain ⟨a,al,as,e⟩:=J.att h hh
  have g:=J'.ge h a hh al as
  have l1:=l a (by omega)
  have l2:ws.getD (h - a) 0 ≤ (if k=j then oneT m t ws else ws).getD (h - a) 0:=by
   split
   ·exact hw ws Af _ (by omega)
   ·exact Aw _
  omega
theorem out_full {m t:Nat}(m5:m ≤ 5)(tm:t < m):Z.out (2 ^ m - 1) t=(2 ^ m - 1) ^^^ 2 ^ t:=by
 have key:∀ (m:_root_.Fin 6) (t:_root_.Fin 5),t.val < m.val→Z.out (2 ^ m.val - 1) t.val=(2 ^ m.val - 1) ^^^ 2 ^ t.val:=by decide +kernel
 exact key ⟨m,by omega⟩ ⟨t,by omega⟩ tm
theorem dp_of {m:Nat}(m5:m ≤ 5)(ts:List (List Int)):j7 m ts (jI m) (Z.dpL m ts):=Z.dp_fold m5 ts _ (by unfold jI;exact AW)
theorem i7 {S':Nat→Bool}{m C:Nat}{W:Int}(m5:m ≤ 5)(hS:∀ t,t < m→S' t=qA C t)(SS:Sds S'){L:List Gr}(L1:1 ≤ L.length)(hB:∀ g ∈ L,Base S' m W g){ts:List (List Int)}(eL:(L.map fun g=>g.w)=ts)(hl:∀ ws ∈ ts,ws.length=2 ^ m){low:List Int}(Q:IsMin ts m low)(B:∀ q,IsMin ts m q→Below C m low q)(eM:∀ q,IsMin ts m q→q5 ts q=Z.gsum m ts){ns:List Int}(nl:ns.length=m)(P:∀ t,t < m→Z.LastP ts m C ns t):ns=low:=by
 subst eL
 have ln:(L.map fun g=>g.w).length=L.length:=by simp
 refine gR (by rw [nl,Q.len]) fun t ht=>?_
 rw [nl] at ht
 have f:=dp_of m5 (L.map fun g=>g.w)
 have E:=end_price m5 ht (hS t ht) SS L1 hB f Q B eM
 have LP:=P t ht
 cases c:qA C t with
 | true =>
  rw [LP.hi c,E.2 c,out_full m5 ht]
  rfl
 | false =>
  obtain ⟨G2,T,e⟩:=LP.lo c
  have fj:∀ j,j < L.length→j7 m (dB m t j 0 (L.map fun g=>g.w)) (jI m) (Z.dpL m ((L.map fun g=>g.w).set j (Z.orL ((L.map fun g=>g.w).getD j []) t))):=fun j hj=>by
   have hw:((L.map fun g=>g.w).getD j []).length=2 ^ m:=by
    rw [Aa,Am (by omega)]
    exact hl _ (AN _)
   rw [iS _ 0 j (AZ _) (by omega),CU,one_or hw]
   exact dp_of m5 _
  obtain ⟨k,hk,ek⟩:=T.at'
  rw [ln] at hk
  have mono:=sZ _ 0 _ _ _ _ (fun h _=>Aw _) f (fj k hk) (fun ws hw=>by
   obtain ⟨g,hg,rfl⟩:=Ae.mp hw
   intro h hh
   rw [u7 hh]
   have p32:2 ^ m ≤ 2 ^ 5:=Ao (by decide) m5
   exact val_up (hB g hg).val hh (iW hh ht) fun v hv b=>by rw [(mI (by omega) (by omega) hv).1,b,CM]) (2 ^ m - 1) (by have:=As m;omega)
  rw [e,E.1 c G2 (fun j hj=>⟨_,fj j hj,T.le j (by omega)⟩) ⟨k,_,fj k hk,ek.symm⟩ (by rw [ek];exact mono)]
  rfl
namespace Z
section
variable {P:Program}{w:World}{K:PySem.W.Frag}{mg:Str→Option Value}{base:Heap}{f:Addr}{fd:FuncData}
def iI:Sp:=fun vs H Q _=>∃ s p l:Int,vs=[.int s,.int p,.int l]∧Q (.bl (if s=1 then decide (p < l) else decide (l < p))) H
theorem gD:FnScope ["side", "price", "last"] ["side", "price", "last"] (qE s_lies_beyond):=⟨rfl,rfl,rfl,by decide +kernel,rfl,by decide +kernel,by decide +kernel⟩
theorem ok_lies (F:Fun K "lies_beyond" "lies_beyond" s_lies_beyond f fd) (hm:mg "lies_beyond" = some (.ref f)) (hb:Binds K fd ["side", "price", "last"] []) (T:Txt mg):kL P w K mg base "lies_beyond" ["side", "price", "last"] 1 iI:=by
 refine qW F hm hb gD (fun vs H Q E h=>?_) (fun cdv A outer s H vs Q E hr h=>?_)
 ·obtain ⟨_,_,_,rfl,_⟩:=h;rfl
 ·obtain ⟨x,p,l,rfl,q⟩:=h
  have sc:=gD
  refine ⟨_,qI (qP (gN (kH zL (pv 0) qH (kK _)) (xQ op_lt (pv 1) (pv 2) (kK _)) (xQ lI (pv 1) (pv 2) (kK _)))),?_⟩
  rw [show L2.start ["side", "price", "last"] [.int x,.int p,.int l] = [some (.int x),some (.int p),some (.int l)] from rfl]
  by_cases e:x=1
  ·rw [Ak e] at q
   subst e
   (push_cast only [])
   exact q
  ·rw [Aj e] at q
   (push_cast only [e])
   exact q
def o7 (ts:List (List Int))(m F:Nat)(ps:List Int):Prop:=∀ ns:List Int,ns.length=m→(∀ t,t < m→LastP ts m F ns t)→∀ t,t < m→(qA F t=false→ps.getD t 0 ≤ ns.getD t 0)∧(qA F t=true→ns.getD t 0 ≤ ps.getD t 0)
def sp_onto:Sp:=fun vs H Q _=>∃ (tw sa wa na:Addr) (ts:List (Addr × List Int)) (ps:List Int) (F N:Nat),vs=[.ref tw,.ref na]∧S.Tn H tw sa wa ts ps.length F∧H na=some (.tup (ps.map V.int))∧(∀ x ∈ ps,0 ≤ x∧x ≤ 1000)∧q5 (ts.map fun t=>t.2) ps ≤ (N:Int)∧N ≤ 900∧o7 (ts.map fun t=>t.2) ps.length F ps∧∀ (t r p:Addr) (H':Hp),Same H H'→H' t=some (.tup [.ref r,.ref p])→H' r=some (.tup (S.natI (zE (ts.map fun t=>t.2) F N ps).1))→H' p=some (.tup ((zE (ts.map fun t=>t.2) F N ps).2.map V.int))→Q (.ref t) H'
def OTI (tw sa wa na la:Addr)(ts:List (Addr × List Int))(m F:Nat)(ps ns:List Int)(G:Hp)(i:Nat)(σ:St)(H:Hp):Prop:=∃ v3 v4:Option V,σ=[some (.ref tw),some (.ref na),some (.ref la),v3,v4]∧Same G H
theorem zG:FnScope ["town", "prices", "lasts", "thing", "side"] ["town", "prices"] (qE s_steps_on_to_the_last):=⟨rfl,rfl,rfl,by decide +kernel,rfl,by decide +kernel,by decide +kernel⟩
theorem ok_onto (F:Fun K "steps_on_to_the_last" "steps_on_to_the_last" s_steps_on_to_the_last f fd) (hm:mg "steps_on_to_the_last" = some (.ref f)) (hb:Binds K fd ["town", "prices"] []) (T:Txt mg) (c_last_prices:kL P w K mg base "last_prices" ["town"] 9 sp_last) (c_lies_beyond:kL P w K mg base "lies_beyond" ["side", "price", "last"] 1 iI) (c_steps_on:kL P w K mg base "steps_on" ["town", "prices"] 6 S.sp_on):kL P w K mg base "steps_on_to_the_last" ["town", "prices"] 10 sp_onto:=by
 refine qW F hm hb zG (fun vs H Q E h=>?_) (fun cdv A outer s H vs Q E hr h=>?_)
 ·obtain ⟨_,_,_,_,_,_,_,_,rfl,_⟩:=h;rfl
 ·obtain ⟨tw,sa,wa,na,ts,ps,Fn,N,rfl,TN,hna,nb,sN,N9,np,q⟩:=h
  have sc:=zG
  refine ⟨_,qK (q8 (i:=2) sc.nd rfl (Or.inl rfl) (qJ c_last_prices hr (qC (pv 0) qD))) (qK (j9 AO rfl (yK rfl T.enumerate_ (qC (kF zP (pv 0) qH (fun _ _=>rfl)) qD)) (kW (n:=2) rfl (qQ (qL (i:=3) sc.nd rfl (Or.inl rfl)) (qQ (qL (i:=4) sc.nd rfl (Or.inl rfl)) kU))) (qI (zI (yQ (qJ c_lies_beyond hr (qC (pv 4) (qC (kF zP (pv 1) (pv 3) (fun _ _=>rfl)) (qC (kF zP (pv 2) (pv 3) (fun _ _=>rfl)) qD))))) (qI tE) jJ))) (qI (qP (qJ c_steps_on hr (qC (pv 0) (qC (pv 1) qD)))))),?_⟩
  rw [show L2.start ["town", "prices", "lasts", "thing", "side"] [.ref tw,.ref na] = [some (.ref tw),some (.ref na),none,none,none] from rfl]
  (push_cast only [])
  refine ⟨tw,sa,wa,ts,ps.length,Fn,rfl,TN,fun la ns H1 nl nP s1 e1=>?_⟩
  have np1:=np ns nl nP
  have TN1:=TN.same s1
  have hst:=qY TN1.R.tw
  have i0:∀ x y:V,vC [x,y] 0=some x:=fun _ _=>rfl
  (simp only [qO])
  (push_cast only [hst,i0])
  refine ⟨_,_,.inr ⟨rfl,TN1.sa⟩,cC (OTI tw sa wa na la ts ps.length Fn ps ns H1) ⟨_,_,rfl,Same.refl _⟩ (fun i σ H2 ⟨_,_,_,s⟩=>.inr ⟨rfl,s _ _ TN1.sa⟩) ?_ ?_⟩
  ·rintro i v T' σ H2 H3 hv ⟨v3,v4,rfl,s2⟩ nT s3 e3
   have hi:i < ps.length:=by
    have:=(Ai.mp hv).1
    rwa [Ab,S.bits_len] at this
   rw [Ah] at hv
   obtain ⟨y,hy,rfl⟩:=An.mp hv
   have hy':y=if qA Fn i=true then 1 else 0:=by
    have:=S.bits_at (F:=Fn) hi
    rw [Aa,hy] at this
    exact this
   have S13:=s2.trans s3
   have hsp:=qY (S13 _ _ (s1 _ _ hna))
   have hsl:=qY (S13 _ _ e1)
   have ap:=jX (ns:=ps) hi
   have al:=jX (ns:=ns) (show i < ns.length by omega)
   (push_cast only [e3,hsp,hsl,ap,al])
   refine ⟨y,ps.getD i 0,ns.getD i 0,rfl,_,rfl,?_⟩
   have b:=np1 i hi
   have no:(if y=1 then decide (ps.getD i 0 < ns.getD i 0) else decide (ns.getD i 0 < ps.getD i 0))=false:=by
    cases fb:qA Fn i with
    | true =>
     rw [fb,Ak rfl] at hy'
     rw [Ak hy']
     exact Al (by have:=b.2 fb;omega)
    | false =>
     rw [fb,Aj (by decide)] at hy'
     rw [Aj (by omega)]
     exact Al (by have:=b.1 fb;omega)
   rw [no,Aj (by decide)]
   exact ⟨_,_,rfl,S13⟩
  ·rintro σ H2 ⟨v3,v4,rfl,s2⟩
   (simp only [qO])
   (push_cast only [])
   exact ⟨tw,sa,wa,na,ts,ps,Fn,N,rfl,TN1.same s2,s2 _ _ (s1 _ _ hna),nb,sN,N9,fun t r p H3 s3 e3 r3 p3=>q t r p H3 ((s1.trans s2).trans s3) e3 r3 p3⟩
theorem vY:FnScope ["town", "prices"] ["town", "prices"] (qE s_rising_from):=⟨rfl,rfl,rfl,by decide +kernel,rfl,by decide +kernel,by decide +kernel⟩
theorem ok_rfrom (F:Fun K "rising_from" "rising_from" s_rising_from f fd) (hm:mg "rising_from" = some (.ref f)) (hb:Binds K fd ["town", "prices"] []) (T:Txt mg) (c_refuse_strange:kL P w K mg base "refuse_strange" ["town"] 7 S.sp_refuse) (c_steps_on_to_the_last:kL P w K mg base "steps_on_to_the_last" ["town", "prices"] 10 sp_onto):kL P w K mg base "rising_from" ["town", "prices"] 11 sp_onto:=by
 refine qW F hm hb vY (fun vs H Q E h=>?_) (fun cdv A outer s H vs Q E hr h=>?_)
 ·obtain ⟨_,_,_,_,_,_,_,_,rfl,_⟩:=h;rfl
 ·obtain ⟨tw,sa,wa,na,ts,ps,Fn,N,rfl,TN,hna,nb,sN,N9,np,q⟩:=h
  have sc:=vY
  refine ⟨_,qK (zJ (qJ c_refuse_strange hr (qC (pv 0) qD))) (qI (qP (qJ c_steps_on_to_the_last hr (qC (pv 0) (qC (pv 1) qD))))),?_⟩
  rw [show L2.start ["town", "prices"] [.ref tw,.ref na] = [some (.ref tw),some (.ref na)] from rfl]
  (push_cast only [])
  refine ⟨tw,sa,wa,ts,Fn,ps.length,rfl,TN.R.tw,TN.sa,TN.R.wa,(fun r hr=>⟨(TN.R.row r hr).1,(TN.R.row r hr).2.1⟩),TN.R.five,TN.hF,(fun r hr=>TN.kd r.2 (Ae.mpr ⟨r,hr,rfl⟩)),fun H1 s1=>?_⟩
  (push_cast only [])
  (simp only [qO])
  (push_cast only [])
  exact ⟨tw,sa,wa,na,ts,ps,Fn,N,rfl,TN.same s1,s1 _ _ hna,nb,sN,N9,np,fun t r p H3 s3 e3 r3 p3=>q t r p H3 (s1.trans s3) e3 r3 p3⟩
def sp_ffrom:Sp:=fun vs H Q _=>∃ (tw sa wa na:Addr) (ts:List (Addr × List Int)) (ps:List Int) (F N:Nat),vs=[.ref tw,.ref na]∧S.Tn H tw sa wa ts ps.length F∧H na=some (.tup (ps.map V.int))∧(∀ x ∈ ps,0 ≤ x∧x ≤ 1000)∧q5 (ts.map fun t=>t.2) ps ≤ (N:Int)∧N ≤ 900∧o7 (ts.map fun t=>t.2) ps.length (S.cpl ps.length F) ps∧∀ (t r p:Addr) (H':Hp),Same H H'→H' t=some (.tup [.ref r,.ref p])→H' r=some (.tup (S.natI (zE (ts.map fun t=>t.2) (S.cpl ps.length F) N ps).1))→H' p=some (.tup ((zE (ts.map fun t=>t.2) (S.cpl ps.length F) N ps).2.map V.int))→Q (.ref t) H'
theorem vH:FnScope ["town", "prices"] ["town", "prices"] (qE s_falling_from):=⟨rfl,rfl,rfl,by decide +kernel,rfl,by decide +kernel,by decide +kernel⟩
theorem ok_ffrom (F:Fun K "falling_from" "falling_from" s_falling_from f fd) (hm:mg "falling_from" = some (.ref f)) (hb:Binds K fd ["town", "prices"] []) (T:Txt mg) (c_refuse_strange:kL P w K mg base "refuse_strange" ["town"] 7 S.sp_refuse) (c_other_way:kL P w K mg base "other_way" ["town"] 2 S.sp_ow) (c_steps_on_to_the_last:kL P w K mg base "steps_on_to_the_last" ["town", "prices"] 10 sp_onto):kL P w K mg base "falling_from" ["town", "prices"] 11 sp_ffrom:=by
 refine qW F hm hb vH (fun vs H Q E h=>?_) (fun cdv A outer s H vs Q E hr h=>?_)
 ·obtain ⟨_,_,_,_,_,_,_,_,rfl,_⟩:=h;rfl
 ·obtain ⟨tw,sa,wa,na,ts,ps,Fn,N,rfl,TN,hna,nb,sN,N9,np,q⟩:=h
  have sc:=vH
  refine ⟨_,qK (zJ (qJ c_refuse_strange hr (qC (pv 0) qD))) (qI (qP (qJ c_steps_on_to_the_last hr (qC (qJ c_other_way hr (qC (pv 0) qD)) (qC (pv 1) qD))))),?_⟩
  rw [show L2.start ["town", "prices"] [.ref tw,.ref na] = [some (.ref tw),some (.ref na)] from rfl]
  (push_cast only [])
  refine ⟨tw,sa,wa,ts,Fn,ps.length,rfl,TN.R.tw,TN.sa,TN.R.wa,(fun r hr=>⟨(TN.R.row r hr).1,(TN.R.row r hr).2.1⟩),TN.R.five,TN.hF,(fun r hr=>TN.kd r.2 (Ae.mpr ⟨r,hr,rfl⟩)),fun H1 s1=>?_⟩
  (push_cast only [])
  (simp only [qO])
  (push_cast only [])
  refine ⟨tw,sa,wa,ts,ps.length,Fn,rfl,TN.same s1,fun tw' sa' H2 s2 TN2=>?_⟩
  exact ⟨tw',sa',wa,na,ts,ps,S.cpl ps.length Fn,N,rfl,TN2,s2 _ _ (s1 _ _ hna),nb,sN,N9,np,fun t r p H3 s3 e3 r3 p3=>q t r p H3 ((s1.trans s2).trans s3) e3 r3 p3⟩
end
end Z
theorem z8 (ts:List (List Int))(ws q:List Int):q5 (ts ++ [ws]) q=q5 ts q + kE ws q:=by
 unfold q5
 rw [A4,BD]
 simp
 omega
theorem o6 {p q:List Int}(h:∀ t,p.getD t 0 ≤ q.getD t 0)(x:Nat):∀ n,q9 p x n ≤ q9 q x n
 | 0=>Aw _
 | n + 1=>by
  have ih:=o6 h x n
  have:=h n
  show q9 p x n + (if qA x n=true then p.getD n 0 else 0) ≤ q9 q x n + if qA x n=true then q.getD n 0 else 0
  split <;> omega
theorem vmax_down {ws p q:List Int}(pl:p.length=q.length)(h:∀ t,p.getD t 0 ≤ q.getD t 0):kE ws q ≤ kE ws p:=by
 obtain ⟨x,x1,x2⟩:=zV (yW ws q) (2 ^ q.length - 1)
 have x2':kE ws q=ws.getD x 0 - q9 q x q.length:=x2
 have l:ws.getD x 0 - q9 p x p.length ≤ kE ws p:=zM (yW ws p) (show x ≤ 2 ^ p.length - 1 by rw [pl];exact x1)
 have:=o6 h x q.length
 rw [pl] at l
 omega
section
variable {ts:List (List Int)}{ws:List Int}{m:Nat}{p q:List Int}
theorem tr_max (T:Tr 0 m 0 p q (trR 0 0 p q) (trU 0 0 p q))(t:Nat):(trR 0 0 p q).getD t 0=max (p.getD t 0) (q.getD t 0)∧(trU 0 0 p q).getD t 0=min (p.getD t 0) (q.getD t 0):=by
 by_cases h:t < m
 ·have:=T.lo t h (by unfold qA;simp)
  omega
 ·rw [kP T.rl (by omega),kP T.ul (by omega),kP T.pl (by omega),kP T.ql (by omega)]
  exact ⟨rfl,rfl⟩
theorem lM (tr:nC ts 0 m)(P:IsMin ts m p)(Q:IsMin (ts ++ [ws]) m q):IsMin ts m (trU 0 0 p q)∧IsMin (ts ++ [ws]) m (trR 0 0 p q)∧∀ t,(trR 0 0 p q).getD t 0=max (p.getD t 0) (q.getD t 0)∧(trU 0 0 p q).getD t 0=min (p.getD t 0) (q.getD t 0):=by
 have T:=tr_mk (F:=0) (a:=0) P.len Q.len
 have tm:=tr_max T
 have pg:=jW P.nn
 have qg:=jW Q.nn
 have nn:=T.nn (Aw 0) pg qg
 have t1:=tr 0 _ _ _ _ (Aw 0) pg qg T
 have u0:=wJ fun t=>(nn t).2
 have r0:=wJ fun t=>(nn t).1
 have p1:=P.le _ T.ul u0
 have q1:=Q.le _ T.rl r0
 rw [z8,z8] at q1
 have d:=vmax_down (ws:=ws) (p:=q) (q:=trR 0 0 p q) (by rw [Q.len,T.rl]) (fun t=>by rw [(tm t).1];omega)
 refine ⟨⟨T.ul,u0,fun r rl rn=>by have:=P.le r rl rn;omega⟩,⟨T.rl,r0,fun r rl rn=>by
  have:=Q.le r rl rn
  rw [z8] at this ⊢
  omega⟩,tm⟩
theorem more_low (tr:nC ts 0 m)(P:IsMin ts m p)(lp:∀ r,IsMin ts m r→Below 0 m p r)(Q:IsMin (ts ++ [ws]) m q):∀ t,t < m→p.getD t 0 ≤ q.getD t 0:=fun t ht=>by
 obtain ⟨U,_,tm⟩:=lM tr P Q
 have:=(lp _ U t ht).1 (by unfold qA;simp)
 have:=(tm t).2
 omega
theorem more_high {C:Nat}(hC:∀ t,t < m→qA C t=true)(tr:nC ts 0 m)(P:IsMin ts m p)(Q:IsMin (ts ++ [ws]) m q)(hq:∀ r,IsMin (ts ++ [ws]) m r→Below C m q r):∀ t,t < m→p.getD t 0 ≤ q.getD t 0:=fun t ht=>by
 obtain ⟨_,R,tm⟩:=lM tr P Q
 have:=(hq _ R t ht).2 (hC t ht)
 have:=(tm t).1
 omega
theorem lP {C:Nat}(P:IsMin ts m p)(lp:∀ r,IsMin ts m r→Below C m p r)(Q:IsMin ts m q)(lq:∀ r,IsMin ts m r→Below C m q r):p=q:=by
 refine gR (by rw [P.len,Q.len]) fun t ht=>?_
 rw [P.len] at ht
 have a:=lp q Q t ht
 have b:=lq p P t ht
 cases c:qA C t with
 | false=>have:=a.1 c;have:=b.1 c;omega
 | true=>have:=a.2 c;have:=b.2 c;omega
end
theorem uY {ss:List Int}(h5:ss.length ≤ 5)(h01:∀ x ∈ ss,x=0∨x=1):ss=S.bitsL (d5 ss 1 ss.length) ss.length:=by
 refine S.getD_ext (by rw [S.bits_len]) fun i hi=>?_
 rw [S.bits_at hi,mT ss ss.length h5 i (by omega),Ar hi,BZ]
 have hm:ss.getD i 0 ∈ ss:=by
  rw [Aa,Am hi]
  exact AN hi
 rcases h01 _ hm with z | z <;> rw [z] <;> simp
theorem mul_le9 {B x:Int}{n m:Nat}(h:B * ((n:Int) + (m:Int)) ≤ 399)(s:x ≤ (n:Int) * B + (m:Int) * B):x ≤ 399:=by
 have e:B * ((n:Int) + (m:Int))=(n:Int) * B + (m:Int) * B:=by rw [Int.mul_add,Int.mul_comm B,Int.mul_comm B]
 omega
theorem pO {B:Int}:∀ (l:List Int),(∀ x ∈ l,x ≤ B)→l.sum ≤ (l.length:Int) * B
 | [],_=>by simp
 | x :: l,h=>by
  have ih:=pO l fun y hy=>h y (Ad _ hy)
  have hx:=h x Af
  rw [AF,Az]
  push_cast
  rw [Cw,BL]
  omega
theorem aO {ts:List (List Int)}{m F:Nat}{B top:Int}(B0:0 ≤ B)(bd:∀ ws ∈ ts,Bd m B ws)(it:S.IsTop ts m top):0 ≤ top∧top ≤ B∧q5 ts (S.firstL F m top) ≤ (ts.length:Int) * B + (m:Int) * B:=by
 have pp:=As m
 obtain ⟨⟨w0,w1,w2⟩,_⟩:=it
 have t01:=(bd w0 w1).2 (2 ^ m - 1) (by omega)
 rw [w2] at t01
 have fb:∀ x ∈ S.firstL F m top,0 ≤ x∧x ≤ B:=fun x hx=>by rcases S.first_mem hx with z | z <;> omega
 refine ⟨t01.1,t01.2,?_⟩
 unfold q5
 have h1:=pO (B:=B) (S.firstL F m top) fun x hx=>(fb x hx).2
 rw [S.first_len] at h1
 have h2:=pO (B:=B) (ts.map fun ws=>kE ws (S.firstL F m top)) fun x hx=>by
  obtain ⟨ws,hw,rfl⟩:=Ae.mp hx
  obtain ⟨k,k1,k2⟩:=zV (yW ws (S.firstL F m top)) (2 ^ (S.firstL F m top).length - 1)
  have k2':kE ws (S.firstL F m top)=yW ws (S.firstL F m top) k:=k2
  rw [k2']
  unfold yW
  rw [S.first_len] at k1 ⊢
  have b1:=(bd ws hw).2 k (by omega)
  have b2:0 ≤ q9 (S.firstL F m top) k m:=by
   have:∀ n,0 ≤ q9 (S.firstL F m top) k n:=fun n=>by
    induction n with
    | zero=>exact Aw _
    | succ n ih =>
     show 0 ≤ q9 (S.firstL F m top) k n + _
     have:0 ≤ (S.firstL F m top).getD n 0:=by
      rw [Aa]
      cases e:(S.firstL F m top)[n]? with
      | none=>exact Aw _
      | some x=>exact (fb x (A0 e)).1
     split <;> omega
   exact this m
  omega
 rw [Ab] at h2
 omega
structure Rd (tl:List (List Int))(m F:Nat)(B:Int):Prop where
 m5:m ≤ 5
 hF:F < 2 ^ m
 len:∀ ws ∈ tl,ws.length=2 ^ m
 kx:∀ ws ∈ tl,KX F m ws
 bd:∀ ws ∈ tl,Bd m B ws
 ne:tl ≠ []
 b0:0 ≤ B
 b9:B * ((tl.length:Int) + (m:Int)) ≤ 399
section
variable {tl:List (List Int)}{m F:Nat}{B:Int}
theorem Rd.kd (R:Rd tl m F B):Kinds tl m F:=fun ws hw=>(R.kx ws hw).1
theorem Rd.tr (R:Rd tl m F B):nC tl F m:=fun a ps qs rs us a0 p0 q0 T=>surp_tr R.m5 (fun t ht=>d9 R.m5 ht) a0 p0 q0 T fun ws hw=>(R.kx ws hw).2
theorem Rd.ends (R:Rd tl m F B):EndsT tl m F (Z.gsum m tl)∧∃ q,IsMin tl m q:=ends_of (F:=F) R.m5 (fun ws hw=>(R.kx ws hw).2) (dp_of R.m5 tl)
theorem Rd.first (R:Rd tl m F B)(C:Nat){top:Int}(it:S.IsTop tl m top):0 ≤ top∧top ≤ 1000∧q5 tl (S.firstL C m top) ≤ 399:=by
 obtain ⟨a1,a2,a3⟩:=aO (F:=C) R.b0 R.bd it
 have B1:B ≤ 399:=by
  have b9:=R.b9
  have l1:1 ≤ tl.length:=by
   have:=R.ne
   cases tl with
   | nil=>exact absurd rfl this
   | cons _ _=>simp
  have:=Bn (show (1:Int) ≤ (tl.length:Int) + (m:Int) by omega) R.b0
  omega
 exact ⟨a1,by omega,mul_le9 R.b9 a3⟩
theorem Rd.cases {C:Nat}(R:Rd tl m F B)(h:C=F∨C=S.cpl m F):C < 2 ^ m∧Kinds tl m C∧nC tl C m:=by
 rcases h with rfl | rfl
 ·exact ⟨R.hF,R.kd,R.tr⟩
 ·exact ⟨S.cpl_lt R.hF,(fun ws hw=>S.ext_cpl R.m5 R.hF (R.kd ws hw)),tr_cpl (fun t ht=>S.cpl_facts R.m5 R.hF ht) R.tr⟩
theorem Rd.low {C:Nat}(R:Rd tl m F B)(h:C=F∨C=S.cpl m F){top:Int}(it:S.IsTop tl m top):IsMin tl m (zE tl C 399 (S.firstL C m top)).2∧∀ q,IsMin tl m q→Below C m (zE tl C 399 (S.firstL C m top)).2 q:=by
 obtain ⟨hC,kC,tC⟩:=R.cases h
 obtain ⟨t0,_,sn⟩:=R.first C it
 obtain ⟨_,q0,Q0⟩:=R.ends
 refine end_low R.m5 hC kC tC (fun ws hw=>⟨(R.bd ws hw).1,fun h hh=>?_⟩) t0 Q0 (S.first_len C m top) (fun t ht=>by unfold S.firstL;exact gL ht) sn
 obtain ⟨Ed,sl,V,_⟩:=(R.kx ws hw).2
 have:=val_up V hh (show 2 ^ m - 1 < 2 ^ m by omega) fun k k5 b=>zD R.m5 (yC R.m5 hh k5 b)
 have:=it.2 ws hw
 omega
theorem Rd.bound {C:Nat}(R:Rd tl m F B){top:Int}(it:S.IsTop tl m top){q:List Int}(Q:IsMin tl m q):∀ x ∈ q,0 ≤ x∧x ≤ 399:=by
 obtain ⟨t0,_,sn⟩:=R.first C it
 exact end_bd (fun ws hw=>(R.bd ws hw).1) (S.first_len C m top) (fun x hx=>by rcases S.first_mem hx with z | z <;> omega) sn Q
theorem Rd.last {C:Nat}(R:Rd tl m F B)(h:C=F∨C=S.cpl m F){low:List Int}(Q:IsMin tl m low)(Bl:∀ q,IsMin tl m q→Below C m low q){ns:List Int}(nl:ns.length=m)(P:∀ t,t < m→Z.LastP tl m C ns t):ns=low:=by
 obtain ⟨L1,L2,e1,e2,b1,b2⟩:=cF (G:=upF m F) (m:=m) (W:=B) tl fun ws hw=>⟨(R.kx ws hw).2,fun h hh=>((R.bd ws hw).2 h hh).2⟩
 have eM:=R.ends.1.min
 have pos:1 ≤ tl.length:=by
  have:=R.ne
  cases tl with
  | nil=>exact absurd rfl this
  | cons _ _=>simp
 have m5:=R.m5
 rcases h with rfl | rfl
 ·refine i7 R.m5 (fun t ht=>?_) (uR (s:=fF (upF m C)) fun k v h=>by unfold fF;rw [cW _ k v h]) (by rw [← e2,Ab] at pos;exact pos) b2 e2 R.len Q Bl eM nl P
  rw [dP (by omega)]
  unfold fF kR
  rw [Ak (by omega),Bool.not_not,d9 m5 ht]
 ·refine i7 R.m5 (fun t ht=>?_) (uR (s:=kR (upF m F)) fun k v h=>cW _ k v h) (by rw [← e1,Ab] at pos;exact pos) b1 e1 R.len Q Bl eM nl P
  rw [dP (by omega),S.cpl_facts m5 R.hF ht]
  unfold kR
  rw [Ak (by omega),d9 m5 ht]
end
theorem oE (m:Nat):∀ k,d5 (List.replicate m (0:Int)) 1 k=0
 | 0=>rfl
 | k + 1=>by
  show d5 (List.replicate m (0:Int)) 1 k + (if (List.replicate m (0:Int)).getD k 0=1 then 2 ^ k else 0)=0
  rw [oE m k,Aj]
  rw [Aa,Cg]
  split <;> decide
section
variable {P:Program}{w:World}{K:PySem.W.Frag}{mg:Str→Option Value}{base:Heap}{f:Addr}{fd:FuncData}
def sM:Sp:=fun vs H Q _=>∃ (a b:Addr) (xs ys:List Int),vs=[.ref a,.ref b]∧H a=some (.tup (xs.map V.int))∧H b=some (.tup (ys.map V.int))∧ys.length=xs.length∧xs.length ≤ 5∧(∀ t,t < xs.length→xs.getD t 0 ≤ ys.getD t 0)∧∀ H',Same H H'→Q (.bl true) H'
def NLI (c:Addr)(G:Hp)(i:Nat)(σ:St)(H:Hp):Prop:=∃ v1 v2:Option V,σ=[v1,v2]∧SameX c G H∧H c=some (.lst (List.replicate i (V.bl true)))
theorem vJ:FnScope ["_law_some_here", "_law_others"] ["_law_some_here", "_law_others"] (qE s__law_no_less):=⟨rfl,rfl,rfl,by decide +kernel,rfl,by decide +kernel,by decide +kernel⟩
theorem ok_nless (F:Fun K "_law_no_less" "_law_no_less" s__law_no_less f fd) (hm:mg "_law_no_less" = some (.ref f)) (hb:Binds K fd ["_law_some_here", "_law_others"] []) (T:Txt mg):kL P w K mg base "_law_no_less" ["_law_some_here", "_law_others"] 1 sM:=by
 refine qW F hm hb vJ (fun vs H Q E h=>?_) (fun cdv A outer s H vs Q E hr h=>?_)
 ·obtain ⟨_,_,_,_,rfl,_⟩:=h;rfl
 ·obtain ⟨a,b,xs,ys,rfl,ha,hb',yl,x5,le,q⟩:=h
  have sc:=vJ
  refine ⟨_,qI (qP (qX (all0 rfl) rfl T.all_ bt_all (qC (jR (N:=["_law_one", "_law_other"]) (fr:=[none,none]) rfl (pi_zip rfl T.zip_ (qC (pv 0) (qC (pv 1) qD))) (CScope.of rfl rfl rfl) rfl (fun _ _ _=>⟨kW (n:=2) rfl (qQ (qL (i:=0) (show List.Nodup (α:=Str) ["_law_one", "_law_other"] by decide +kernel) rfl (Or.inl rfl)) (qQ (qL (i:=1) (show List.Nodup (α:=Str) ["_law_one", "_law_other"] by decide +kernel) rfl (Or.inl rfl)) kU)),kZ,xQ op_le (pv 0) (pv 1) (kK _)⟩)) qD))),?_⟩
  rw [show L2.start ["_law_some_here", "_law_others"] [.ref a,.ref b] = [some (.ref a),some (.ref b)] from rfl]
  (push_cast only [])
  refine ⟨_,_,_,.inr ⟨rfl,ha⟩,_,.inr ⟨rfl,hb'⟩,fun c nc=>?_⟩
  have nac:=qF ha nc
  have nbc:=qF hb' nc
  refine cl_zip (NLI c H) ⟨none,none,rfl,SameX.upd,qG⟩ (fun i σ H' ⟨_,_,_,s,_⟩=>⟨.inr ⟨rfl,s _ _ nac ha⟩,.inr ⟨rfl,s _ _ nbc hb'⟩⟩) ?_ ?_
  ·rintro i u v T1 σ H1 H2 hu hv ⟨v1,v2,rfl,s1,e1⟩ nT s2 eT
   rw [Ah] at hu hv
   obtain ⟨x,hx,rfl⟩:=An.mp hu
   obtain ⟨y,hy,rfl⟩:=An.mp hv
   have hi:i < xs.length:=(Ai.mp hx).1
   have g:=le i hi
   rw [Aa,Aa,hx,hy] at g
   have g':x ≤ y:=g
   have e12:=s2 _ _ e1
   (push_cast only [eT,e12])
   refine ⟨qR (by rw [AW];omega),⟨_,_,rfl,(s1.trans s2.x).trans SameX.upd,?_⟩⟩
   rw [qG,Ar g',List.replicate_succ']
  ·rintro σ H1 ⟨v1,v2,rfl,s1,e1⟩
   rw [Ab,Ab,yl,CP] at e1
   (push_cast only [e1])
   refine ⟨List.replicate xs.length true,by rw [List.map_replicate];exact jC e1,?_⟩
   rw [show (List.replicate xs.length true).all id=true by rw [BG];intro x hx;rw [Cb hx];rfl]
   exact q H1 (s1.same nc)
theorem vmax_bd {ws q:List Int}{m:Nat}{B:Int}(ql:q.length=m)(q0:∀ x ∈ q,0 ≤ x)(b:Bd m B ws):kE ws q ≤ B:=by
 have pp:=As m
 obtain ⟨h,h1,h2⟩:=zV (yW ws q) (2 ^ q.length - 1)
 have h2':kE ws q=ws.getD h 0 - q9 q h q.length:=h2
 rw [ql] at h1 h2'
 have:=(b.2 h (by omega)).2
 have:=h9 q0 h m
 omega
def KTI (p q sa c:Addr)(ss:List Int)(most:Int)(G:Hp)(i:Nat)(σ:St)(H:Hp):Prop:=∃ (v:Option V) (ts:List (Addr × List Int)),σ=[v,some (.ref p),some (.ref sa),some (.int most)]∧ts.length=i∧TabE H ss ((ss.length:Int) * most + kB most ss.length) ts∧Pot H p q∧(∀ b o,b ≠ p→b ≠ q→b ≠ c→G b=some o→H b=some o)∧H c=some (.lst (ts.map fun t=>V.ref t.1))
theorem lim45b {x:Int}(h:x=4∨x=5){y:Nat}(hy:y < 2):(((4:Nat):Int) * 2 + kB 2 4) * (((1 + y + 1:Nat):Int) + ((4:Nat):Int)) ≤ 399∧(((5:Nat):Int) * 1 + kB 1 5) * (((1 + y + 1:Nat):Int) + ((5:Nat):Int)) ≤ 399:=by
 have c:y=0∨y=1:=by omega
 rcases c with rfl | rfl <;> decide
def pU (K:PySem.W.Frag):Sp:=fun vs H Q _=>∃ (a:Addr) (ns:List Int),vs=[.ref a]∧Scr K a ns H∧ns.length ≤ 63∧∀ H',Q (.bl true) H'
theorem sc_law:FnScope ["_law_script", "_law_pot_here", "_law_many", "_law_most", "_law_hands", "_law_sides", "_law_wants", "_law_more", "_law_fewer", "_law_town", "_law_low"] ["_law_script"] (qE s_law):=⟨rfl,rfl,rfl,by decide +kernel,rfl,by decide +kernel,by decide +kernel⟩
theorem ok_law (F:Fun K "law" "law" s_law f fd) (T:Txt mg) (c__law_pot:kL P w K mg base "_law_pot" ["_law_script"] 1 (sp_pot K)) (c__law_draw:kL P w K mg base "_law_draw" ["_law_pot_here", "_law_many"] 2 uW) (c__law_kind_want:kL P w K mg base "_law_kind_want" ["_law_pot_here", "_law_sides", "_law_most"] 3 sP) (c_rising:kL P w K mg base "rising" ["town"] 8 S.sp_steps) (c_falling:kL P w K mg base "falling" ["town"] 8 S.sp_fall) (c_low_prices:kL P w K mg base "low_prices" ["town"] 10 Z.sp_last) (c_high_prices:kL P w K mg base "high_prices" ["town"] 10 Z.sp_high) (c_rising_from:kL P w K mg base "rising_from" ["town", "prices"] 11 Z.sp_onto) (c_falling_from:kL P w K mg base "falling_from" ["town", "prices"] 11 Z.sp_ffrom) (c_greatest:kL P w K mg base "greatest" ["town"] 6 Z.sp_greatest) (c_greatest_gain:kL P w K mg base "greatest_gain" ["want", "prices"] 3 cT) (c__law_no_less:kL P w K mg base "_law_no_less" ["_law_some_here", "_law_others"] 1 sM) :
  FnOk P w K mg base CX0 12 f fd ["_law_script"] (pU K):=by
 refine F.ok sc_law (fun vs H Q E h=>?_) (fun cdv A outer s H vs Q E hr h=>?_)
 ·obtain ⟨_,_,rfl,_⟩:=h;rfl
 ·obtain ⟨a,ns0,rfl,hq,hlen,q⟩:=h
  have sc:=sc_law
  refine ⟨_,qK (q8 (i:=1) sc.nd rfl (Or.inr rfl) (qJ c__law_pot hr (qC (pv 0) qD))) (qK (yR (jK (qC (qV jD qH (qJ c__law_draw hr (qC (pv 1) (qC qH qD)))) (qC qH qD))) (kW (n:=2) rfl (qQ (qL (i:=2) sc.nd rfl (Or.inl rfl)) (qQ (qL (i:=3) sc.nd rfl (Or.inr rfl)) kU)))) (qK (q8 (i:=4) sc.nd rfl (Or.inl rfl) (qV jD qH (qJ c__law_draw hr (qC (pv 1) (qC qH qD))))) (qK (zI (kH zL (qJ c__law_draw hr (qC (pv 1) (qC qH qD))) qH (kK _)) (qK (q8 (i:=2) sc.nd rfl (Or.inl rfl) (kF zP (zK (qC qH (qC qH (qC qH (qC qH qD))))) (qJ c__law_draw hr (qC (pv 1) (qC qH qD))) (fun _ _=>rfl))) (qI (yR (jK (qC (qV yU qH (pv 2)) (qC (qV jD qH (qJ c__law_draw hr (qC (pv 1) (qC qH qD)))) qD))) (kW (n:=2) rfl (qQ (qL (i:=3) sc.nd rfl (Or.inr rfl)) (qQ (qL (i:=4) sc.nd rfl (Or.inl rfl)) kU)))))) jJ) (qK (q8 (i:=5) sc.nd rfl (Or.inr rfl) (qV mulT0 (jK (qC qH qD)) (pv 2))) (qK (q8 (i:=6) sc.nd rfl (Or.inl rfl) (kX z9 rfl T.tuple_ jM (qC (jR (N:=["_law_hand", "_law_pot_here", "_law_sides", "_law_most"]) (fr:=[none,some 1,some 5,some 3]) rfl (jH rfl T.range_ (qC (pv 4) qD)) (CScope.of rfl rfl rfl) rfl (fun _ _ _=>⟨qL (i:=0) (show List.Nodup (α:=Str) ["_law_hand", "_law_pot_here", "_law_sides", "_law_most"] by decide +kernel) rfl (Or.inl rfl),kZ,qJ c__law_kind_want hr (qC (pv 1) (qC (pv 2) (qC (pv 3) qD)))⟩)) qD))) (qK (q8 (i:=7) sc.nd rfl (Or.inl rfl) (qJ c__law_kind_want hr (qC (pv 1) (qC (pv 5) (qC (pv 3) qD))))) (qK (ps_par (i:=8) (j:=9) rfl sc.nd rfl rfl (by decide) rfl rfl (qC (jK (qC (pv 5) (qC (pv 6) qD))) (qC (jK (qC (pv 5) (qC (qV catA0 (pv 6) (jK (qC (pv 7) qD))) qD))) qD)) rfl) (qK (zI (mF (yQ (qJ c__law_no_less hr (qC (kF zP (qJ c_rising hr (qC (pv 8) qD)) qH (fun _ _=>rfl)) (qC (kF zP (qJ c_rising hr (qC (pv 9) qD)) qH (fun _ _=>rfl)) qD))))) (qI (qP tF)) jJ) (qK (zI (mF (yQ (qJ c__law_no_less hr (qC (kF zP (qJ c_falling hr (qC (pv 8) qD)) qH (fun _ _=>rfl)) (qC (kF zP (qJ c_falling hr (qC (pv 9) qD)) qH (fun _ _=>rfl)) qD))))) (qI (qP tF)) jJ) (qK (q8 (i:=10) sc.nd rfl (Or.inl rfl) (qJ c_low_prices hr (qC (pv 8) qD))) (qK (zI (PW.pt (pw_or (mF (yQ (qJ c__law_no_less hr (qC (pv 10) (qC (qJ c_low_prices hr (qC (pv 9) qD)) qD))))) (pw_or1 (mF (yQ (qJ c__law_no_less hr (qC (qJ c_high_prices hr (qC (pv 8) qD)) (qC (qJ c_high_prices hr (qC (pv 9) qD)) qD)))))))) (qI (qP tF)) jJ) (qK (zI (kH (neT0 hr.units0) (kF zP (qJ c_rising_from hr (qC (pv 9) (qC (pv 10) qD))) qH (fun _ _=>rfl)) (qJ c_low_prices hr (qC (pv 9) qD)) (kK _)) (qI (qP tF)) jJ) (qK (zI (kH (neT0 hr.units0) (kF zP (qJ c_falling_from hr (qC (pv 8) (qC (qJ c_high_prices hr (qC (pv 9) qD)) qD))) qH (fun _ _=>rfl)) (qJ c_high_prices hr (qC (pv 8) qD)) (kK _)) (qI (qP tF)) jJ) (qI (qP (pe_chain op_le op_le (qJ c_greatest hr (qC (pv 8) qD)) (qJ c_greatest hr (qC (pv 9) qD)) (qV jD (qJ c_greatest hr (qC (pv 8) qD)) (qJ c_greatest_gain hr (qC (pv 7) (qC (pv 10) qD)))) rfl)))))))))))))))),?_⟩
  rw [show L2.start ["_law_script", "_law_pot_here", "_law_many", "_law_most", "_law_hands", "_law_sides", "_law_wants", "_law_more", "_law_fewer", "_law_town", "_law_low"] [.ref a] = [some (.ref a),none,none,none,none,none,none,none,none,none,none] from rfl]
  (push_cast only [])
  refine ⟨a,ns0,rfl,hq,fun p q' H1 n1 n1' s1 pt1=>?_⟩
  (push_cast only [])
  (simp only [qO])
  (push_cast only [])
  refine ⟨p,q',3,rfl,pt1,by decide,by decide,fun x1 H2a a1 b1 pt2a bt2=>⟨_,rfl,by decide,fun T1 H2 nT1 sT1 eT1=>⟨_,eT1,rfl,_,_,rfl,_,_,rfl,rfl,?_⟩⟩⟩
  have pt2:=pt2a.same sT1
  obtain ⟨y1,rfl⟩:=Br a1
  (simp only [qO])
  (push_cast only [])
  refine ⟨p,q',4,rfl,pt2,by decide,by decide,fun x2 H3 a2 b2 pt3 bt3=>⟨_,rfl,?_⟩⟩
  obtain ⟨y2,rfl⟩:=Br a2
  (simp only [qO])
  rw [aQ]
  generalize hct:(CtS.mk _)=ct
  have tail:∀ (m hn:Nat) (most:Int) (G:Hp),Pot G p q'→1 ≤ m→m ≤ 5→1 ≤ hn→hn ≤ 4→1 ≤ most→most ≤ 9→((m:Int) * most + kB most m) * (((hn + 1:Nat):Int) + (m:Int)) ≤ 399→@nD ct [some (.ref a),some (.ref p),some (.int (m:Int)),some (.int most),some (.int (hn:Int)),none,none,none,none,none,none] G:=fun m hn most G pt9 m1 m5 h1 h4 mo1 mo9 lim=>by
   subst hct
   (simp only [qO])
   (push_cast only [])
   refine ⟨by decide,fun z1 G1 nz1 sz1 ez1=>⟨m,rfl,_,ez1,by simp;omega,by omega,fun sa G2 sz2 esa=>?_⟩⟩
   rw [Z.rep_flat] at esa
   have pt2:=(pt9.same sz1).same sz2
   have s01:∀ x ∈ List.replicate m (0:Int),x=0∨x=1:=fun x hx=>.inl (Cb hx)
   have sl:(List.replicate m (0:Int)).length=m:=by simp
   generalize hss:List.replicate m (0:Int)=ss at esa s01 sl
   have nsp:=pt2.net esa
   (simp only [qO])
   (push_cast only [])
   refine ⟨by omega,by omega,fun c nc=>?_⟩
   have ncp:=pt2.ne nc
   have nsc:sa ≠ c:=qF esa nc
   refine zO (KTI p q' sa c ss most G2) ⟨none,[],rfl,rfl,(fun _ z=>by cases z),pt2.upd ncp.1 ncp.2,fun b o _ _ n e=>by rw [qT n];exact e,qG⟩ ?_ ?_
   ·rintro i σ H11 hi ⟨v,ts,rfl,tl,tb,pt11,k11,e11⟩
    have esa11:=k11 _ _ nsp.1 nsp.2 nsc esa
    (push_cast only [])
    refine ⟨p,q',sa,ss,most,rfl,pt11,esa11,by omega,by omega,s01,by omega,by omega,fun t ns H12 nl ext bd pt12 y12 e12=>?_⟩
    have e11':=y12 _ _ ncp.1.symm ncp.2.symm e11
    (push_cast only [e11'])
    refine ⟨qR (by omega),⟨_,ts ++ [(t,ns)],rfl,by simp [tl],fun x hx=>?_,pt12.upd ncp.1 ncp.2,fun b o n1 n2 n3 e=>by rw [qT n3];exact y12 _ _ n1 n2 (k11 b o n1 n2 n3 e),by rw [qG];simp⟩⟩
    rcases AG.mp hx with z | z
    ·obtain ⟨g1,g2⟩:=tb x z
     have g3:=y12 _ _ (pt11.net g1).1 (pt11.net g1).2 g1
     exact ⟨by rw [qT (fun y=>by rw [y,e11'] at g3;cases g3)];exact g3,g2⟩
    ·rw [AJ.mp z]
     have ntc:t ≠ c:=fun y=>by rw [y,e11'] at e12;cases e12
     exact ⟨by show upd H12 c _ t=_;rw [qT ntc];exact e12,nl,ext,bd⟩
   ·rintro σ H11 ⟨v,ts,rfl,tl,tb,pt11,k11,e11⟩
    have esa11:=k11 _ _ nsp.1 nsp.2 nsc esa
    rw [Ay] at tl
    refine ⟨_,e11,fun wt H12 n12 s12 e12=>?_⟩
    (simp only [qO])
    (push_cast only [])
    refine ⟨p,q',sa,ss,most,rfl,pt11.same s12,s12 _ _ esa11,by omega,by omega,s01,by omega,by omega,fun u us H13 ul uext ubd pt13 y13 eu=>?_⟩
    have net12:=fun {b:Addr} {l:List V} (e:H12 b=some (.tup l))=>y13 _ _ ((pt11.same s12).net e).1 ((pt11.same s12).net e).2 e
    have esa13:=net12 (s12 _ _ esa11)
    have ewt13:=net12 e12
    have tb13:TabE H13 ss ((ss.length:Int) * most + kB most ss.length) ts:=fun x hx=>⟨net12 (s12 _ _ (tb x hx).1),(tb x hx).2⟩
    (simp only [qO])
    (push_cast only [])
    refine ⟨by decide,fun t1 G3 n3 s3 e3=>⟨by decide,fun tu G4 n4 s4 e4=>⟨_,s4 _ _ (s3 _ _ ewt13),_,e4,B5 (qR (by simp;omega)),fun wt2 G5 s5 e5=>⟨by decide,fun t2 G6 n6 s6 e6=>?_⟩⟩⟩⟩
    have S36:=(s4.trans s5).trans s6
    have S13:=s3.trans S36
    have few:ts.length ≤ 4:=by omega
    have eF:d5 ss 1 ss.length=0:=by rw [← hss,AW];exact oE m m
    have esa6:=S13 _ _ esa13
    rw [uY (by omega) s01,eF,sl] at esa6
    have B0:0 ≤ (ss.length:Int) * most + kB most ss.length:=Int.add_nonneg (Cj (by omega) (by omega)) (by unfold kB;split <;> omega)
    rw [eF] at uext
    have all2:∀ x ∈ ts ++ [(u,us)],G6 x.1=some (.tup (x.2.map V.int))∧x.2.length=2 ^ m∧KX 0 m x.2∧Bd m ((m:Int) * most + kB most m) x.2:=fun x hx=>by
     rcases AG.mp hx with z | z
     ·obtain ⟨g1,g2,g3,g4⟩:=tb13 x z
      rw [eF,sl] at g3
      rw [sl] at g2 g4
      exact ⟨S13 _ _ g1,g2,g3,g4⟩
     ·rw [AJ.mp z]
      rw [sl] at ul uext ubd
      exact ⟨S13 _ _ eu,ul,uext,ubd⟩
    have z0:(0:Nat) < 2 ^ m:=As m
    rw [sl] at B0
    have lim2:((m:Int) * most + kB most m) * (((ts ++ [(u,us)]).length:Int) + (m:Int)) ≤ 399:=by
     rw [AD,AY,tl]
     exact lim
    have lim1:((m:Int) * most + kB most m) * ((ts.length:Int) + (m:Int)) ≤ 399:=By (Bn (show (ts.length:Int) + (m:Int) ≤ ((ts ++ [(u,us)]).length:Int) + (m:Int) by rw [AD,AY];omega) B0) lim2
    have R2:Rd ((ts ++ [(u,us)]).map fun t=>t.2) m 0 ((m:Int) * most + kB most m):=⟨m5,z0,(fun ws hw=>by
     obtain ⟨x,hx,rfl⟩:=Ae.mp hw
     exact (all2 x hx).2.1),(fun ws hw=>by
     obtain ⟨x,hx,rfl⟩:=Ae.mp hw
     exact (all2 x hx).2.2.1),(fun ws hw=>by
     obtain ⟨x,hx,rfl⟩:=Ae.mp hw
     exact (all2 x hx).2.2.2),by simp,B0,by rw [Ab];exact lim2⟩
    have tne:ts ≠ []:=by rintro rfl;simp at tl;omega
    have R1:Rd (ts.map fun t=>t.2) m 0 ((m:Int) * most + kB most m):=⟨m5,z0,(fun ws hw=>by
     obtain ⟨x,hx,rfl⟩:=Ae.mp hw
     exact (all2 x (AM _ hx)).2.1),(fun ws hw=>by
     obtain ⟨x,hx,rfl⟩:=Ae.mp hw
     exact (all2 x (AM _ hx)).2.2.1),(fun ws hw=>by
     obtain ⟨x,hx,rfl⟩:=Ae.mp hw
     exact (all2 x (AM _ hx)).2.2.2),by simpa using tne,B0,by rw [Ab];exact lim1⟩
    have row:∀ x ∈ ts ++ [(u,us)],G6 x.1=some (.tup (x.2.map V.int))∧x.2.length=2 ^ m∧∀ y ∈ x.2,0 ≤ y∧y ≤ 10000:=fun x hx=>by
     obtain ⟨g1,g2,_,g4⟩:=all2 x hx
     refine ⟨g1,g2,fun y hy=>?_⟩
     obtain ⟨k,hk,rfl⟩:=C7 hy
     have:=g4.2 k (by omega)
     rw [Aa,Am hk] at this
     have h2:0 ≤ x.2[k]∧x.2[k] ≤ (m:Int) * most + kB most m:=this
     have b1:((m:Int) * most + kB most m) * 1 ≤ 399:=By (Bn (show (1:Int) ≤ (ts.length:Int) + (m:Int) by omega) B0) lim1
     rw [Int.mul_one] at b1
     exact ⟨h2.1,By (By h2.2 b1) (by decide)⟩
    have e52:G6 wt2=some (.tup ((ts ++ [(u,us)]).map fun t=>V.ref t.1)):=by rw [s6 _ _ e5,A4];rfl
    have TN2:S.Tn G6 t2 sa wt2 (ts ++ [(u,us)]) m 0:=⟨⟨e6,e52,by simp;omega,m5,row⟩,esa6,z0,R2.kd,by simp⟩
    have TN1:S.Tn G6 t1 sa wt ts m 0:=⟨⟨S36 _ _ e3,S13 _ _ ewt13,by omega,m5,fun x hx=>row x (AM _ hx)⟩,esa6,z0,R1.kd,tne⟩
    have eu6:=S13 _ _ eu
    rw [sl] at ul
    have e2:((ts ++ [(u,us)]).map fun t=>t.2)=(ts.map fun t=>t.2) ++ [us]:=by rw [A4];rfl
    clear row all2 S36 S13 e3 e4 e5 e6 e52 esa6 tb13 ewt13 esa13
    revert TN1 TN2 eu6
    generalize G6=H0
    intro TN2 TN1 eu6
    (simp only [qO])
    (push_cast only [])
    have i1:∀ x y:Addr,vC [V.ref x,V.ref y] 1=some (V.ref y):=fun _ _=>rfl
    have bits0:∀ t,qA 0 t=false:=fun t=>by unfold qA;simp
    have bitsC:∀ t,t < m→qA (S.cpl m 0) t=true:=fun t ht=>by rw [S.cpl_facts m5 z0 ht,bits0];rfl
    refine ⟨t1,sa,wt,ts,m,0,rfl,TN1,fun top it=>R1.first 0 it,fun top1 du1 r1 pa H1 it1 s1 e1 r1' p1=>?_⟩
    have hs1:=qY e1
    (push_cast only [hs1,i1])
    refine ⟨t2,sa,wt2,ts ++ [(u,us)],m,0,rfl,TN2.same s1,fun top it=>R2.first 0 it,fun top2 du2 r2 pb H2 it2 s2 e2' r2' p2=>?_⟩
    have hs2:=qY e2'
    (push_cast only [hs2,i1])
    obtain ⟨Q1,L1⟩:=R1.low (.inl rfl) it1
    obtain ⟨Q2,L2⟩:=R2.low (.inl rfl) it2
    obtain ⟨Q3,L3⟩:=R1.low (.inr rfl) it1
    obtain ⟨Q4,L4⟩:=R2.low (.inr rfl) it2
    have bd1:=fun {q:List Int} (Q:IsMin (ts.map fun t=>t.2) m q)=>R1.bound (C:=0) it1 Q
    have bd2:=fun {q:List Int} (Q:IsMin ((ts ++ [(u,us)]).map fun t=>t.2) m q)=>R2.bound (C:=0) it2 Q
    have p1':=s2 _ _ p1
    revert p1' p2 Q1 L1 Q2 L2 Q3 L3 Q4 L4
    generalize hl1:(zE (ts.map fun t=>t.2) 0 399 (S.firstL 0 m top1)).2=low1
    generalize hl2:(zE ((ts ++ [(u,us)]).map fun t=>t.2) 0 399 (S.firstL 0 m top2)).2=low2
    generalize hh1:(zE (ts.map fun t=>t.2) (S.cpl m 0) 399 (S.firstL (S.cpl m 0) m top1)).2=high1
    generalize hh2:(zE ((ts ++ [(u,us)]).map fun t=>t.2) (S.cpl m 0) 399 (S.firstL (S.cpl m 0) m top2)).2=high2
    intro p2 Q1 L1 Q2 L2 Q3 L3 Q4 L4 p1'
    have lowLe:∀ t,t < m→low1.getD t 0 ≤ low2.getD t 0:=by
     have Q2':=Q2
     rw [e2] at Q2'
     exact more_low R1.tr Q1 L1 Q2'
    have highLe:∀ t,t < m→high1.getD t 0 ≤ high2.getD t 0:=by
     have Q4':=Q4
     have L4':=L4
     rw [e2] at Q4' L4'
     exact more_high bitsC R1.tr Q3 Q4' L4'
    refine ⟨pa,pb,low1,low2,rfl,p1',p2,by rw [Q1.len,Q2.len],by rw [Q1.len];exact m5,by rw [Q1.len];exact lowLe,fun H3 s3=>⟨_,rfl,?_⟩⟩
    rw [Aj (by decide)]
    (simp only [qO])
    (push_cast only [])
    have S13:=(s1.trans s2).trans s3
    refine ⟨t1,sa,wt,ts,m,0,rfl,TN1.same S13,fun top it=>R1.first _ it,fun top3 du3 r3 pc H4 it3 s4 e4 r3' p3=>?_⟩
    have:=it3.one it1
    subst this
    rw [hh1] at p3
    have hs4:=qY e4
    (push_cast only [hs4,i1])
    refine ⟨t2,sa,wt2,ts ++ [(u,us)],m,0,rfl,(TN2.same S13).same s4,fun top it=>R2.first _ it,fun top4 du4 r4 pd H5 it4 s5 e5 r4' p4=>?_⟩
    have:=it4.one it2
    subst this
    rw [hh2] at p4
    have hs5:=qY e5
    (push_cast only [hs5,i1])
    refine ⟨pc,pd,high1,high2,rfl,s5 _ _ p3,p4,by rw [Q3.len,Q4.len],by rw [Q3.len];exact m5,by rw [Q3.len];exact highLe,fun H6 s6=>⟨_,rfl,?_⟩⟩
    rw [Aj (by decide)]
    have S06:=((S13.trans s4).trans s5).trans s6
    clear hs1 hs2 hs4 hs5 e1 e2' e4 e5 r1' r2' r3' r4' p3 p4 p1' p2
    (simp only [qO])
    (push_cast only [])
    refine ⟨t1,sa,wt,ts,m,0,rfl,TN1.same S06,fun pl ns1 H7 nl1 P1 s7 e7=>?_⟩
    have:=R1.last (.inl rfl) Q1 L1 nl1 P1
    subst this
    (simp only [qO])
    (push_cast only [])
    have S07:=S06.trans s7
    refine ⟨t2,sa,wt2,ts ++ [(u,us)],m,0,rfl,TN2.same S07,fun pl2 ns2 H8 nl2 P2 s8 e8=>?_⟩
    have:=R2.last (.inl rfl) Q2 L2 nl2 P2
    subst this
    refine ⟨pl,pl2,ns1,ns2,rfl,s8 _ _ e7,e8,by rw [nl1,nl2],by rw [nl1];exact m5,by rw [nl1];exact lowLe,fun H9 s9=>⟨_,rfl,?_⟩⟩
    rw [Aj (by decide)]
    have S09:=(S07.trans s8).trans s9
    refine ⟨t1,sa,wt,ts,m,0,rfl,TN1.same S09,fun ph ns3 Ha nl3 P3 sa' ea=>?_⟩
    have:=R1.last (.inr rfl) Q3 L3 nl3 P3
    subst this
    refine ⟨t2,sa,wt2,ts ++ [(u,us)],m,0,rfl,TN2.same (S09.trans sa'),fun ph2 ns4 Hb nl4 P4 sb eb=>?_⟩
    have:=R2.last (.inr rfl) Q4 L4 nl4 P4
    subst this
    refine ⟨ph,ph2,ns3,ns4,rfl,sb _ _ ea,eb,by rw [nl3,nl4],by rw [nl3];exact m5,by rw [nl3];exact highLe,fun Hc sc'=>⟨_,rfl,?_⟩⟩
    rw [Aj (by decide)]
    have S0c:=((S09.trans sa').trans sb).trans sc'
    have ep:=(((s8.trans s9).trans sa').trans sb).trans sc'
    have epl:Hc pl=some (.tup (ns1.map V.int)):=ep _ _ e7
    clear e7 e8 ea eb
    (simp only [qO])
    (push_cast only [])
    have s1n:q5 (ts.map fun t=>t.2) ns1 ≤ 399:=by
     have:=(R1.first 0 it1).2.2
     have:=Q1.le _ (S.first_len 0 m top3) (fun x hx=>by have:=(R1.first 0 it1).1;rcases S.first_mem hx with z | z <;> omega)
     omega
    have s4n:q5 ((ts ++ [(u,us)]).map fun t=>t.2) ns4 ≤ 399:=by
     have:=(R2.first 0 it2).2.2
     have:=Q4.le _ (S.first_len 0 m top4) (fun x hx=>by have:=(R2.first 0 it2).1;rcases S.first_mem hx with z | z <;> omega)
     omega
    have usb:=R2.bd us (by rw [e2];exact A7 _ (List.mem_singleton_self us))
    have gB:=vmax_bd nl1 Q1.nn usb
    have B9:(m:Int) * most + kB most m ≤ 399:=by
     have b1:((m:Int) * most + kB most m) * 1 ≤ 399:=By (Bn (show (1:Int) ≤ (ts.length:Int) + (m:Int) by omega) B0) lim1
     rwa [Int.mul_one] at b1
    have g0:0 ≤ kE us ns1:=bO usb.1
    have sm:=z8 (ts.map fun t=>t.2) us ns1
    have sN:q5 ((ts ++ [(u,us)]).map fun t=>t.2) ns1 ≤ ((798:Nat):Int):=by
     rw [e2,sm]
     show _ ≤ (798:Int)
     generalize (m:Int) * most + kB most m=BB at gB B9
     omega
    have ru:=pY m5 z0 R2.kd R2.tr (fun ws hw=>by rw [(R2.bd ws hw).1];exact Aw _) Q2 798 ns1 nl1 Q1.nn sN (fun q Q t ht=>⟨fun c=>by
     have:=(L2 q Q t ht).1 c
     have:=lowLe t ht
     omega,fun c=>by rw [bits0] at c;cases c⟩)
    have re:=lP ru.1 ru.2 Q2 L2
    refine ⟨t2,sa,wt2,pl,ts ++ [(u,us)],ns1,0,798,rfl,by rw [nl1];exact TN2.same S0c,epl,(fun x hx=>by have:=bd1 Q1 x hx;omega),sN,by decide,fun ns nl P t ht=>?_,fun x1' r1' pr Hd sd ed rd pd=>?_⟩
    ·rw [nl1] at nl P ht
     have:=R2.last (.inl rfl) Q2 L2 nl P
     subst this
     exact ⟨fun _=>lowLe t ht,fun c=>by rw [bits0] at c;cases c⟩
    rw [re] at pd
    have hsd:=qY ed
    (push_cast only [hsd,i1])
    refine ⟨t2,sa,wt2,ts ++ [(u,us)],m,0,rfl,TN2.same (S0c.trans sd),fun pe ns5 He nl5 P5 se ee=>?_⟩
    have:=R2.last (.inl rfl) Q2 L2 nl5 P5
    subst this
    (push_cast only [])
    refine ⟨_,se _ _ pd,_,ee,?_⟩
    rw [Ar rfl,Aj (by decide)]
    have S0e:=(S0c.trans sd).trans se
    clear hsd ed rd pd ee
    (simp only [qO])
    (push_cast only [])
    refine ⟨t2,sa,wt2,ts ++ [(u,us)],m,0,rfl,TN2.same S0e,fun pf ns6 Hf nl6 P6 sf ef=>?_⟩
    have:=R2.last (.inr rfl) Q4 L4 nl6 P6
    subst this
    obtain ⟨hC,kC,tC⟩:=R1.cases (C:=S.cpl m 0) (.inr rfl)
    have sN2:q5 (ts.map fun t=>t.2) ns6 ≤ ((399:Nat):Int):=by
     have a:=z8 (ts.map fun t=>t.2) us ns6
     have b:=bO (ps:=ns6) usb.1
     rw [← e2] at a
     show _ ≤ (399:Int)
     omega
    have rf:=pY m5 hC kC tC (fun ws hw=>by rw [(R1.bd ws hw).1];exact Aw _) Q3 399 ns6 nl6 Q4.nn sN2 (fun q Q t ht=>⟨(fun c=>by rw [bitsC t ht] at c;cases c),fun c=>by
     have:=(L3 q Q t ht).2 c
     have:=highLe t ht
     omega⟩)
    have rg:=lP rf.1 rf.2 Q3 L3
    refine ⟨t1,sa,wt,pf,ts,ns6,0,399,rfl,by rw [nl6];exact TN1.same (S0e.trans sf),ef,(fun x hx=>by have:=bd2 Q4 x hx;omega),sN2,by decide,fun ns nl P t ht=>?_,fun x2' r2' pg Hg sg eg rg' pg'=>?_⟩
    ·rw [nl6] at nl P ht ⊢
     have:=R1.last (.inr rfl) Q3 L3 nl P
     subst this
     exact ⟨(fun c=>by rw [bitsC t ht] at c;cases c),fun _=>highLe t ht⟩
    rw [nl6,rg] at pg'
    have hsg:=qY eg
    (push_cast only [hsg,i1])
    refine ⟨t1,sa,wt,ts,m,0,rfl,TN1.same ((S0e.trans sf).trans sg),fun ph ns7 Hh nl7 P7 sh eh=>?_⟩
    have:=R1.last (.inr rfl) Q3 L3 nl7 P7
    subst this
    (push_cast only [])
    refine ⟨_,sh _ _ pg',_,eh,?_⟩
    rw [Ar rfl,Aj (by decide)]
    have S0h:=((S0e.trans sf).trans sg).trans sh
    have epl2:Hh pl=some (.tup (ns1.map V.int)):=sh _ _ (sg _ _ (sf _ _ (se _ _ (sd _ _ epl))))
    clear hsg eg rg' pg' eh ef
    (simp only [qO])
    (push_cast only [])
    have E1:=R1.ends.1
    have E2:=R2.ends.1
    have le1:Z.gsum m (ts.map fun t=>t.2) ≤ Z.gsum m ((ts ++ [(u,us)]).map fun t=>t.2):=by
     have a:=E1.ge ns5 Q2.len Q2.nn
     have b:=z8 (ts.map fun t=>t.2) us ns5
     have c:=bO (ps:=ns5) usb.1
     rw [← e2,E2.min ns5 Q2] at b
     omega
    have le2:Z.gsum m ((ts ++ [(u,us)]).map fun t=>t.2) ≤ Z.gsum m (ts.map fun t=>t.2) + kE us ns1:=by
     have a:=E2.ge ns1 Q1.len Q1.nn
     rw [e2,sm,E1.min ns1 Q1,← e2] at a
     exact a
    refine ⟨t1,sa,wt,m,_,ts,rfl,Z.tn_town (TN1.same S0h),fun I1 j1=>?_⟩
    refine ⟨t2,sa,wt2,m,_,ts ++ [(u,us)],rfl,Z.tn_town (TN2.same (S0h.trans j1)),fun I2 j2=>⟨_,rfl,_,rfl,?_⟩⟩
    rw [Ak (show (Z.dpL m (ts.map fun t=>t.2)).getD (2 ^ m - 1) 0 ≤ (Z.dpL m ((ts ++ [(u,us)]).map fun t=>t.2)).getD (2 ^ m - 1) 0 from le1)]
    refine ⟨t1,sa,wt,m,_,ts,rfl,Z.tn_town (TN1.same ((S0h.trans j1).trans j2)),fun I3 j3=>?_⟩
    have J:=(j1.trans j2).trans j3
    refine ⟨u,pl,us,ns1,rfl,J _ _ (S0h _ _ eu6),J _ _ epl2,by omega,by rw [nl1];exact ul,fun g I4 j4 hg hgx=>?_⟩
    obtain ⟨v1,v2⟩:=S.top_vmax (ws:=us) (ns:=ns1) (by omega) (by rw [nl1];exact ul)
    have eg:g=kE us ns1:=Int.le_antisymm (v2 g hg) (hgx _ v1)
    subst eg
    refine ⟨_,rfl,_,rfl,_,rfl,?_⟩
    rw [Ar (show (Z.dpL m ((ts ++ [(u,us)]).map fun t=>t.2)).getD (2 ^ m - 1) 0 ≤ (Z.dpL m (ts.map fun t=>t.2)).getD (2 ^ m - 1) 0 + kE us ns1 from le2)]
    exact q I4
  (push_cast only [])
  refine ⟨p,q',8,rfl,pt3,by decide,by decide,fun x5 H5 a5 b5 pt5 bt5=>⟨rfl,?_⟩⟩
  split
  ·refine ⟨by decide,fun L2 H6 n6 s6 e6=>?_⟩
   have nL2:=pt5.ne n6
   refine ⟨p,q',4,rfl,pt5.same s6,by decide,by decide,fun x7 H7 a7 b7 pt7 bt7=>?_⟩
   have hs7:=jC (bt7.y _ _ nL2.1.symm nL2.2.symm e6)
   obtain ⟨m7,hm7,m45⟩:=pick4s (Pd:=fun x=>x=4∨x=5) a7 b7 (a:=4) (b:=4) (c:=4) (d:=5) (.inl rfl) (.inl rfl) (.inl rfl) (.inr rfl)
   refine ⟨_,_,rfl,hs7,_,hm7,?_⟩
   (simp only [qO])
   (push_cast only [])
   refine ⟨p,q',2,rfl,pt7,by decide,by decide,fun x8 H8a a8 b8 pt8a bt8=>⟨_,rfl,by decide,fun T2 H8 nT2 sT2 eT2=>⟨_,eT2,rfl,_,_,rfl,_,_,rfl,rfl,?_⟩⟩⟩
   have pt8:=pt8a.same sT2
   obtain ⟨y8,rfl⟩:=Br a8
   have l:=lim45b m45 (show y8 < 2 by omega)
   rcases m45 with rfl | rfl
   ·exact tail 4 (1 + y8) 2 H8 pt8 (by decide) (by decide) (by omega) (by omega) (by decide) (by decide) l.1
   ·exact tail 5 (1 + y8) 1 H8 pt8 (by decide) (by decide) (by omega) (by omega) (by decide) (by decide) l.2
  ·exact tail (1 + y1) (1 + y2) 8 H5 pt5 (by omega) (by omega) (by omega) (by omega) (by decide) (by decide) (lim8 (by omega) (by omega))
end
theorem all_mk {l:W.OpenLaw}{w:World}{K:W.Frag}{h:Heap}{mg:Str→Option Value}{fa:Addr}(X:K.In h)(G:h.Ns mainGlobals mg)(hfa:mg "law"=some (.ref fa))
  {f0:Addr} {od0 an0:Option Addr} {sl0:Array (Option Value)} {oc0 kV0 dc0 pm0 cd0 ct0:Value}
  (a0:W.nsIn K mainGlobals "has"=some (some (.ref f0))) (l0:K.lookup f0=some ⟨oc0,od0,.func (W.fnOf "has" "has" (qN s_has) (qM s_has) (qE s_has) .none kV0 dc0 pm0 an0 cd0 ct0),sl0⟩) (c0:W.codeIn K cd0 "has"=true) (k0:W.keepIn K (.ref f0)=true)
  {f1:Addr} {od1 an1:Option Addr} {sl1:Array (Option Value)} {oc1 kV1 dc1 pm1 cd1 ct1:Value}
  (a1:W.nsIn K mainGlobals "put_in"=some (some (.ref f1))) (l1:K.lookup f1=some ⟨oc1,od1,.func (W.fnOf "put_in" "put_in" (qN s_put_in) (qM s_put_in) (qE s_put_in) .none kV1 dc1 pm1 an1 cd1 ct1),sl1⟩) (c1:W.codeIn K cd1 "put_in"=true) (k1:W.keepIn K (.ref f1)=true)
  {f2:Addr} {od2 an2:Option Addr} {sl2:Array (Option Value)} {oc2 kV2 dc2 pm2 cd2 ct2:Value}
  (a2:W.nsIn K mainGlobals "taken_out"=some (some (.ref f2))) (l2:K.lookup f2=some ⟨oc2,od2,.func (W.fnOf "taken_out" "taken_out" (qN s_taken_out) (qM s_taken_out) (qE s_taken_out) .none kV2 dc2 pm2 an2 cd2 ct2),sl2⟩) (c2:W.codeIn K cd2 "taken_out"=true) (k2:W.keepIn K (.ref f2)=true)
  {f3:Addr} {od3 an3:Option Addr} {sl3:Array (Option Value)} {oc3 kV3 dc3 pm3 cd3 ct3:Value}
  (a3:W.nsIn K mainGlobals "less"=some (some (.ref f3))) (l3:K.lookup f3=some ⟨oc3,od3,.func (W.fnOf "less" "less" (qN s_less) (qM s_less) (qE s_less) .none kV3 dc3 pm3 an3 cd3 ct3),sl3⟩) (c3:W.codeIn K cd3 "less"=true) (k3:W.keepIn K (.ref f3)=true)
  {f4:Addr} {od4 an4:Option Addr} {sl4:Array (Option Value)} {oc4 kV4 dc4 pm4 cd4 ct4:Value}
  (a4:W.nsIn K mainGlobals "heap_of"=some (some (.ref f4))) (l4:K.lookup f4=some ⟨oc4,od4,.func (W.fnOf "heap_of" "heap_of" (qN s_heap_of) (qM s_heap_of) (qE s_heap_of) .none kV4 dc4 pm4 an4 cd4 ct4),sl4⟩) (c4:W.codeIn K cd4 "heap_of"=true) (k4:W.keepIn K (.ref f4)=true)
  {f5:Addr} {od5 an5:Option Addr} {sl5:Array (Option Value)} {oc5 kV5 dc5 pm5 cd5 ct5:Value}
  (a5:W.nsIn K mainGlobals "is_within"=some (some (.ref f5))) (l5:K.lookup f5=some ⟨oc5,od5,.func (W.fnOf "is_within" "is_within" (qN s_is_within) (qM s_is_within) (qE s_is_within) .none kV5 dc5 pm5 an5 cd5 ct5),sl5⟩) (c5:W.codeIn K cd5 "is_within"=true) (k5:W.keepIn K (.ref f5)=true)
  {f6:Addr} {od6 an6:Option Addr} {sl6:Array (Option Value)} {oc6 kV6 dc6 pm6 cd6 ct6:Value}
  (a6:W.nsIn K mainGlobals "heap_of_side"=some (some (.ref f6))) (l6:K.lookup f6=some ⟨oc6,od6,.func (W.fnOf "heap_of_side" "heap_of_side" (qN s_heap_of_side) (qM s_heap_of_side) (qE s_heap_of_side) .none kV6 dc6 pm6 an6 cd6 ct6),sl6⟩) (c6:W.codeIn K cd6 "heap_of_side"=true) (k6:W.keepIn K (.ref f6)=true)
  {f7:Addr} {od7 an7:Option Addr} {sl7:Array (Option Value)} {oc7 kV7 dc7 pm7 cd7 ct7:Value}
  (a7:W.nsIn K mainGlobals "turned"=some (some (.ref f7))) (l7:K.lookup f7=some ⟨oc7,od7,.func (W.fnOf "turned" "turned" (qN s_turned) (qM s_turned) (qE s_turned) .none kV7 dc7 pm7 an7 cd7 ct7),sl7⟩) (c7:W.codeIn K cd7 "turned"=true) (k7:W.keepIn K (.ref f7)=true)
  {f8:Addr} {od8 an8:Option Addr} {sl8:Array (Option Value)} {oc8 kV8 dc8 pm8 cd8 ct8:Value}
  (a8:W.nsIn K mainGlobals "breaking"=some (some (.ref f8))) (l8:K.lookup f8=some ⟨oc8,od8,.func (W.fnOf "breaking" "breaking" (qN s_breaking) (qM s_breaking) (qE s_breaking) .none kV8 dc8 pm8 an8 cd8 ct8),sl8⟩) (c8:W.codeIn K cd8 "breaking"=true) (k8:W.keepIn K (.ref f8)=true)
  {f9:Addr} {od9 an9:Option Addr} {sl9:Array (Option Value)} {oc9 kV9 dc9 pm9 cd9 ct9:Value}
  (a9:W.nsIn K mainGlobals "first_pair"=some (some (.ref f9))) (l9:K.lookup f9=some ⟨oc9,od9,.func (W.fnOf "first_pair" "first_pair" (qN s_first_pair) (qM s_first_pair) (qE s_first_pair) .none kV9 dc9 pm9 an9 cd9 ct9),sl9⟩) (c9:W.codeIn K cd9 "first_pair"=true) (k9:W.keepIn K (.ref f9)=true)
  {f10:Addr} {od10 an10:Option Addr} {sl10:Array (Option Value)} {oc10 kV10 dc10 pm10 cd10 ct10:Value}
  (a10:W.nsIn K mainGlobals "first_three"=some (some (.ref f10))) (l10:K.lookup f10=some ⟨oc10,od10,.func (W.fnOf "first_three" "first_three" (qN s_first_three) (qM s_first_three) (qE s_first_three) .none kV10 dc10 pm10 an10 cd10 ct10),sl10⟩) (c10:W.codeIn K cd10 "first_three"=true) (k10:W.keepIn K (.ref f10)=true)
  {f11:Addr} {od11 an11:Option Addr} {sl11:Array (Option Value)} {oc11 kV11 dc11 pm11 cd11 ct11:Value}
  (a11:W.nsIn K mainGlobals "things_beside"=some (some (.ref f11))) (l11:K.lookup f11=some ⟨oc11,od11,.func (W.fnOf "things_beside" "things_beside" (qN s_things_beside) (qM s_things_beside) (qE s_things_beside) .none kV11 dc11 pm11 an11 cd11 ct11),sl11⟩) (c11:W.codeIn K cd11 "things_beside"=true) (k11:W.keepIn K (.ref f11)=true)
  {f12:Addr} {od12 an12:Option Addr} {sl12:Array (Option Value)} {oc12 kV12 dc12 pm12 cd12 ct12:Value}
  (a12:W.nsIn K mainGlobals "pairs_beside"=some (some (.ref f12))) (l12:K.lookup f12=some ⟨oc12,od12,.func (W.fnOf "pairs_beside" "pairs_beside" (qN s_pairs_beside) (qM s_pairs_beside) (qE s_pairs_beside) .none kV12 dc12 pm12 an12 cd12 ct12),sl12⟩) (c12:W.codeIn K cd12 "pairs_beside"=true) (k12:W.keepIn K (.ref f12)=true)
  {f13:Addr} {od13 an13:Option Addr} {sl13:Array (Option Value)} {oc13 kV13 dc13 pm13 cd13 ct13:Value}
  (a13:W.nsIn K mainGlobals "pair_breaks"=some (some (.ref f13))) (l13:K.lookup f13=some ⟨oc13,od13,.func (W.fnOf "pair_breaks" "pair_breaks" (qN s_pair_breaks) (qM s_pair_breaks) (qE s_pair_breaks) .none kV13 dc13 pm13 an13 cd13 ct13),sl13⟩) (c13:W.codeIn K cd13 "pair_breaks"=true) (k13:W.keepIn K (.ref f13)=true)
  {f14:Addr} {od14 an14:Option Addr} {sl14:Array (Option Value)} {oc14 kV14 dc14 pm14 cd14 ct14:Value}
  (a14:W.nsIn K mainGlobals "three_break"=some (some (.ref f14))) (l14:K.lookup f14=some ⟨oc14,od14,.func (W.fnOf "three_break" "three_break" (qN s_three_break) (qM s_three_break) (qE s_three_break) .none kV14 dc14 pm14 an14 cd14 ct14),sl14⟩) (c14:W.codeIn K cd14 "three_break"=true) (k14:W.keepIn K (.ref f14)=true)
  {f15:Addr} {od15 an15:Option Addr} {sl15:Array (Option Value)} {oc15 kV15 dc15 pm15 cd15 ct15:Value}
  (a15:W.nsIn K mainGlobals "parted"=some (some (.ref f15))) (l15:K.lookup f15=some ⟨oc15,od15,.func (W.fnOf "parted" "parted" (qN s_parted) (qM s_parted) (qE s_parted) .none kV15 dc15 pm15 an15 cd15 ct15),sl15⟩) (c15:W.codeIn K cd15 "parted"=true) (k15:W.keepIn K (.ref f15)=true)
  {f16:Addr} {od16 an16:Option Addr} {sl16:Array (Option Value)} {oc16 kV16 dc16 pm16 cd16 ct16:Value}
  (a16:W.nsIn K mainGlobals "first_strange"=some (some (.ref f16))) (l16:K.lookup f16=some ⟨oc16,od16,.func (W.fnOf "first_strange" "first_strange" (qN s_first_strange) (qM s_first_strange) (qE s_first_strange) .none kV16 dc16 pm16 an16 cd16 ct16),sl16⟩) (c16:W.codeIn K cd16 "first_strange"=true) (k16:W.keepIn K (.ref f16)=true)
  {f17:Addr} {od17 an17:Option Addr} {sl17:Array (Option Value)} {oc17 kV17 dc17 pm17 cd17 ct17:Value}
  (a17:W.nsIn K mainGlobals "refuse_strange"=some (some (.ref f17))) (l17:K.lookup f17=some ⟨oc17,od17,.func (W.fnOf "refuse_strange" "refuse_strange" (qN s_refuse_strange) (qM s_refuse_strange) (qE s_refuse_strange) .none kV17 dc17 pm17 an17 cd17 ct17),sl17⟩) (c17:W.codeIn K cd17 "refuse_strange"=true) (k17:W.keepIn K (.ref f17)=true)
  {f18:Addr} {od18 an18:Option Addr} {sl18:Array (Option Value)} {oc18 kV18 dc18 pm18 cd18 ct18:Value}
  (a18:W.nsIn K mainGlobals "joined"=some (some (.ref f18))) (l18:K.lookup f18=some ⟨oc18,od18,.func (W.fnOf "joined" "joined" (qN s_joined) (qM s_joined) (qE s_joined) .none kV18 dc18 pm18 an18 cd18 ct18),sl18⟩) (c18:W.codeIn K cd18 "joined"=true) (k18:W.keepIn K (.ref f18)=true)
  {f19:Addr} {od19 an19:Option Addr} {sl19:Array (Option Value)} {oc19 kV19 dc19 pm19 cd19 ct19:Value}
  (a19:W.nsIn K mainGlobals "most_parted"=some (some (.ref f19))) (l19:K.lookup f19=some ⟨oc19,od19,.func (W.fnOf "most_parted" "most_parted" (qN s_most_parted) (qM s_most_parted) (qE s_most_parted) .none kV19 dc19 pm19 an19 cd19 ct19),sl19⟩) (c19:W.codeIn K cd19 "most_parted"=true) (k19:W.keepIn K (.ref f19)=true)
  {f20:Addr} {od20 an20:Option Addr} {sl20:Array (Option Value)} {oc20 kV20 dc20 pm20 cd20 ct20:Value}
  (a20:W.nsIn K mainGlobals "with_want"=some (some (.ref f20))) (l20:K.lookup f20=some ⟨oc20,od20,.func (W.fnOf "with_want" "with_want" (qN s_with_want) (qM s_with_want) (qE s_with_want) .none kV20 dc20 pm20 an20 cd20 ct20),sl20⟩) (c20:W.codeIn K cd20 "with_want"=true) (k20:W.keepIn K (.ref f20)=true)
  {f21:Addr} {od21 an21:Option Addr} {sl21:Array (Option Value)} {oc21 kV21 dc21 pm21 cd21 ct21:Value}
  (a21:W.nsIn K mainGlobals "greatest"=some (some (.ref f21))) (l21:K.lookup f21=some ⟨oc21,od21,.func (W.fnOf "greatest" "greatest" (qN s_greatest) (qM s_greatest) (qE s_greatest) .none kV21 dc21 pm21 an21 cd21 ct21),sl21⟩) (c21:W.codeIn K cd21 "greatest"=true) (k21:W.keepIn K (.ref f21)=true)
  {f22:Addr} {od22 an22:Option Addr} {sl22:Array (Option Value)} {oc22 kV22 dc22 pm22 cd22 ct22:Value}
  (a22:W.nsIn K mainGlobals "greatest_of"=some (some (.ref f22))) (l22:K.lookup f22=some ⟨oc22,od22,.func (W.fnOf "greatest_of" "greatest_of" (qN s_greatest_of) (qM s_greatest_of) (qE s_greatest_of) .none kV22 dc22 pm22 an22 cd22 ct22),sl22⟩) (c22:W.codeIn K cd22 "greatest_of"=true) (k22:W.keepIn K (.ref f22)=true)
  {f23:Addr} {od23 an23:Option Addr} {sl23:Array (Option Value)} {oc23 kV23 dc23 pm23 cd23 ct23:Value}
  (a23:W.nsIn K mainGlobals "greatest_with_two"=some (some (.ref f23))) (l23:K.lookup f23=some ⟨oc23,od23,.func (W.fnOf "greatest_with_two" "greatest_with_two" (qN s_greatest_with_two) (qM s_greatest_with_two) (qE s_greatest_with_two) .none kV23 dc23 pm23 an23 cd23 ct23),sl23⟩) (c23:W.codeIn K cd23 "greatest_with_two"=true) (k23:W.keepIn K (.ref f23)=true)
  {f24:Addr} {od24 an24:Option Addr} {sl24:Array (Option Value)} {oc24 kV24 dc24 pm24 cd24 ct24:Value}
  (a24:W.nsIn K mainGlobals "greatest_sums"=some (some (.ref f24))) (l24:K.lookup f24=some ⟨oc24,od24,.func (W.fnOf "greatest_sums" "greatest_sums" (qN s_greatest_sums) (qM s_greatest_sums) (qE s_greatest_sums) .none kV24 dc24 pm24 an24 cd24 ct24),sl24⟩) (c24:W.codeIn K cd24 "greatest_sums"=true) (k24:W.keepIn K (.ref f24)=true)
  {f25:Addr} {od25 an25:Option Addr} {sl25:Array (Option Value)} {oc25 kV25 dc25 pm25 cd25 ct25:Value}
  (a25:W.nsIn K mainGlobals "with_one_more"=some (some (.ref f25))) (l25:K.lookup f25=some ⟨oc25,od25,.func (W.fnOf "with_one_more" "with_one_more" (qN s_with_one_more) (qM s_with_one_more) (qE s_with_one_more) .none kV25 dc25 pm25 an25 cd25 ct25),sl25⟩) (c25:W.codeIn K cd25 "with_one_more"=true) (k25:W.keepIn K (.ref f25)=true)
  {f26:Addr} {od26 an26:Option Addr} {sl26:Array (Option Value)} {oc26 kV26 dc26 pm26 cd26 ct26:Value}
  (a26:W.nsIn K mainGlobals "costs"=some (some (.ref f26))) (l26:K.lookup f26=some ⟨oc26,od26,.func (W.fnOf "costs" "costs" (qN s_costs) (qM s_costs) (qE s_costs) .none kV26 dc26 pm26 an26 cd26 ct26),sl26⟩) (c26:W.codeIn K cd26 "costs"=true) (k26:W.keepIn K (.ref f26)=true)
  {f27:Addr} {od27 an27:Option Addr} {sl27:Array (Option Value)} {oc27 kV27 dc27 pm27 cd27 ct27:Value}
  (a27:W.nsIn K mainGlobals "gains"=some (some (.ref f27))) (l27:K.lookup f27=some ⟨oc27,od27,.func (W.fnOf "gains" "gains" (qN s_gains) (qM s_gains) (qE s_gains) .none kV27 dc27 pm27 an27 cd27 ct27),sl27⟩) (c27:W.codeIn K cd27 "gains"=true) (k27:W.keepIn K (.ref f27)=true)
  {f28:Addr} {od28 an28:Option Addr} {sl28:Array (Option Value)} {oc28 kV28 dc28 pm28 cd28 ct28:Value}
  (a28:W.nsIn K mainGlobals "greatest_gain"=some (some (.ref f28))) (l28:K.lookup f28=some ⟨oc28,od28,.func (W.fnOf "greatest_gain" "greatest_gain" (qN s_greatest_gain) (qM s_greatest_gain) (qE s_greatest_gain) .none kV28 dc28 pm28 an28 cd28 ct28),sl28⟩) (c28:W.codeIn K cd28 "greatest_gain"=true) (k28:W.keepIn K (.ref f28)=true)
  {f29:Addr} {od29 an29:Option Addr} {sl29:Array (Option Value)} {oc29 kV29 dc29 pm29 cd29 ct29:Value}
  (a29:W.nsIn K mainGlobals "best_heaps"=some (some (.ref f29))) (l29:K.lookup f29=some ⟨oc29,od29,.func (W.fnOf "best_heaps" "best_heaps" (qN s_best_heaps) (qM s_best_heaps) (qE s_best_heaps) .none kV29 dc29 pm29 an29 cd29 ct29),sl29⟩) (c29:W.codeIn K cd29 "best_heaps"=true) (k29:W.keepIn K (.ref f29)=true)
  {f30:Addr} {od30 an30:Option Addr} {sl30:Array (Option Value)} {oc30 kV30 dc30 pm30 cd30 ct30:Value}
  (a30:W.nsIn K mainGlobals "in_parts"=some (some (.ref f30))) (l30:K.lookup f30=some ⟨oc30,od30,.func (W.fnOf "in_parts" "in_parts" (qN s_in_parts) (qM s_in_parts) (qE s_in_parts) .none kV30 dc30 pm30 an30 cd30 ct30),sl30⟩) (c30:W.codeIn K cd30 "in_parts"=true) (k30:W.keepIn K (.ref f30)=true)
  {f31:Addr} {od31 an31:Option Addr} {sl31:Array (Option Value)} {oc31 kV31 dc31 pm31 cd31 ct31:Value}
  (a31:W.nsIn K mainGlobals "surplus"=some (some (.ref f31))) (l31:K.lookup f31=some ⟨oc31,od31,.func (W.fnOf "surplus" "surplus" (qN s_surplus) (qM s_surplus) (qE s_surplus) .none kV31 dc31 pm31 an31 cd31 ct31),sl31⟩) (c31:W.codeIn K cd31 "surplus"=true) (k31:W.keepIn K (.ref f31)=true)
  {f32:Addr} {od32 an32:Option Addr} {sl32:Array (Option Value)} {oc32 kV32 dc32 pm32 cd32 ct32:Value}
  (a32:W.nsIn K mainGlobals "stepped"=some (some (.ref f32))) (l32:K.lookup f32=some ⟨oc32,od32,.func (W.fnOf "stepped" "stepped" (qN s_stepped) (qM s_stepped) (qE s_stepped) .none kV32 dc32 pm32 an32 cd32 ct32),sl32⟩) (c32:W.codeIn K cd32 "stepped"=true) (k32:W.keepIn K (.ref f32)=true)
  {f33:Addr} {od33 an33:Option Addr} {sl33:Array (Option Value)} {oc33 kV33 dc33 pm33 cd33 ct33:Value}
  (a33:W.nsIn K mainGlobals "step_of"=some (some (.ref f33))) (l33:K.lookup f33=some ⟨oc33,od33,.func (W.fnOf "step_of" "step_of" (qN s_step_of) (qM s_step_of) (qE s_step_of) .none kV33 dc33 pm33 an33 cd33 ct33),sl33⟩) (c33:W.codeIn K cd33 "step_of"=true) (k33:W.keepIn K (.ref f33)=true)
  {f34:Addr} {od34 an34:Option Addr} {sl34:Array (Option Value)} {oc34 kV34 dc34 pm34 cd34 ct34:Value}
  (a34:W.nsIn K mainGlobals "heaps_that_may"=some (some (.ref f34))) (l34:K.lookup f34=some ⟨oc34,od34,.func (W.fnOf "heaps_that_may" "heaps_that_may" (qN s_heaps_that_may) (qM s_heaps_that_may) (qE s_heaps_that_may) .none kV34 dc34 pm34 an34 cd34 ct34),sl34⟩) (c34:W.codeIn K cd34 "heaps_that_may"=true) (k34:W.keepIn K (.ref f34)=true)
  {f35:Addr} {od35 an35:Option Addr} {sl35:Array (Option Value)} {oc35 kV35 dc35 pm35 cd35 ct35:Value}
  (a35:W.nsIn K mainGlobals "other_way"=some (some (.ref f35))) (l35:K.lookup f35=some ⟨oc35,od35,.func (W.fnOf "other_way" "other_way" (qN s_other_way) (qM s_other_way) (qE s_other_way) .none kV35 dc35 pm35 an35 cd35 ct35),sl35⟩) (c35:W.codeIn K cd35 "other_way"=true) (k35:W.keepIn K (.ref f35)=true)
  {f36:Addr} {od36 an36:Option Addr} {sl36:Array (Option Value)} {oc36 kV36 dc36 pm36 cd36 ct36:Value}
  (a36:W.nsIn K mainGlobals "other_sides"=some (some (.ref f36))) (l36:K.lookup f36=some ⟨oc36,od36,.func (W.fnOf "other_sides" "other_sides" (qN s_other_sides) (qM s_other_sides) (qE s_other_sides) .none kV36 dc36 pm36 an36 cd36 ct36),sl36⟩) (c36:W.codeIn K cd36 "other_sides"=true) (k36:W.keepIn K (.ref f36)=true)
  {f37:Addr} {od37 an37:Option Addr} {sl37:Array (Option Value)} {oc37 kV37 dc37 pm37 cd37 ct37:Value}
  (a37:W.nsIn K mainGlobals "rising"=some (some (.ref f37))) (l37:K.lookup f37=some ⟨oc37,od37,.func (W.fnOf "rising" "rising" (qN s_rising) (qM s_rising) (qE s_rising) .none kV37 dc37 pm37 an37 cd37 ct37),sl37⟩) (c37:W.codeIn K cd37 "rising"=true) (k37:W.keepIn K (.ref f37)=true)
  {f38:Addr} {od38 an38:Option Addr} {sl38:Array (Option Value)} {oc38 kV38 dc38 pm38 cd38 ct38:Value}
  (a38:W.nsIn K mainGlobals "falling"=some (some (.ref f38))) (l38:K.lookup f38=some ⟨oc38,od38,.func (W.fnOf "falling" "falling" (qN s_falling) (qM s_falling) (qE s_falling) .none kV38 dc38 pm38 an38 cd38 ct38),sl38⟩) (c38:W.codeIn K cd38 "falling"=true) (k38:W.keepIn K (.ref f38)=true)
  {f39:Addr} {od39 an39:Option Addr} {sl39:Array (Option Value)} {oc39 kV39 dc39 pm39 cd39 ct39:Value}
  (a39:W.nsIn K mainGlobals "steps_of"=some (some (.ref f39))) (l39:K.lookup f39=some ⟨oc39,od39,.func (W.fnOf "steps_of" "steps_of" (qN s_steps_of) (qM s_steps_of) (qE s_steps_of) .none kV39 dc39 pm39 an39 cd39 ct39),sl39⟩) (c39:W.codeIn K cd39 "steps_of"=true) (k39:W.keepIn K (.ref f39)=true)
  {f40:Addr} {od40 an40:Option Addr} {sl40:Array (Option Value)} {oc40 kV40 dc40 pm40 cd40 ct40:Value}
  (a40:W.nsIn K mainGlobals "first_prices"=some (some (.ref f40))) (l40:K.lookup f40=some ⟨oc40,od40,.func (W.fnOf "first_prices" "first_prices" (qN s_first_prices) (qM s_first_prices) (qE s_first_prices) .none kV40 dc40 pm40 an40 cd40 ct40),sl40⟩) (c40:W.codeIn K cd40 "first_prices"=true) (k40:W.keepIn K (.ref f40)=true)
  {f41:Addr} {od41 an41:Option Addr} {sl41:Array (Option Value)} {oc41 kV41 dc41 pm41 cd41 ct41:Value}
  (a41:W.nsIn K mainGlobals "steps_on"=some (some (.ref f41))) (l41:K.lookup f41=some ⟨oc41,od41,.func (W.fnOf "steps_on" "steps_on" (qN s_steps_on) (qM s_steps_on) (qE s_steps_on) .none kV41 dc41 pm41 an41 cd41 ct41),sl41⟩) (c41:W.codeIn K cd41 "steps_on"=true) (k41:W.keepIn K (.ref f41)=true)
  {f42:Addr} {od42 an42:Option Addr} {sl42:Array (Option Value)} {oc42 kV42 dc42 pm42 cd42 ct42:Value}
  (a42:W.nsIn K mainGlobals "ground_of"=some (some (.ref f42))) (l42:K.lookup f42=some ⟨oc42,od42,.func (W.fnOf "ground_of" "ground_of" (qN s_ground_of) (qM s_ground_of) (qE s_ground_of) .none kV42 dc42 pm42 an42 cd42 ct42),sl42⟩) (c42:W.codeIn K cd42 "ground_of"=true) (k42:W.keepIn K (.ref f42)=true)
  {f43:Addr} {od43 an43:Option Addr} {sl43:Array (Option Value)} {oc43 kV43 dc43 pm43 cd43 ct43:Value}
  (a43:W.nsIn K mainGlobals "next_step"=some (some (.ref f43))) (l43:K.lookup f43=some ⟨oc43,od43,.func (W.fnOf "next_step" "next_step" (qN s_next_step) (qM s_next_step) (qE s_next_step) .none kV43 dc43 pm43 an43 cd43 ct43),sl43⟩) (c43:W.codeIn K cd43 "next_step"=true) (k43:W.keepIn K (.ref f43)=true)
  {f44:Addr} {od44 an44:Option Addr} {sl44:Array (Option Value)} {oc44 kV44 dc44 pm44 cd44 ct44:Value}
  (a44:W.nsIn K mainGlobals "least_price"=some (some (.ref f44))) (l44:K.lookup f44=some ⟨oc44,od44,.func (W.fnOf "least_price" "least_price" (qN s_least_price) (qM s_least_price) (qE s_least_price) .none kV44 dc44 pm44 an44 cd44 ct44),sl44⟩) (c44:W.codeIn K cd44 "least_price"=true) (k44:W.keepIn K (.ref f44)=true)
  {f45:Addr} {od45 an45:Option Addr} {sl45:Array (Option Value)} {oc45 kV45 dc45 pm45 cd45 ct45:Value}
  (a45:W.nsIn K mainGlobals "greatest_price"=some (some (.ref f45))) (l45:K.lookup f45=some ⟨oc45,od45,.func (W.fnOf "greatest_price" "greatest_price" (qN s_greatest_price) (qM s_greatest_price) (qE s_greatest_price) .none kV45 dc45 pm45 an45 cd45 ct45),sl45⟩) (c45:W.codeIn K cd45 "greatest_price"=true) (k45:W.keepIn K (.ref f45)=true)
  {f46:Addr} {od46 an46:Option Addr} {sl46:Array (Option Value)} {oc46 kV46 dc46 pm46 cd46 ct46:Value}
  (a46:W.nsIn K mainGlobals "low_prices"=some (some (.ref f46))) (l46:K.lookup f46=some ⟨oc46,od46,.func (W.fnOf "low_prices" "low_prices" (qN s_low_prices) (qM s_low_prices) (qE s_low_prices) .none kV46 dc46 pm46 an46 cd46 ct46),sl46⟩) (c46:W.codeIn K cd46 "low_prices"=true) (k46:W.keepIn K (.ref f46)=true)
  {f47:Addr} {od47 an47:Option Addr} {sl47:Array (Option Value)} {oc47 kV47 dc47 pm47 cd47 ct47:Value}
  (a47:W.nsIn K mainGlobals "high_prices"=some (some (.ref f47))) (l47:K.lookup f47=some ⟨oc47,od47,.func (W.fnOf "high_prices" "high_prices" (qN s_high_prices) (qM s_high_prices) (qE s_high_prices) .none kV47 dc47 pm47 an47 cd47 ct47),sl47⟩) (c47:W.codeIn K cd47 "high_prices"=true) (k47:W.keepIn K (.ref f47)=true)
  {f48:Addr} {od48 an48:Option Addr} {sl48:Array (Option Value)} {oc48 kV48 dc48 pm48 cd48 ct48:Value}
  (a48:W.nsIn K mainGlobals "last_prices"=some (some (.ref f48))) (l48:K.lookup f48=some ⟨oc48,od48,.func (W.fnOf "last_prices" "last_prices" (qN s_last_prices) (qM s_last_prices) (qE s_last_prices) .none kV48 dc48 pm48 an48 cd48 ct48),sl48⟩) (c48:W.codeIn K cd48 "last_prices"=true) (k48:W.keepIn K (.ref f48)=true)
  {f49:Addr} {od49 an49:Option Addr} {sl49:Array (Option Value)} {oc49 kV49 dc49 pm49 cd49 ct49:Value}
  (a49:W.nsIn K mainGlobals "rising_from"=some (some (.ref f49))) (l49:K.lookup f49=some ⟨oc49,od49,.func (W.fnOf "rising_from" "rising_from" (qN s_rising_from) (qM s_rising_from) (qE s_rising_from) .none kV49 dc49 pm49 an49 cd49 ct49),sl49⟩) (c49:W.codeIn K cd49 "rising_from"=true) (k49:W.keepIn K (.ref f49)=true)
  {f50:Addr} {od50 an50:Option Addr} {sl50:Array (Option Value)} {oc50 kV50 dc50 pm50 cd50 ct50:Value}
  (a50:W.nsIn K mainGlobals "falling_from"=some (some (.ref f50))) (l50:K.lookup f50=some ⟨oc50,od50,.func (W.fnOf "falling_from" "falling_from" (qN s_falling_from) (qM s_falling_from) (qE s_falling_from) .none kV50 dc50 pm50 an50 cd50 ct50),sl50⟩) (c50:W.codeIn K cd50 "falling_from"=true) (k50:W.keepIn K (.ref f50)=true)
  {f51:Addr} {od51 an51:Option Addr} {sl51:Array (Option Value)} {oc51 kV51 dc51 pm51 cd51 ct51:Value}
  (a51:W.nsIn K mainGlobals "steps_on_to_the_last"=some (some (.ref f51))) (l51:K.lookup f51=some ⟨oc51,od51,.func (W.fnOf "steps_on_to_the_last" "steps_on_to_the_last" (qN s_steps_on_to_the_last) (qM s_steps_on_to_the_last) (qE s_steps_on_to_the_last) .none kV51 dc51 pm51 an51 cd51 ct51),sl51⟩) (c51:W.codeIn K cd51 "steps_on_to_the_last"=true) (k51:W.keepIn K (.ref f51)=true)
  {f52:Addr} {od52 an52:Option Addr} {sl52:Array (Option Value)} {oc52 kV52 dc52 pm52 cd52 ct52:Value}
  (a52:W.nsIn K mainGlobals "lies_beyond"=some (some (.ref f52))) (l52:K.lookup f52=some ⟨oc52,od52,.func (W.fnOf "lies_beyond" "lies_beyond" (qN s_lies_beyond) (qM s_lies_beyond) (qE s_lies_beyond) .none kV52 dc52 pm52 an52 cd52 ct52),sl52⟩) (c52:W.codeIn K cd52 "lies_beyond"=true) (k52:W.keepIn K (.ref f52)=true)
  {f53:Addr} {od53 an53:Option Addr} {sl53:Array (Option Value)} {oc53 kV53 dc53 pm53 cd53 ct53:Value}
  (a53:W.nsIn K mainGlobals "_law_stirred"=some (some (.ref f53))) (l53:K.lookup f53=some ⟨oc53,od53,.func (W.fnOf "_law_stirred" "_law_stirred" (qN s__law_stirred) (qM s__law_stirred) (qE s__law_stirred) .none kV53 dc53 pm53 an53 cd53 ct53),sl53⟩) (c53:W.codeIn K cd53 "_law_stirred"=true) (k53:W.keepIn K (.ref f53)=true)
  {f54:Addr} {od54 an54:Option Addr} {sl54:Array (Option Value)} {oc54 kV54 dc54 pm54 cd54 ct54:Value}
  (a54:W.nsIn K mainGlobals "_law_pot"=some (some (.ref f54))) (l54:K.lookup f54=some ⟨oc54,od54,.func (W.fnOf "_law_pot" "_law_pot" (qN s__law_pot) (qM s__law_pot) (qE s__law_pot) .none kV54 dc54 pm54 an54 cd54 ct54),sl54⟩) (c54:W.codeIn K cd54 "_law_pot"=true) (k54:W.keepIn K (.ref f54)=true)
  {f55:Addr} {od55 an55:Option Addr} {sl55:Array (Option Value)} {oc55 kV55 dc55 pm55 cd55 ct55:Value}
  (a55:W.nsIn K mainGlobals "_law_draw"=some (some (.ref f55))) (l55:K.lookup f55=some ⟨oc55,od55,.func (W.fnOf "_law_draw" "_law_draw" (qN s__law_draw) (qM s__law_draw) (qE s__law_draw) .none kV55 dc55 pm55 an55 cd55 ct55),sl55⟩) (c55:W.codeIn K cd55 "_law_draw"=true) (k55:W.keepIn K (.ref f55)=true)
  {f56:Addr} {od56 an56:Option Addr} {sl56:Array (Option Value)} {oc56 kV56 dc56 pm56 cd56 ct56:Value}
  (a56:W.nsIn K mainGlobals "_law_costs"=some (some (.ref f56))) (l56:K.lookup f56=some ⟨oc56,od56,.func (W.fnOf "_law_costs" "_law_costs" (qN s__law_costs) (qM s__law_costs) (qE s__law_costs) .none kV56 dc56 pm56 an56 cd56 ct56),sl56⟩) (c56:W.codeIn K cd56 "_law_costs"=true) (k56:W.keepIn K (.ref f56)=true)
  {f57:Addr} {od57 an57:Option Addr} {sl57:Array (Option Value)} {oc57 kV57 dc57 pm57 cd57 ct57:Value}
  (a57:W.nsIn K mainGlobals "_law_bits"=some (some (.ref f57))) (l57:K.lookup f57=some ⟨oc57,od57,.func (W.fnOf "_law_bits" "_law_bits" (qN s__law_bits) (qM s__law_bits) (qE s__law_bits) .none kV57 dc57 pm57 an57 cd57 ct57),sl57⟩) (c57:W.codeIn K cd57 "_law_bits"=true) (k57:W.keepIn K (.ref f57)=true)
  {f58:Addr} {od58 an58:Option Addr} {sl58:Array (Option Value)} {oc58 kV58 dc58 pm58 cd58 ct58:Value}
  (a58:W.nsIn K mainGlobals "_law_some"=some (some (.ref f58))) (l58:K.lookup f58=some ⟨oc58,od58,.func (W.fnOf "_law_some" "_law_some" (qN s__law_some) (qM s__law_some) (qE s__law_some) .none kV58 dc58 pm58 an58 cd58 ct58),sl58⟩) (c58:W.codeIn K cd58 "_law_some"=true) (k58:W.keepIn K (.ref f58)=true)
  {f59:Addr} {od59 an59:Option Addr} {sl59:Array (Option Value)} {oc59 kV59 dc59 pm59 cd59 ct59:Value}
  (a59:W.nsIn K mainGlobals "_law_paired"=some (some (.ref f59))) (l59:K.lookup f59=some ⟨oc59,od59,.func (W.fnOf "_law_paired" "_law_paired" (qN s__law_paired) (qM s__law_paired) (qE s__law_paired) .none kV59 dc59 pm59 an59 cd59 ct59),sl59⟩) (c59:W.codeIn K cd59 "_law_paired"=true) (k59:W.keepIn K (.ref f59)=true)
  {f60:Addr} {od60 an60:Option Addr} {sl60:Array (Option Value)} {oc60 kV60 dc60 pm60 cd60 ct60:Value}
  (a60:W.nsIn K mainGlobals "_law_joined"=some (some (.ref f60))) (l60:K.lookup f60=some ⟨oc60,od60,.func (W.fnOf "_law_joined" "_law_joined" (qN s__law_joined) (qM s__law_joined) (qE s__law_joined) .none kV60 dc60 pm60 an60 cd60 ct60),sl60⟩) (c60:W.codeIn K cd60 "_law_joined"=true) (k60:W.keepIn K (.ref f60)=true)
  {f61:Addr} {od61 an61:Option Addr} {sl61:Array (Option Value)} {oc61 kV61 dc61 pm61 cd61 ct61:Value}
  (a61:W.nsIn K mainGlobals "_law_kind_want"=some (some (.ref f61))) (l61:K.lookup f61=some ⟨oc61,od61,.func (W.fnOf "_law_kind_want" "_law_kind_want" (qN s__law_kind_want) (qM s__law_kind_want) (qE s__law_kind_want) .none kV61 dc61 pm61 an61 cd61 ct61),sl61⟩) (c61:W.codeIn K cd61 "_law_kind_want"=true) (k61:W.keepIn K (.ref f61)=true)
  {f62:Addr} {od62 an62:Option Addr} {sl62:Array (Option Value)} {oc62 kV62 dc62 pm62 cd62 ct62:Value}
  (a62:W.nsIn K mainGlobals "_law_no_less"=some (some (.ref f62))) (l62:K.lookup f62=some ⟨oc62,od62,.func (W.fnOf "_law_no_less" "_law_no_less" (qN s__law_no_less) (qM s__law_no_less) (qE s__law_no_less) .none kV62 dc62 pm62 an62 cd62 ct62),sl62⟩) (c62:W.codeIn K cd62 "_law_no_less"=true) (k62:W.keepIn K (.ref f62)=true)
  {f63:Addr} {od63 an63:Option Addr} {sl63:Array (Option Value)} {oc63 kV63 dc63 pm63 cd63 ct63:Value}
  (a63:W.nsIn K mainGlobals "law"=some (some (.ref f63))) (l63:K.lookup f63=some ⟨oc63,od63,.func (W.fnOf "law" "law" (qN s_law) (qM s_law) (qE s_law) .none kV63 dc63 pm63 an63 cd63 ct63),sl63⟩) (c63:W.codeIn K cd63 "law"=true) (k63:W.keepIn K (.ref f63)=true)
  (z_len:W.nsIn K mainGlobals "len"=some none)
  (z_sum:W.nsIn K mainGlobals "sum"=some none)
  (z_isinstance:W.nsIn K mainGlobals "isinstance"=some none)
  (z_abs:W.nsIn K mainGlobals "abs"=some none)
  (z_max:W.nsIn K mainGlobals "max"=some none)
  (z_range:W.nsIn K mainGlobals "range"=some none)
  (z_tuple:W.nsIn K mainGlobals "tuple"=some none)
  (z_list:W.nsIn K mainGlobals "list"=some none)
  (z_sorted:W.nsIn K mainGlobals "sorted"=some none)
  (z_int:W.nsIn K mainGlobals "int"=some none)
  (z_bool:W.nsIn K mainGlobals "bool"=some none)
  (z_zip:W.nsIn K mainGlobals "zip"=some none)
  (z_min:W.nsIn K mainGlobals "min"=some none)
  (z_all:W.nsIn K mainGlobals "all"=some none)
  (z_enumerate:W.nsIn K mainGlobals "enumerate"=some none)
  : ∃ fd:FuncData,(∀ (s:Shared) (v:Value),BindsTo s fd ⟨[v],[]⟩ [("_law_script",v)])∧∀ base:Heap,K.In base→base.Ns mainGlobals mg→FnOk l.prog w K mg base CX0 12 fa fd ["_law_script"] (pU K):=by
 have e:=hfa.symm.trans (A5 X G a63)
 cases e
 have T:Txt mg:=⟨Bh X G z_len,Bh X G z_sum,Bh X G z_isinstance,Bh X G z_abs,Bh X G z_max,Bh X G z_range,Bh X G z_tuple,Bh X G z_list,Bh X G z_sorted,Bh X G z_int,Bh X G z_bool,Bh X G z_zip,Bh X G z_min,Bh X G z_all,Bh X G z_enumerate⟩
 have F_has:=qU (st:=s_has) l0 c0 k0
 have m_has:=A5 X G a0
 have b_has:=F_has.binds (ps:=["heap", "thing"]) fun _ _ _ _ _ _=>vP (fun _ _=>rfl)
 have F_put_in:=qU (st:=s_put_in) l1 c1 k1
 have m_put_in:=A5 X G a1
 have b_put_in:=F_put_in.binds (ps:=["heap", "thing"]) fun _ _ _ _ _ _=>vP (fun _ _=>rfl)
 have F_taken_out:=qU (st:=s_taken_out) l2 c2 k2
 have m_taken_out:=A5 X G a2
 have b_taken_out:=F_taken_out.binds (ps:=["heap", "thing"]) fun _ _ _ _ _ _=>vP (fun _ _=>rfl)
 have F_less:=qU (st:=s_less) l3 c3 k3
 have m_less:=A5 X G a3
 have b_less:=F_less.binds (ps:=["one", "other"]) fun _ _ _ _ _ _=>vP (fun _ _=>rfl)
 have F_heap_of:=qU (st:=s_heap_of) l4 c4 k4
 have m_heap_of:=A5 X G a4
 have b_heap_of:=F_heap_of.binds (ps:=["things"]) fun _ _ _ _ _ _=>nM (fun _=>rfl)
 have F_is_within:=qU (st:=s_is_within) l5 c5 k5
 have m_is_within:=A5 X G a5
 have b_is_within:=F_is_within.binds (ps:=["one", "other"]) fun _ _ _ _ _ _=>vP (fun _ _=>rfl)
 have F_heap_of_side:=qU (st:=s_heap_of_side) l6 c6 k6
 have m_heap_of_side:=A5 X G a6
 have b_heap_of_side:=F_heap_of_side.binds (ps:=["sides", "side"]) fun _ _ _ _ _ _=>vP (fun _ _=>rfl)
 have F_turned:=qU (st:=s_turned) l7 c7 k7
 have m_turned:=A5 X G a7
 have b_turned:=F_turned.binds (ps:=["want", "sides"]) fun _ _ _ _ _ _=>vP (fun _ _=>rfl)
 have F_breaking:=qU (st:=s_breaking) l8 c8 k8
 have m_breaking:=A5 X G a8
 have b_breaking:=F_breaking.binds (ps:=["want", "sides"]) fun _ _ _ _ _ _=>vP (fun _ _=>rfl)
 have F_first_pair:=qU (st:=s_first_pair) l9 c9 k9
 have m_first_pair:=A5 X G a9
 have b_first_pair:=F_first_pair.binds (ps:=["worths", "many"]) fun _ _ _ _ _ _=>vP (fun _ _=>rfl)
 have F_first_three:=qU (st:=s_first_three) l10 c10 k10
 have m_first_three:=A5 X G a10
 have b_first_three:=F_first_three.binds (ps:=["worths", "many"]) fun _ _ _ _ _ _=>vP (fun _ _=>rfl)
 have F_things_beside:=qU (st:=s_things_beside) l11 c11 k11
 have m_things_beside:=A5 X G a11
 have b_things_beside:=F_things_beside.binds (ps:=["heap", "many"]) fun _ _ _ _ _ _=>vP (fun _ _=>rfl)
 have F_pairs_beside:=qU (st:=s_pairs_beside) l12 c12 k12
 have m_pairs_beside:=A5 X G a12
 have b_pairs_beside:=F_pairs_beside.binds (ps:=["heap", "many"]) fun _ _ _ _ _ _=>vP (fun _ _=>rfl)
 have F_pair_breaks:=qU (st:=s_pair_breaks) l13 c13 k13
 have m_pair_breaks:=A5 X G a13
 have b_pair_breaks:=F_pair_breaks.binds (ps:=["worths", "heap", "i", "j"]) fun _ _ _ _ _ _=>us4 (fun _ _ _ _=>rfl)
 have F_three_break:=qU (st:=s_three_break) l14 c14 k14
 have m_three_break:=A5 X G a14
 have b_three_break:=F_three_break.binds (ps:=["worths", "heap", "i", "j", "k"]) fun _ _ _ _ _ _=>us5 (fun _ _ _ _ _=>rfl)
 have F_parted:=qU (st:=s_parted) l15 c15 k15
 have m_parted:=A5 X G a15
 have b_parted:=F_parted.binds (ps:=["worths", "heap", "one", "other", "third"]) fun _ _ _ _ _ _=>us5 (fun _ _ _ _ _=>rfl)
 have F_first_strange:=qU (st:=s_first_strange) l16 c16 k16
 have m_first_strange:=A5 X G a16
 have b_first_strange:=F_first_strange.binds (ps:=["town"]) fun _ _ _ _ _ _=>nM (fun _=>rfl)
 have F_refuse_strange:=qU (st:=s_refuse_strange) l17 c17 k17
 have m_refuse_strange:=A5 X G a17
 have b_refuse_strange:=F_refuse_strange.binds (ps:=["town"]) fun _ _ _ _ _ _=>nM (fun _=>rfl)
 have F_joined:=qU (st:=s_joined) l18 c18 k18
 have m_joined:=A5 X G a18
 have b_joined:=F_joined.binds (ps:=["one", "other"]) fun _ _ _ _ _ _=>vP (fun _ _=>rfl)
 have F_most_parted:=qU (st:=s_most_parted) l19 c19 k19
 have m_most_parted:=A5 X G a19
 have b_most_parted:=F_most_parted.binds (ps:=["one", "other", "heap"]) fun _ _ _ _ _ _=>us3 (fun _ _ _=>rfl)
 have F_with_want:=qU (st:=s_with_want) l20 c20 k20
 have m_with_want:=A5 X G a20
 have b_with_want:=F_with_want.binds (ps:=["town", "hand", "want"]) fun _ _ _ _ _ _=>us3 (fun _ _ _=>rfl)
 have F_greatest:=qU (st:=s_greatest) l21 c21 k21
 have m_greatest:=A5 X G a21
 have b_greatest:=F_greatest.binds (ps:=["town"]) fun _ _ _ _ _ _=>nM (fun _=>rfl)
 have F_greatest_of:=qU (st:=s_greatest_of) l22 c22 k22
 have m_greatest_of:=A5 X G a22
 have b_greatest_of:=F_greatest_of.binds (ps:=["town", "heap"]) fun _ _ _ _ _ _=>vP (fun _ _=>rfl)
 have F_greatest_with_two:=qU (st:=s_greatest_with_two) l23 c23 k23
 have m_greatest_with_two:=A5 X G a23
 have b_greatest_with_two:=F_greatest_with_two.binds (ps:=["town", "thing"]) fun _ _ _ _ _ _=>vP (fun _ _=>rfl)
 have F_greatest_sums:=qU (st:=s_greatest_sums) l24 c24 k24
 have m_greatest_sums:=A5 X G a24
 have b_greatest_sums:=F_greatest_sums.binds (ps:=["wants", "many"]) fun _ _ _ _ _ _=>vP (fun _ _=>rfl)
 have F_with_one_more:=qU (st:=s_with_one_more) l25 c25 k25
 have m_with_one_more:=A5 X G a25
 have b_with_one_more:=F_with_one_more.binds (ps:=["want", "thing"]) fun _ _ _ _ _ _=>vP (fun _ _=>rfl)
 have F_costs:=qU (st:=s_costs) l26 c26 k26
 have m_costs:=A5 X G a26
 have b_costs:=F_costs.binds (ps:=["prices"]) fun _ _ _ _ _ _=>nM (fun _=>rfl)
 have F_gains:=qU (st:=s_gains) l27 c27 k27
 have m_gains:=A5 X G a27
 have b_gains:=F_gains.binds (ps:=["want", "prices"]) fun _ _ _ _ _ _=>vP (fun _ _=>rfl)
 have F_greatest_gain:=qU (st:=s_greatest_gain) l28 c28 k28
 have m_greatest_gain:=A5 X G a28
 have b_greatest_gain:=F_greatest_gain.binds (ps:=["want", "prices"]) fun _ _ _ _ _ _=>vP (fun _ _=>rfl)
 have F_best_heaps:=qU (st:=s_best_heaps) l29 c29 k29
 have m_best_heaps:=A5 X G a29
 have b_best_heaps:=F_best_heaps.binds (ps:=["want", "prices"]) fun _ _ _ _ _ _=>vP (fun _ _=>rfl)
 have F_in_parts:=qU (st:=s_in_parts) l30 c30 k30
 have m_in_parts:=A5 X G a30
 have b_in_parts:=F_in_parts.binds (ps:=["want", "by"]) fun _ _ _ _ _ _=>vP (fun _ _=>rfl)
 have F_surplus:=qU (st:=s_surplus) l31 c31 k31
 have m_surplus:=A5 X G a31
 have b_surplus:=F_surplus.binds (ps:=["town", "by", "numbers"]) fun _ _ _ _ _ _=>us3 (fun _ _ _=>rfl)
 have F_stepped:=qU (st:=s_stepped) l32 c32 k32
 have m_stepped:=A5 X G a32
 have b_stepped:=F_stepped.binds (ps:=["sides", "prices", "heap"]) fun _ _ _ _ _ _=>us3 (fun _ _ _=>rfl)
 have F_step_of:=qU (st:=s_step_of) l33 c33 k33
 have m_step_of:=A5 X G a33
 have b_step_of:=F_step_of.binds (ps:=["side"]) fun _ _ _ _ _ _=>nM (fun _=>rfl)
 have F_heaps_that_may:=qU (st:=s_heaps_that_may) l34 c34 k34
 have m_heaps_that_may:=A5 X G a34
 have b_heaps_that_may:=F_heaps_that_may.binds (ps:=["sides", "prices"]) fun _ _ _ _ _ _=>vP (fun _ _=>rfl)
 have F_other_way:=qU (st:=s_other_way) l35 c35 k35
 have m_other_way:=A5 X G a35
 have b_other_way:=F_other_way.binds (ps:=["town"]) fun _ _ _ _ _ _=>nM (fun _=>rfl)
 have F_other_sides:=qU (st:=s_other_sides) l36 c36 k36
 have m_other_sides:=A5 X G a36
 have b_other_sides:=F_other_sides.binds (ps:=["sides"]) fun _ _ _ _ _ _=>nM (fun _=>rfl)
 have F_rising:=qU (st:=s_rising) l37 c37 k37
 have m_rising:=A5 X G a37
 have b_rising:=F_rising.binds (ps:=["town"]) fun _ _ _ _ _ _=>nM (fun _=>rfl)
 have F_falling:=qU (st:=s_falling) l38 c38 k38
 have m_falling:=A5 X G a38
 have b_falling:=F_falling.binds (ps:=["town"]) fun _ _ _ _ _ _=>nM (fun _=>rfl)
 have F_steps_of:=qU (st:=s_steps_of) l39 c39 k39
 have m_steps_of:=A5 X G a39
 have b_steps_of:=F_steps_of.binds (ps:=["town"]) fun _ _ _ _ _ _=>nM (fun _=>rfl)
 have F_first_prices:=qU (st:=s_first_prices) l40 c40 k40
 have m_first_prices:=A5 X G a40
 have b_first_prices:=F_first_prices.binds (ps:=["town"]) fun _ _ _ _ _ _=>nM (fun _=>rfl)
 have F_steps_on:=qU (st:=s_steps_on) l41 c41 k41
 have m_steps_on:=A5 X G a41
 have b_steps_on:=F_steps_on.binds (ps:=["town", "prices"]) fun _ _ _ _ _ _=>vP (fun _ _=>rfl)
 have F_ground_of:=qU (st:=s_ground_of) l42 c42 k42
 have m_ground_of:=A5 X G a42
 have b_ground_of:=F_ground_of.binds (ps:=["town", "prices"]) fun _ _ _ _ _ _=>vP (fun _ _=>rfl)
 have F_next_step:=qU (st:=s_next_step) l43 c43 k43
 have m_next_step:=A5 X G a43
 have b_next_step:=F_next_step.binds (ps:=["town", "prices"]) fun _ _ _ _ _ _=>vP (fun _ _=>rfl)
 have F_least_price:=qU (st:=s_least_price) l44 c44 k44
 have m_least_price:=A5 X G a44
 have b_least_price:=F_least_price.binds (ps:=["town", "thing"]) fun _ _ _ _ _ _=>vP (fun _ _=>rfl)
 have F_greatest_price:=qU (st:=s_greatest_price) l45 c45 k45
 have m_greatest_price:=A5 X G a45
 have b_greatest_price:=F_greatest_price.binds (ps:=["town", "thing"]) fun _ _ _ _ _ _=>vP (fun _ _=>rfl)
 have F_low_prices:=qU (st:=s_low_prices) l46 c46 k46
 have m_low_prices:=A5 X G a46
 have b_low_prices:=F_low_prices.binds (ps:=["town"]) fun _ _ _ _ _ _=>nM (fun _=>rfl)
 have F_high_prices:=qU (st:=s_high_prices) l47 c47 k47
 have m_high_prices:=A5 X G a47
 have b_high_prices:=F_high_prices.binds (ps:=["town"]) fun _ _ _ _ _ _=>nM (fun _=>rfl)
 have F_last_prices:=qU (st:=s_last_prices) l48 c48 k48
 have m_last_prices:=A5 X G a48
 have b_last_prices:=F_last_prices.binds (ps:=["town"]) fun _ _ _ _ _ _=>nM (fun _=>rfl)
 have F_rising_from:=qU (st:=s_rising_from) l49 c49 k49
 have m_rising_from:=A5 X G a49
 have b_rising_from:=F_rising_from.binds (ps:=["town", "prices"]) fun _ _ _ _ _ _=>vP (fun _ _=>rfl)
 have F_falling_from:=qU (st:=s_falling_from) l50 c50 k50
 have m_falling_from:=A5 X G a50
 have b_falling_from:=F_falling_from.binds (ps:=["town", "prices"]) fun _ _ _ _ _ _=>vP (fun _ _=>rfl)
 have F_steps_on_to_the_last:=qU (st:=s_steps_on_to_the_last) l51 c51 k51
 have m_steps_on_to_the_last:=A5 X G a51
 have b_steps_on_to_the_last:=F_steps_on_to_the_last.binds (ps:=["town", "prices"]) fun _ _ _ _ _ _=>vP (fun _ _=>rfl)
 have F_lies_beyond:=qU (st:=s_lies_beyond) l52 c52 k52
 have m_lies_beyond:=A5 X G a52
 have b_lies_beyond:=F_lies_beyond.binds (ps:=["side", "price", "last"]) fun _ _ _ _ _ _=>us3 (fun _ _ _=>rfl)
 have FLstirred:=qU (st:=s__law_stirred) l53 c53 k53
 have mLstirred:=A5 X G a53
 have bLstirred:=FLstirred.binds (ps:=["_law_number", "_law_turn"]) fun _ _ _ _ _ _=>vP (fun _ _=>rfl)
 have FLpot:=qU (st:=s__law_pot) l54 c54 k54
 have mLpot:=A5 X G a54
 have bLpot:=FLpot.binds (ps:=["_law_script"]) fun _ _ _ _ _ _=>nM (fun _=>rfl)
 have FLdraw:=qU (st:=s__law_draw) l55 c55 k55
 have mLdraw:=A5 X G a55
 have bLdraw:=FLdraw.binds (ps:=["_law_pot_here", "_law_many"]) fun _ _ _ _ _ _=>vP (fun _ _=>rfl)
 have FLcosts:=qU (st:=s__law_costs) l56 c56 k56
 have mLcosts:=A5 X G a56
 have bLcosts:=FLcosts.binds (ps:=["_law_prices"]) fun _ _ _ _ _ _=>nM (fun _=>rfl)
 have FLbits:=qU (st:=s__law_bits) l57 c57 k57
 have mLbits:=A5 X G a57
 have bLbits:=FLbits.binds (ps:=["_law_many"]) fun _ _ _ _ _ _=>nM (fun _=>rfl)
 have FLsome:=qU (st:=s__law_some) l58 c58 k58
 have mLsome:=A5 X G a58
 have bLsome:=FLsome.binds (ps:=["_law_worths", "_law_many"]) fun _ _ _ _ _ _=>vP (fun _ _=>rfl)
 have FLpaired:=qU (st:=s__law_paired) l59 c59 k59
 have mLpaired:=A5 X G a59
 have bLpaired:=FLpaired.binds (ps:=["_law_many", "_law_rows"]) fun _ _ _ _ _ _=>vP (fun _ _=>rfl)
 have FLjoined:=qU (st:=s__law_joined) l60 c60 k60
 have mLjoined:=A5 X G a60
 have bLjoined:=FLjoined.binds (ps:=["_law_one", "_law_other"]) fun _ _ _ _ _ _=>vP (fun _ _=>rfl)
 have FLkind_want:=qU (st:=s__law_kind_want) l61 c61 k61
 have mLkind_want:=A5 X G a61
 have bLkind_want:=FLkind_want.binds (ps:=["_law_pot_here", "_law_sides", "_law_most"]) fun _ _ _ _ _ _=>us3 (fun _ _ _=>rfl)
 have FLno_less:=qU (st:=s__law_no_less) l62 c62 k62
 have mLno_less:=A5 X G a62
 have bLno_less:=FLno_less.binds (ps:=["_law_some_here", "_law_others"]) fun _ _ _ _ _ _=>vP (fun _ _=>rfl)
 have F_law:=qU (st:=s_law) l63 c63 k63
 have m_law:=A5 X G a63
 have b_law:=F_law.binds (ps:=["_law_script"]) fun _ _ _ _ _ _=>nM (fun _=>rfl)
 refine ⟨W.fnOf "law" "law" (qN s_law) (qM s_law) (qE s_law) .none kV63 dc63 pm63 an63 cd63 ct63,fun s v=>.of_eq rfl,fun base _ _=>?_⟩
 have c_stir:=ok_stir (P:=l.prog) (w:=w) (base:=base) FLstirred mLstirred bLstirred T
 have c_pot:=ok_pot (P:=l.prog) (w:=w) (base:=base) FLpot mLpot bLpot T
 have c_draw:=ok_draw (P:=l.prog) (w:=w) (base:=base) FLdraw mLdraw bLdraw T c_stir
 have c_lcosts:=nG (P:=l.prog) (w:=w) (base:=base) FLcosts mLcosts bLcosts T
 have c_costs:=ok_costs (P:=l.prog) (w:=w) (base:=base) F_costs m_costs b_costs T
 have c_bits:=ok_bits (P:=l.prog) (w:=w) (base:=base) FLbits mLbits bLbits T
 have c_gains:=ok_gains (P:=l.prog) (w:=w) (base:=base) F_gains m_gains b_gains T c_costs
 have fn_best:=ok_best (P:=l.prog) (w:=w) (base:=base) F_best_heaps T c_gains
 have c_best:=m8 (P:=l.prog) (w:=w) (base:=base) F_best_heaps fn_best m_best_heaps b_best_heaps
 have fn_great:=ok_great (P:=l.prog) (w:=w) (base:=base) F_greatest_gain T c_gains
 have c_great:=m8 (P:=l.prog) (w:=w) (base:=base) F_greatest_gain fn_great m_greatest_gain b_greatest_gain
 have c_together:=tI (P:=l.prog) (w:=w) (base:=base) FLjoined mLjoined bLjoined T
 have c_some:=ok_some (P:=l.prog) (w:=w) (base:=base) FLsome mLsome bLsome T c_lcosts c_bits
 have c_paired:=ok_paired (P:=l.prog) (w:=w) (base:=base) FLpaired mLpaired bLpaired T c_lcosts c_bits
 have c_kwant:=ok_kwant (P:=l.prog) (w:=w) (base:=base) FLkind_want mLkind_want bLkind_want T c_draw c_lcosts c_paired c_some c_together
 have c_put:=S.ok_put (P:=l.prog) (w:=w) (base:=base) F_put_in m_put_in b_put_in T
 have c_has:=S.ok_has (P:=l.prog) (w:=w) (base:=base) F_has m_has b_has T
 have c_tb:=S.ok_tb (P:=l.prog) (w:=w) (base:=base) F_things_beside m_things_beside b_things_beside T c_has
 have c_pb:=S.ok_pb (P:=l.prog) (w:=w) (base:=base) F_pairs_beside m_pairs_beside b_pairs_beside T c_tb
 have c_pbr:=S.ok_pbr (P:=l.prog) (w:=w) (base:=base) F_pair_breaks m_pair_breaks b_pair_breaks T c_put
 have c_heap:=S.ok_heap (P:=l.prog) (w:=w) (base:=base) F_heap_of m_heap_of b_heap_of T
 have c_side:=S.ok_side (P:=l.prog) (w:=w) (base:=base) F_heap_of_side m_heap_of_side b_heap_of_side T c_heap
 have c_turned:=S.ok_turned (P:=l.prog) (w:=w) (base:=base) F_turned m_turned b_turned T c_side
 have c_parted:=S.ok_parted3 (P:=l.prog) (w:=w) (base:=base) F_parted m_parted b_parted T c_put
 have c_tbr:=S.ok_tbr (P:=l.prog) (w:=w) (base:=base) F_three_break m_three_break b_three_break T c_parted
 have c_fp:=S.ok_fp (P:=l.prog) (w:=w) (base:=base) F_first_pair m_first_pair b_first_pair T c_pb c_pbr
 have c_ft:=S.ok_ft (P:=l.prog) (w:=w) (base:=base) F_first_three m_first_three b_first_three T c_pb c_tb c_tbr
 have c_breaking:=S.ok_breaking (P:=l.prog) (w:=w) (base:=base) F_breaking m_breaking b_breaking T c_turned c_fp c_ft
 have c_fs:=S.ok_fs (P:=l.prog) (w:=w) (base:=base) F_first_strange m_first_strange b_first_strange T c_breaking
 have c_parts:=S.ok_parts (P:=l.prog) (w:=w) (base:=base) F_in_parts m_in_parts b_in_parts T
 have fn_surplus:=S.ok_surplus (P:=l.prog) (w:=w) (base:=base) F_surplus T c_parts c_great
 have c_surplus:=m8 (P:=l.prog) (w:=w) (base:=base) F_surplus fn_surplus m_surplus b_surplus
 have c_stepof:=S.ok_stepof (P:=l.prog) (w:=w) (base:=base) F_step_of m_step_of b_step_of T
 have c_step:=S.ok_step (P:=l.prog) (w:=w) (base:=base) F_stepped m_stepped b_stepped T c_has c_stepof
 have c_may:=S.ok_may (P:=l.prog) (w:=w) (base:=base) F_heaps_that_may m_heaps_that_may b_heaps_that_may T c_heap
 have c_next:=S.ok_next (P:=l.prog) (w:=w) (base:=base) F_next_step m_next_step b_next_step T c_surplus c_step c_may
 have c_ground:=S.ok_ground (P:=l.prog) (w:=w) (base:=base) F_ground_of m_ground_of b_ground_of T c_may c_best
 have c_first:=S.ok_first (P:=l.prog) (w:=w) (base:=base) F_first_prices m_first_prices b_first_prices T
 have c_on:=S.ok_on (P:=l.prog) (w:=w) (base:=base) F_steps_on m_steps_on b_steps_on T c_ground c_next c_step
 have c_steps:=S.ok_steps (P:=l.prog) (w:=w) (base:=base) F_steps_of m_steps_of b_steps_of T c_first c_on
 have c_refuse:=S.ok_refuse (P:=l.prog) (w:=w) (base:=base) F_refuse_strange m_refuse_strange b_refuse_strange T c_fs
 have fn_rising:=S.ok_rising (P:=l.prog) (w:=w) (base:=base) F_rising T c_refuse c_steps
 have c_rising:=m8 (P:=l.prog) (w:=w) (base:=base) F_rising fn_rising m_rising b_rising
 have c_others:=S.ok_others (P:=l.prog) (w:=w) (base:=base) F_other_sides m_other_sides b_other_sides T
 have c_ow:=S.ok_ow (P:=l.prog) (w:=w) (base:=base) F_other_way m_other_way b_other_way T c_others
 have fn_falling:=S.ok_falling (P:=l.prog) (w:=w) (base:=base) F_falling T c_refuse c_ow c_steps
 have c_falling:=m8 (P:=l.prog) (w:=w) (base:=base) F_falling fn_falling m_falling b_falling
 have c_less:=Z.ok_less (P:=l.prog) (w:=w) (base:=base) F_less m_less b_less T
 have c_isw:=Z.ok_isw (P:=l.prog) (w:=w) (base:=base) F_is_within m_is_within b_is_within T c_less
 have c_mparted:=Z.ok_parted (P:=l.prog) (w:=w) (base:=base) F_most_parted m_most_parted b_most_parted T c_less c_isw
 have c_joined:=Z.ok_joined (P:=l.prog) (w:=w) (base:=base) F_joined m_joined b_joined T c_mparted
 have c_gsums:=Z.ok_gsums (P:=l.prog) (w:=w) (base:=base) F_greatest_sums m_greatest_sums b_greatest_sums T c_joined
 have c_greatest:=Z.ok_greatest (P:=l.prog) (w:=w) (base:=base) F_greatest m_greatest b_greatest T c_gsums
 have c_putZ:=Z.ok_put (P:=l.prog) (w:=w) (base:=base) F_put_in m_put_in b_put_in T
 have c_onemore:=Z.ok_onemore (P:=l.prog) (w:=w) (base:=base) F_with_one_more m_with_one_more b_with_one_more T c_putZ
 have c_wwant:=Z.ok_wwant (P:=l.prog) (w:=w) (base:=base) F_with_want m_with_want b_with_want T
 have c_two:=Z.ok_two (P:=l.prog) (w:=w) (base:=base) F_greatest_with_two m_greatest_with_two b_greatest_with_two T c_onemore c_wwant c_greatest
 have c_gof:=Z.ok_gof (P:=l.prog) (w:=w) (base:=base) F_greatest_of m_greatest_of b_greatest_of T c_gsums
 have c_taken:=Z.ok_taken (P:=l.prog) (w:=w) (base:=base) F_taken_out m_taken_out b_taken_out T c_less
 have c_least:=Z.ok_least (P:=l.prog) (w:=w) (base:=base) F_least_price m_least_price b_least_price T c_two c_greatest
 have c_most:=Z.ok_most (P:=l.prog) (w:=w) (base:=base) F_greatest_price m_greatest_price b_greatest_price T c_greatest c_gof c_taken
 have c_last:=Z.ok_last (P:=l.prog) (w:=w) (base:=base) F_last_prices m_last_prices b_last_prices T c_most c_least
 have c_low:=Z.ok_low (P:=l.prog) (w:=w) (base:=base) F_low_prices m_low_prices b_low_prices T c_refuse c_last
 have c_high:=Z.ok_high (P:=l.prog) (w:=w) (base:=base) F_high_prices m_high_prices b_high_prices T c_refuse c_ow c_last
 have c_lies:=Z.ok_lies (P:=l.prog) (w:=w) (base:=base) F_lies_beyond m_lies_beyond b_lies_beyond T
 have c_onto:=Z.ok_onto (P:=l.prog) (w:=w) (base:=base) F_steps_on_to_the_last m_steps_on_to_the_last b_steps_on_to_the_last T c_last c_lies c_on
 have c_rfrom:=Z.ok_rfrom (P:=l.prog) (w:=w) (base:=base) F_rising_from m_rising_from b_rising_from T c_refuse c_onto
 have c_ffrom:=Z.ok_ffrom (P:=l.prog) (w:=w) (base:=base) F_falling_from m_falling_from b_falling_from T c_refuse c_ow c_onto
 have c_nless:=ok_nless (P:=l.prog) (w:=w) (base:=base) FLno_less mLno_less bLno_less T
 exact ok_law (P:=l.prog) (w:=w) (base:=base) F_law T c_pot c_draw c_kwant c_rising c_falling c_low c_high c_rfrom c_ffrom c_greatest c_great c_nless
theorem walk {l:PySem.W.OpenLaw}{q:Program}{loose:List Str}{XP:(Str→Option Value)→Heap→Prop}{YP:World→Heap→Prop}{d:DefRec}{K:Params→PySem.W.Frag}(hn:l.most=some 63)(hdf:d.params.defaults=[])
  (hY:∀ (w:World) (h:Heap),YP w h→(K w.params).In h)
  (F:∀ (w:World) (mg:Str→Option Value) (fa:Addr) (h:Heap),(K w.params).In h→h.Ns mainGlobals mg→mg d.name=some (.ref fa) →
   ∃ fd:FuncData,(∀ (s:Shared) (u:Value),BindsTo s fd ⟨[u],[]⟩ [("_law_script",u)])∧∀ base:Heap,(K w.params).In base→base.Ns mainGlobals mg→FnOk l.prog w (K w.params) mg base CX0 12 fa fd ["_law_script"] (pU (K w.params))) :
  PySem.W.WalkO q loose XP YP l.row.toRowW d [] (fun f vs=>PySem.call f vs) :=
 L2.walk_of (n:=63) (k:=12) (x := "_law_script") (CX:=fun _=>CX0) (sp:=fun w=>pU (K w.params)) hn (by decide) hdf ⟨rfl,by decide,by decide,rfl⟩ hY F (fun w H a ns hl hO hS=>⟨a,ns,rfl,hS,hl,fun _=>rfl⟩) fun _ _ _ _ _ z=>z
theorem toX {q:Program}{loose:List Str}{XP:(Str→Option Value)→Heap→Prop}{r:PySem.W.RowW}{d:DefRec}{kwd:List (Str × PySem.Expr)}{run:Value→List Value→Sem Value}{K:Params→PySem.W.Frag}{as:List Addr}{n t:Nat}(e:∀ P,as=(K P).map (·.1))(h:PySem.W.WalkO q loose XP (fun w h=>(K w.params).In h) r d kwd run):PySem.W.WalkX q loose XP (PySem.W.X.obsZ as) (PySem.W.X.valZ K n t) r d kwd run :=
 fun w s₀ s₁ mg mb G y a o pm cd doc dV kV ho hd hcd hD hmg hg args vals as2 L hpre hl hrd hwl hlo=>h w s₀ s₁ mg mb G (PySem.W.InK.keeps w _ _ (PySem.W.X.z_facts e y).2.1 L.keeps) a o pm cd doc dV kV ho hd hcd hD hmg hg args vals as2 hpre hl hrd hwl hlo
end K98
end
end
end
section
namespace PySem.W.Tw
def st (i:Nat):PySem.Stmt:=PySem.Challenge.pw_wantprices_k98_whole_a_hand_more.main.body.getD i (.Pass ⟨0,0,0,0⟩)
def view:PySem.Program:={ PySem.Challenge.pw_wantprices_k98_whole_a_hand_more with main:={ PySem.Challenge.pw_wantprices_k98_whole_a_hand_more.main with body:=[st 1,st 2,st 3,st 5,st 6,st 7,st 8,st 9,st 10,st 11,st 13,st 14,st 15,st 16,st 17,st 18,st 19,st 20,st 21,st 22,st 23,st 25,st 26,st 28,st 30,st 31,st 32,st 33,st 34,st 36,st 37,st 38,st 39,st 41,st 42,st 44,st 45,st 46,st 47,st 48,st 50,st 51,st 52,st 53,st 54,st 55,st 56,st 58,st 59,st 60,st 61,st 62,st 64,st 65,st 66,st 67,st 69,st 70,st 71,st 72,st 73,st 74,st 75,st 76,st 77,st 78,st 79] } }
def sts0:List PySem.Stmt:=[st 0,st 1]
def sts1:List PySem.Stmt:=[st 2]
def sts2:List PySem.Stmt:=[st 3,st 4,st 5,st 6,st 7,st 8,st 9]
def sts3:List PySem.Stmt:=[st 10,st 11,st 12,st 13,st 14,st 15,st 16,st 17,st 18,st 19,st 20,st 21,st 22]
def sts4:List PySem.Stmt:=[st 23,st 24,st 25,st 26,st 27,st 28,st 29,st 30,st 31,st 32,st 33,st 34,st 35,st 36,st 37,st 38]
def sts5:List PySem.Stmt:=[st 39,st 40,st 41,st 42,st 43,st 44,st 45,st 46,st 47,st 48,st 49,st 50,st 51,st 52,st 53,st 54]
def sts6:List PySem.Stmt:=[st 55,st 56,st 57,st 58,st 59,st 60,st 61,st 62,st 63,st 64,st 65,st 66,st 67,st 68,st 69]
def sts7:List PySem.Stmt:=[st 70,st 71,st 72,st 73,st 74,st 75,st 76,st 77,st 78,st 79]
end PySem.W.Tw
def PySem.W.Fast.tw12931956634800390314:PySem.Program:=PySem.Challenge.pw_wantprices_k98_whole_a_hand_more
theorem PySem.W.Fast.te12931956634800390314:PySem.Challenge.pw_wantprices_k98_whole_a_hand_more=PySem.W.Fast.tw12931956634800390314:=rfl
def PySem.W.Fast.tw6002251412610048054:PySem.Program:=PySem.W.Tw.view
theorem PySem.W.Fast.te6002251412610048054:PySem.W.Tw.view=PySem.W.Fast.tw6002251412610048054:=rfl
def PySem.W.Fast.tw3069895153390927168:List PySem.Stmt:=PySem.W.Tw.sts0
theorem PySem.W.Fast.te3069895153390927168:PySem.W.Tw.sts0=PySem.W.Fast.tw3069895153390927168:=rfl
def PySem.W.Fast.tw17210503852795882541:List PySem.Stmt:=PySem.W.Tw.sts1
theorem PySem.W.Fast.te17210503852795882541:PySem.W.Tw.sts1=PySem.W.Fast.tw17210503852795882541:=rfl
def PySem.W.Fast.tw10127314915361267889:List PySem.Stmt:=PySem.W.Tw.sts2
theorem PySem.W.Fast.te10127314915361267889:PySem.W.Tw.sts2=PySem.W.Fast.tw10127314915361267889:=rfl
def PySem.W.Fast.tw13286725249179997332:List PySem.Stmt:=PySem.W.Tw.sts3
theorem PySem.W.Fast.te13286725249179997332:PySem.W.Tw.sts3=PySem.W.Fast.tw13286725249179997332:=rfl
def PySem.W.Fast.tw4847708693005763708:List PySem.Stmt:=PySem.W.Tw.sts4
theorem PySem.W.Fast.te4847708693005763708:PySem.W.Tw.sts4=PySem.W.Fast.tw4847708693005763708:=rfl
def PySem.W.Fast.tw15093247974176625630:List PySem.Stmt:=PySem.W.Tw.sts5
theorem PySem.W.Fast.te15093247974176625630:PySem.W.Tw.sts5=PySem.W.Fast.tw15093247974176625630:=rfl
def PySem.W.Fast.tw462190634584180689:List PySem.Stmt:=PySem.W.Tw.sts6
theorem PySem.W.Fast.te462190634584180689:PySem.W.Tw.sts6=PySem.W.Fast.tw462190634584180689:=rfl
def PySem.W.Fast.tw8829660576854576218:List PySem.Stmt:=PySem.W.Tw.sts7
theorem PySem.W.Fast.te8829660576854576218:PySem.W.Tw.sts7=PySem.W.Fast.tw8829660576854576218:=rfl
def PySem.W.Fast.tw4881085545151092021:Nat:=0
def PySem.W.Fast.tw3033367430411474933:Nat:=0
def PySem.W.Fast.tw4137390204518534992:Nat:=0
def PySem.W.Fast.tw2264564420707431768:Nat:=0
def PySem.W.Fast.tw9858127979353850684:Nat:=0
def PySem.W.Fast.tw6716512486133891432:Nat:=0
def PySem.W.Fast.tw14727362024646891299:Nat:=0
def PySem.W.Fast.tw17948117478693004295:Nat:=0
def PySem.W.Fast.tw14011406489386573909:Nat:=0
def PySem.W.Fast.tw7332446360709306463:Nat:=0
def PySem.W.Fast.tw17068692153648414853:Nat:=0
end
end
section
set_option Elab.async false
set_option linter.all false
open PySem PySem.W PyProof.Rows
set_option maxRecDepth 100000 in
set_option maxHeartbeats 0 in
theorem PySem.Challenge.cw_wantprices_k98_whole_a_hand_more_holds : PySem.Challenge.rw_wantprices_k98_whole_a_hand_more.Holds := by
 w_on;o_law;z_head;(case hw=>w_witness2)
 k_fill
 refine K98.toX (fun _=>by kernel_rfl) ?_
 refine K98.walk (l:=PySem.Challenge.rw_wantprices_k98_whole_a_hand_more) rfl rfl (fun w h Y=>Y) ?F
 case F =>
  intro w mg fa h KX G hmg
  refine' K98.all_mk KX G hmg ?a0 ?l0 ?c0 ?k0 ?a1 ?l1 ?c1 ?k1 ?a2 ?l2 ?c2 ?k2 ?a3 ?l3 ?c3 ?k3 ?a4 ?l4 ?c4 ?k4 ?a5 ?l5 ?c5 ?k5 ?a6 ?l6 ?c6 ?k6 ?a7 ?l7 ?c7 ?k7 ?a8 ?l8 ?c8 ?k8 ?a9 ?l9 ?c9 ?k9 ?a10 ?l10 ?c10 ?k10 ?a11 ?l11 ?c11 ?k11 ?a12 ?l12 ?c12 ?k12 ?a13 ?l13 ?c13 ?k13 ?a14 ?l14 ?c14 ?k14 ?a15 ?l15 ?c15 ?k15 ?a16 ?l16 ?c16 ?k16 ?a17 ?l17 ?c17 ?k17 ?a18 ?l18 ?c18 ?k18 ?a19 ?l19 ?c19 ?k19 ?a20 ?l20 ?c20 ?k20 ?a21 ?l21 ?c21 ?k21 ?a22 ?l22 ?c22 ?k22 ?a23 ?l23 ?c23 ?k23 ?a24 ?l24 ?c24 ?k24 ?a25 ?l25 ?c25 ?k25 ?a26 ?l26 ?c26 ?k26 ?a27 ?l27 ?c27 ?k27 ?a28 ?l28 ?c28 ?k28 ?a29 ?l29 ?c29 ?k29 ?a30 ?l30 ?c30 ?k30 ?a31 ?l31 ?c31 ?k31 ?a32 ?l32 ?c32 ?k32 ?a33 ?l33 ?c33 ?k33 ?a34 ?l34 ?c34 ?k34 ?a35 ?l35 ?c35 ?k35 ?a36 ?l36 ?c36 ?k36 ?a37 ?l37 ?c37 ?k37 ?a38 ?l38 ?c38 ?k38 ?a39 ?l39 ?c39 ?k39 ?a40 ?l40 ?c40 ?k40 ?a41 ?l41 ?c41 ?k41 ?a42 ?l42 ?c42 ?k42 ?a43 ?l43 ?c43 ?k43 ?a44 ?l44 ?c44 ?k44 ?a45 ?l45 ?c45 ?k45 ?a46 ?l46 ?c46 ?k46 ?a47 ?l47 ?c47 ?k47 ?a48 ?l48 ?c48 ?k48 ?a49 ?l49 ?c49 ?k49 ?a50 ?l50 ?c50 ?k50 ?a51 ?l51 ?c51 ?k51 ?a52 ?l52 ?c52 ?k52 ?a53 ?l53 ?c53 ?k53 ?a54 ?l54 ?c54 ?k54 ?a55 ?l55 ?c55 ?k55 ?a56 ?l56 ?c56 ?k56 ?a57 ?l57 ?c57 ?k57 ?a58 ?l58 ?c58 ?k58 ?a59 ?l59 ?c59 ?k59 ?a60 ?l60 ?c60 ?k60 ?a61 ?l61 ?c61 ?k61 ?a62 ?l62 ?c62 ?k62 ?a63 ?l63 ?c63 ?k63 ?z_len ?z_sum ?z_isinstance ?z_abs ?z_max ?z_range ?z_tuple ?z_list ?z_sorted ?z_int ?z_bool ?z_zip ?z_min ?z_all ?z_enumerate
  (case a0=>k_is)
  (case l0=>k_is)
  (case c0=>k_is)
  (case k0=>k_is)
  (case a1=>k_is)
  (case l1=>k_is)
  (case c1=>k_is)
  (case k1=>k_is)
  (case a2=>k_is)
  (case l2=>k_is)
  (case c2=>k_is)
  (case k2=>k_is)
  (case a3=>k_is)
  (case l3=>k_is)
  (case c3=>k_is)
  (case k3=>k_is)
  (case a4=>k_is)
  (case l4=>k_is)
  (case c4=>k_is)
  (case k4=>k_is)
  (case a5=>k_is)
  (case l5=>k_is)
  (case c5=>k_is)
  (case k5=>k_is)
  (case a6=>k_is)
  (case l6=>k_is)
  (case c6=>k_is)
  (case k6=>k_is)
  (case a7=>k_is)
  (case l7=>k_is)
  (case c7=>k_is)
  (case k7=>k_is)
  (case a8=>k_is)
  (case l8=>k_is)
  (case c8=>k_is)
  (case k8=>k_is)
  (case a9=>k_is)
  (case l9=>k_is)
  (case c9=>k_is)
  (case k9=>k_is)
  (case a10=>k_is)
  (case l10=>k_is)
  (case c10=>k_is)
  (case k10=>k_is)
  (case a11=>k_is)
  (case l11=>k_is)
  (case c11=>k_is)
  (case k11=>k_is)
  (case a12=>k_is)
  (case l12=>k_is)
  (case c12=>k_is)
  (case k12=>k_is)
  (case a13=>k_is)
  (case l13=>k_is)
  (case c13=>k_is)
  (case k13=>k_is)
  (case a14=>k_is)
  (case l14=>k_is)
  (case c14=>k_is)
  (case k14=>k_is)
  (case a15=>k_is)
  (case l15=>k_is)
  (case c15=>k_is)
  (case k15=>k_is)
  (case a16=>k_is)
  (case l16=>k_is)
  (case c16=>k_is)
  (case k16=>k_is)
  (case a17=>k_is)
  (case l17=>k_is)
  (case c17=>k_is)
  (case k17=>k_is)
  (case a18=>k_is)
  (case l18=>k_is)
  (case c18=>k_is)
  (case k18=>k_is)
  (case a19=>k_is)
  (case l19=>k_is)
  (case c19=>k_is)
  (case k19=>k_is)
  (case a20=>k_is)
  (case l20=>k_is)
  (case c20=>k_is)
  (case k20=>k_is)
  (case a21=>k_is)
  (case l21=>k_is)
  (case c21=>k_is)
  (case k21=>k_is)
  (case a22=>k_is)
  (case l22=>k_is)
  (case c22=>k_is)
  (case k22=>k_is)
  (case a23=>k_is)
  (case l23=>k_is)
  (case c23=>k_is)
  (case k23=>k_is)
  (case a24=>k_is)
  (case l24=>k_is)
  (case c24=>k_is)
  (case k24=>k_is)
  (case a25=>k_is)
  (case l25=>k_is)
  (case c25=>k_is)
  (case k25=>k_is)
  (case a26=>k_is)
  (case l26=>k_is)
  (case c26=>k_is)
  (case k26=>k_is)
  (case a27=>k_is)
  (case l27=>k_is)
  (case c27=>k_is)
  (case k27=>k_is)
  (case a28=>k_is)
  (case l28=>k_is)
  (case c28=>k_is)
  (case k28=>k_is)
  (case a29=>k_is)
  (case l29=>k_is)
  (case c29=>k_is)
  (case k29=>k_is)
  (case a30=>k_is)
  (case l30=>k_is)
  (case c30=>k_is)
  (case k30=>k_is)
  (case a31=>k_is)
  (case l31=>k_is)
  (case c31=>k_is)
  (case k31=>k_is)
  (case a32=>k_is)
  (case l32=>k_is)
  (case c32=>k_is)
  (case k32=>k_is)
  (case a33=>k_is)
  (case l33=>k_is)
  (case c33=>k_is)
  (case k33=>k_is)
  (case a34=>k_is)
  (case l34=>k_is)
  (case c34=>k_is)
  (case k34=>k_is)
  (case a35=>k_is)
  (case l35=>k_is)
  (case c35=>k_is)
  (case k35=>k_is)
  (case a36=>k_is)
  (case l36=>k_is)
  (case c36=>k_is)
  (case k36=>k_is)
  (case a37=>k_is)
  (case l37=>k_is)
  (case c37=>k_is)
  (case k37=>k_is)
  (case a38=>k_is)
  (case l38=>k_is)
  (case c38=>k_is)
  (case k38=>k_is)
  (case a39=>k_is)
  (case l39=>k_is)
  (case c39=>k_is)
  (case k39=>k_is)
  (case a40=>k_is)
  (case l40=>k_is)
  (case c40=>k_is)
  (case k40=>k_is)
  (case a41=>k_is)
  (case l41=>k_is)
  (case c41=>k_is)
  (case k41=>k_is)
  (case a42=>k_is)
  (case l42=>k_is)
  (case c42=>k_is)
  (case k42=>k_is)
  (case a43=>k_is)
  (case l43=>k_is)
  (case c43=>k_is)
  (case k43=>k_is)
  (case a44=>k_is)
  (case l44=>k_is)
  (case c44=>k_is)
  (case k44=>k_is)
  (case a45=>k_is)
  (case l45=>k_is)
  (case c45=>k_is)
  (case k45=>k_is)
  (case a46=>k_is)
  (case l46=>k_is)
  (case c46=>k_is)
  (case k46=>k_is)
  (case a47=>k_is)
  (case l47=>k_is)
  (case c47=>k_is)
  (case k47=>k_is)
  (case a48=>k_is)
  (case l48=>k_is)
  (case c48=>k_is)
  (case k48=>k_is)
  (case a49=>k_is)
  (case l49=>k_is)
  (case c49=>k_is)
  (case k49=>k_is)
  (case a50=>k_is)
  (case l50=>k_is)
  (case c50=>k_is)
  (case k50=>k_is)
  (case a51=>k_is)
  (case l51=>k_is)
  (case c51=>k_is)
  (case k51=>k_is)
  (case a52=>k_is)
  (case l52=>k_is)
  (case c52=>k_is)
  (case k52=>k_is)
  (case a53=>k_is)
  (case l53=>k_is)
  (case c53=>k_is)
  (case k53=>k_is)
  (case a54=>k_is)
  (case l54=>k_is)
  (case c54=>k_is)
  (case k54=>k_is)
  (case a55=>k_is)
  (case l55=>k_is)
  (case c55=>k_is)
  (case k55=>k_is)
  (case a56=>k_is)
  (case l56=>k_is)
  (case c56=>k_is)
  (case k56=>k_is)
  (case a57=>k_is)
  (case l57=>k_is)
  (case c57=>k_is)
  (case k57=>k_is)
  (case a58=>k_is)
  (case l58=>k_is)
  (case c58=>k_is)
  (case k58=>k_is)
  (case a59=>k_is)
  (case l59=>k_is)
  (case c59=>k_is)
  (case k59=>k_is)
  (case a60=>k_is)
  (case l60=>k_is)
  (case c60=>k_is)
  (case k60=>k_is)
  (case a61=>k_is)
  (case l61=>k_is)
  (case c61=>k_is)
  (case k61=>k_is)
  (case a62=>k_is)
  (case l62=>k_is)
  (case c62=>k_is)
  (case k62=>k_is)
  (case a63=>k_is)
  (case l63=>k_is)
  (case c63=>k_is)
  (case k63=>k_is)
  (case z_len=>k_is)
  (case z_sum=>k_is)
  (case z_isinstance=>k_is)
  (case z_abs=>k_is)
  (case z_max=>k_is)
  (case z_range=>k_is)
  (case z_tuple=>k_is)
  (case z_list=>k_is)
  (case z_sorted=>k_is)
  (case z_int=>k_is)
  (case z_bool=>k_is)
  (case z_zip=>k_is)
  (case z_min=>k_is)
  (case z_all=>k_is)
  (case z_enumerate=>k_is)
end
