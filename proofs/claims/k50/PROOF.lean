import PyProof.Rows.All
import Wide.All
import OpenK.AllK
import Wide.FinOn
import Lean
import PyProof.EqAt
import PyProof.EqKinds
import PyProof.TupleCall
import PyProof.MinMaxWalk
import KE.KSortTup
import PyProof.TupleKey
import PyProof.SetKind
import PyProof.Rows.SetFrom
import PyProof.SetNew
import KE.KDictList
import PyProof.Rows.Range3
import PySem.Challenge.RW_wantprices_k50_shares_judged
set_option linter.all false
set_option Elab.async false
set_option maxRecDepth 100000
set_option compiler.extract_closed false
set_option genSizeOfSpec false
abbrev Aa:=@List.length_map
abbrev Ab:=@List.getD_eq_getElem?_getD
abbrev Ac:=@PySem.Heap.get?_push_of_some
abbrev Ad:=@List.getElem?_map
abbrev Ae:=@List.map_append
abbrev Af:=@List.getElem?_eq_getElem
abbrev Ag:=@List.getElem?_eq_some_iff
abbrev Ah:=@if_neg
abbrev Ai:=@if_pos
abbrev Aj:=@List.length_append
abbrev Ak:=@Nat.le_refl
abbrev Al:=@Option.map_eq_some_iff
abbrev Am:=@PySem.Heap.lt_size
abbrev An:=@List.mem_of_getElem?
abbrev Ao:=@PySem.Heap.get?_push_size
abbrev Ap:=@Int.toNat_natCast
abbrev Aq:=@List.length_take
abbrev Ar:=@List.length_range
abbrev As:=@List.size_toArray
abbrev Au:=@List.mem_map
abbrev Av:=@List.getElem?_append_left
abbrev Aw:=@decide_eq_false
abbrev Ax:=@decide_eq_true
abbrev Ay:=@List.mem_cons_of_mem
abbrev Az:=@Nat.lt_or_ge
abbrev A0:=@Nat.ne_of_lt
abbrev A1:=@Bool.false_ne_true
abbrev A2:=@List.mem_cons_self
abbrev A3:=@List.mem_append
abbrev A4:=@List.mem_cons
abbrev A5:=@List.mem_singleton
abbrev A6:=@List.length_cons
abbrev A7:=@List.take_add_one
abbrev A8:=@Nat.lt_of_lt_of_le
abbrev A9:=@Option.some.inj
abbrev AA:=@Int.eq_ofNat_of_zero_le
abbrev AB:=@List.getElem?_append_right
abbrev AD:=@List.mem_range
abbrev AE:=@List.getElem_mem
abbrev AF:=@List.map_map
abbrev AG:=@List.take_length
abbrev AH:=@Nat.le_of_lt
abbrev AJ:=@Nat.zero_le
abbrev AK:=@List.getElem?_eq_none
abbrev AL:=@List.length_singleton
abbrev AM:=@List.getElem?_range
abbrev AN:=@List.map_cons
abbrev AO:=@List.range_succ
abbrev AQ:=@List.filter_append
abbrev AR:=@List.all_eq_true
abbrev AS:=@List.length_filter_le
abbrev AU:=@decide_eq_true_eq
abbrev AV:=@of_decide_eq_true
abbrev AW:=@List.lookup_cons
abbrev AX:=@Nat.le_trans
abbrev AY:=@congrArg
abbrev AZ:=@Bool.true_and
abbrev Ba:=@Classical.byContradiction
abbrev Bb:=@List.getElem?_zip_eq_some
abbrev Bc:=@List.take_of_length_le
abbrev Bd:=@PyProof.Rows.callWith_type1
abbrev Be:=@PySem.W.mg_of
abbrev Bf:=@List.mem_of_mem_take
abbrev Bg:=@Bool.false_eq_true
abbrev Bh:=@PySem.Heap.size_push
abbrev Bi:=@List.mem_append_right
abbrev Bj:=@List.map_congr_left
abbrev Bl:=@Int.mul_assoc
abbrev Bm:=@List.mem_iff_getElem?
abbrev Bn:=@Int.mul_comm
abbrev Bo:=@Int.mul_zero
abbrev Bp:=@List.mem_map_of_mem
abbrev Bq:=@List.length_nil
abbrev Br:=@List.mem_filter
abbrev Bs:=@PySem.PassesOwn.never
abbrev Bt:=@Bool.and_eq_true
abbrev Bu:=@Int.mul_le_mul_of_nonneg_right
abbrev Bv:=@List.length_drop
abbrev Bw:=@List.sum_cons
abbrev Bx:=@List.length_eq_zero_iff
abbrev By:=@Array.perm_iff_toList_perm
abbrev Bz:=@Bool.false_and
abbrev B1:=@List.mem_of_mem_drop
abbrev B2:=@List.append_nil
abbrev B3:=@PySem.W.kia_one
abbrev B4:=@Nat.mul_comm
abbrev B5:=@PySem.W.mg_none_of
abbrev B6:=@Array.getElem?_eq_getElem
abbrev B7:=@PySem.mem_of_lookup
abbrev B8:=@Int.mul_nonpos_of_nonpos_of_nonneg
abbrev B9:=@PySem.F.called_set
abbrev BA:=@Nat.lt_irrefl
abbrev BB:=@Int.mul_left_comm
abbrev BC:=@Nat.lt_trichotomy
abbrev BD:=@PySem.Heap.SameBut.update
abbrev BE:=@List.replicate_succ
abbrev BF:=@List.getElem_map
abbrev BG:=@Int.mul_le_mul_of_nonneg_left
abbrev BH:=@List.filter_cons_of_pos
abbrev BI:=@Bool.eq_iff_iff
abbrev BJ:=@List.nodup_cons
abbrev BK:=@PyProof.Rows.F.plain_set_update_loop
abbrev BL:=@List.filter_eq_nil_iff
abbrev BM:=@Int.le_refl
abbrev BN:=@Nat.le_succ
abbrev BO:=@PySem.F.slot_tuple_iterator_next
abbrev BP:=@Nat.eq_zero_or_pos
abbrev BQ:=@PySem.Heap.get?_update_self
abbrev BR:=@List.getElem?_toArray
abbrev BS:=@List.take_append_drop
abbrev BU:=@List.pairwise_iff_getElem
abbrev BV:=@Array.Perm.refl
abbrev BW:=@Nat.min_eq_left
abbrev BX:=@List.ext_getElem?
abbrev BY:=@List.forall_mem_cons
abbrev BZ:=@List.pairwise_map
abbrev Ca:=@Nat.div_lt_of_lt_mul
abbrev Cb:=@Nat.lt_succ_of_lt
abbrev Cc:=@PyProof.Rows.slot_tuple_getitem
abbrev Cd:=@Array.length_toList
abbrev Ce:=@PySem.Heap.get?_update_ne
abbrev Cf:=@List.getElem_of_mem
abbrev Cg:=@Bool.and_false
abbrev Ci:=@List.ext_getElem
abbrev Cj:=@List.filter_cons_of_neg
abbrev Ck:=@List.not_mem_nil
abbrev Cm:=@List.eq_nil_of_length_eq_zero
abbrev Cn:=@Array.getElem?_eq_none
abbrev Co:=@Int.zero_mul
abbrev Cp:=@List.getElem?_drop
abbrev Cq:=@Nat.eq_or_lt_of_le
abbrev Cr:=@Ne.symm
abbrev Cs:=@List.find?_cons
abbrev Ct:=@List.length_zip
abbrev Cu:=@List.flatten_cons
abbrev Cv:=@if_true
abbrev Cw:=@PySem.Around.under_plainId
abbrev Cy:=@Bool.and_eq_true_iff
abbrev Cz:=@Int.mul_one
abbrev C0:=@Int.one_mul
abbrev C1:=@Nat.mod_lt
abbrev C2:=@if_false
abbrev C3:=@List.map_nil
abbrev C4:=@List.nodup_range
abbrev C5:=@beq_self_eq_true
abbrev C6:=@PySem.Calls.call_function_entry
abbrev C7:=@List.filterMap_cons
abbrev C8:=@List.map_eq_nil_iff
abbrev C9:=@PyProof.Rows.F.entry_set_update_loop
abbrev CA:=@PySem.AutoSeq1.wpAny_loadPart'
abbrev CB:=@List.map_take
abbrev CC:=@Int.mul_right_comm
abbrev CD:=@List.getElem?_take
abbrev CF:=@Nat.pos_of_ne_zero
abbrev CG:=@Classical.axiomOfChoice
abbrev CH:=@Int.neg_mul
abbrev CK:=@List.all_map
abbrev CL:=@List.drop_zero
abbrev CM:=@Array.getElem?_toList
abbrev CN:=@List.max?_eq_some_iff
abbrev CO:=@List.perm_middle
abbrev CP:=@Nat.mod_eq_of_lt
abbrev CQ:=@Nat.not_lt
abbrev CS:=@List.map_drop
abbrev CT:=@Nat.pow_le_pow_right
abbrev CU:=@PySem.F.slot_zip_next
abbrev CV:=@List.sum_append
abbrev CW:=@PySem.W.kat_nil
abbrev CY:=@Int.le_of_lt
abbrev CZ:=@Int.le_trans
abbrev Dc:=@Nat.ne_of_gt
abbrev Dd:=@Nat.sub_zero
abbrev De:=@Nat.succ.inj
abbrev Dh:=@Int.emod_lt_of_pos
abbrev Di:=@Int.mul_nonneg
abbrev Dj:=@List.getElem_range
abbrev Dk:=@List.mem_filterMap
abbrev Dl:=@List.pairwise_cons
abbrev Dm:=@Nat.lt_of_le_of_lt
abbrev Dp:=@List.append_assoc
abbrev Dq:=@Int.lt_or_le
abbrev Dr:=@Int.sub_zero
abbrev Ds:=@Nat.pow_succ
section
namespace L2
open PySem PySem.Spec PyProof.Rows
noncomputable abbrev Key:=Sum Int Str
noncomputable def mH:Key→Value→Bool
 | .inl k,v=>Value.isInt k v
 | .inr x,v=>Value.isStrOf x v
noncomputable def keyH (w:World):Key→Int
 | .inl k=>hashInt k
 | .inr x=>hashStr w x
theorem jY:∀ {k:Key} {v:Value},mH k v=true→(∃ i t,k=Sum.inl i∧v=Value.int i t)∨(∃ x t,k=Sum.inr x∧v=Value.str x t)
 | .inl i,v,h=>by
  obtain ⟨t,e⟩:=Value.isInt_shape (k:=i) (v:=v) h
  exact .inl ⟨i,t,rfl,e⟩
 | .inr x,v,h=>by
  obtain ⟨t,e⟩:=Value.isStrOf_shape (x:=x) (v:=v) h
  exact .inr ⟨x,t,rfl,e⟩
theorem eG (i:Int)(t:Tok):mH (.inl i) (.int i t)=true:=by simp [mH,Value.isInt]
theorem eF (x:Str)(t:Tok):mH (.inr x) (.str x t)=true:=by simp [mH,Value.isStrOf]
theorem key_ll (a b:Int):decide ((Sum.inl a:Key)=Sum.inl b)=(a == b):=by
 by_cases e:a=b
 ·subst e;simp
 ·have h:¬ (Sum.inl a:Key)=Sum.inl b:=fun q=>e (Sum.inl.inj q)
  rw [Aw h]
  exact (beq_eq_false_iff_ne.mpr e).symm
theorem key_rr (a b:Str):decide ((Sum.inr a:Key)=Sum.inr b)=decide (a=b):=by
 by_cases e:a=b
 ·subst e;simp
 ·have h:¬ (Sum.inr a:Key)=Sum.inr b:=fun q=>e (Sum.inr.inj q)
  rw [Aw h,Aw e]
theorem key_lr (a:Int)(b:Str):decide ((Sum.inl a:Key)=Sum.inr b)=false:=Aw (fun q=>nomatch q)
theorem key_rl (a:Str)(b:Int):decide ((Sum.inr a:Key)=Sum.inl b)=false:=Aw (fun q=>nomatch q)
noncomputable def zA (prog:Program)(w:World):PySem.KeyKind prog w Key where
 is:=mH
 hash:=keyH w
 inj:=fun v a b ha hb=>by
  rcases jY ha with ⟨i,t,rfl,rfl⟩ | ⟨x,t,rfl,rfl⟩
  ·rcases jY hb with ⟨j,u,rfl,e⟩ | ⟨y,u,rfl,e⟩
   ·injection e with e1 _;rw [e1]
   ·exact nomatch e
  ·rcases jY hb with ⟨j,u,rfl,e⟩ | ⟨y,u,rfl,e⟩
   ·exact nomatch e
   ·injection e with e1 _;rw [e1]
 byValue:=fun k v h=>by
  rcases jY h with ⟨i,t,rfl,rfl⟩ | ⟨x,t,rfl,rfl⟩ <;> rfl
 pyHash:=fun hv h=>by
  rcases jY hv with ⟨i,t,rfl,rfl⟩ | ⟨x,t,rfl,rfl⟩
  ·exact wpAny_pyHash_int h
  ·exact wpAny_pyHash_str h
 eqBool:=fun hu hv h=>by
  rcases jY hu with ⟨i,t,rfl,rfl⟩ | ⟨x,t,rfl,rfl⟩
  ·rcases jY hv with ⟨j,u,rfl,rfl⟩ | ⟨y,u,rfl,rfl⟩
   ·rw [key_ll] at h;exact wpAny_eqBool_int h
   ·rw [key_lr] at h;exact SeqAt.EqAt.int_str i t y u _ _ _ _ h
  ·rcases jY hv with ⟨j,u,rfl,rfl⟩ | ⟨y,u,rfl,rfl⟩
   ·rw [key_rl] at h;exact SeqAt.EqAt.str_int x t j u _ _ _ _ h
   ·rw [key_rr] at h;exact wpAny_eqBool_str h
 «strs» := fun k x t v h=>by
  rcases jY h with ⟨i,u,rfl,e⟩ | ⟨y,u,rfl,e⟩
  ·exact nomatch e
  ·injection e with e1 _
   subst e1
   cases v <;> rfl
theorem pS (prog:Program)(w:World)(i:Int)(t:Tok):(zA prog w).is (.inl i) (.int i t)=true:=eG i t
theorem pR (prog:Program)(w:World)(x:Str)(t:Tok):(zA prog w).is (.inr x) (.str x t)=true:=eF x t
end L2
namespace L2
open PySem PySem.Spec PyProof.Rows
inductive V where
 | non | bl (b:Bool) | int (i:Int) | str (x:Str) | byt (b:Array UInt8) | flt (b:UInt64) | ref (a:Addr) | ty (n:String)
 deriving DecidableEq
noncomputable def RelV:V→Value→Prop
 | .non,u=>u=Value.none
 | .bl b,u=>u=Value.bool b
 | .int i,u=>∃ t,u=Value.int i t
 | .str x,u=>∃ t,u=Value.str x t
 | .byt b,u=>∃ t,u=Value.bytes b t
 | .flt b,u=>∃ t,u=Value.float b t
 | .ref a,u=>u=Value.ref a
 | .ty n,u=>u=Value.type n
noncomputable abbrev Vals:List V→List Value→Prop:=Paired RelV
theorem Vals.length {xs:List V}{us:List Value}(r:Vals xs us):xs.length=us.length:=Paired.length r
theorem Vals.get:∀ {xs:List V} {us:List Value} {i:Nat} {x:V},Vals xs us→xs[i]? = some x→∃ u,us[i]? = some u∧RelV x u
 | _,_,_,_,.nil,e=>by simp at e
 | _,_,0,_,.cons r _,e=>by simp at e;subst e;exact ⟨_,rfl,r⟩
 | _,_,i + 1,x,.cons _ t,e=>by
  obtain ⟨u,h1,h2⟩:=Vals.get (i:=i) (x:=x) t (by simpa using e)
  exact ⟨u,by simpa using h1,h2⟩
theorem Vals.append:∀ {xs ys:List V} {us ws:List Value},Vals xs us→Vals ys ws→Vals (xs ++ ys) (us ++ ws)
 | _,_,_,_,.nil,s=>s
 | _,_,_,_,.cons r t,s=>.cons r (Vals.append t s)
theorem Vals.take:∀ {xs:List V} {us:List Value} (n:Nat),Vals xs us→Vals (xs.take n) (us.take n)
 | _,_,0,_=>.nil
 | _,_,_ + 1,.nil=>.nil
 | _,_,n + 1,.cons r t=>.cons r (Vals.take n t)
theorem Vals.drop:∀ {xs:List V} {us:List Value} (n:Nat),Vals xs us→Vals (xs.drop n) (us.drop n)
 | _,_,0,r=>r
 | _,_,_ + 1,.nil=>.nil
 | _,_,n + 1,.cons _ t=>Vals.drop n t
noncomputable def RelO:Option V→Option Value→Prop
 | some v,some u=>RelV v u
 | none,none=>True
 | _,_=>False
noncomputable def KV {κ:Type}:List (κ × V)→List (κ × Value)→Prop:=Paired fun (p:κ × V) (q:κ × Value)=>p.1=q.1∧RelV p.2 q.2
noncomputable def kV:Key→V
 | .inl i=>.int i
 | .inr x=>.str x
inductive HO where
 | lst (xs:List V)
 | tup (xs:List V)
 | dK (kvs:List (Key × V)) | dT (kvs:List (List Key × V))
 | set (S:Int→Bool) (n:Nat)
 | ins (C dx:Addr) (fs:List (Str × V))
 | own (x:Addr)
 | xd (fs:List (Str × V))
 | met (f x:Addr)
 | rng (lo hi:Int)
 | frz (o:Obj) (u:HO)
 | tbl (ps:Array Value)
 | ext (φ:Heap→Prop)
noncomputable abbrev Hp:=Addr→Option HO
noncomputable def upd (H:Hp)(a:Addr)(o:HO):Hp:=fun b=>if b=a then some o else H b
theorem qF {H:Hp}{a:Addr}{o:HO}:upd H a o a=some o:=by unfold upd;rw [Ai rfl]
theorem q9 {H:Hp}{a b:Addr}{o:HO}(h:b ≠ a):upd H a o b=H b:=by unfold upd;rw [Ah h]
theorem upd_upd {H:Hp}{a:Addr}{o u:HO}:upd (upd H a o) a u=upd H a u:=by
 funext b;unfold upd;split <;> rfl
theorem ne_of {H:Hp}{a b:Addr}{o u:HO}(h:H a=some o)(h':H b=some u)(d:o ≠ u):a ≠ b:=by
 intro e;subst e;rw [h] at h';exact d (A9 h')
theorem qC {H:Hp}{a b:Addr}{o:HO}(h:H a=some o)(h':H b=none):a ≠ b:=by
 intro e;subst e;rw [h] at h';cases h'
section
variable (P:Program)(w:World)
noncomputable def ObjOk (H:Hp)(h:Heap)(a:Addr):HO→Prop
 | .lst xs=>xs.length ≤ sizeLine∧∃ (its:List Value) (n:Nat),Vals xs its∧h.get? a=some { cls:=.type "list",data:=.seq its.toArray n }
 | .tup xs=>xs.length ≤ sizeLine∧∃ its:List Value,Vals xs its∧IsTup h a its.toArray
 | .dK kvs=>kvs.length ≤ sizeLine∧(a == sysModules)=false∧∃ vs,KV kvs vs∧h.DictOf (zA P w) a vs
 | .dT kvs=>kvs.length ≤ sizeLine∧(a == sysModules)=false∧∃ xs:List (List Key × Addr × Value),
   Paired (fun (p:List Key × V) (q:List Key × Addr × Value)=>p.1=q.1∧H q.2.1=some (.tup (p.1.map kV))∧RelV p.2 q.2.2) kvs xs ∧
   ∃ o es ep,h.get? a=some o∧o.ExactDict∧o.data = .dict es ep∧es.toList=xs.map (entryOfKey (tupleKind (zA P w)))∧(xs.map (·.1)).Nodup
 | .set S n=>h.SetOf (intKind P w) a S n
 | .ins C dx fs=>H dx=some (.own a)∧fs.length ≤ 1000∧dx ≠ a∧h.get? a=some (PySem.W.instObj C dx) ∧
   ∃ mA,h.Ns1 dx mA∧(∀ f,RelO (fs.lookup f) (mA f))∧PySem.Within mA (fs.map (·.1))
 | .own _=>∃ o,h.get? a=some o
 | .xd fs=>∃ mA,h.Ns1 a mA∧∀ f,RelO (fs.lookup f) (mA f)
 | .rng lo hi=>∃ t u v,h.get? a=some { cls:=.type "range",data:=.fields #[.int lo t,.int hi u,.int 1 v] }
 | .frz o u=>h.get? a=some o∧ObjOk H h a u
 | .tbl ps=>h.get? a=some { cls:=.none,data:=.fields ps }
 | .met f x=>h.get? a=some (PySem.W.methodObj (.ref f) (.ref x))
 | .ext φ=>φ h∧(∃ o,h.get? a=some o)∧∀ h1 h2:Heap,φ h1→(∀ o,h1.get? a=some o→h2.get? a=some o)→φ h2
noncomputable def HOk (H:Hp)(h:Heap):Prop:=∀ a o,H a=some o→ObjOk P w H h a o
end
section
variable {P:Program}{w:World}{H H':Hp}{h h':Heap}{a:Addr}{o:HO}
theorem ObjOk.lt (x:ObjOk P w H h a o):a < h.objs.size:=by
 cases o with
 | lst xs=>obtain ⟨_,_,_,_,e⟩:=x;exact Am e
 | tup xs=>obtain ⟨_,_,_,p⟩:=x;exact p.lt
 | dK kvs=>obtain ⟨_,_,_,_,o,_,_,e,_⟩:=x;exact Am e
 | dT kvs=>obtain ⟨_,_,_,_,o,_,_,e,_⟩:=x;exact Am e
 | set S n=>obtain ⟨o,_,_,_,e,_⟩:=x;exact Am e
 | ins C dx fs=>obtain ⟨_,_,_,e,_⟩:=x;exact Am e
 | own y=>obtain ⟨_,e⟩:=x;exact Am e
 | xd fs=>obtain ⟨_,⟨_,_,_,e,_⟩,_⟩:=x;exact Am e
 | rng lo hi=>obtain ⟨_,_,_,e⟩:=x;exact Am e
 | frz ob u=>obtain ⟨e,_⟩:=x;exact Am e
 | tbl ps=>exact Am (show h.get? a=some _ from x)
 | met f y=>exact Am (show h.get? a=some _ from x)
 | ext φ=>obtain ⟨_,⟨_,e⟩,_⟩:=x;exact Am e
theorem Paired.mapP {α β:Type}{F G:α→β→Prop}:∀ {l₁:List α} {l₂:List β},Paired F l₁ l₂→(∀ a b,F a b→G a b)→Paired G l₁ l₂
 | _,_,.nil,_=>.nil
 | _,_,.cons r t,f=>.cons (f _ _ r) (Paired.mapP t f)
theorem ObjOk.stay (x:ObjOk P w H h a o)(k:∀ b u,(b=a∨H b=some (.own a))→h.get? b=some u→h'.get? b=some u)
  (ho:∀ b,H b=some (.own a)→H' b=some (.own a)) (ht:∀ b xs,H b=some (.tup xs)→H' b=some (.tup xs)):ObjOk P w H' h' a o:=by
 induction o with
 | lst xs=>obtain ⟨z,its,n,r,e⟩:=x;exact ⟨z,its,n,r,k _ _ (.inl rfl) e⟩
 | tup xs=>obtain ⟨z,its,r,ob,e,c⟩:=x;exact ⟨z,its,r,ob,k _ _ (.inl rfl) e,c⟩
 | dK kvs=>obtain ⟨z,y,vs,r,ob,es,ep,e,c⟩:=x;exact ⟨z,y,vs,r,ob,es,ep,k _ _ (.inl rfl) e,c⟩
 | dT kvs =>
  obtain ⟨z,y,xs,r,ob,es,ep,e,c⟩:=x
  exact ⟨z,y,xs,Paired.mapP r fun p q z=>⟨z.1,ht _ _ z.2.1,z.2.2⟩,ob,es,ep,k _ _ (.inl rfl) e,c⟩
 | set S n=>obtain ⟨ob,es,ep,t,e,c⟩:=x;exact ⟨ob,es,ep,t,k _ _ (.inl rfl) e,c⟩
 | ins C dx fs =>
  obtain ⟨d,z,ne,e,mA,⟨od,es,ep,e2,c⟩,r⟩:=x
  exact ⟨ho _ d,z,ne,k _ _ (.inl rfl) e,mA,⟨od,es,ep,k _ _ (.inr d) e2,c⟩,r⟩
 | own y=>obtain ⟨ob,e⟩:=x;exact ⟨ob,k _ _ (.inl rfl) e⟩
 | xd fs=>obtain ⟨mA,⟨od,es,ep,e,c⟩,r⟩:=x;exact ⟨mA,⟨od,es,ep,k _ _ (.inl rfl) e,c⟩,r⟩
 | rng lo hi=>obtain ⟨t,u,v,e⟩:=x;exact ⟨t,u,v,k _ _ (.inl rfl) e⟩
 | frz ob u ih=>obtain ⟨e,q⟩:=x;exact ⟨k _ _ (.inl rfl) e,ih q⟩
 | tbl ps =>
  have e:h.get? a=some { cls:=.none,data:=.fields ps }:=x
  show h'.get? a=some { cls:=.none,data:=.fields ps }
  exact k a _ (.inl rfl) e
 | met f y =>
  have e:h.get? a=some (PySem.W.methodObj (.ref f) (.ref y)):=x
  show h'.get? a=some (PySem.W.methodObj (.ref f) (.ref y))
  exact k a _ (.inl rfl) e
 | ext φ=>obtain ⟨p,⟨o,e⟩,st⟩:=x;exact ⟨st _ _ p fun o q=>k _ _ (.inl rfl) q,⟨o,k _ _ (.inl rfl) e⟩,st⟩
theorem HOk.lt (x:HOk P w H h)(e:H a=some o):a < h.objs.size:=(x a o e).lt
theorem HOk.fresh (x:HOk P w H h)(e:h.objs.size ≤ a):H a=none:=by
 cases q:H a with
 | none=>rfl
 | some u=>exact absurd (A8 (x.lt q) e) (BA _)
theorem HOk.kept (x:HOk P w H h)(k:∀ b u,h.get? b=some u→h'.get? b=some u):HOk P w H h':=fun a o e =>
 (x a o e).stay (fun b u _ q=>k b u q) (fun _ q=>q) fun _ _ q=>q
theorem HOk.laid (x:HOk P w H h)(k:∀ b u,h.get? b=some u→h'.get? b=some u)(hp:h.objs.size ≤ a)(new:ObjOk P w (upd H a o) h' a o):HOk P w (upd H a o) h':=fun b u e=>by
 have hn:=x.fresh hp
 by_cases hb:b=a
 ·subst hb;rw [qF] at e;cases e;exact new
 ·rw [q9 hb] at e
  exact (x b u e).stay (fun c v _ q=>k c v q) (fun c q=>by rw [q9 (qC q hn)];exact q) fun c xs q=>by rw [q9 (qC q hn)];exact q
end
noncomputable def Rd (H:Hp)(a:Addr)(u:HO):Prop:=H a=some u∨∃ o,H a=some (.frz o u)
theorem Rd.ok {P:Program}{w:World}{H:Hp}{h:Heap}{a:Addr}{u:HO}(r:Rd H a u)(x:HOk P w H h):ObjOk P w H h a u:=by
 rcases r with r | ⟨o,r⟩
 ·exact x a u r
 ·obtain ⟨_,q⟩:=x a _ r
  exact q
noncomputable def Mut:Option HO→Prop
 | some (.lst _)=>True
 | some (.dK _)=>True
 | some (.dT _)=>True
 | some (.set _ _)=>True
 | some (.ins _ _ _)=>True
 | some (.ext _)=>True
 | _=>False
section
variable {P:Program}{w:World}{H:Hp}{h h':Heap}{x e:Addr}{o':HO}
theorem HOk.write (ok:HOk P w H h)(mu:Mut (H x))(he:e=x∨H e=some (.own x))(k:∀ b u,b ≠ e→h.get? b=some u→h'.get? b=some u)(heo:∃ u,h'.get? e=some u)
  (new:ObjOk P w (upd H x o') h' x o'):HOk P w (upd H x o') h':=fun b u q=>by
 have nown:∀ c y,H c=some (.own y)→c ≠ x:=fun c y r z=>by subst z;rw [r] at mu;exact mu
 have ntup:∀ c xs,H c=some (.tup xs)→c ≠ x:=fun c xs r z=>by subst z;rw [r] at mu;exact mu
 by_cases hb:b=x
 ·subst hb;rw [qF] at q;cases q;exact new
 ·rw [q9 hb] at q
  by_cases hbe:b=e
  ·have q':H b=some (.own x):=by
    rcases he with z | z
    ·exact absurd (hbe.trans z) hb
    ·rw [hbe];exact z
   rw [q] at q';cases q'
   obtain ⟨v,hv⟩:=heo
   exact ⟨v,by rw [hbe];exact hv⟩
  ·refine (ok b u q).stay (fun c v hc r=>k c v ?_ r) (fun c r=>by rw [q9 (nown c b r)];exact r) fun c xs r=>by rw [q9 (ntup c xs r)];exact r
   rcases hc with rfl | hc
   ·exact hbe
   ·rintro rfl
    rcases he with z | z
    ·exact nown c b hc z
    ·rw [hc] at z;cases z;exact hb rfl
end
structure Un (fs ex:List Addr)(H H':Hp)(h h':Heap):Prop where
 keep:∀ b o,h.get? b=some o→H b=none→b ∉ fs→b ∉ ex→h'.get? b=some o
 slot:∀ b o,h.get? b=some o→H b=none→b ∈ fs→b ∉ ex→∃ sl,h'.get? b=some { o with slots:=sl }
 free:∀ b o,h.get? b=some o→H b=none→b ∉ ex→H' b=none
 there:∀ b o,h.get? b=some o→b ∉ ex→∃ o',h'.get? b=some o'
 tups:∀ b xs,H b=some (.tup xs)→H' b=some (.tup xs)
 frzs:∀ b o u,H b=some (.frz o u)→H' b=some (.frz o u)
 tbls:∀ b ps,H b=some (.tbl ps)→∃ more,H' b=some (.tbl (ps ++ more))
section
variable {fs fs' ex ex':List Addr}{H H1 H2:Hp}{h h1 h2 h':Heap}{a x e:Addr}{o:HO}
theorem Un.any (u:Un fs ex H H1 h h1){b:Addr}{ob:Obj}(q:h.get? b=some ob)(n:H b=none)(hx:b ∉ ex):∃ sl,h1.get? b=some { ob with slots:=sl }:=by
 by_cases hb:b ∈ fs
 ·exact u.slot b ob q n hb hx
 ·exact ⟨ob.slots,u.keep b ob q n hb hx⟩
theorem Un.kept (k:∀ b u,h.get? b=some u→h'.get? b=some u):Un fs ex H H h h' :=
 ⟨fun b ob q _ _ _=>k b ob q,fun b ob q _ _ _=>⟨ob.slots,k b ob q⟩,fun _ _ _ n _=>n,fun b ob q _=>⟨ob,k b ob q⟩,fun _ _ q=>q,fun _ _ _ q=>q,fun _ ps q=>⟨#[],by rw [q];simp⟩⟩
theorem Un.refl:Un fs ex H H h h:=Un.kept fun _ _ q=>q
theorem Un.laid (k:∀ b u,h.get? b=some u→h'.get? b=some u)(hp:h.objs.size ≤ a)(hn:H a=none):Un fs ex H (upd H a o) h h' where
 keep:=fun b u q _ _ _=>k b u q
 slot:=fun b u q _ _ _=>⟨u.slots,k b u q⟩
 free:=fun b u q n _=>by rw [q9 (A0 (A8 (Am q) hp))];exact n
 there:=fun b u q _=>⟨u,k b u q⟩
 tups:=fun b xs q=>by rw [q9 (qC q hn)];exact q
 frzs:=fun b u xs q=>by rw [q9 (qC q hn)];exact q
 tbls:=fun b ps q=>⟨#[],by rw [q9 (qC q hn),q];simp⟩
theorem Un.write (mu:Mut (H x))(he:e=x∨H e=some (.own x))(k:∀ b u,b ≠ e→h.get? b=some u→h'.get? b=some u)(heo:∃ u,h'.get? e=some u):Un fs ex H (upd H x o) h h':=by
 have hx:∀ b,H b=none→b ≠ x:=fun b n z=>by subst z;rw [n] at mu;exact mu
 have hb:∀ b,H b=none→b ≠ e:=fun b n z=>by
  subst z
  rcases he with r | r
  ·exact hx b n r
  ·rw [n] at r;cases r
 have hm:∀ b u,H b=some u→¬ Mut (some u)→b ≠ x:=fun b u q nm z=>by subst z;rw [q] at mu;exact nm mu
 refine ⟨fun b u q n _ _=>k b u (hb b n) q,fun b u q n _ _=>⟨u.slots,k b u (hb b n) q⟩,fun b u q n _=>by rw [q9 (hx b n)];exact n,fun b u q _=>?_,
  fun b xs q=>by rw [q9 (hm b _ q fun z=>z)];exact q,fun b u xs q=>by rw [q9 (hm b _ q fun z=>z)];exact q,fun b ps q=>⟨#[],by rw [q9 (hm b _ q fun z=>z),q];simp⟩⟩
 by_cases hbe:b=e
 ·subst hbe;exact heo
 ·exact ⟨u,k b u hbe q⟩
end
noncomputable def trk (h:Heap)(H:Hp):List Addr:=(List.range h.objs.size).filter fun a=>(H a).isSome
noncomputable def nU (h:Heap)(H:Hp):Heap:=PySem.W.hideAll h (trk h H)
theorem eN (h:Heap)(H:Hp):(nU h H).objs.size=h.objs.size:=PySem.W.hideAll_size _ _
theorem hidT_get {h:Heap}{H:Hp}{b:Addr}{o:Obj}(e:h.get? b=some o)(n:H b=none):(nU h H).get? b=some o :=
 PySem.W.hideAll_get _ e fun hm=>by
  have q:(H b).isSome=true:=(Br.mp hm).2
  rw [n] at q;simp at q
theorem of_hidT {h:Heap}{H:Hp}{b:Addr}{o:Obj}(e:(nU h H).get? b=some o):h.get? b=some o∧H b=none:=by
 have e':h.get? b=some o:=PySem.W.of_hideAll (trk h H) e
 refine ⟨e',?_⟩
 cases q:H b with
 | none=>rfl
 | some x =>
  have hm:b ∈ trk h H:=Br.mpr ⟨AD.mpr (Am e'),by simp [q]⟩
  have z:(nU h H).get? b=none:=PySem.W.hideAll_none (trk h H) hm
  rw [z] at e;cases e
noncomputable def allNews (g h:Heap)(L:Addr):List (Addr × Obj):=(List.range h.objs.size).filterMap fun a=>if a=L∨(g.get? a).isSome=true then none else (h.get? a).map fun o=>(a,o)
noncomputable def rest (g h:Heap)(L d:Addr):List (Addr × Obj):=(allNews g h L).filter fun p=>decide (p.1 ≠ d)
end L2
namespace L2
open PySem PySem.Spec PyProof.Rows
structure Mod (K:PySem.W.Frag)(mg:Str→Option Value)(base:Heap):Prop where
 kin:K.In base
 glob:base.Ns mainGlobals mg
 blt:∃ mb,base.Ns builtinsNs mb∧∀ x:Str,x ≠ "__name__" → mb x=bootBuiltins x
 nolimit:base.NoLimit
structure Cx where
 prog:Program
 w:World
 K:PySem.W.Frag
 mg:Str→Option Value
 base:Heap
 A:Around
 N:List Str
 s₀:Shared
 H₀:Hp
 env:Env
 outer:List Env
 stack:List Env
 ex:List Addr
 fn:Str→Bool
 calm:Bool
 pn:List (Addr × Obj)
 xe:Value→Shared→Prop
noncomputable def eO (l:List Env):List Addr:=l.filterMap (·.frame)
noncomputable abbrev Cx.fs (X:Cx):List Addr:=eO X.outer
noncomputable def Vis (sc:Scope)(x:Str):Prop:=sc.names.lookup x=some .local∨sc.names.lookup x=some .cell∨sc.names.lookup x=some .free
noncomputable def Loc (sc:Scope)(x:Str):Prop:=sc.names.lookup x=some .local∨sc.names.lookup x=some .cell
noncomputable def Look (env:Env)(h:Heap)(m:Str→Option Value)(x:Str)(u:Value):Prop :=
 (env.kindOf x=some .local∧m x=some u)∨((env.kindOf x=some .cell∨env.kindOf x=some .free)∧∃ c,env.cells.lookup x=some c∧h.IsCell c (some u))
structure Cx.Ok (X:Cx):Prop where
 mod:Mod X.K X.mg X.base
 kind:X.env.scope.kind = .function
 glob:X.env.globals=mainGlobals
 blt:X.env.builtins=builtinsNs
 above:X.s₀.heap.objs.size ≤ X.env.locals
 inj:∀ x y c,X.env.cells.lookup x=some c→X.env.cells.lookup y=some c→x=y
 has:∀ x,(X.env.kindOf x=some .cell∨X.env.kindOf x=some .free)→∃ c,X.env.cells.lookup x=some c
 cab:∀ x c,X.fn x=true→X.env.cells.lookup x=some c→X.s₀.heap.objs.size ≤ c
 hd:X.calm=true→X.A.handled=none
 frames:X.A.frames=some X.stack
 stk:X.stack=X.outer∨(X.stack=X.env :: X.outer∧X.env.frame=some X.env.locals)
 exf:∀ b ∈ X.ex,b ≠ X.env.locals∧∀ x c,X.env.cells.lookup x=some c→c ≠ b
 bs:∀ b o,X.base.get? b=some o→X.s₀.heap.get? b=some o∧X.H₀ b=none
 bsz:X.base.objs.size ≤ X.s₀.heap.objs.size
 noex:∀ b o,X.base.get? b=some o→b ∉ X.ex
 exfs:∀ b ∈ X.ex,b ∉ X.fs
 funs:X.s₀.heap.FunFrames X.base X.outer
 frf:∀ b ∈ X.fs,X.H₀ b=none
structure Inv (X:Cx)(pins:List (Addr × Obj))(σ:List (Option V))(H:Hp)(s:Shared):Prop where
 ok:X.Ok
 os:s.os=X.s₀.os
 bare:AllBare s.gens
 base:Un X.fs X.ex X.H₀ H X.s₀.heap s.heap
 loc:∃ m,s.heap.Ns X.env.locals m∧∀ (i:Nat) (x:Str) (v:V),X.N[i]? = some x→σ[i]? = some (some v)→Vis X.env.scope x→∃ u,RelV v u∧Look X.env s.heap m x u
 cell:∀ x c,X.env.cells.lookup x=some c→∃ v,s.heap.IsCell c v
 free:H X.env.locals=none
 freeC:∀ x c,X.env.cells.lookup x=some c→H c=none
 pin:∀ p ∈ X.pn ++ pins,s.heap.get? p.1=some p.2∧H p.1=none∧p.1 ≠ X.env.locals∧p.1 ∉ X.fs∧∀ v,p.2.data ≠ .cell v
 hok:HOk X.prog X.w H s.heap
 len:σ.length=X.N.length
section
variable {X:Cx}{pins:List (Addr × Obj)}{σ:List (Option V)}{H H':Hp}{s:Shared}{h':Heap}
theorem Cx.Ok.nofr (ok:X.Ok){b:Addr}{o:Obj}(e:X.base.get? b=some o):b ∉ X.fs:=fun hb=>by
 have:=(ok.funs.mem hb).1
 rw [e] at this;cases this
theorem Inv.bs (I:Inv X pins σ H s):∀ b o,X.base.get? b=some o→s.heap.get? b=some o∧H b=none:=fun b o e =>
 ⟨I.base.keep b o (I.ok.bs b o e).1 (I.ok.bs b o e).2 (I.ok.nofr e) (I.ok.noex b o e),I.base.free b o (I.ok.bs b o e).1 (I.ok.bs b o e).2 (I.ok.noex b o e)⟩
theorem Inv.bk (I:Inv X pins σ H s):∀ b o,X.base.get? b=some o→s.heap.get? b=some o:=fun b o e=>(I.bs b o e).1
theorem Inv.mod (I:Inv X pins σ H s):Mod X.K X.mg X.base:=I.ok.mod
theorem Inv.kIn (I:Inv X pins σ H s):X.K.In s.heap:=I.ok.mod.kin.keeps I.bk
theorem Inv.lt (I:Inv X pins σ H s):X.env.locals < s.heap.objs.size:=let ⟨_,hn,_⟩:=I.loc;hn.lt
theorem Inv.sz (I:Inv X pins σ H s):X.s₀.heap.objs.size ≤ s.heap.objs.size:=AX I.ok.above (AH I.lt)
theorem Inv.nofs (I:Inv X pins σ H s){a:Addr}(h:s.heap.objs.size ≤ a):a ∉ X.fs:=fun hb=>by
 obtain ⟨_,o,ho,_⟩:=I.ok.funs.mem hb
 exact absurd (A8 (Am ho) (AX I.sz h)) (BA _)
theorem Inv.cne (I:Inv X pins σ H s):∀ x c,X.env.cells.lookup x=some c→c ≠ X.env.locals:=fun x c e z=>by
 obtain ⟨v,o,ho,hd⟩:=I.cell x c e
 obtain ⟨m,⟨o',es,ep,ho',hd',_⟩,_⟩:=I.loc
 rw [z,ho'] at ho;cases ho;rw [hd'] at hd;cases hd
theorem Inv.funs (I:Inv X pins σ H s):s.heap.FunFrames X.base X.outer:=by
 have all:∀ (l:List Env),(∀ b ∈ eO l,b ∈ X.fs)→X.s₀.heap.FunFrames X.base l→s.heap.FunFrames X.base l:=by
  intro l
  induction l with
  | nil=>intro _ _;trivial
  | cons env r ih =>
   intro hs hl
   obtain ⟨hk,⟨L,o,hf,hn,ho,hd⟩,hr⟩:=hl
   have hL:L ∈ X.fs:=hs L (by unfold eO;rw [C7,hf];exact A2)
   obtain ⟨sl,e⟩:=I.base.slot L o ho (I.ok.frf L hL) hL fun z=>I.ok.exfs L z hL
   exact ⟨hk,⟨L,_,hf,hn,e,hd⟩,ih (fun b hb=>hs b (by unfold eO;rw [C7,hf];exact Ay _ hb)) hr⟩
 exact all X.outer (fun _ hb=>hb) I.ok.funs
theorem Inv.stack (I:Inv X pins σ H s):s.heap.FunFrames X.base X.stack:=by
 rcases I.ok.stk with e | ⟨e,hf⟩
 ·rw [e];exact I.funs
 ·rw [e]
  obtain ⟨m,hn,_⟩:=I.loc
  refine .cons (by rw [I.ok.kind];decide) hf hn ?_ I.funs
  exact Heap.get?_none_of_le (AX I.ok.bsz I.ok.above)
theorem Inv.stkSub (I:Inv X pins σ H s):∀ b ∈ eO X.stack,b ∈ X.env.locals :: X.fs:=fun b hb=>by
 rcases I.ok.stk with e | ⟨e,hf⟩
 ·rw [e] at hb;exact Ay _ hb
 ·rw [e] at hb
  unfold eO at hb
  rw [C7,hf] at hb
  exact hb
theorem Inv.stkFree (I:Inv X pins σ H s):∀ b ∈ eO X.stack,H b=none:=fun b hb=>by
 rcases A4.mp (I.stkSub b hb) with e | hb
 ·rw [e];exact I.free
 ·obtain ⟨_,o,ho,_⟩:=I.ok.funs.mem hb
  exact I.base.free b o ho (I.ok.frf b hb) fun z=>I.ok.exfs b z hb
theorem Inv.step {g':Array GenState}{t':Nat}{d':Drawn}{ch:List Addr}(I:Inv X pins σ H s)
  (hch:∀ b ∈ ch,(b ∈ X.ex∨X.s₀.heap.objs.size ≤ b)∧b ≠ X.env.locals∧(∀ x c,X.env.cells.lookup x=some c→c ≠ b)∧∀ p ∈ X.pn ++ pins,p.1 ≠ b)
  (keep:∀ b o,b ≠ X.env.locals→b ∉ X.fs→b ∉ ch→s.heap.get? b=some o→H b=none→h'.get? b=some o)
  (slot:∀ b o,b ≠ X.env.locals→b ∈ X.fs→b ∉ ch→s.heap.get? b=some o→H b=none→∃ sl,h'.get? b=some { o with slots:=sl }) (free:∀ b o,b ∉ ch→s.heap.get? b=some o→H b=none→H' b=none)
  (there:∀ b o,b ∉ ch→s.heap.get? b=some o→∃ o',h'.get? b=some o')
  (tups:∀ b xs,H b=some (.tup xs)→H' b=some (.tup xs)) (frzs:∀ b o u,H b=some (.frz o u)→H' b=some (.frz o u)) (tbls:∀ b ps,H b=some (.tbl ps)→∃ more,H' b=some (.tbl (ps ++ more)))
  (ns:∀ m,s.heap.Ns X.env.locals m→h'.Ns X.env.locals m) (hok:HOk X.prog X.w H' h') (hg:AllBare g') :
  Inv X pins σ H' { s with heap:=h',gens:=g',drawn:=d',toks:=t' }:=by
 have neL:∀ b o,X.s₀.heap.get? b=some o→b ≠ X.env.locals:=fun b o e=>A0 (A8 (Am e) I.ok.above)
 have neC:∀ b o,X.s₀.heap.get? b=some o→b ∉ X.ex→b ∉ ch:=fun b o e hx hb=>by
  rcases (hch b hb).1 with z | z
  ·exact hx z
  ·exact absurd (A8 (Am e) z) (BA _)
 have cellK:∀ x c,X.env.cells.lookup x=some c→∀ v,s.heap.IsCell c v→h'.IsCell c v:=fun x c e v ⟨o,ho,hd⟩=>by
  have nch:c ∉ ch:=fun z=>(hch c z).2.2.1 x c e rfl
  by_cases hc:c ∈ X.fs
  ·obtain ⟨sl,q⟩:=slot c o (I.cne x c e) hc nch ho (I.freeC x c e)
   exact ⟨_,q,hd⟩
  ·exact ⟨o,keep c o (I.cne x c e) hc nch ho (I.freeC x c e),hd⟩
 refine ⟨I.ok,I.os,hg,⟨fun b o e n hb hx=>?_,fun b o e n hb hx=>?_,fun b o e n hx=>?_,fun b o e hx=>?_,fun b xs e=>tups b xs (I.base.tups b xs e),fun b o xs e=>frzs b o xs (I.base.frzs b o xs e),fun b ps e=>?_⟩,?_,fun x c e=>?_,?_,fun x c e=>?_,fun p hp=>?_,hok,I.len⟩
 ·exact keep b o (neL b o e) hb (neC b o e hx) (I.base.keep b o e n hb hx) (I.base.free b o e n hx)
 ·obtain ⟨sl,e1⟩:=I.base.slot b o e n hb hx
  obtain ⟨sl',e2⟩:=slot b _ (neL b o e) hb (neC b o e hx) e1 (I.base.free b o e n hx)
  exact ⟨sl',e2⟩
 ·obtain ⟨o',e1⟩:=I.base.there b o e hx
  exact free b o' (neC b o e hx) e1 (I.base.free b o e n hx)
 ·obtain ⟨o',e1⟩:=I.base.there b o e hx
  exact there b o' (neC b o e hx) e1
 ·obtain ⟨m1,e1⟩:=I.base.tbls b ps e
  obtain ⟨m2,e2⟩:=tbls b _ e1
  exact ⟨m1 ++ m2,by rw [e2,Array.append_assoc]⟩
 ·obtain ⟨m,hn,hl⟩:=I.loc
  refine ⟨m,ns m hn,fun i x v e1 e2 e3=>?_⟩
  obtain ⟨u,r,l⟩:=hl i x v e1 e2 e3
  refine ⟨u,r,?_⟩
  rcases l with l | ⟨k,c,e,z⟩
  ·exact .inl l
  ·exact .inr ⟨k,c,e,cellK x c e _ z⟩
 ·obtain ⟨v,z⟩:=I.cell x c e
  exact ⟨v,cellK x c e v z⟩
 ·obtain ⟨m,⟨o,_,_,ho,_⟩,_⟩:=I.loc
  exact free _ o (fun z=>(hch _ z).2.1 rfl) ho I.free
 ·obtain ⟨v,o,ho,hd⟩:=I.cell x c e
  exact free c o (fun z=>(hch c z).2.2.1 x c e rfl) ho (I.freeC x c e)
 ·obtain ⟨e,n,ne,nf,d⟩:=I.pin p hp
  have nch:p.1 ∉ ch:=fun z=>(hch p.1 z).2.2.2 p hp rfl
  exact ⟨keep p.1 p.2 ne nf nch e n,free p.1 p.2 nch e n,ne,nf,d⟩
theorem Inv.un {t':Nat}(I:Inv X pins σ H s)(u:Un X.fs [] H H' s.heap h')(hok:HOk X.prog X.w H' h'):Inv X pins σ H' { s with heap:=h',toks:=t' }:=by
 obtain ⟨m,⟨o,es,ep,ho,r⟩,_⟩:=id I.loc
 obtain ⟨sl,hL⟩:=u.any ho I.free (by simp)
 exact I.step (g':=s.gens) (d':=s.drawn) (ch:=[]) (fun _ z=>nomatch z) (fun b o _ hb _ e n=>u.keep b o e n hb (by simp)) (fun b o _ hb _ e n=>u.slot b o e n hb (by simp)) (fun b o _ e n=>u.free b o e n (by simp)) (fun b o _ e=>u.there b o e (by simp)) u.tups u.frzs u.tbls (fun m' hm=>by
  obtain ⟨o',es',ep',ho',r'⟩:=hm
  rw [ho] at ho';cases ho'
  exact ⟨_,es',ep',hL,r'⟩) hok I.bare
theorem Inv.call {g':Array GenState}{t':Nat}{d':Drawn}{ch:List Addr}(I:Inv X pins σ H s)(u:Un (eO X.stack) ch H H' s.heap h')(hok:HOk X.prog X.w H' h')(hg:AllBare g')
  (hch:∀ b ∈ ch,(b ∈ X.ex∨X.s₀.heap.objs.size ≤ b)∧b ≠ X.env.locals∧(∀ x c,X.env.cells.lookup x=some c→c ≠ b)∧∀ p ∈ X.pn ++ pins,p.1 ≠ b) :
  Inv X pins σ H' { s with heap:=h',gens:=g',drawn:=d',toks:=t' }:=by
 obtain ⟨m,⟨o,es,ep,ho,r⟩,_⟩:=id I.loc
 obtain ⟨sl,hL⟩:=u.any ho I.free fun z=>(hch _ z).2.1 rfl
 exact I.step (ch:=ch) hch (fun b o hL hb hc e n=>u.keep b o e n (fun z=>(A4.mp (I.stkSub b z)).elim hL hb) hc) (fun b o _ _ hc e n=>u.any e n hc) (fun b o hc e n=>u.free b o e n hc) (fun b o hc e=>u.there b o e hc) u.tups u.frzs u.tbls (fun m' hm=>by
  obtain ⟨o',es',ep',ho',r'⟩:=hm
  rw [ho] at ho';cases ho'
  exact ⟨_,es',ep',hL,r'⟩) hok hg
theorem Inv.turned {t':Nat}{it:Addr}(I:Inv X pins σ H s)(k:∀ b o,b ≠ it→s.heap.get? b=some o→h'.get? b=some o)(hn:H it=none)(hL:it ≠ X.env.locals)
  (h1:it ∈ X.ex∨X.s₀.heap.objs.size ≤ it) (h2:∀ x c,X.env.cells.lookup x=some c→c ≠ it) (h3:∀ p ∈ X.pn ++ pins,p.1 ≠ it):Inv X pins σ H { s with heap:=h',toks:=t' }:=by
 have nit:∀ b u,H b=some u→b ≠ it:=fun b u e z=>by rw [z,hn] at e;cases e
 refine I.step (g':=s.gens) (d':=s.drawn) (ch:=[it]) (fun b hb=>?_) (fun b o _ _ hc e _=>k b o (fun z=>hc (by simp [z])) e) (fun b o _ _ hc e _=>⟨o.slots,k b o (fun z=>hc (by simp [z])) e⟩) (fun _ _ _ _ n=>n)
  (fun b o hc e=>⟨o,k b o (fun z=>hc (by simp [z])) e⟩) (fun _ _ e=>e) (fun _ _ _ e=>e) (fun b ps e=>⟨#[],by rw [e];simp⟩) (fun m hm=>?_) (fun b u e=>?_) I.bare
 ·have e:b=it:=by simpa using hb
  subst e
  exact ⟨h1,hL,h2,h3⟩
 ·obtain ⟨o,es,ep,ho,r⟩:=hm
  exact ⟨o,es,ep,k _ o (Cr hL) ho,r⟩
 ·refine (I.hok b u e).stay (fun c v hc q=>k c v ?_ q) (fun _ q=>q) fun _ _ q=>q
  rcases hc with z | z
  ·rw [z];exact nit b u e
  ·exact nit c _ z
theorem Inv.tok (I:Inv X pins σ H s)(t:Nat):Inv X pins σ H { s with toks:=t }:=I.un (h':=s.heap) (t':=t) Un.refl I.hok
theorem Inv.kept {t':Nat}(I:Inv X pins σ H s)(k:∀ b u,s.heap.get? b=some u→h'.get? b=some u):Inv X pins σ H { s with heap:=h',toks:=t' }:=I.un (Un.kept k) (I.hok.kept k)
theorem Inv.laid {a:Addr}{o:HO}{t':Nat}(I:Inv X pins σ H s)(k:∀ b u,s.heap.get? b=some u→h'.get? b=some u)(hp:s.heap.objs.size ≤ a)(new:ObjOk X.prog X.w (upd H a o) h' a o) :
  Inv X pins σ (upd H a o) { s with heap:=h',toks:=t' }:=I.un (Un.laid k hp (I.hok.fresh hp)) (I.hok.laid k hp new)
theorem Inv.write {x e:Addr}{o:HO}{t':Nat}(I:Inv X pins σ H s)(mu:Mut (H x))(he:e=x∨H e=some (.own x))(k:∀ b u,b ≠ e→s.heap.get? b=some u→h'.get? b=some u)(heo:∃ u,h'.get? e=some u)
  (new:ObjOk X.prog X.w (upd H x o) h' x o):Inv X pins σ (upd H x o) { s with heap:=h',toks:=t' }:=I.un (Un.write mu he k heo) (I.hok.write mu he k heo new)
theorem Inv.pins_of {pins':List (Addr × Obj)}(I:Inv X pins σ H s)(h:∀ p ∈ pins',s.heap.get? p.1=some p.2∧H p.1=none∧p.1 ≠ X.env.locals∧p.1 ∉ X.fs∧∀ v,p.2.data ≠ .cell v):Inv X pins' σ H s :=
 ⟨I.ok,I.os,I.bare,I.base,I.loc,I.cell,I.free,I.freeC,fun p hp=>(A3.mp hp).elim (fun z=>I.pin p (List.mem_append_left _ z)) (h p),I.hok,I.len⟩
theorem pP {N:List Str}(hN:N.Nodup){i j:Nat}{x:Str}(a:N[i]? = some x)(b:N[j]? = some x):i=j:=by
 obtain ⟨h1,e1⟩:=Ag.mp a
 obtain ⟨h2,e2⟩:=Ag.mp b
 exact (List.getElem_inj hN).mp (e1.trans e2.symm)
theorem fE {M:Model}{A:Around}{E:Value→Shared→Prop}{i:Nat}{x:Str}{v:V}{u:Value}{Q:Unit→Shared→Prop}(I:Inv X pins σ H s)(hN:X.N.Nodup)(hi:X.N[i]? = some x)(hx:Loc X.env.scope x)(r:RelV v u)
  (h:∀ s',Inv X pins (σ.set i (some v)) H s'→(∃ a,Heap.SameBut a s.heap s'.heap∧(a=X.env.locals∨X.env.cells.lookup x=some a))→Q () s') (hf:X.fn x=true∨X.env.scope.names.lookup x=some .local:=by first | exact .inl rfl | exact .inr rfl | assumption):wpAny M A (storeName X.env x u) Q E s:=by
 obtain ⟨m,hn,hl⟩:=id I.loc
 have hcls:(X.env.scope.kind == .class || (X.env.scope.kind == .module && X.env.locals != X.env.globals))=false:=by rw [I.ok.kind];rfl
 have hiσ:i < σ.length:=by rw [I.len];exact (Ag.mp hi).1
 have cne:=I.cne
 have tracked:∀ {a:Addr} {h':Heap},(∃ o,s.heap.get? a=some o∧H a=none)→Heap.SameBut a s.heap h'→HOk X.prog X.w H h':=fun {a h'} ha hs b ob e=>by
  obtain ⟨_,_,hfree⟩:=ha
  refine (I.hok b ob e).stay (fun c w' hc q=>(hs.2 c ?_).trans q) (fun _ q=>q) fun _ _ q=>q
  rintro rfl
  rcases hc with rfl | hc
  ·rw [hfree] at e;cases e
  ·rw [hfree] at hc;cases hc
 rcases hx with hk | hk
 ·refine wpAny_storeName_local hk hn (fun h' hn' hs=>?_) hcls
  obtain ⟨oL,_,_,hoL,_⟩:=id hn
  refine h _ ⟨I.ok,I.os,I.bare,⟨fun b o e n hb hx=>?_,fun b o e n hb hx=>?_,I.base.free,fun b o e hx=>?_,I.base.tups,I.base.frzs,I.base.tbls⟩,⟨_,hn',fun j y v' e1 e2 e3=>?_⟩,fun y c e=>?_,I.free,I.freeC,fun p hp=>?_,tracked ⟨oL,hoL,I.free⟩ hs,by simpa using I.len⟩ ⟨_,hs,.inl rfl⟩
  ·exact (hs.2 b (A0 (A8 (Am e) I.ok.above))).trans (I.base.keep b o e n hb hx)
  ·obtain ⟨sl,e1⟩:=I.base.slot b o e n hb hx
   exact ⟨sl,(hs.2 b (A0 (A8 (Am e) I.ok.above))).trans e1⟩
  ·obtain ⟨o',e1⟩:=I.base.there b o e hx
   exact ⟨o',(hs.2 b (A0 (A8 (Am e) I.ok.above))).trans e1⟩
  ·by_cases hj:j=i
   ·subst hj
    rw [hi] at e1;cases e1
    rw [List.getElem?_set_self hiσ] at e2
    cases e2
    exact ⟨u,r,.inl ⟨hk,by simp⟩⟩
   ·rw [List.getElem?_set_ne (Cr hj)] at e2
    obtain ⟨u',r',q⟩:=hl j y v' e1 e2 e3
    refine ⟨u',r',?_⟩
    rcases q with ⟨k,e⟩ | ⟨k,c,e,z⟩
    ·refine .inl ⟨k,?_⟩
     have:y ≠ x:=fun e=>hj (pP hN e1 (e ▸ hi))
     simp [this,e]
    ·exact .inr ⟨k,c,e,z.sameBut hs (cne y c e)⟩
  ·obtain ⟨w',z⟩:=I.cell y c e
   exact ⟨w',z.sameBut hs (cne y c e)⟩
  ·obtain ⟨e,n,ne,nf,d⟩:=I.pin p hp
   exact ⟨(hs.2 p.1 ne).trans e,n,ne,nf,d⟩
 ·have hfn:X.fn x=true:=by
   rcases hf with z | z
   ·exact z
   ·rw [z] at hk;cases hk
  obtain ⟨c,hc⟩:=I.ok.has x (.inl hk)
  obtain ⟨w',z⟩:=I.cell x c hc
  refine wpAny_storeName_cell I.ok.kind hk hc z (fun h' hc' hs=>?_)
  obtain ⟨oc,hoc,hocd⟩:=id z
  refine h { s with heap:=h' } ⟨I.ok,I.os,I.bare,⟨fun b o e n hb hx=>?_,fun b o e n hb hx=>?_,I.base.free,fun b o e hx=>?_,I.base.tups,I.base.frzs,I.base.tbls⟩,⟨m,hn.sameBut hs (Cr (cne x c hc)),fun j y v' e1 e2 e3=>?_⟩,fun y c' e=>?_,I.free,I.freeC,fun p hp=>?_,tracked ⟨oc,hoc,I.freeC x c hc⟩ hs,by simpa using I.len⟩ ⟨c,hs,.inr hc⟩
  ·exact (hs.2 b (A0 (A8 (Am e) (I.ok.cab x c hfn hc)))).trans (I.base.keep b o e n hb hx)
  ·obtain ⟨sl,e1⟩:=I.base.slot b o e n hb hx
   exact ⟨sl,(hs.2 b (A0 (A8 (Am e) (I.ok.cab x c hfn hc)))).trans e1⟩
  ·obtain ⟨o',e1⟩:=I.base.there b o e hx
   exact ⟨o',(hs.2 b (A0 (A8 (Am e) (I.ok.cab x c hfn hc)))).trans e1⟩
  ·by_cases hj:j=i
   ·subst hj
    rw [hi] at e1;cases e1
    rw [List.getElem?_set_self hiσ] at e2
    cases e2
    exact ⟨u,r,.inr ⟨.inl hk,c,hc,hc'⟩⟩
   ·rw [List.getElem?_set_ne (Cr hj)] at e2
    obtain ⟨u',r',q⟩:=hl j y v' e1 e2 e3
    refine ⟨u',r',?_⟩
    rcases q with q | ⟨k,c',e,z'⟩
    ·exact .inl q
    ·refine .inr ⟨k,c',e,z'.sameBut hs ?_⟩
     rintro rfl
     exact hj (pP hN e1 (I.ok.inj _ _ _ e hc ▸ hi))
  ·by_cases hcc:c'=c
   ·subst hcc;exact ⟨_,hc'⟩
   ·obtain ⟨w2,z2⟩:=I.cell y c' e
    exact ⟨w2,z2.sameBut hs hcc⟩
  ·obtain ⟨e,n,ne,nf,d⟩:=I.pin p hp
   refine ⟨(hs.2 p.1 ?_).trans e,n,ne,nf,d⟩
   intro q
   rw [q,hoc] at e
   have q':oc=p.2:=A9 e
   exact d w' (by rw [← q'];exact hocd)
theorem vM {M:Model}{A:Around}{E:Value→Shared→Prop}{i:Nat}{x:Str}{v:V}{u:Value}{Q:Unit→Shared→Prop}(I:Inv X pins σ H s)(hN:X.N.Nodup)(hi:X.N[i]? = some x)(hx:Loc X.env.scope x)(r:RelV v u)
  (h:∀ s',Inv X pins (σ.set i (some v)) H s'→Q () s') (hf:X.fn x=true∨X.env.scope.names.lookup x=some .local:=by first | exact .inl rfl | exact .inr rfl | assumption):wpAny M A (storeName X.env x u) Q E s :=
 fE I hN hi hx r (fun s' I' _=>h s' I') hf
theorem Inv.call' {s':Shared}{ch:List Addr}(I:Inv X pins σ H s)(ho:s'.os=s.os)(u:Un (eO X.stack) ch H H' s.heap s'.heap)(hok:HOk X.prog X.w H' s'.heap)(hg:AllBare s'.gens)
  (hch:∀ b ∈ ch,(b ∈ X.ex∨X.s₀.heap.objs.size ≤ b)∧b ≠ X.env.locals∧(∀ x c,X.env.cells.lookup x=some c→c ≠ b)∧∀ p ∈ X.pn ++ pins,p.1 ≠ b):Inv X pins σ H' s':=by
 obtain ⟨h',g',d',t',o'⟩:=s'
 have e:o'=s.os:=ho
 subst e
 exact I.call (g':=g') (t':=t') (d':=d') u hok hg hch
end
noncomputable abbrev XK:=Value→Option Addr→Hp→Prop
noncomputable abbrev St:=List (Option V)
noncomputable abbrev VK:=V→Hp→Prop
noncomputable abbrev TE:=St→Hp→VK→Prop
noncomputable abbrev TT:=St→Hp→(Bool→Hp→Prop)→Prop
noncomputable abbrev TA:=St→Hp→(List V→Hp→Prop)→Prop
structure Ends where
 nx:St→Hp→Prop
 rt:VK
 bk:St→Hp→Prop:=fun _ _=>False
 ct:St→Hp→Prop:=fun _ _=>False
noncomputable abbrev TS:=Ends→St→Hp→Prop
noncomputable def EP (X:Cx)(pins:List (Addr × Obj))(σ:St)(Q:VK)(u:Value)(s':Shared):Prop:=∃ v H',Inv X pins σ H' s'∧RelV v u∧Q v H'
noncomputable def TP (X:Cx)(pins:List (Addr × Obj))(σ:St)(Q:Bool→Hp→Prop)(b:Bool)(s':Shared):Prop:=∃ H',Inv X pins σ H' s'∧Q b H'
noncomputable def AP (X:Cx)(pins:List (Addr × Obj))(σ:St)(Q:List V→Hp→Prop)(us:List Value)(s':Shared):Prop:=∃ vs H',Inv X pins σ H' s'∧Vals vs us∧Q vs H'
noncomputable def SP (X:Cx)(pins:List (Addr × Obj))(D:Ends)(f:Flow)(s':Shared):Prop :=
 match f with
 | .next=>∃ σ' H',Inv X pins σ' H' s'∧D.nx σ' H'
 | .brk=>∃ σ' H',Inv X pins σ' H' s'∧D.bk σ' H'
 | .cont=>∃ σ' H',Inv X pins σ' H' s'∧D.ct σ' H'
 | .ret u=>∃ v σ' H',Inv X pins σ' H' s'∧RelV v u∧D.rt v H'
noncomputable def PE (X:Cx)(e:Expr)(t:TE):Prop :=
 ∀ (pins:List (Addr × Obj)) (s:Shared) (σ:St) (H:Hp) (Q:VK),Inv X pins σ H s→t σ H Q→wpAny (model X.prog X.w) X.A (eval e X.env) (EP X pins σ Q) X.xe s
noncomputable def PT (X:Cx)(e:Expr)(t:TT):Prop :=
 ∀ (pins:List (Addr × Obj)) (s:Shared) (σ:St) (H:Hp) (Q:Bool→Hp→Prop),Inv X pins σ H s→t σ H Q→wpAny (model X.prog X.w) X.A (isTrue e X.env (eval e X.env)) (TP X pins σ Q) X.xe s
noncomputable def PW (X:Cx)(e:Expr)(t:TT):Prop :=
 ∀ (whole:Sem Value) (pins:List (Addr × Obj)) (s:Shared) (σ:St) (H:Hp) (Q:Bool→Hp→Prop),Inv X pins σ H s→t σ H Q→wpAny (model X.prog X.w) X.A (isTrue e X.env whole) (TP X pins σ Q) X.xe s
theorem PW.pt {X:Cx}{e:Expr}{t:TT}(h:PW X e t):PT X e t:=h _
noncomputable def PA (X:Cx)(es:List Expr)(t:TA):Prop :=
 ∀ (pos:Pos) (pins:List (Addr × Obj)) (s:Shared) (σ:St) (H:Hp) (Q:List V→Hp→Prop),Inv X pins σ H s→t σ H Q→wpAny (model X.prog X.w) X.A (spliced (backTo pos (starEach es X.env))) (AP X pins σ Q) X.xe s
noncomputable def PS (X:Cx)(st:Stmt)(t:TS):Prop :=
 ∀ (pins:List (Addr × Obj)) (s:Shared) (σ:St) (H:Hp) (D:Ends),Inv X pins σ H s→t D σ H→wpAny (model X.prog X.w) X.A (exec st X.env) (SP X pins D) X.xe s
noncomputable def PSs (X:Cx)(st:List Stmt)(t:TS):Prop :=
 ∀ (pins:List (Addr × Obj)) (s:Shared) (σ:St) (H:Hp) (D:Ends),Inv X pins σ H s→t D σ H→wpAny (model X.prog X.w) X.A (execs st X.env) (SP X pins D) X.xe s
theorem jM {α:Type}{t:Sem α}{Q Q':α→Shared→Prop}{M:Model}{A:Around}{E:Value→Shared→Prop}{s:Shared}(h:wpAny M A t Q E s)(hQ:∀ a s,Q a s→Q' a s):wpAny M A t Q' E s:=wpAny_mono h hQ fun _ _ x=>x
end L2
namespace L2
open PySem PySem.Spec PyProof.Rows
section
variable {X:Cx}
noncomputable def j7 (i:Nat):TE:=fun σ H Q=>∃ v,σ[i]? = some (some v)∧Q v H
noncomputable def tC (v:V):TE:=fun _ H Q=>Q v H
theorem pe_var {i:Nat}{x:Str}{pos:Pos}(hN:X.N[i]? = some x)(hv:Vis X.env.scope x)(hd:(x == ("__debug__" : Str))=false:=by decide) (hcd:(x == ("__classdict__" : Str))=false:=by decide):PE X (.Name x pos) (j7 i):=by
 intro pins s σ H Q I h
 obtain ⟨v,e,h⟩:=h
 obtain ⟨m,hn,hl⟩:=I.loc
 obtain ⟨u,r,l⟩:=hl i x v hN e hv
 have fin:EP X pins σ Q u s:=⟨v,H,I,r,h⟩
 rcases l with ⟨hk,hm⟩ | ⟨hk,c,hc,hcell⟩
 ·exact wpAny_Name (wpAny_loadName_local I.ok.kind hk hn hm fin) hd
 ·rcases hk with hk | hk
  ·exact wpAny_Name (wpAny_loadName_cell I.ok.kind hk hc hcell fin) hd
  ·exact wpAny_Name (wpAny_loadName_free I.ok.kind hk hc hcell fin hcd) hd
theorem qD {i j pos}:PE X (.Constant (.int i) j pos) (tC (.int i)):=fun _ _ _ H _ I h=>wpAny_Constant_int ⟨.int i,H,I.tok _,⟨_,rfl⟩,h⟩
theorem yB {b j pos}:PE X (.Constant (.bool b) j pos) (tC (.bl b)):=fun _ _ _ H _ I h=>Constant_bool ⟨.bl b,H,I,rfl,h⟩
theorem nK {j pos}:PE X (.Constant .none j pos) (tC .non):=fun _ _ _ H _ I h=>Constant_none ⟨.non,H,I,rfl,h⟩
theorem jG {x j pos}:PE X (.Constant (.str x) j pos) (tC (.str x)):=fun _ _ _ H _ I h=>Calls.Constant_str ⟨.str x,H,I.tok _,⟨_,rfl⟩,h⟩
noncomputable def Gl (X:Cx)(x:Str):Prop:=X.env.kindOf x=some .globalImplicit
theorem ld_glob {E:Value→Shared→Prop}{pins:List (Addr × Obj)}{s:Shared}{σ:St}{H:Hp}{x:Str}{u:Value}{pos:Pos}{Q:Value→Shared→Prop}(I:Inv X pins σ H s)(hg:Gl X x)(hm:X.mg x=some u)(h:Q u s)
  (hd:(x == ("__debug__" : Str))=false:=by decide):wpAny (model X.prog X.w) X.A (eval (.Name x pos) X.env) Q E s :=
 Calls.Name_function_global I.ok.kind hg (Calls.loadGlobal_global (by rw [I.ok.glob];exact I.mod.glob.keeps I.bk) hm h) hd
theorem xA {E:Value→Shared→Prop}{pins:List (Addr × Obj)}{s:Shared}{σ:St}{H:Hp}{x:Str}{u:Value}{pos:Pos}{Q:Value→Shared→Prop}(I:Inv X pins σ H s)(hg:Gl X x)(hm:X.mg x=none)(hv:bootBuiltins x=some u)(h:Q u s)
  (hn:x ≠ "__name__" := by decide) (hd:(x == ("__debug__" : Str))=false:=by decide):wpAny (model X.prog X.w) X.A (eval (.Name x pos) X.env) Q E s:=by
 obtain ⟨mb,h1,h2⟩:=I.mod.blt
 exact Calls.Name_function_global I.ok.kind hg (Calls.loadGlobal_builtin (by rw [I.ok.glob];exact I.mod.glob.keeps I.bk) hm (by rw [I.ok.blt];exact h1.keeps I.bk) ((h2 x hn).trans hv) h) hd
theorem jX {x:Str}{v:V}{u:Value}{pos:Pos}(hg:Gl X x)(hm:X.mg x=none)(hv:bootBuiltins x=some u)(r:RelV v u)(hn:x ≠ "__name__" := by decide) (hd:(x == ("__debug__" : Str))=false:=by decide):PE X (.Name x pos) (tC v) :=
 fun _ _ _ H _ I h=>xA I hg hm hv ⟨v,H,I,r,h⟩ hn hd
variable {a b:Expr}{ta tb:TE}{pos:Pos}
noncomputable def PC (X:Cx)(op:CmpOp)(a b:Expr)(t:TE):Prop :=
 ∀ (pins:List (Addr × Obj)) (s:Shared) (σ:St) (H:Hp) (Q:VK),Inv X pins σ H s→t σ H Q →
  wpAny (model X.prog X.w) X.A (eval a X.env) (fun v s₁=>wpAny (model X.prog X.w) X.A (eval b X.env) (fun u s₂=>wpAny (model X.prog X.w) X.A (compareOp op v u) (EP X pins σ Q) X.xe s₂) X.xe s₁) X.xe s
noncomputable def tB (t:TE):TT:=fun σ H Q=>t σ H fun x H1=>∃ c,x = .bl c∧Q c H1
theorem jQ {e:Expr}{t:TE}(h:PE X e t)(he:∀ whole,isTrue e X.env whole=(do let v ← whole;standAt e.pos;holding [v] (truthy v)):=by intro _;rfl):PT X e (tB t):=by
 intro pins s σ H Q I hw
 refine isTrue_plain (jM (h pins s σ H _ I hw) fun v s1 ⟨x,H1,I1,r1,q1⟩=>?_) (he _)
 obtain ⟨d,rfl,q⟩:=q1
 cases r1
 exact wpAny_truthy_bool ⟨H1,I1,q⟩
variable {tA tB':TT}{rest:List Expr}
noncomputable def tAnd (t u:TT):TT:=fun σ H Q=>t σ H fun c H1=>if c=true then u σ H1 Q else Q false H1
noncomputable def tOr (t u:TT):TT:=fun σ H Q=>t σ H fun c H1=>if c=true then Q true H1 else u σ H1 Q
noncomputable def tNot (t:TT):TT:=fun σ H Q=>t σ H fun c H1=>Q (!c) H1
theorem wG (ha:PT X a tA):PW X (.BoolOp .And [a] pos) tA:=by
 intro wh pins s σ H Q I h
 refine isTrue_and (jM (ha pins s σ H Q I h) fun c s1 e=>?_)
 cases c with
 | true=>exact isTrue_and_nil e
 | false=>exact e
theorem yJ (ha:PT X a tA):PW X (.BoolOp .Or [a] pos) tA:=by
 intro wh pins s σ H Q I h
 refine isTrue_or (jM (ha pins s σ H Q I h) fun c s1 e=>?_)
 cases c with
 | false=>exact isTrue_or_nil e
 | true=>exact e
theorem nG (ha:PT X a tA)(hb:PW X (.BoolOp .And (b :: rest) pos) tB'):PW X (.BoolOp .And (a :: b :: rest) pos) (tAnd tA tB'):=by
 intro wh pins s σ H Q I h
 refine isTrue_and (jM (ha pins s σ H _ I h) fun c s1 ⟨H1,I1,q1⟩=>?_)
 cases c with
 | true=>exact hb wh pins s1 σ H1 Q I1 q1
 | false=>exact ⟨H1,I1,q1⟩
theorem yA (ha:PT X a tA)(hb:PW X (.BoolOp .Or (b :: rest) pos) tB'):PW X (.BoolOp .Or (a :: b :: rest) pos) (tOr tA tB'):=by
 intro wh pins s σ H Q I h
 refine isTrue_or (jM (ha pins s σ H _ I h) fun c s1 ⟨H1,I1,q1⟩=>?_)
 cases c with
 | true=>exact ⟨H1,I1,q1⟩
 | false=>exact hb wh pins s1 σ H1 Q I1 q1
theorem j3 (ha:PT X a tA):PT X (.UnaryOp .Not a pos) (tNot tA):=by
 intro pins s σ H Q I h
 exact isTrue_not (ha pins s σ H (fun c H1=>Q (!c) H1) I h)
noncomputable def tAndV (ta tb:TE):TE:=fun σ H Q=>ta σ H fun x H1=>∃ c,x = .bl c∧if c=true then tb σ H1 Q else Q (.bl false) H1
noncomputable def tOrV (ta tb:TE):TE:=fun σ H Q=>ta σ H fun x H1=>∃ c,x = .bl c∧if c=true then Q (.bl true) H1 else tb σ H1 Q
noncomputable def tNotV (ta:TE):TE:=fun σ H Q=>ta σ H fun x H1=>∃ c,x = .bl c∧Q (.bl (!c)) H1
theorem yL {op}{t:TE}(h:PE X a t):PE X (.BoolOp op [a] pos) t:=fun pins s σ H Q I hw=>BoolOp_one (h pins s σ H Q I hw)
theorem zY (ha:PE X a ta)(hb:PE X (.BoolOp .And (b :: rest) pos) tb):PE X (.BoolOp .And (a :: b :: rest) pos) (tAndV ta tb):=by
 intro pins s σ H Q I h
 refine BoolOp_and (jM (ha pins s σ H _ I h) fun v s1 ⟨x,H1,I1,r1,q1⟩=>?_)
 obtain ⟨c,rfl,q1⟩:=q1
 cases r1
 refine wpAny_truthy_bool ?_
 cases c with
 | true=>exact hb pins s1 σ H1 Q I1 q1
 | false=>exact ⟨.bl false,H1,I1,rfl,q1⟩
theorem pe_or (ha:PE X a ta)(hb:PE X (.BoolOp .Or (b :: rest) pos) tb):PE X (.BoolOp .Or (a :: b :: rest) pos) (tOrV ta tb):=by
 intro pins s σ H Q I h
 refine BoolOp_or (jM (ha pins s σ H _ I h) fun v s1 ⟨x,H1,I1,r1,q1⟩=>?_)
 obtain ⟨c,rfl,q1⟩:=q1
 cases r1
 refine wpAny_truthy_bool ?_
 cases c with
 | false=>exact hb pins s1 σ H1 Q I1 q1
 | true=>exact ⟨.bl true,H1,I1,rfl,q1⟩
theorem pe_not (ha:PE X a ta):PE X (.UnaryOp .Not a pos) (tNotV ta):=by
 intro pins s σ H Q I h
 refine UnaryOp_ (jM (ha pins s σ H _ I h) fun v s1 ⟨x,H1,I1,r1,q1⟩=>?_)
 obtain ⟨c,rfl,q1⟩:=q1
 cases r1
 exact not_of (wpAny_truthy_bool ⟨.bl (!c),H1,I1,rfl,q1⟩)
noncomputable def tIf (t:TT)(ta tb:TE):TE:=fun σ H Q=>t σ H fun c H1=>if c=true then ta σ H1 Q else tb σ H1 Q
theorem vU {c:Expr}(hc:PT X c tA)(ha:PE X a ta)(hb:PE X b tb):PE X (.IfExp c a b pos) (tIf tA ta tb):=by
 intro pins s σ H Q I h
 refine wpAny_IfExp (jM (hc pins s σ H _ I h) fun d s1 ⟨H1,I1,q1⟩=>?_)
 cases d with
 | true=>exact ha pins s1 σ H1 Q I1 q1
 | false=>exact hb pins s1 σ H1 Q I1 q1
end
end L2
namespace L2
open PySem PySem.Spec PyProof.Rows
noncomputable def SqL (K:PySem.W.Frag)(H:Hp)(a:Addr)(xs:List V):Prop :=
 Rd H a (.lst xs) ∨
  ∃ (o:Obj) (its:Array Value) (n:Nat),K.lookup a=some o∧o.cls = .type "list" ∧ o.dict=none∧o.data = .seq its n∧its.size ≤ sizeLine∧Vals xs its.toList
noncomputable def SqT (K:PySem.W.Frag)(H:Hp)(a:Addr)(xs:List V):Prop :=
 Rd H a (.tup xs) ∨
  ∃ (o:Obj) (its:Array Value) (n:Nat),K.lookup a=some o∧o.cls = .type "tuple" ∧ o.data = .seq its n∧its.size ≤ sizeLine∧Vals xs its.toList
noncomputable def absV:Value→Option V
 | .none=>some .non
 | .bool b=>some (.bl b)
 | .int i _=>some (.int i)
 | .str x _=>some (.str x)
 | .bytes b _=>some (.byt b)
 | .float b _=>some (.flt b)
 | .ref a=>some (.ref a)
 | .type n=>some (.ty n)
 | _=>none
theorem RelV.abs {x:V}{u:Value}(r:RelV x u):absV u=some x:=by
 cases x with
 | non=>cases r;rfl
 | bl _=>cases r;rfl
 | int _=>obtain ⟨t,rfl⟩:=r;rfl
 | str _=>obtain ⟨t,rfl⟩:=r;rfl
 | byt _=>obtain ⟨t,rfl⟩:=r;rfl
 | flt _=>obtain ⟨t,rfl⟩:=r;rfl
 | ref _=>cases r;rfl
 | ty _=>cases r;rfl
theorem RelV.inj {x y:V}{u:Value}(r:RelV x u)(q:RelV y u):x=y:=A9 (r.abs.symm.trans q.abs)
theorem Vals.inj:∀ {xs ys:List V} {us:List Value},Vals xs us→Vals ys us→xs=ys
 | _,_,_,.nil,.nil=>rfl
 | _,_,_,.cons r t,.cons r' t'=>by rw [r.inj r',Vals.inj t t']
section
variable {X:Cx}{pins:List (Addr × Obj)}{σ:St}{H:Hp}{s:Shared}{a:Addr}{xs ys:List V}
theorem SqL.of {K:PySem.W.Frag}(h:H a=some (.lst xs)):SqL K H a xs:=.inl (.inl h)
theorem SqT.of {K:PySem.W.Frag}(h:H a=some (.tup xs)):SqT K H a xs:=.inl (.inl h)
theorem Inv.list (I:Inv X pins σ H s)(h:SqL X.K H a xs):∃ its:List Value,Vals xs its∧PlainL s.heap a its.toArray∧xs.length ≤ sizeLine:=by
 rcases h with h | ⟨o,its,n,hk,hc,hd,hs,hz,r⟩
 ·obtain ⟨z,its,n,r,e⟩:=h.ok I.hok
  exact ⟨its,r,⟨_,n,e,rfl,rfl,rfl⟩,z⟩
 ·refine ⟨its.toList,r,⟨o,n,I.kIn a o hk,hc,hd,by simpa using hs⟩,?_⟩
  have e:=r.length
  simp only [Cd] at e
  omega
theorem Inv.tuple (I:Inv X pins σ H s)(h:SqT X.K H a xs):∃ its:List Value,Vals xs its∧IsTup s.heap a its.toArray∧xs.length ≤ sizeLine:=by
 rcases h with h | ⟨o,its,n,hk,hc,hs,hz,r⟩
 ·obtain ⟨z,its,r,p⟩:=h.ok I.hok
  exact ⟨its,r,p,z⟩
 ·refine ⟨its.toList,r,⟨o,I.kIn a o hk,hc,n,by simpa using hs⟩,?_⟩
  have e:=r.length
  simp only [Cd] at e
  omega
theorem Inv.list_inj (I:Inv X pins σ H s)(h:SqL X.K H a xs)(h':SqL X.K H a ys):xs=ys:=by
 obtain ⟨its,r,⟨o,n,e,_,_,d⟩,_⟩:=I.list h
 obtain ⟨its',r',⟨o',n',e',_,_,d'⟩,_⟩:=I.list h'
 rw [e] at e';cases e'
 rw [d] at d'
 injection d' with d1 _
 have:its=its':=by simpa using AY Array.toList d1
 subst this
 exact r.inj r'
theorem Inv.tuple_inj (I:Inv X pins σ H s)(h:SqT X.K H a xs)(h':SqT X.K H a ys):xs=ys:=by
 obtain ⟨its,r,⟨o,e,_,n,d⟩,_⟩:=I.tuple h
 obtain ⟨its',r',⟨o',e',_,n',d'⟩,_⟩:=I.tuple h'
 rw [e] at e';cases e'
 rw [d] at d'
 injection d' with d1 _
 have:its=its':=by simpa using AY Array.toList d1
 subst this
 exact r.inj r'
end
noncomputable abbrev Cx.wish (X:Cx)(E:Value→Shared→Prop):Cx:={ X with xe:=E }
noncomputable abbrev Cx.nox (X:Cx):Cx:=X.wish fun _ _=>False
theorem Cx.Ok.wish {X:Cx}(ok:X.Ok)(E:Value→Shared→Prop):(X.wish E).Ok :=
 ⟨ok.mod,ok.kind,ok.glob,ok.blt,ok.above,ok.inj,ok.has,ok.cab,ok.hd,ok.frames,ok.stk,ok.exf,ok.bs,ok.bsz,ok.noex,ok.exfs,ok.funs,ok.frf⟩
theorem Cx.Ok.unwish {X:Cx}{E:Value→Shared→Prop}(ok:(X.wish E).Ok):X.Ok :=
 ⟨ok.mod,ok.kind,ok.glob,ok.blt,ok.above,ok.inj,ok.has,ok.cab,ok.hd,ok.frames,ok.stk,ok.exf,ok.bs,ok.bsz,ok.noex,ok.exfs,ok.funs,ok.frf⟩
section
variable {X:Cx}{pins:List (Addr × Obj)}{σ:St}{H:Hp}{s:Shared}{E:Value→Shared→Prop}
theorem Inv.wish (I:Inv X pins σ H s)(E:Value→Shared→Prop):Inv (X.wish E) pins σ H s:=⟨I.ok.wish E,I.os,I.bare,I.base,I.loc,I.cell,I.free,I.freeC,I.pin,I.hok,I.len⟩
theorem Inv.unwish (I:Inv (X.wish E) pins σ H s):Inv X pins σ H s:=⟨I.ok.unwish,I.os,I.bare,I.base,I.loc,I.cell,I.free,I.freeC,I.pin,I.hok,I.len⟩
theorem SP.unwish {D:Ends}{f:Flow}{s':Shared}(h:SP (X.wish E) pins D f s'):SP X pins D f s':=by
 cases f with
 | next=>obtain ⟨σ',H',I,q⟩:=h;exact ⟨σ',H',I.unwish,q⟩
 | brk=>obtain ⟨σ',H',I,q⟩:=h;exact ⟨σ',H',I.unwish,q⟩
 | cont=>obtain ⟨σ',H',I,q⟩:=h;exact ⟨σ',H',I.unwish,q⟩
 | ret u=>obtain ⟨v,σ',H',I,r,q⟩:=h;exact ⟨v,σ',H',I.unwish,r,q⟩
theorem PSs.nox {st:List Stmt}{t:TS}(h:PSs X.nox st t):PSs X st t:=fun pins s σ H D I hw =>
 wpAny_mono (h pins s σ H D (I.wish _) hw) (fun _ _ q=>q.unwish) fun _ _ z=>False.elim z
end
section
variable {X:Cx}{st:Stmt}{rest:List Stmt}{t u:TS}{e:Expr}{te:TE}{pos:Pos}
noncomputable def tNext:TS:=fun D σ H=>D.nx σ H
noncomputable def aD (t u:TS):TS:=fun D σ H=>t { D with nx:=u D } σ H
theorem kW:PSs X [] tNext:=fun _ _ σ H _ I h=>wpAny_execs_nil ⟨σ,H,I,h⟩
theorem jI (h1:PS X st t)(h2:PSs X rest u):PSs X (st :: rest) (aD t u):=by
 intro pins s σ H D I h
 refine wpAny_execs_cons (jM (h1 pins s σ H { D with nx:=u D } I h) fun f s1 q=>?_)
 cases f with
 | next =>
  obtain ⟨σ',H',I',q⟩:=q
  exact h2 pins s1 σ' H' D I' q
 | ret v=>exact q
 | brk=>exact q
 | cont=>exact q
theorem qM (h1:PS X st t):PSs X [st] t:=by
 intro pins s σ H D I h
 refine wpAny_execs_cons (jM (h1 pins s σ H D I h) fun f s1 q=>?_)
 cases f with
 | next=>exact wpAny_execs_nil q
 | ret v=>exact q
 | brk=>exact q
 | cont=>exact q
theorem Inv.quiet {pins:List (Addr × Obj)}{σ:St}{H:Hp}{s:Shared}(I:Inv X pins σ H s):interactive X.env=false:=by simp [interactive,I.ok.kind]
noncomputable def tDrop (te:TE):TS:=fun D σ H=>te σ H fun _ H1=>D.nx σ H1
theorem wH (he:PE X e te)(hs:swapsWith e none pos.line X.env=pure false:=by rfl):PS X (.Expr e pos) (tDrop te):=by
 intro pins s σ H D I h
 exact wpAny_Expr_any (jM (he pins s σ H _ I h) fun v s1 ⟨x,H1,I1,r1,q1⟩=>⟨σ,H1,I1,q1⟩) I.quiet hs
noncomputable def tRet (te:TE):TS:=fun D σ H=>te σ H D.rt
theorem q8 (he:PE X e te):PS X (.Return (some e) pos) (tRet te):=by
 intro pins s σ H D I h
 exact wpAny_Return_some (jM (he pins s σ H _ I h) fun v s1 ⟨x,H1,I1,r1,q1⟩=>⟨x,σ,H1,I1,r1,q1⟩)
noncomputable def tIfS (c:TT)(t u:TS):TS:=fun D σ H=>c σ H fun b H1=>if b=true then t D σ H1 else u D σ H1
theorem jV {c:Expr}{a b:List Stmt}{tc:TT}(hc:PT X c tc)(ha:PSs X a t)(hb:PSs X b u):PS X (.If c a b pos) (tIfS tc t u):=by
 intro pins s σ H D I h
 refine wpAny_If (jM (hc pins s σ H _ I h) fun d s1 ⟨H1,I1,q1⟩=>?_)
 cases d with
 | true=>exact ha pins s1 σ H1 D I1 q1
 | false=>exact hb pins s1 σ H1 D I1 q1
end
noncomputable abbrev TG:=V→St→Hp→(St→Hp→Prop)→Prop
noncomputable abbrev TGs:=List V→St→Hp→(St→Hp→Prop)→Prop
noncomputable def PG (X:Cx)(target:Expr)(t:TG):Prop :=
 ∀ (pins:List (Addr × Obj)) (s:Shared) (σ:St) (H:Hp) (v:V) (u:Value) (Q:St→Hp→Prop),Inv X pins σ H s→RelV v u→t v σ H Q →
  wpAny (model X.prog X.w) X.A (assign target X.env u) (fun _ s'=>∃ σ' H',Inv X pins σ' H' s'∧Q σ' H') X.xe s
noncomputable def PGs (X:Cx)(ts:List Expr)(t:TGs):Prop :=
 ∀ (pins:List (Addr × Obj)) (s:Shared) (σ:St) (H:Hp) (vs:List V) (us:List Value) (Q:St→Hp→Prop),Inv X pins σ H s→Vals vs us→t vs σ H Q →
  wpAny (model X.prog X.w) X.A (assignInOrder ((assignEach ts X.env).map (·.2)) us) (fun _ s'=>∃ σ' H',Inv X pins σ' H' s'∧Q σ' H') X.xe s
noncomputable abbrev TSet:=V→V→V→Hp→(Hp→Prop)→Prop
noncomputable def PSet (X:Cx)(t:TSet):Prop :=
 ∀ (pins:List (Addr × Obj)) (s:Shared) (σ:St) (H:Hp) (o i v:V) (ov iv u:Value) (Q:Hp→Prop),Inv X pins σ H s→RelV o ov→RelV i iv→RelV v u→t o i v H Q →
  wpAny (model X.prog X.w) X.A (setItem ov iv u) (fun _ s'=>∃ H',Inv X pins σ H' s'∧Q H') X.xe s
noncomputable abbrev TIp:=V→V→Hp→VK→Prop
noncomputable def PIp (X:Cx)(op:Operator)(t:TIp):Prop :=
 ∀ (pins:List (Addr × Obj)) (s:Shared) (σ:St) (H:Hp) (x y:V) (v u:Value) (Q:VK),Inv X pins σ H s→RelV x v→RelV y u→t x y H Q →
  wpAny (model X.prog X.w) X.A (inplaceOp op v u) (EP X pins σ Q) X.xe s
section
variable {X:Cx}{pos:Pos}
noncomputable def jZ (i:Nat):TG:=fun v σ H Q=>Q (σ.set i (some v)) H
theorem qH {i:Nat}{x:Str}(hN:X.N.Nodup)(hi:X.N[i]? = some x)(hx:Loc X.env.scope x)(hf:X.fn x=true∨X.env.scope.names.lookup x=some .local:=by first | exact .inl rfl | exact .inr rfl | assumption):PG X (.Name x pos) (jZ i):=by
 intro pins s σ H v u Q I r h
 exact wpAny_assign_Name (vM I hN hi hx r (fun s' I'=>⟨_,H,I',h⟩) hf)
noncomputable def gNil:TGs:=fun vs σ H Q=>vs=[]∧Q σ H
noncomputable def hZ (t:TG)(u:TGs):TGs:=fun vs σ H Q=>∃ v r,vs=v :: r∧t v σ H fun σ' H'=>u r σ' H' Q
theorem kJ:PGs X [] gNil:=by
 intro pins s σ H vs us Q I r h
 obtain ⟨e,h⟩:=h
 subst e
 cases r
 exact assignInOrder_nil ⟨σ,H,I,h⟩
theorem qJ {e:Expr}{es:List Expr}{t:TG}{u:TGs}(h1:PG X e t)(h2:PGs X es u)
  (hs:(assignEach (e :: es) X.env).map (·.2)=assign e X.env :: (assignEach es X.env).map (·.2):=by rfl):PGs X (e :: es) (hZ t u):=by
 intro pins s σ H vs us Q I r h
 obtain ⟨v,vr,e1,h⟩:=h
 subst e1
 cases r with
 | cons r rr =>
  rw [hs]
  refine assignInOrder_cons (jM (h1 pins s σ H _ _ _ I r h) fun _ s1 ⟨σ1,H1,I1,q1⟩=>?_)
  exact h2 pins s1 σ1 H1 _ _ Q I1 rr q1
noncomputable def gTup (K:PySem.W.Frag)(n:Nat)(t:TGs):TG:=fun v σ H Q=>∃ a xs,v = .ref a∧SqT K H a xs∧xs.length=n∧t xs σ H Q
theorem pg_tup {es:List Expr}{k:Nat}{t:TGs}{n:Nat}(hc:X.calm=true)(h:PGs X es t)
  (hn:(assignEach es X.env).length=n:=by rfl) (hst:(assignEach es X.env).findIdx? (·.1)=none:=by rfl):PG X (.Tuple es k pos) (gTup X.K n t):=by
 intro pins s σ H v u Q I r hw
 obtain ⟨a,xs,e1,hq,hl,hw⟩:=hw
 subst e1
 cases r
 obtain ⟨its,rv,ht,hz⟩:=I.tuple hq
 refine assign_Tuple_tuple (I.ok.hd hc) ht (by simp [hn,← hl,rv.length]) hst fun h' hx=>?_
 have I1:Inv X pins σ H { s with heap:=h' }:=I.kept (t':=s.toks) fun b o e=>hx b o (A0 (Am e)) e
 exact h pins _ σ H xs _ Q I1 (by simpa using rv) hw
noncomputable def gSub (to ti:TE)(t:TSet):TG:=fun v σ H Q=>to σ H fun o H1=>ti σ H1 fun i H2=>t o i v H2 fun H3=>Q σ H3
theorem fJ {o i:Expr}{to ti:TE}{t:TSet}(ho:PE X o to)(hi:PE X i ti)(hs:PSet X t)
  (ha:∀ v,assign (.Subscript o i pos) X.env v=(do
   let ov ← holding [v] (eval o X.env)
   let iv ← holding [v,ov] (eval i X.env)
   standAt pos
   holding [v,ov,iv] (setItem ov iv v)
   release [v,ov,iv] []):=by intro _;rfl):PG X (.Subscript o i pos) (gSub to ti t):=by
 intro pins s σ H v u Q I r h
 rw [ha]
 refine wpAny_bind (wpAny_holding (jM (ho pins s σ H _ I h) fun ov s1 ⟨x,H1,I1,r1,q1⟩=>?_))
 refine wpAny_bind (wpAny_holding (jM (hi pins s1 σ H1 _ I1 q1) fun iv s2 ⟨y,H2,I2,r2,q2⟩=>?_))
 refine wpAny_bind (wpAny_standAt (wpAny_bind (wpAny_holding (jM (hs pins s2 σ H2 x y v ov iv u _ I2 r1 r2 r q2) fun _ s3 ⟨H3,I3,q3⟩=>?_))))
 exact wpAny_release ⟨σ,H3,I3,q3⟩
noncomputable def lK (te:TE)(g:TG):TS:=fun D σ H=>te σ H fun x H1=>g x σ H1 D.nx
theorem zG {tg e:Expr}{te:TE}{g:TG}(he:PE X e te)(hg:PG X tg g)(hs:swapsWithSole [tg] e pos.line X.env=pure false:=by rfl)(hw:swappedStores [tg] e X.env=pure none:=by rfl)
  (h1:(assignEach [tg] X.env).map (·.2)=[assign tg X.env]:=by rfl):PS X (.Assign [tg] e pos) (lK te g):=by
 intro pins s σ H D I h
 refine wpAny_Assign_stores (jM (he pins s σ H _ I h) fun v s1 ⟨x,H1,I1,r1,q1⟩=>?_) hs hw
 rw [h1]
 exact jM (hg pins s1 σ H1 x v _ I1 r1 q1) fun _ s2 q=>q
theorem kQ {i:Nat}{x:Str}{e:Expr}{te:TE}{pos':Pos}(hN:X.N.Nodup)(hi:X.N[i]? = some x)(hx:Loc X.env.scope x)(he:PE X e te)(hs:swapsWith e (some (.Name x pos')) pos.line X.env=pure false:=by rfl)(hf:X.fn x=true∨X.env.scope.names.lookup x=some .local:=by first | exact .inl rfl | exact .inr rfl | assumption) :
  PS X (.Assign [.Name x pos'] e pos) (lK te (jZ i)):=by
 intro pins s σ H D I h
 refine wpAny_Assign_Name (jM (he pins s σ H _ I h) fun v s1 ⟨y,H1,I1,r1,q1⟩=>?_) hs
 exact vM I1 hN hi hx r1 (fun s2 I2=>⟨_,H1,I2,q1⟩) hf
noncomputable def tPar (i j:Nat)(ta:TA):TS:=fun D σ H=>ta σ H fun vs H1=>∃ v w,vs=[v,w]∧D.nx ((σ.set i (some v)).set j (some w)) H1
theorem oG {i j:Nat}{x y:Str}{a b:Expr}{ta:TA}{px py pt:Pos}{kt k2 pt2}(hc:X.calm=true)(hN:X.N.Nodup)(hi:X.N[i]? = some x)(hj:X.N[j]? = some y)(hij:i ≠ j)
  (hx:X.env.scope.names.lookup x=some .local) (hy:X.env.scope.names.lookup y=some .local) (ha:PA X [a,b] ta)
  (hw:swappedStores [.Tuple [.Name x px,.Name y py] kt pt] (.Tuple [a,b] k2 pt2) X.env=pure (some [x,y]))
  (hs:swapsWithSole [.Tuple [.Name x px,.Name y py] kt pt] (.Tuple [a,b] k2 pt2) pos.line X.env=pure false:=by rfl) :
  PS X (.Assign [.Tuple [.Name x px,.Name y py] kt pt] (.Tuple [a,b] k2 pt2) pos) (tPar i j ta):=by
 intro pins s σ H D I h
 rw [exec_Assign_arm]
 refine wpAny_bind (wpAny_standAt ?_)
 rw [hs]
 refine wpAny_bind (wpAny_pure ?_)
 rw [Ah (by decide)]
 refine wpAny_bind (Tuple_ (jM (ha _ pins s σ H _ I h) fun us s1 ⟨vs,H1,I1,r1,q1⟩=>?_))
 obtain ⟨v,w,e1,q1⟩:=q1
 subst e1
 obtain ⟨u1,u2,rfl,rv,rw'⟩:∃ u1 u2,us=[u1,u2]∧RelV v u1∧RelV w u2:=by
  cases r1 with
  | cons p q =>
   cases q with
   | cons p' q' =>
    cases q'
    exact ⟨_,_,rfl,p,p'⟩
 refine wpAny_newObj_type ?_ (by show 2 ≤ sizeLine;decide)
 have I2:Inv X pins σ H1 { s1 with heap:=s1.heap.push { cls:=.type "tuple",data:=.seq [u1,u2].toArray } }:=I1.kept (t':=s1.toks) fun b o e=>Ac _ e
 rw [hw]
 refine wpAny_bind (wpAny_pure ?_)
 show wpAny (model X.prog X.w) X.A (do rule "assign.swapped-stores";let items ← unpackItems (.ref s1.heap.objs.size) 2 none;assignInOrder [fun v=>bindName X.env y v,fun v=>bindName X.env x v] items.reverse;pure Flow.next) _ _ _
 refine wpAny_bind (wpAny_rule (wpAny_bind (unpackItems_tuple (items := #[u1,u2]) (I.ok.hd hc) (IsTup.new s1.heap _) fun h' hx'=>?_)))
 have I3:=I2.kept (h':=h') (t':=s1.toks) fun b o e=>hx' b o (A0 (Am e)) e
 show wpAny _ _ (assignInOrder [fun v=>bindName X.env y v,fun v=>bindName X.env x v] [u2,u1] >>= fun _=>pure Flow.next) _ _ _
 refine wpAny_bind (assignInOrder_cons (wpAny_bindName (vM I3 hN hj (.inl hy) rw' (fun s2 I4=>?_) (.inr hy))))
 refine assignInOrder_cons (wpAny_bindName (vM I4 hN hi (.inl hx) rv (fun s3 I5=>assignInOrder_nil (wpAny_pure ?_)) (.inr hx)))
 rw [List.set_comm _ _ (Cr hij)] at I5
 exact ⟨_,H1,I5,q1⟩
noncomputable def tAug (i:Nat)(te:TE)(ti:TIp):TS:=fun D σ H=>∃ x,σ[i]? = some (some x)∧te σ H fun y H1=>ti x y H1 fun z H2=>D.nx (σ.set i (some z)) H2
theorem ps_aug {i:Nat}{x:Str}{e:Expr}{te:TE}{op:Operator}{ti:TIp}{pos':Pos}(hN:X.N.Nodup)(hi:X.N[i]? = some x)(hx:Loc X.env.scope x)(he:PE X e te)(ho:PIp X op ti)(hf:X.fn x=true∨X.env.scope.names.lookup x=some .local:=by first | exact .inl rfl | exact .inr rfl | assumption) :
  PS X (.AugAssign (.Name x pos') op e pos) (tAug i te ti):=by
 intro pins s σ H D I h
 obtain ⟨v,e1,h⟩:=h
 obtain ⟨m,hn,hl⟩:=I.loc
 have vis:Vis X.env.scope x:=by rcases hx with k | k;exact .inl k;exact .inr (.inl k)
 obtain ⟨u,r,l⟩:=hl i x v hi e1 vis
 refine wpAny_AugAssign_Name ?_
 have go:wpAny (model X.prog X.w) X.A (eval e X.env) (fun w s₂=>wpAny (model X.prog X.w) X.A (inplaceOp op u w) (fun r s₃=>wpAny (model X.prog X.w) X.A (storeName X.env x r) (fun _=>SP X pins D .next) X.xe s₃) X.xe s₂) X.xe s:=by
  refine jM (he pins s σ H _ I h) fun w s1 ⟨y,H1,I1,r1,q1⟩=>?_
  refine jM (ho pins s1 σ H1 v y u w _ I1 r r1 q1) fun z s2 ⟨zv,H2,I2,r2,q2⟩=>?_
  exact vM I2 hN hi hx r2 (fun s3 I3=>⟨_,H2,I3,q2⟩) hf
 rcases l with ⟨hk,hm⟩ | ⟨hk,c,hc,hcell⟩
 ·exact wpAny_loadName_local I.ok.kind hk hn hm go
 ·rcases hk with hk | hk
  ·exact wpAny_loadName_cell I.ok.kind hk hc hcell go
  ·rcases hx with k | k
   ·have:X.env.scope.names.lookup x=some .free:=hk
    rw [k] at this;cases this
   ·have:X.env.scope.names.lookup x=some .free:=hk
    rw [k] at this;cases this
noncomputable def tAugS (to ti te:TE)(tget:V→V→Hp→VK→Prop)(tip:TIp)(tset:TSet):TS:=fun D σ H=>to σ H fun o H1=>ti σ H1 fun i H2=>tget o i H2 fun x H3=>te σ H3 fun y H4=>tip x y H4 fun z H5=>tset o i z H5 fun H6=>D.nx σ H6
noncomputable def PGet (X:Cx)(t:V→V→Hp→VK→Prop):Prop :=
 ∀ (pins:List (Addr × Obj)) (s:Shared) (σ:St) (H:Hp) (o i:V) (ov iv:Value) (Q:VK),Inv X pins σ H s→RelV o ov→RelV i iv→t o i H Q →
  wpAny (model X.prog X.w) X.A (getItem ov iv) (EP X pins σ Q) X.xe s
theorem nH {o i e:Expr}{to ti te:TE}{tget:V→V→Hp→VK→Prop}{tip:TIp}{tset:TSet}{op:Operator}{tpos:Pos}(ho:PE X o to)(hi:PE X i ti)(hg:PGet X tget)(he:PE X e te)(hp:PIp X op tip)(hs:PSet X tset)
  (ha:∀ ov iv new,augStore i ov iv new=(do holding [new,ov,iv] (setItem ov iv new);release [new,ov,iv] [];pure .next):=by intros;rfl):PS X (.AugAssign (.Subscript o i tpos) op e pos) (tAugS to ti te tget tip tset):=by
 intro pins s σ H D I h
 refine wpAny_AugAssign_SubscriptAny (jM (ho pins s σ H _ I h) fun ov s1 ⟨x1,H1,I1,r1,q1⟩=>?_) ha
 refine jM (hi pins s1 σ H1 _ I1 q1) fun iv s2 ⟨x2,H2,I2,r2,q2⟩=>?_
 refine jM (hg pins s2 σ H2 x1 x2 ov iv _ I2 r1 r2 q2) fun old s3 ⟨x3,H3,I3,r3,q3⟩=>?_
 refine jM (he pins s3 σ H3 _ I3 q3) fun v s4 ⟨x4,H4,I4,r4,q4⟩=>?_
 refine jM (hp pins s4 σ H4 x3 x4 old v _ I4 r3 r4 q4) fun new s5 ⟨x5,H5,I5,r5,q5⟩=>?_
 exact jM (hs pins s5 σ H5 x1 x2 x5 ov iv new _ I5 r1 r2 r5 q5) fun _ s6 ⟨H6,I6,q6⟩=>⟨σ,H6,I6,q6⟩
noncomputable def ipI (f:Int→Int→Int):TIp:=fun x y H Q=>∃ i j,x = .int i∧y = .int j∧Q (.int (f i j)) H
theorem ip_add:PIp X .Add (ipI fun i j=>i + j):=by
 intro pins s σ H x y v u Q I r1 r2 h
 obtain ⟨i,j,e1,e2,q⟩:=h
 subst e1;subst e2
 obtain ⟨t,rfl⟩:=r1
 obtain ⟨t',rfl⟩:=r2
 exact iadd_int ⟨.int _,H,I.tok _,⟨_,rfl⟩,q⟩
theorem ip_sub:PIp X .Sub (ipI fun i j=>i - j):=by
 intro pins s σ H x y v u Q I r1 r2 h
 obtain ⟨i,j,e1,e2,q⟩:=h
 subst e1;subst e2
 obtain ⟨t,rfl⟩:=r1
 obtain ⟨t',rfl⟩:=r2
 exact isub_int ⟨.int _,H,I.tok _,⟨_,rfl⟩,q⟩
end
section
variable {X:Cx}{pos:Pos}
noncomputable def iQ (c:TT)(tb:TS):TS:=fun D σ H=>∃ W:Nat→St→Hp→Prop,(∃ m,W m σ H)∧∀ m σ H,W m σ H →
 c σ H fun b H1=>if b=true then ∃ N:St→Hp→Prop,(∀ σ' H',N σ' H'→∃ m',m' < m∧W m' σ' H')∧tb { D with nx:=N,ct:=N,bk:=D.nx } σ H1 else D.nx σ H1
theorem oF {c:Expr}{body:List Stmt}{tc:TT}{tb:TS}(hp:PassesOwn (model X.prog X.w) X.A X.env X.xe)(hc:PT X c tc)(hb:PSs X body tb):PS X (.While c body [] pos) (iQ tc tb):=by
 intro pins s σ H D I h
 obtain ⟨W,⟨m0,w0⟩,turn⟩:=h
 refine wpAny_While (codeAny_whileLoop (fun n s'=>∃ σ' H',Inv X pins σ' H' s'∧W n σ' H') ?_ m0 ⟨σ,H,I,w0⟩)
 rintro n s1 ⟨σ1,H1,I1,w1⟩
 refine wpAny_passesOwn hp (jM (hc pins s1 σ1 H1 _ I1 (turn n σ1 H1 w1)) fun b s2 ⟨H2,I2,q2⟩=>?_)
 cases b with
 | true =>
  obtain ⟨N,hN,q2⟩:=q2
  rw [Ai rfl]
  refine wpAny_passesOwn hp (jM (hb pins s2 σ1 H2 _ I2 q2) fun f s3 q3=>?_)
  cases f with
  | next =>
   obtain ⟨σ3,H3,I3,n3⟩:=q3
   obtain ⟨m',hm,w3⟩:=hN σ3 H3 n3
   exact ⟨m',hm,σ3,H3,I3,w3⟩
  | cont =>
   obtain ⟨σ3,H3,I3,n3⟩:=q3
   obtain ⟨m',hm,w3⟩:=hN σ3 H3 n3
   exact ⟨m',hm,σ3,H3,I3,w3⟩
  | brk=>exact q3
  | ret v=>exact q3
 | false =>
  rw [Ah A1]
  exact wpAny_execs_nil ⟨σ1,H2,I2,q2⟩
end
structure It where
 go:Nat→Hp→Prop
 yld:Nat→Hp→V→Hp→Prop
 stop:Nat→Hp→Prop
noncomputable def yU (X:Cx)(pins:List (Addr × Obj))(H:Hp)(b:Addr):Prop :=
 H b=none∧b ≠ X.env.locals∧b ∉ X.fs∧(b ∈ X.ex∨X.s₀.heap.objs.size ≤ b)∧(∀ x c,X.env.cells.lookup x=some c→c ≠ b)∧∀ p ∈ X.pn ++ pins,p.1 ≠ b
theorem Inv.fpOk {X:Cx}{pins:List (Addr × Obj)}{σ:St}{H H':Hp}{s:Shared}{b:Addr}(I:Inv X pins σ H s)(hb:s.heap.objs.size ≤ b)(hn:H' b=none):yU X pins H' b:=by
 refine ⟨hn,Dc (A8 I.lt hb),I.nofs hb,.inr (AX I.sz hb),fun x c e z=>?_,fun p hp z=>?_⟩
 ·obtain ⟨v,q⟩:=I.cell x c e
  exact absurd (A8 q.lt (by rw [z];exact hb)) (BA _)
 ·exact absurd (A8 (Am (I.pin p hp).1) (by rw [z];exact hb)) (BA _)
structure Turn (P:Program)(w:World)(K:PySem.W.Frag)(tg:Expr)(J:It)(fp:List Addr)(it:Addr)(tn:Nat→Heap→Prop):Prop where
 mem:it ∈ fp
 obj:∀ i h,tn i h→∀ b ∈ fp,∃ o,h.get? b=some o∧∀ v,o.data ≠ .cell v
 keep:∀ i h h',tn i h→(∀ b ∈ fp,∀ o,h.get? b=some o→h'.get? b=some o)→tn i h'
 item:∀ (X:Cx),X.prog=P→X.w=w→X.K=K→X.calm=true→∀ (i:Nat) (pins:List (Addr × Obj)) (s:Shared) (σ:St) (H:Hp) (E:Value→Shared→Prop),Inv X pins σ H s→(∀ b ∈ fp,yU X pins H b)→tn i s.heap→J.go i H →
  wpAny (model P w) X.A (pyNext (.ref it)) (fun r s1=>∃ u,r=some u ∧
   wpAny (model P w) X.A (letOwnedTupleGo tg (.ref it) u) (fun _ s2=>∃ x H',Inv X pins σ H' s2∧RelV x u∧J.yld i H x H'∧tn (i + 1) s2.heap∧∀ b ∈ fp,H' b=none) E s1) E s
 done:∀ (X:Cx),X.prog=P→X.w=w→X.K=K→X.calm=true→∀ (i:Nat) (pins:List (Addr × Obj)) (s:Shared) (σ:St) (H:Hp) (E:Value→Shared→Prop),Inv X pins σ H s→(∀ b ∈ fp,yU X pins H b)→tn i s.heap→J.stop i H →
  wpAny (model P w) X.A (pyNext (.ref it)) (fun r s1=>r=none∧Inv X pins σ H s1) E s
 self:∀ (A:Around) (i:Nat) (s:Shared) (Q:Value→Shared→Prop) (E:Value→Shared→Prop),tn i s.heap→Q (.ref it) s→wpAny (model P w) A (pyIter (.ref it)) Q E s
noncomputable abbrev TI:=St→Hp→(It→Hp→Prop)→Prop
noncomputable def PIE (X:Cx)(pins:List (Addr × Obj))(σ:St)(tg:Expr)(R:It→Hp→Prop)(itv:Value)(s2:Shared):Prop :=
 ∃ (it:Addr) (fp:List Addr) (tn:Nat→Heap→Prop) (J:It) (H':Hp),itv = .ref it∧Inv X pins σ H' s2∧Turn X.prog X.w X.K tg J fp it tn∧tn 0 s2.heap∧(∀ b ∈ fp,yU X pins H' b)∧R J H'
noncomputable def PI (X:Cx)(tg iter:Expr)(wi:TI):Prop :=
 ∀ (pins:List (Addr × Obj)) (s:Shared) (σ:St) (H:Hp) (R:It→Hp→Prop),Inv X pins σ H s→wi σ H R →
  wpAny (model X.prog X.w) X.A (eval iter X.env) (fun v s1=>wpAny (model X.prog X.w) X.A (pyIter v) (PIE X pins σ tg R) X.xe s1) X.xe s
theorem go_of {M : Model}{A : Around}{E : Value → Shared → Prop}{s : Shared}{tg : Expr}{it : Addr}{u : Value}{o : Obj}{n : String}{vs : Array Value}{Q : Unit → Shared → Prop}(ho : s.heap.get? it = some o)(hc : o.cls = .type n)(hd : o.data = .fields vs)
    (hn : ["enumerate", "zip", "dict_itemiterator", "dict_reverseitemiterator", "odict_iterator", "itertools.zip_longest", "itertools.pairwise"].contains n = false) (hQ : Q () s) : wpAny M A (letOwnedTupleGo tg (.ref it) u) Q E s := by
  unfold letOwnedTupleGo
  cases tg <;> first
    | exact wpAny_pure hQ
    | (cases u <;> first
        | exact wpAny_pure hQ
        | (refine wpAny_bind (wpAny_load ho ?_)
           rw [hc, hd]
           show wpAny M A (if (["enumerate", "zip", "dict_itemiterator", "dict_reverseitemiterator", "odict_iterator", "itertools.zip_longest", "itertools.pairwise"].contains n && vs[0]? == some (rawInt _)) = true then _ else _) Q E s
           rw [Ah (by intro h; rw [hn, Bz] at h; cases h)]
           exact wpAny_pure hQ))
noncomputable def Itl (K:PySem.W.Frag)(a:Addr):It :=
 ⟨fun i H=>∃ xs x,SqL K H a xs∧xs[i]? = some x,fun i H x H'=>H'=H∧∀ xs,SqL K H a xs→xs[i]? = some x,fun i H=>∃ xs,SqL K H a xs∧xs.length ≤ i⟩
noncomputable def Itt (K:PySem.W.Frag)(a:Addr):It :=
 ⟨fun i H=>∃ xs x,SqT K H a xs∧xs[i]? = some x,fun i H x H'=>H'=H∧∀ xs,SqT K H a xs→xs[i]? = some x,fun i H=>∃ xs,SqT K H a xs∧xs.length ≤ i⟩
noncomputable def Itr (lo:Int)(n:Nat):It:=⟨fun i _=>i < n,fun i H x H'=>H'=H∧x = .int (lo + i),fun i _=>n ≤ i⟩
theorem cO {P:Program}{w:World}{K:PySem.W.Frag}{tg:Expr}(a it:Addr):Turn P w K tg (Itl K a) [it] it (fun i h=>h.IsListIter it a i) where
 mem:=by simp
 obj:=fun i h st b hb=>by
  have e:b=it:=by simpa using hb
  subst e
  obtain ⟨o,e,c,d⟩:=st
  exact ⟨o,e,fun v z=>by rw [d] at z;cases z⟩
 keep:=fun i h h' st k=>st.at fun o e=>k it (by simp) o e
 item:=by
  intro X hP hw hK hc i pins s σ H E I hf st hg
  subst hP hw hK
  obtain ⟨xs,x,hq,hx⟩:=hg
  obtain ⟨its,rv,p,hz⟩:=I.list hq
  obtain ⟨u,hu,ru⟩:=rv.get hx
  obtain ⟨f0,f1,f2,f3,f4,f5⟩:=hf it (by simp)
  refine wpAny_pyNext_list_item st p.isList (x:=u) (by simpa using hu) fun h' st' sb=>?_
  have I1:Inv X pins σ H { s with heap:=h' }:=I.turned (t':=s.toks) (fun b o hb e=>(sb.2 b hb).trans e) f0 f1 f3 f4 f5
  obtain ⟨o,e,c,d⟩:=id st'
  exact ⟨u,rfl,go_of (s:={ s with heap:=h' }) e c d (by decide) ⟨x,H,I1,ru,⟨rfl,fun ys hy=>by rw [I.list_inj hy hq];exact hx⟩,st',fun b hb=>(hf b hb).1⟩⟩
 done:=by
  intro X hP hw hK hc i pins s σ H E I hf st hg
  subst hP hw hK
  obtain ⟨xs,hq,hx⟩:=hg
  obtain ⟨its,rv,p,hz⟩:=I.list hq
  obtain ⟨f0,f1,f2,f3,f4,f5⟩:=hf it (by simp)
  have hl:=rv.length
  exact wpAny_pyNext_list_end (I.ok.hd hc) st p.isList (by simp;omega) fun h' eb=>⟨rfl,I.turned (t':=s.toks) (fun b o hb e=>eb b o hb e) f0 f1 f3 f4 f5⟩
 self:=fun _ _ _ _ _ st h=>wpAny_pyIter_listiter st h
theorem wX {P:Program}{w:World}{K:PySem.W.Frag}{tg:Expr}(a it:Addr):Turn P w K tg (Itt K a) [it] it (fun i h=>h.IsTupleIter it a i) where
 mem:=by simp
 obj:=fun i h st b hb=>by
  have e:b=it:=by simpa using hb
  subst e
  obtain ⟨o,e,c,d⟩:=st
  exact ⟨o,e,fun v z=>by rw [d] at z;cases z⟩
 keep:=fun i h h' st k=>st.at fun o e=>k it (by simp) o e
 item:=by
  intro X hP hw hK hc i pins s σ H E I hf st hg
  subst hP hw hK
  obtain ⟨xs,x,hq,hx⟩:=hg
  obtain ⟨its,rv,p,hz⟩:=I.tuple hq
  obtain ⟨u,hu,ru⟩:=rv.get hx
  obtain ⟨f0,f1,f2,f3,f4,f5⟩:=hf it (by simp)
  refine wpAny_pyNext_tuple_item st (show s.heap.IsTuple a its.toArray from p) (x:=u) (by simpa using hu) fun h' st' sb=>?_
  have I1:Inv X pins σ H { s with heap:=h' }:=I.turned (t':=s.toks) (fun b o hb e=>(sb.2 b hb).trans e) f0 f1 f3 f4 f5
  obtain ⟨o,e,c,d⟩:=id st'
  exact ⟨u,rfl,go_of (s:={ s with heap:=h' }) e c d (by decide) ⟨x,H,I1,ru,⟨rfl,fun ys hy=>by rw [I.tuple_inj hy hq];exact hx⟩,st',fun b hb=>(hf b hb).1⟩⟩
 done:=by
  intro X hP hw hK hc i pins s σ H E I hf st hg
  subst hP hw hK
  obtain ⟨xs,hq,hx⟩:=hg
  obtain ⟨its,rv,p,hz⟩:=I.tuple hq
  obtain ⟨f0,f1,f2,f3,f4,f5⟩:=hf it (by simp)
  have hl:=rv.length
  exact wpAny_pyNext_tuple_end (I.ok.hd hc) st (show s.heap.IsTuple a its.toArray from p) (by simp;omega) fun h' eb=>⟨rfl,I.turned (t':=s.toks) (fun b o hb e=>eb b o hb e) f0 f1 f3 f4 f5⟩
 self:=fun _ _ _ _ _ st h=>wpAny_pyIter_tupleiter st h
theorem rQ {P:Program}{w:World}{K:PySem.W.Frag}{tg:Expr}(it:Addr)(lo:Int)(n:Nat):Turn P w K tg (Itr lo n) [it] it (fun i h=>IsRangeIter h it (lo + (i:Nat) * 1) ((n:Int) - (i:Nat)) 1) where
 mem:=by simp
 obj:=fun i h st b hb=>by
  have e:b=it:=by simpa using hb
  subst e
  exact ⟨_,st,fun v z=>by
   have z':Data.fields _=Data.cell v:=z
   cases z'⟩
 keep:=fun i h h' st k=>k it (by simp) _ st
 item:=by
  intro X hP hw hK hc i pins s σ H E I hf st hg
  subst hP hw hK
  obtain ⟨f0,f1,f2,f3,f4,f5⟩:=hf it (by simp)
  have W:=Walks.range (prog:=X.prog) (w:=X.w) (I.ok.hd hc) it lo 1 n
  refine W.item i s _ _ hg st fun v h' tk hv st' kk=>?_
  obtain ⟨t,rfl⟩:=hv
  have I1:Inv X pins σ H { s with heap:=h',toks:=tk }:=I.turned (fun b o hb e=>kk b o (by simpa using hb) e) f0 f1 f3 f4 f5
  refine ⟨_,rfl,go_of (s:={ s with heap:=h',toks:=tk }) (n := "range_iterator") st' rfl rfl (by decide) ⟨.int (lo + i),H,I1,⟨t,?_⟩,⟨rfl,rfl⟩,st',fun b hb=>(hf b hb).1⟩⟩
  rw [Cz]
 done:=by
  intro X hP hw hK hc i pins s σ H E I hf st hg
  subst hP hw hK
  obtain ⟨f0,f1,f2,f3,f4,f5⟩:=hf it (by simp)
  exact wpAny_pyNext_range_end (I.ok.hd hc) st (by have:n ≤ i:=hg;omega) fun h' eb=>⟨rfl,I.turned (t':=s.toks) (fun b o hb e=>eb b o hb e) f0 f1 f3 f4 f5⟩
 self:=fun _ _ _ _ _ st h=>wpAny_pyIter_rangeiter st h
end L2
namespace L2
open PySem PySem.Spec PyProof.Rows
section
variable {X:Cx}{tg:Expr}
theorem pF {pins:List (Addr × Obj)}{σ:St}{H:Hp}{s:Shared}{R:It→Hp→Prop}{E:Value→Shared→Prop}{lo hi:Int}{t u v:Tok}{tk:Nat}(I:Inv X pins σ H s)(h1 : -(2 ^ 62) ≤ lo)(h2:lo < 2 ^ 62)(h3 : -(2 ^ 62) ≤ hi)(h4:hi < 2 ^ 62)
  (q:R (Itr lo (hi - lo).toNat) H):wpAny (model X.prog X.w) X.A (pyIter (.ref s.heap.objs.size)) (PIE X pins σ tg R) E { s with heap:=s.heap.push { cls:=.type "range",data:=.fields #[.int lo t,.int hi u,.int 1 v] },toks:=tk }:=by
 refine wpAny_pyIter_range (IsRange.new ..) (small_one h1 h2 h3 h4) ?_
 have I1:Inv X pins σ H { s with heap:=s.heap.push { cls:=.type "range",data:=.fields #[.int lo t,.int hi u,.int 1 v] },toks:=tk }:=I.kept fun b o e=>Ac _ e
 refine ⟨(s.heap.push { cls:=.type "range",data:=.fields #[.int lo t,.int hi u,.int 1 v] }).objs.size,[(s.heap.push { cls:=.type "range",data:=.fields #[.int lo t,.int hi u,.int 1 v] }).objs.size],_,_,H,rfl,
  I1.kept (t':=tk) fun b o e=>Ac _ e,rQ _ lo (hi - lo).toNat,?_,fun b hb=>?_,q⟩
 ·have e1:lo + ((0:Nat):Int) * 1=lo:=by simp
  have e2:(((hi - lo).toNat:Nat):Int) - ((0:Nat):Int)=Builtin.Range.rangeSize lo hi 1:=by rw [rangeSize_one];split <;> omega
  show IsRangeIter _ _ (lo + ((0:Nat):Int) * 1) ((((hi - lo).toNat:Nat):Int) - ((0:Nat):Int)) 1
  rw [e1,e2]
  exact Ao _ rfl
 ·have e:b=(s.heap.push { cls:=.type "range",data:=.fields #[.int lo t,.int hi u,.int 1 v] }).objs.size:=by simpa using hb
  subst e
  exact I1.fpOk (Ak _) (I1.hok.fresh (Ak _))
noncomputable def iRng1 (ta:TA):TI:=fun σ H R=>ta σ H fun vs H1=>∃ j:Int,vs=[.int j]∧-(2 ^ 62) ≤ j∧j < 2 ^ 62∧R (Itr 0 j.toNat) H1
noncomputable def iRng2 (ta:TA):TI:=fun σ H R=>ta σ H fun vs H1=>∃ i j:Int,vs=[.int i,.int j]∧(-(2 ^ 62) ≤ i∧i < 2 ^ 62∧-(2 ^ 62) ≤ j∧j < 2 ^ 62)∧R (Itr i (j - i).toNat) H1
theorem kT {a:Expr}{ta:TA}{p pos:Pos}(hg:Gl X "range") (hm:X.mg "range" = none) (ha:PA X [a] ta) (hs:starEach [a] X.env=[(false,eval a X.env)]:=by rfl):PI X tg (.Call (.Name "range" p) [a] [] pos) (iRng1 ta):=by
 intro pins s σ H R I h
 refine Call_ (xA I hg hm boot_range (Bd (jM (ha pos pins s σ H _ I h) fun us s1 ⟨vs,H1,I1,r1,q1⟩=>?_) hs rfl))
 obtain ⟨j,e,q1,q2,q⟩:=q1
 subst e
 cases r1 with
 | cons r rr =>
  cases rr
  obtain ⟨t,rfl⟩:=r
  exact call_range_1 (pF I1 (by omega) (by omega) q1 q2 (by simpa using q))
theorem mC {a b:Expr}{ta:TA}{p pos:Pos}(hg:Gl X "range") (hm:X.mg "range" = none) (ha:PA X [a,b] ta) (hs:starEach [a,b] X.env=[(false,eval a X.env),(false,eval b X.env)]:=by rfl) (hs2:starEach [b] X.env=[(false,eval b X.env)]:=by rfl) :
  PI X tg (.Call (.Name "range" p) [a,b] [] pos) (iRng2 ta):=by
 intro pins s σ H R I h
 refine Call_ (xA I hg hm boot_range (Bd (jM (ha pos pins s σ H _ I h) fun us s1 ⟨vs,H1,I1,r1,q1⟩=>?_) (by rw [hs,hs2]) (by rw [hs2];rfl)))
 obtain ⟨i,j,e,⟨q1,q2,q3,q4⟩,q⟩:=q1
 subst e
 cases r1 with
 | cons r rr =>
  cases rr with
  | cons r' rr =>
   cases rr
   obtain ⟨t,rfl⟩:=r
   obtain ⟨t',rfl⟩:=r'
   exact call_range_2 (pF I1 q1 q2 q3 q4 q)
noncomputable def tFor (wi:TI)(g:TG)(tb:TS):TS:=fun D σ H=>wi σ H fun J H1=>∃ W:Nat→Nat→St→Hp→Prop,(∃ m,W 0 m σ H1)∧∀ i m σ H,W i m σ H →
 (J.stop i H∧D.nx σ H)∨(J.go i H∧∃ N:St→Hp→Prop,(∀ σ' H',N σ' H'→∃ m',m' < m∧W (i + 1) m' σ' H')∧∀ x H',J.yld i H x H'→g x σ H' fun σ2 H2=>tb { D with nx:=N,ct:=N,bk:=D.nx } σ2 H2)
noncomputable def bE (fp:List Addr)(h:Heap):List (Addr × Obj):=fp.filterMap fun b=>(h.get? b).map fun o=>(b,o)
theorem vA {fp:List Addr}{h:Heap}{b:Addr}{o:Obj}(hb:b ∈ fp)(e:h.get? b=some o):(b,o) ∈ bE fp h:=Dk.mpr ⟨b,hb,by rw [e];rfl⟩
theorem aW {fp:List Addr}{h:Heap}{p:Addr × Obj}(hp:p ∈ bE fp h):p.1 ∈ fp∧h.get? p.1=some p.2:=by
 obtain ⟨b,hb,e⟩:=Dk.mp hp
 cases q:h.get? b with
 | none=>rw [q] at e;cases e
 | some o =>
  rw [q] at e
  have e':(b,o)=p:=A9 e
  subst e'
  exact ⟨hb,q⟩
theorem Inv.pinned {pins:List (Addr × Obj)}{σ:St}{H:Hp}{s:Shared}{fp:List Addr}(I:Inv X pins σ H s)(hf:∀ b ∈ fp,yU X pins H b)(ho:∀ b ∈ fp,∃ o,s.heap.get? b=some o∧∀ v,o.data ≠ .cell v):Inv X (pins ++ bE fp s.heap) σ H s :=
 I.pins_of fun p hp=>(A3.mp hp).elim (fun z=>I.pin p (Bi _ z)) fun z=>by
  obtain ⟨hb,e⟩:=aW z
  obtain ⟨f0,f1,f2,_⟩:=hf p.1 hb
  obtain ⟨o,e',d⟩:=ho p.1 hb
  rw [e] at e';cases e'
  exact ⟨e,f0,f1,f2,d⟩
theorem Inv.unpinned {pins pl:List (Addr × Obj)}{σ:St}{H:Hp}{s:Shared}(I:Inv X (pins ++ pl) σ H s):Inv X pins σ H s:=I.pins_of fun p hp=>I.pin p (Bi _ (List.mem_append_left _ hp))
theorem yK {iter:Expr}{body:List Stmt}{wi:TI}{g:TG}{tb:TS}{pos:Pos}(hp:PassesOwn (model X.prog X.w) X.A X.env X.xe)(hc:X.calm=true)(hi:PI X tg iter wi)(hg:PG X tg g)(hb:PSs X body tb)
  (hs:∀ x,foldedSetIterable iter X.env x=pure x:=by intro _;rfl):PS X (.For tg iter body [] pos) (tFor wi g tb):=by
 intro pins s σ H D I h
 refine wpAny_For (jM (hi pins s σ H _ I h) fun v s1 h1=>jM h1 fun itv s2 h2=>?_) hs
 obtain ⟨it,fp,tn,J,H2,e,I2,T,st2,f2,W,⟨m0,w0⟩,turn⟩:=h2
 subst e
 have stat:∀ {H':Hp},(∀ b ∈ fp,H' b=none)→∀ b ∈ fp,yU X pins H' b:=fun hn b hb=>⟨hn b hb,(f2 b hb).2⟩
 refine codeAny_forLoop_any (fun n s'=>∃ i σ' H',Inv X pins σ' H' s'∧tn i s'.heap∧(∀ b ∈ fp,H' b=none)∧W i n σ' H') ?_ m0 ⟨0,σ,H2,I2,st2,fun b hb=>(f2 b hb).1,w0⟩
 rintro n s3 ⟨i,σ3,H3,I3,st3,fr3,w3⟩
 rcases turn i n σ3 H3 w3 with ⟨stop,qn⟩ | ⟨go,N,hN,step⟩
 ·refine wpAny_passesOwn hp (jM (T.done X rfl rfl rfl hc i pins s3 σ3 H3 X.xe I3 (stat fr3) st3 stop) fun r s4 ⟨hr,I4⟩=>?_)
  subst hr
  exact wpAny_execs_nil ⟨σ3,H3,I4,qn⟩
 ·refine wpAny_passesOwn hp (jM (T.item X rfl rfl rfl hc i pins s3 σ3 H3 X.xe I3 (stat fr3) st3 go) fun r s4 ⟨u,hr,h4⟩=>?_)
  subst hr
  refine wpAny_passesOwn hp (jM h4 fun _ s5 ⟨x,H5,I5,r5,y5,st5,fr5⟩=>?_)
  have I5':=I5.pinned (stat fr5) (T.obj _ _ st5)
  refine wpAny_passesOwn hp (jM (hg _ s5 σ3 H5 x u _ I5' r5 (step x H5 y5)) fun _ s6 ⟨σ6,H6,I6,q6⟩=>?_)
  refine wpAny_passesOwn hp (jM (hb _ s6 σ6 H6 _ I6 q6) fun f s7 q7=>?_)
  have again:∀ {σ7:St} {H7:Hp},Inv X (pins ++ bE fp s5.heap) σ7 H7 s7→N σ7 H7→∃ m,m < n∧∃ i σ' H',Inv X pins σ' H' s7∧tn i s7.heap∧(∀ b ∈ fp,H' b=none)∧W i m σ' H':=fun {σ7 H7} I7 n7=>by
   obtain ⟨m',hm,w7⟩:=hN σ7 H7 n7
   refine ⟨m',hm,i + 1,σ7,H7,I7.unpinned,T.keep _ _ _ st5 fun b hb o e=>(I7.pin (b,o) (Bi _ (Bi _ (vA hb e)))).1,fun b hb=>?_,w7⟩
   obtain ⟨o,e,d⟩:=T.obj _ _ st5 b hb
   exact (I7.pin (b,o) (Bi _ (Bi _ (vA hb e)))).2.1
  cases f with
  | next=>obtain ⟨σ7,H7,I7,n7⟩:=q7;exact again I7 n7
  | cont=>obtain ⟨σ7,H7,I7,n7⟩:=q7;exact again I7 n7
  | brk=>obtain ⟨σ7,H7,I7,q7⟩:=q7;exact ⟨σ7,H7,I7.unpinned,q7⟩
  | ret v=>obtain ⟨x7,σ7,H7,I7,r7,q7⟩:=q7;exact ⟨x7,σ7,H7,I7.unpinned,r7,q7⟩
end
theorem eQ {lo:Int}{n:Nat}{g:TG}{tb:TS}{D:Ends}{σ:St}{H:Hp}(Pv:Nat→St→Hp→Prop)(h0:Pv 0 σ H)
  (hs:∀ i σ H,i < n→Pv i σ H→g (.int (lo + i)) σ H fun σ2 H2=>tb { D with nx:=Pv (i + 1),ct:=Pv (i + 1),bk:=D.nx } σ2 H2) (hd:∀ σ H,Pv n σ H→D.nx σ H) :
  ∃ W:Nat→Nat→St→Hp→Prop,(∃ m,W 0 m σ H)∧∀ i m σ H,W i m σ H →
   ((Itr lo n).stop i H∧D.nx σ H)∨((Itr lo n).go i H∧∃ N:St→Hp→Prop,(∀ σ' H',N σ' H'→∃ m',m' < m∧W (i + 1) m' σ' H')∧∀ x H',(Itr lo n).yld i H x H'→g x σ H' fun σ2 H2=>tb { D with nx:=N,ct:=N,bk:=D.nx } σ2 H2):=by
 refine ⟨fun i m σ H=>m=n - i∧i ≤ n∧Pv i σ H,⟨n,by simp,AJ _,h0⟩,?_⟩
 rintro i m σ H ⟨rfl,hi,p⟩
 by_cases hlt:i < n
 ·refine .inr ⟨hlt,Pv (i + 1),fun σ' H' p'=>⟨n - (i + 1),by omega,rfl,hlt,p'⟩,fun x H' y=>?_⟩
  obtain ⟨e,y⟩:=y
  subst e y
  exact hs i σ _ hlt p
 ·have e:i=n:=by omega
  subst e
  exact .inl ⟨Ak _,hd σ H p⟩
end L2
namespace L2
open PySem PySem.Spec PyProof.Rows
noncomputable abbrev R2:=V→V→Hp→VK→Prop
noncomputable def xZ (X:Cx)(f:Value→Value→Sem Value)(r:R2):Prop :=
 ∀ (pins:List (Addr × Obj)) (s:Shared) (σ:St) (H:Hp) (x y:V) (v u:Value) (Q:VK),Inv X pins σ H s→RelV x v→RelV y u→r x y H Q →
  wpAny (model X.prog X.w) X.A (f v u) (EP X pins σ Q) X.xe s
noncomputable def UnR (X:Cx)(f:Value→Sem Value)(r:V→Hp→VK→Prop):Prop :=
 ∀ (pins:List (Addr × Obj)) (s:Shared) (σ:St) (H:Hp) (x:V) (v:Value) (Q:VK),Inv X pins σ H s→RelV x v→r x H Q →
  wpAny (model X.prog X.w) X.A (f v) (EP X pins σ Q) X.xe s
noncomputable def yP (X:Cx)(f:Value)(r:List V→Hp→VK→Prop):Prop :=
 ∀ (pins:List (Addr × Obj)) (s:Shared) (σ:St) (H:Hp) (xs:List V) (us:List Value) (Q:VK),Inv X pins σ H s→Vals xs us→r xs H Q →
  wpAny (model X.prog X.w) X.A (call f us) (EP X pins σ Q) X.xe s
noncomputable def tG (r:R2)(ta tb:TE):TE:=fun σ H Q=>ta σ H fun x H1=>tb σ H1 fun y H2=>r x y H2 Q
noncomputable def tUn (r:V→Hp→VK→Prop)(ta:TE):TE:=fun σ H Q=>ta σ H fun x H1=>r x H1 Q
noncomputable def rI (C:Int→Int→Prop)(g:Int→Int→V):R2:=fun x y H Q=>∃ i j,x = .int i∧y = .int j∧C i j∧Q (g i j) H
noncomputable def iB (g:Int→Int→V):R2:=fun x y H Q=>∃ i j,x = .int i∧y = .int j∧Q (g i j) H
noncomputable def rU (g:Int→V):V→Hp→VK→Prop:=fun x H Q=>∃ i,x = .int i∧Q (g i) H
section
variable {X:Cx}{a b c:Expr}{ta tb tc:TE}{pos:Pos}
theorem binT (ha:PE X a ta)(hb:PE X b tb){pins:List (Addr × Obj)}{s:Shared}{σ:St}{H:Hp}{R:V→V→Hp→Prop}(I:Inv X pins σ H s)
  (h:ta σ H fun x H1=>tb σ H1 fun y H2=>R x y H2) {Q:Value→Shared→Prop} {f:Value→Value→Sem Value}
  (hf:∀ v u s2 x y H2,Inv X pins σ H2 s2→RelV x v→RelV y u→R x y H2→wpAny (model X.prog X.w) X.A (f v u) Q X.xe s2) :
  wpAny (model X.prog X.w) X.A (eval a X.env) (fun v s₁=>wpAny (model X.prog X.w) X.A (eval b X.env) (fun u s₂=>wpAny (model X.prog X.w) X.A (f v u) Q X.xe s₂) X.xe s₁) X.xe s:=by
 refine jM (ha pins s σ H _ I h) fun v s1 ⟨x,H1,I1,r1,q1⟩=>?_
 refine jM (hb pins s1 σ H1 _ I1 q1) fun u s2 ⟨y,H2,I2,r2,q2⟩=>?_
 exact hf v u s2 x y H2 I2 r1 r2 q2
theorem qN {op:Operator}{r:R2}(ho:xZ X (binaryOp op) r)(ha:PE X a ta)(hb:PE X b tb):PE X (.BinOp a op b pos) (tG r ta tb):=by
 intro pins s σ H Q I h
 exact wpAny_BinOp (binT ha hb I h fun v u s2 x y H2 I2 rx ry q=>ho pins s2 σ H2 x y v u Q I2 rx ry q)
theorem vH {op:UnaryOp}{r:V→Hp→VK→Prop}(ho:UnR X (unaryOp op) r)(ha:PE X a ta):PE X (.UnaryOp op a pos) (tUn r ta):=by
 intro pins s σ H Q I h
 exact UnaryOp_ (jM (ha pins s σ H _ I h) fun v s1 ⟨x,H1,I1,r1,q1⟩=>ho pins s1 σ H1 x v Q I1 r1 q1)
theorem opI {f:Value→Value→Sem Value}{C:Int→Int→Prop}{g:Int→Int→Int}
  (rule:∀ (i j:Int) (t u:Tok) (s:Shared) (Q:Value→Shared→Prop) (E:Value→Shared→Prop),C i j→Q (.int (g i j) s.toks) { s with toks:=s.toks + 1 }→wpAny (model X.prog X.w) X.A (f (.int i t) (.int j u)) Q E s) :
  xZ X f (rI C fun i j=>.int (g i j)):=by
 intro pins s σ H x y v u Q I rx ry h
 obtain ⟨i,j,rfl,rfl,hc,q⟩:=h
 obtain ⟨t,rfl⟩:=rx
 obtain ⟨t',rfl⟩:=ry
 exact rule i j t t' s _ _ hc ⟨.int (g i j),H,I.tok _,⟨_,rfl⟩,q⟩
theorem opI0 {f:Value→Value→Sem Value}{g:Int→Int→Int}
  (rule:∀ (i j:Int) (t u:Tok) (s:Shared) (Q:Value→Shared→Prop) (E:Value→Shared→Prop),Q (.int (g i j) s.toks) { s with toks:=s.toks + 1 }→wpAny (model X.prog X.w) X.A (f (.int i t) (.int j u)) Q E s) :
  xZ X f (iB fun i j=>.int (g i j)):=by
 intro pins s σ H x y v u Q I rx ry h
 obtain ⟨i,j,rfl,rfl,q⟩:=h
 obtain ⟨t,rfl⟩:=rx
 obtain ⟨t',rfl⟩:=ry
 exact rule i j t t' s _ _ ⟨.int (g i j),H,I.tok _,⟨_,rfl⟩,q⟩
theorem opB0 {f:Value→Value→Sem Value}{g:Int→Int→Bool}
  (rule:∀ (i j:Int) (t u:Tok) (s:Shared) (Q:Value→Shared→Prop) (E:Value→Shared→Prop),Q (.bool (g i j)) s→wpAny (model X.prog X.w) X.A (f (.int i t) (.int j u)) Q E s) :
  xZ X f (iB fun i j=>.bl (g i j)):=by
 intro pins s σ H x y v u Q I rx ry h
 obtain ⟨i,j,rfl,rfl,q⟩:=h
 obtain ⟨t,rfl⟩:=rx
 obtain ⟨t',rfl⟩:=ry
 exact rule i j t t' s _ _ ⟨.bl (g i j),H,I,rfl,q⟩
noncomputable def CDiv (i j:Int):Prop:=0 < j∧j < 1073741824
noncomputable def CPow (i j:Int):Prop:=0 ≤ j∧j ≤ 1000000∧i.natAbs < 2 ^ 64
noncomputable def CMul (i j:Int):Prop:=(-(2 ^ 64) < i∧i < 2 ^ 64)∨(-(2 ^ 64) < j∧j < 2 ^ 64)
theorem CMul.ok {i j:Int}(h:CMul i j):IntMulOk i j:=by
 rcases h with ⟨h1,h2⟩ | ⟨h1,h2⟩
 ·exact .of_left (intBits_le_64 h1 h2)
 ·exact .of_right (intBits_le_64 h1 h2)
theorem rP (k:Nat):(0:Int) ≤ 2 ^ k:=by
 rw [two_pow_cast]
 exact Int.natCast_nonneg _
theorem jD:xZ X (binaryOp .Add) (iB fun i j=>.int (i + j)):=opI0 fun _ _ _ _ _ _ _ q=>add_int q
theorem fM:xZ X (binaryOp .Sub) (iB fun i j=>.int (i - j)):=opI0 fun _ _ _ _ _ _ _ q=>sub_int q
theorem jU:xZ X (binaryOp .Mult) (rI CMul fun i j=>.int (i * j)):=opI fun _ _ _ _ _ _ _ hc q=>mul_int q hc.ok
theorem wI:xZ X (binaryOp .FloorDiv) (rI CDiv fun i j=>.int (i / j)):=opI fun i j _ _ _ _ _ hc q=>by
 have h1:(0:Int) < j:=hc.1
 have h2:j < 1073741824:=hc.2
 exact floordiv_int (by omega) (by rw [Int.fdiv_eq_ediv_of_nonneg i (by omega)];exact q) (.inl (PyProof.noPylong_small (by omega)))
theorem x9:xZ X (binaryOp .Mod) (rI (fun _ j=>0 < j) fun i j=>.int (i % j)):=opI fun i j _ _ _ _ _ hc q=>by
 have h1:(0:Int) < j:=hc
 exact mod_int' (by omega) (by rw [Int.fmod_eq_emod_of_nonneg i (by omega)];exact q)
theorem sF:xZ X (binaryOp .Pow) (rI CPow fun i j=>.int (i ^ j.toNat)):=opI fun _ _ _ _ _ _ _ hc q=>pow_int_small hc.1 hc.2.1 hc.2.2 q
theorem vV:xZ X (binaryOp .LShift) (rI CPow fun i j=>.int (i * 2 ^ j.toNat)):=opI fun _ _ _ _ _ _ _ hc q=>lshift_int_small hc.1 hc.2.1 hc.2.2 q
theorem bH:xZ X (binaryOp .RShift) (rI (fun _ j=>0 ≤ j) fun i j=>.int (i / 2 ^ j.toNat)):=opI fun i j _ _ _ _ _ hc q =>
 rshift_int hc (by rw [Int.fdiv_eq_ediv_of_nonneg i (rP _)];exact q)
theorem g6:xZ X (binaryOp .BitAnd) (iB fun i j=>.int (Builtin.bitAnd i j)):=opI0 fun _ _ _ _ _ _ _ q=>and_int q
theorem unI {f:Value→Sem Value}{g:Int→Int}
  (rule:∀ (i:Int) (t:Tok) (s:Shared) (Q:Value→Shared→Prop) (E:Value→Shared→Prop),Q (.int (g i) s.toks) { s with toks:=s.toks + 1 }→wpAny (model X.prog X.w) X.A (f (.int i t)) Q E s) :
  UnR X f (rU fun i=>.int (g i)):=by
 intro pins s σ H x v Q I rx h
 obtain ⟨i,rfl,q⟩:=h
 obtain ⟨t,rfl⟩:=rx
 exact rule i t s _ _ ⟨.int (g i),H,I.tok _,⟨_,rfl⟩,q⟩
theorem yG:UnR X (unaryOp .USub) (rU fun i=>.int (-i)):=unI fun _ _ _ _ _ q=>neg_int q
end
noncomputable def xM:V→V→Bool
 | .non,.non=>true | .non,.int _=>true | .int _,.non=>true | .non,.bl _=>true | .bl _,.non=>true | .non,.str _=>true | .str _,.non=>true
 | .int _,.int _=>true | .bl _,.bl _=>true | .str _,.str _=>true | .byt _,.byt _=>true
 | .int _,.str _=>true | .str _,.int _=>true | .bl _,.str _=>true | .str _,.bl _=>true
 | _,_=>false
noncomputable def rEq:R2:=fun x y H Q=>xM x y=true∧Q (.bl (decide (x=y))) H
noncomputable def rNe:R2:=fun x y H Q=>xM x y=true∧Q (.bl (!decide (x=y))) H
theorem uL {i j:Int}:decide (V.int i=V.int j)=(i == j):=by
 rw [BI]
 simp
theorem dec_bl {i j:Bool}:decide (V.bl i=V.bl j)=(i == j):=by
 rw [BI]
 simp
theorem uK {i j:Str}:decide (V.str i=V.str j)=(i == j):=by
 rw [BI]
 simp
theorem uM {i j:Array UInt8}:decide (V.byt i=V.byt j)=(i.toList == j.toList):=by
 rw [BI]
 cases i
 cases j
 simp
section
variable {X:Cx}{a b c:Expr}{ta tb tc:TE}{pos:Pos}
theorem jF {pins:List (Addr × Obj)}{σ:St}{H:Hp}{s:Shared}{Q:VK}{k k':Bool}(I:Inv X pins σ H s)(q:Q (.bl k) H)(e:k=k'):EP X pins σ Q (.bool k') s:=by
 subst e
 exact ⟨.bl k,H,I,rfl,q⟩
theorem jR:xZ X (compareOp .Eq) rEq:=by
 intro pins s σ H x y v u Q I rx ry h
 obtain ⟨hs,q⟩:=h
 cases x with
 | non =>
  cases rx
  cases y with
  | non=>cases ry;exact PySem.EqNone.eq_none_none (jF I q (by simp))
  | bl j=>cases ry;exact PySem.EqNone.eq_none_bool (jF I q (by simp))
  | int j=>obtain ⟨t',rfl⟩:=ry;exact PySem.EqNone.eq_none_int (jF I q (by simp))
  | str j=>obtain ⟨t',rfl⟩:=ry;exact PySem.EqNone.eq_none_str (jF I q (by simp))
  | _=>exact absurd (show false=true from hs) A1
 | bl i =>
  cases rx
  cases y with
  | non=>cases ry;exact PySem.EqNone.eq_bool_none (jF I q (by simp))
  | bl j=>cases ry;exact eq_bool (jF I q dec_bl)
  | str j=>obtain ⟨t',rfl⟩:=ry;exact PySem.EqMixed.eq_bool_str (jF I q (by simp))
  | _=>exact absurd (show false=true from hs) A1
 | int i =>
  obtain ⟨t,rfl⟩:=rx
  cases y with
  | non=>cases ry;exact PySem.EqNone.eq_int_none (jF I q (by simp))
  | int j=>obtain ⟨t',rfl⟩:=ry;exact eq_int (jF I q uL)
  | str j=>obtain ⟨t',rfl⟩:=ry;exact PySem.EqMixed.eq_int_str (jF I q (by simp))
  | _=>exact absurd (show false=true from hs) A1
 | str i =>
  obtain ⟨t,rfl⟩:=rx
  cases y with
  | non=>cases ry;exact PySem.EqNone.eq_str_none (jF I q (by simp))
  | bl j=>cases ry;exact PySem.EqMixed.eq_str_bool (jF I q (by simp))
  | int j=>obtain ⟨t',rfl⟩:=ry;exact PySem.EqMixed.eq_str_int (jF I q (by simp))
  | str j=>obtain ⟨t',rfl⟩:=ry;exact eq_str (jF I q uK)
  | _=>exact absurd (show false=true from hs) A1
 | byt i =>
  obtain ⟨t,rfl⟩:=rx
  cases y with
  | byt j=>obtain ⟨t',rfl⟩:=ry;exact PySem.W.eq_bytes (jF I q uM)
  | _=>exact absurd (show false=true from hs) A1
 | _=>cases y <;> exact absurd (show false=true from hs) A1
theorem t6:xZ X (compareOp .NotEq) rNe:=by
 intro pins s σ H x y v u Q I rx ry h
 obtain ⟨hs,q⟩:=h
 cases x with
 | non =>
  cases rx
  cases y with
  | non=>cases ry;exact PySem.EqNone.ne_none_none (jF I q (by simp))
  | bl j=>cases ry;exact PySem.EqNone.ne_none_bool (jF I q (by simp))
  | int j=>obtain ⟨t',rfl⟩:=ry;exact PySem.EqNone.ne_none_int (jF I q (by simp))
  | str j=>obtain ⟨t',rfl⟩:=ry;exact PySem.EqNone.ne_none_str (jF I q (by simp))
  | _=>exact absurd (show false=true from hs) A1
 | bl i =>
  cases rx
  cases y with
  | non=>cases ry;exact PySem.EqNone.ne_bool_none (jF I q (by simp))
  | bl j=>cases ry;exact ne_bool (jF I q (AY not dec_bl))
  | str j=>obtain ⟨t',rfl⟩:=ry;exact PySem.EqMixed.ne_bool_str (jF I q (by simp))
  | _=>exact absurd (show false=true from hs) A1
 | int i =>
  obtain ⟨t,rfl⟩:=rx
  cases y with
  | non=>cases ry;exact PySem.EqNone.ne_int_none (jF I q (by simp))
  | int j=>obtain ⟨t',rfl⟩:=ry;exact ne_int (jF I q (AY not uL))
  | str j=>obtain ⟨t',rfl⟩:=ry;exact PySem.EqMixed.ne_int_str (jF I q (by simp))
  | _=>exact absurd (show false=true from hs) A1
 | str i =>
  obtain ⟨t,rfl⟩:=rx
  cases y with
  | non=>cases ry;exact PySem.EqNone.ne_str_none (jF I q (by simp))
  | bl j=>cases ry;exact PySem.EqMixed.ne_str_bool (jF I q (by simp))
  | int j=>obtain ⟨t',rfl⟩:=ry;exact PySem.EqMixed.ne_str_int (jF I q (by simp))
  | str j=>obtain ⟨t',rfl⟩:=ry;exact ne_str (jF I q (AY not uK))
  | _=>exact absurd (show false=true from hs) A1
 | byt i =>
  obtain ⟨t,rfl⟩:=rx
  cases y with
  | byt j=>obtain ⟨t',rfl⟩:=ry;exact PySem.W.ne_bytes (jF I q (AY not uM))
  | _=>exact absurd (show false=true from hs) A1
 | _=>cases y <;> exact absurd (show false=true from hs) A1
theorem xU:xZ X (compareOp .Lt) (iB fun i j=>.bl (decide (i < j))):=opB0 fun _ _ _ _ _ _ _ q=>lt_int q
theorem pK:xZ X (compareOp .LtE) (iB fun i j=>.bl (decide (i ≤ j))):=opB0 fun _ _ _ _ _ _ _ q=>le_int q
theorem mD:xZ X (compareOp .Gt) (iB fun i j=>.bl (decide (j < i))):=opB0 fun _ _ _ _ _ _ _ q=>gt_int q
theorem pL:xZ X (compareOp .GtE) (iB fun i j=>.bl (decide (j ≤ i))):=opB0 fun _ _ _ _ _ _ _ q=>ge_int q
theorem op_isN:xZ X (compareOp .Is) (fun x y H Q=>y = .non∧Q (.bl (decide (x = .non))) H):=by
 intro pins s σ H x y v u Q I rx ry h
 obtain ⟨rfl,q⟩:=h
 cases ry
 refine is_none_gen (jF I q ?_)
 cases x <;> first
  | (cases rx;rfl)
  | (obtain ⟨t,rfl⟩:=rx;rfl)
theorem op_notN:xZ X (compareOp .IsNot) (fun x y H Q=>y = .non∧Q (.bl (!decide (x = .non))) H):=by
 intro pins s σ H x y v u Q I rx ry h
 obtain ⟨rfl,q⟩:=h
 cases ry
 refine isnot_none_gen (jF I q ?_)
 cases x <;> first
  | (cases rx;rfl)
  | (obtain ⟨t,rfl⟩:=rx;rfl)
theorem kA (b:Expr){op:CmpOp}(h:op ≠ .In:=by decide)(h2:op ≠ .NotIn:=by decide):behindInMarks op b=false:=by
 have e1:(op == CmpOp.In)=false:=by cases op <;> first | rfl | exact absurd rfl h
 have e2:(op == CmpOp.NotIn)=false:=by cases op <;> first | rfl | exact absurd rfl h2
 cases b <;> simp [behindInMarks,e1,e2]
theorem jK {op:CmpOp}{r:R2}(ho:xZ X (compareOp op) r)(ha:PE X a ta)(hb:PE X b tb)(hm:behindInMarks op b=false):PE X (.Compare a [op] [b] pos) (tG r ta tb):=by
 intro pins s σ H Q I h
 exact wpAny_Compare1 (binT ha hb I h fun v u s2 x y H2 I2 rx ry q=>ho pins s2 σ H2 x y v u Q I2 rx ry q) hm
noncomputable def tE (t:TE):TT:=fun σ H Q=>t σ H fun x H'=>∃ k,x = .bl k∧Q k H'
theorem kD {op:CmpOp}{r:R2}(ho:xZ X (compareOp op) r)(ha:PE X a ta)(hb:PE X b tb)(hm:behindInMarks op b=false):PT X (.Compare a [op] [b] pos) (tE (tG r ta tb)):=by
 intro pins s σ H Q I h
 refine wpAny_isTrue_Compare1 (jM (ha pins s σ H _ I h) fun v s1 ⟨x,H1,I1,r1,q1⟩=>jM (hb pins s1 σ H1 _ I1 q1) fun u s2 ⟨y,H2,I2,r2,q2⟩ =>
  jM (ho pins s2 σ H2 x y v u _ I2 r1 r2 q2) fun c s3 ⟨z,H3,I3,r3,k,e,q3⟩=>?_) hm
 subst e
 cases r3
 exact wpAny_truthy_bool ⟨H3,I3,q3⟩
noncomputable def rT (r r':R2)(ta tb tc:TE):TE:=fun σ H Q=>ta σ H fun x H1=>tb σ H1 fun y H2=>r x y H2 fun z H3=>∃ k,z = .bl k ∧
 (if k=true then tc σ H3 fun w' H4=>r' y w' H4 Q else Q (.bl false) H3)
theorem pJ {op op':CmpOp}{r r':R2}(ho:xZ X (compareOp op) r)(ho':xZ X (compareOp op') r')(ha:PE X a ta)(hb:PE X b tb)(hc:PE X c tc)
  (hm:lastMarks [op,op'] [b,c] = false:=by with_unfolding_all rfl):PE X (.Compare a [op,op'] [b,c] pos) (rT r r' ta tb tc):=by
 intro pins s σ H Q I h
 refine Compare_chain (jM (ha pins s σ H _ I h) fun v s1 ⟨x,H1,I1,r1,q1⟩=>chain_link (jM (hb pins s1 σ H1 _ I1 q1) fun u s2 ⟨y,H2,I2,r2,q2⟩ =>
  jM (ho pins s2 σ H2 x y v u _ I2 r1 r2 q2) fun d s3 ⟨z,H3,I3,r3,k,e,q3⟩=>?_)) hm
 subst e
 cases r3
 refine wpAny_truthy_bool ?_
 cases k with
 | false=>exact ite_ff ⟨.bl false,H3,I3,rfl,q3⟩
 | true=>exact ite_tt (chain_last (jM (hc pins s3 σ H3 _ I3 q3) fun w' s4 ⟨z',H4,I4,r4,q4⟩=>ho' pins s4 σ H4 y z' u w' Q I4 r2 r4 q4))
theorem pG {op op':CmpOp}{r r':R2}(ho:xZ X (compareOp op) r)(ho':xZ X (compareOp op') r')(ha:PE X a ta)(hb:PE X b tb)(hc:PE X c tc)
  (hm:lastMarks [op,op'] [b,c] = false:=by with_unfolding_all rfl):PT X (.Compare a [op,op'] [b,c] pos) (tE (rT r r' ta tb tc)):=by
 intro pins s σ H Q I h
 refine isTrue_chain (jM (ha pins s σ H _ I h) fun v s1 ⟨x,H1,I1,r1,q1⟩=>test_link (jM (hb pins s1 σ H1 _ I1 q1) fun u s2 ⟨y,H2,I2,r2,q2⟩ =>
  jM (ho pins s2 σ H2 x y v u _ I2 r1 r2 q2) fun d s3 ⟨z,H3,I3,r3,k,e,q3⟩=>?_)) hm
 subst e
 cases r3
 refine wpAny_truthy_bool ?_
 cases k with
 | false =>
  obtain ⟨k',e',q'⟩:=q3
  cases e'
  exact ite_ff ⟨H3,I3,q'⟩
 | true =>
  refine ite_tt (test_last (jM (hc pins s3 σ H3 _ I3 q3) fun w' s4 ⟨z',H4,I4,r4,q4⟩=>jM (ho' pins s4 σ H4 y z' u w' _ I4 r2 r4 q4) fun d' s5 ⟨z2,H5,I5,r5,k2,e2,q5⟩=>?_))
  subst e2
  cases r5
  exact wpAny_truthy_bool ⟨H5,I5,q5⟩
theorem sN:(sizeLine:Nat) < 2 ^ 63:=by rw [sizeLine_eq];decide
theorem vals1 {x:V}{us:List Value}(r:Vals [x] us):∃ u,us=[u]∧RelV x u:=by
 cases r with
 | cons r1 r2=>cases r2;exact ⟨_,rfl,r1⟩
theorem fS:yP X (.type "int") (fun xs H Q=>(∃ i,xs=[.int i]∧Q (.int i) H)∨∃ k,xs=[.bl k]∧Q (.int (if k then 1 else 0)) H):=by
 intro pins s σ H xs us Q I r h
 rcases h with ⟨i,rfl,q⟩ | ⟨k,rfl,q⟩
 ·obtain ⟨u,rfl,t,rfl⟩:=vals1 r
  exact call_int_int ⟨.int i,H,I,⟨_,rfl⟩,q⟩
 ·obtain ⟨u,rfl,r1⟩:=vals1 r
  cases r1
  exact call_int_bool ⟨.int (if k then 1 else 0),H,I.tok _,⟨_,rfl⟩,q⟩
end
end L2
namespace L2
open PySem PySem.Spec PyProof.Rows
structure ObjM (h:Heap)(x dx C:Addr)(mA:Str→Option Value):Prop where
 obj:h.get? x=some (PySem.W.instObj C dx)
 ns:h.Ns1 dx mA
 ne:dx ≠ x
theorem eA {h:Heap}{dx:Addr}{mA:Str→Option Value}(n:h.Ns1 dx mA):∃ od,h.get? dx=some od∧∀ name,PySem.W.lookIn name od=some (mA name):=by
 obtain ⟨o,es,ep,ho,hd,hk,_,hm⟩:=n
 refine ⟨o,ho,fun name=>?_⟩
 have e:=hm name
 unfold nsFind findBy at e
 rw [← Array.find?_toList] at e
 unfold PySem.W.lookIn
 rw [hd]
 dsimp only
 split
 ·rename_i y q
  rw [q] at e
  exact AY some e
 ·rename_i q
  rw [q] at e
  have a:es.toList.any (·.refKey)=false:=by
   rw [List.any_eq_false]
   intro y hy
   obtain ⟨z,t,hkey⟩:=hk y (Array.mem_toList_iff.mp hy)
   simp [DictEntry.refKey,hkey]
  have a':¬ es.toList.any (·.refKey)=true:=by rw [a];exact A1
  rw [Ah a']
  exact AY some e
theorem ObjM.look {h:Heap}{x dx C:Addr}{mA:Str→Option Value}(I:ObjM h x dx C mA):∃ od,PySem.W.InstAt h x (PySem.W.instObj C dx) C (some od)∧∀ name,PySem.W.lookIn name od=some (mA name) :=
 let ⟨od,ho,hl⟩:=eA I.ns
 ⟨od,⟨I.obj,rfl,rfl,ho⟩,hl⟩
section
variable {prog:Program}{w:World}{A:Around}{E:Value→Shared→Prop}{s:Shared}{K:PySem.W.Frag}{x dx C f:Addr}{mA:Str→Option Value}{name:Str}{v:Value}
end
theorem RelO.some_of {v:V}{o:Option Value}(r:RelO (some v) o):∃ u,o=some u∧RelV v u:=by
 cases o with
 | none=>exact (show False from r).elim
 | some u=>exact ⟨u,rfl,r⟩
section
variable {P:Program}{w:World}{H H':Hp}{h h':Heap}{a C dx:Addr}{fs fs':List (Str × V)}
theorem ins_get (hok:HOk P w H h)(e:H a=some (.ins C dx fs)):∃ mA,ObjM h a dx C mA∧(∀ f,RelO (fs.lookup f) (mA f))∧PySem.Within mA (fs.map (·.1))∧fs.length ≤ 1000∧H dx=some (.own a):=by
 obtain ⟨d,z,ne,ob,mA,n,r,q⟩:=(show ObjOk P w H h a (.ins C dx fs) from hok a _ e)
 exact ⟨mA,⟨ob,n,ne⟩,r,q,z,d⟩
end
structure Cls (K:PySem.W.Frag)(C:Addr):Prop where
 pg:PySem.W.plainGet K C Str.empty=true
 hd:PySem.W.hasDictIn K C=true
 po:PySem.W.plainOver K C=true
 sa:PySem.W.findIn K (.ref C) "__setattr__" = some (some (.builtin "object.__setattr__"))
theorem Cls.get {K:PySem.W.Frag}{C:Addr}(c:Cls K C)(f:Str):PySem.W.plainGet K C f=true:=c.pg
section
variable {X:Cx}{pins:List (Addr × Obj)}{σ:St}{H:Hp}{s:Shared}{a C dx:Addr}{fs:List (Str × V)}{f:Str}{v:V}{A:Around}{E:Value→Shared→Prop}
end
section
variable {X:Cx}{o e value:Expr}{f:Str}{pos pos' tpos:Pos}{ta tv:TE}
end
section
variable {X:Cx}{pins:List (Addr × Obj)}{σ:St}{H:Hp}{s:Shared}{A:Around}{E:Value→Shared→Prop}{Q:Value→Shared→Prop}{c:Value}{b:Bool}
inductive TyOf (K:PySem.W.Frag)(H:Hp):V→Value→Prop where
 | non:TyOf K H .non (.type "NoneType")
 | bl (x:Bool):TyOf K H (.bl x) (.type "bool")
 | int (i:Int):TyOf K H (.int i) (.type "int")
 | str (x:Str):TyOf K H (.str x) (.type "str")
 | flt (x:UInt64):TyOf K H (.flt x) (.type "float")
 | lst {a:Addr} {xs:List V} (e:H a=some (.lst xs)):TyOf K H (.ref a) (.type "list")
 | frz {a:Addr} {o:Obj} {xs:List V} (e:H a=some (.frz o (.lst xs))):TyOf K H (.ref a) (.type "list")
 | tup {a:Addr} {xs:List V} (e:H a=some (.tup xs)):TyOf K H (.ref a) (.type "tuple")
 | dK {a:Addr} {kvs:List (Key × V)} (e:H a=some (.dK kvs)):TyOf K H (.ref a) (.type "dict")
 | dT {a:Addr} {kvs:List (List Key × V)} (e:H a=some (.dT kvs)):TyOf K H (.ref a) (.type "dict")
 | ins {a C dx:Addr} {fs:List (Str × V)} (e:H a=some (.ins C dx fs)) (cl:Cls K C) (ha:PySem.W.findIn K (.ref C) "__class__" = some (some (.builtin "object.__class__")))
   (hn:PySem.W.specialIn K (.builtin "object.__class__") "__get__" = some (some (.builtin "getset_descriptor.__get__"))) (htk:PySem.W.takesIn K (.builtin "object.__class__")=some true)
   (hm:PySem.W.mroIn K C (.type "object")=some true):TyOf K H (.ref a) (.ref C)
theorem eJ {x:V}{u t:Value}(I:Inv X pins σ H s)(rx:RelV x u)(ty:TyOf X.K H x t)(e:PySem.W.kitOne X.K t c=some b)(h:∀ tk,Q (.bool b) { s with toks:=tk }) :
  wpAny (model X.prog X.w) A (call (.builtin "isinstance") [u,c]) Q E s:=by
 cases ty with
 | non=>cases (show u=Value.none from rx);exact B3 PySem.W.kitx_none I.kIn True.intro e (fun z=>nomatch z) h
 | bl y=>cases (show u=Value.bool y from rx);exact B3 PySem.W.kitx_bool I.kIn True.intro e (fun z=>nomatch z) h
 | int i=>obtain ⟨t,q⟩:=(show ∃ t,u=Value.int i t from rx);cases q;exact B3 PySem.W.kitx_int I.kIn True.intro e (fun z=>nomatch z) h
 | str y=>obtain ⟨t,q⟩:=(show ∃ t,u=Value.str y t from rx);cases q;exact B3 PySem.W.kitx_str I.kIn True.intro e (fun z=>nomatch z) h
 | flt y=>obtain ⟨t,q⟩:=(show ∃ t,u=Value.float y t from rx);cases q;exact B3 PySem.W.kitx_float I.kIn True.intro e (fun z=>nomatch z) h
 | @lst a xs ea =>
  cases (show u=Value.ref a from rx)
  obtain ⟨_,_,n,_,h1⟩:=(show ObjOk X.prog X.w H s.heap a (.lst xs) from I.hok a _ ea)
  exact B3 PySem.W.kitx_list I.kIn ⟨_,h1,rfl⟩ e (fun z=>nomatch z) h
 | @frz a ob xs ea =>
  cases (show u=Value.ref a from rx)
  obtain ⟨_,_,_,n,_,h1⟩:=(show ObjOk X.prog X.w H s.heap a (.frz ob (.lst xs)) from I.hok a _ ea)
  exact B3 PySem.W.kitx_list I.kIn ⟨_,h1,rfl⟩ e (fun z=>nomatch z) h
 | @tup a xs ea =>
  cases (show u=Value.ref a from rx)
  obtain ⟨_,_,_,p⟩:=(show ObjOk X.prog X.w H s.heap a (.tup xs) from I.hok a _ ea)
  obtain ⟨o,h1,h2,_⟩:=p
  exact B3 PySem.W.kitx_tuple I.kIn ⟨o,h1,h2⟩ e (fun z=>nomatch z) h
 | @dK a kvs ea =>
  cases (show u=Value.ref a from rx)
  obtain ⟨_,_,vs,_,p⟩:=(show ObjOk X.prog X.w H s.heap a (.dK kvs) from I.hok a _ ea)
  obtain ⟨o,es,ep,h1,h2,_⟩:=p
  exact B3 PySem.W.kitx_dict I.kIn ⟨o,h1,h2.1⟩ e (fun z=>nomatch z) h
 | @dT a kvs ea =>
  cases (show u=Value.ref a from rx)
  obtain ⟨_,_,xs,_,o,es,ep,h1,h2,_⟩:=(show ObjOk X.prog X.w H s.heap a (.dT kvs) from I.hok a _ ea)
  exact B3 PySem.W.kitx_dict I.kIn ⟨o,h1,h2.1⟩ e (fun z=>nomatch z) h
 | @ins a C dx fs ea cl ha hn htk hm =>
  cases (show u=Value.ref a from rx)
  obtain ⟨mA,O,_⟩:=ins_get I.hok ea
  obtain ⟨od,J,_⟩:=O.look
  exact B3 (PySem.W.kitx_own (cl.get _) cl.hd ha hn htk hm) I.kIn J e (fun z=>nomatch z) h
end
end L2
namespace L2
open PySem PySem.Spec PyProof.Rows
structure Room (k:Nat)(A:Around):Prop where
 hd:A.handled=none
 dp:A.depth + 3 * k + 5 < recursionLimit
 un:A.units + 16 * k + 200 < cLine
 gd:A.guards=some []
theorem Room.mono {j k:Nat}{A:Around}(r:Room k A)(h:j ≤ k):Room j A:=⟨r.hd,by have:=r.dp;omega,by have:=r.un;omega,by first | exact r.gd | (simp [Around.under,Code.guards,Code.isGuard,guardIds];exact r.gd)⟩
theorem Room.deeper {k:Nat}{A:Around}(r:Room (k + 1) A)(env:Env):Room k (A.deeper env) :=
 ⟨r.hd,by have:=r.dp;show A.depth + 1 + 3 * k + 5 < _;omega,by have:=r.un;show A.units + 3 + 16 * k + 200 < _;omega,by first | exact r.gd | (simp [Around.under,Code.guards,Code.isGuard,guardIds];exact r.gd)⟩
theorem Room.depth {k:Nat}{A:Around}(r:Room k A):A.depth < recursionLimit:=by have:=r.dp;omega
theorem Room.units {k:Nat}{A:Around}(r:Room k A):A.units + 64 < cLine:=by have:=r.un;omega
theorem Room.units0 {k:Nat}{A:Around}(r:Room k A):A.units < cLine:=by have:=r.un;omega
noncomputable def mZ:TA:=fun _ H Q=>Q [] H
noncomputable def zU (ta:TE)(tr:TA):TA:=fun σ H Q=>ta σ H fun x H1=>tr σ H1 fun xs H2=>Q (x :: xs) H2
section
variable {X:Cx}{e:Expr}{es:List Expr}{te:TE}{t:TA}{pos:Pos}
theorem qB:PA X [] mZ:=fun _ _ _ _ H Q I h=>Calls.spliced_nil ⟨[],H,I,.nil,h⟩
theorem nN (ha:PE X e te)(hr:PA X es t)(hs:starEach (e :: es) X.env=(false,eval e X.env) :: starEach es X.env:=by rfl):PA X (e :: es) (zU te t):=by
 intro pos pins s σ H Q I h
 rw [hs]
 show wpAny _ _ (spliced ((false,eval e X.env) :: backTo pos (starEach es X.env))) _ _ s
 refine Calls.spliced_cons (jM (ha pins s σ H _ I h) fun u s1 ⟨x,H1,I1,r1,q1⟩=>?_)
 exact jM (hr pos pins s1 σ H1 _ I1 q1) fun us s2 ⟨xs,H2,I2,r2,q2⟩=>⟨x :: xs,H2,I2,.cons r1 r2,q2⟩
noncomputable def tLst (t:TA):TE:=fun σ H Q=>t σ H fun xs H1=>xs.length ≤ sizeLine∧∀ p,H1 p=none→Q (.ref p) (upd H1 p (.lst xs))
theorem nM (h:PA X es t):PE X (.List es pos) (tLst t):=by
 intro pins s σ H Q I hq
 refine wpAny_List_spliced (jM (h pos pins s σ H _ I hq) fun us s1 ⟨xs,H1,I1,r,z,q⟩=>⟨by rw [← r.length];exact z,?_⟩)
 have hf:H1 s1.heap.objs.size=none:=I1.hok.fresh (Ak _)
 refine ⟨.ref s1.heap.objs.size,upd H1 s1.heap.objs.size (.lst xs),I1.laid (t':=s1.toks) (fun b u e=>Ac _ e) (Ak _) ?_,rfl,q _ hf⟩
 exact ⟨z,us,0,r,Ao _ rfl⟩
end
noncomputable abbrev Sp:=List V→Hp→VK→XK→Prop
noncomputable abbrev CXT:=List Env→Hp→Shared→XK→Value→Shared→Prop
structure Env0 (P:Program)(w:World)(K:PySem.W.Frag)(mg:Str→Option Value)(base:Heap)(A:Around)(outer:List Env)(s:Shared)(H:Hp):Prop where
 frames:A.frames=some outer
 mod:Mod K mg base
 bs:∀ b o,base.get? b=some o→s.heap.get? b=some o∧H b=none
 bsz:base.objs.size ≤ s.heap.objs.size
 funs:s.heap.FunFrames base outer
 frf:∀ b ∈ eO outer,H b=none
 hok:HOk P w H s.heap
 bare:AllBare s.gens
noncomputable def CE (outer:List Env)(P:Program)(w:World)(H:Hp)(s:Shared)(Q:VK)(u:Value)(s':Shared):Prop :=
 ∃ v H',s'.os=s.os∧AllBare s'.gens∧Un (eO outer) [] H H' s.heap s'.heap∧HOk P w H' s'.heap∧RelV v u∧Q v H'
noncomputable def CR (CX:CXT)(outer:List Env)(P:Program)(w:World)(H:Hp)(s:Shared)(Q:VK)(E:XK)(r:Result)(s':Shared):Prop :=
 match r with
 | .ok (.ret u)=>CE outer P w H s Q u s'
 | .ok _=>False
 | .error e=>CX outer H s E e s'
structure FnOk (P:Program)(w:World)(K:PySem.W.Frag)(mg:Str→Option Value)(base:Heap)(CX:CXT)(k:Nat)(f:Addr)(fd:FuncData)(ps:List Str)(sp:Sp):Prop where
 len:∀ vs H Q E,sp vs H Q E→vs.length=ps.length
 run:∀ (A:Around) (outer:List Env) (s:Shared) (H:Hp) (args:Args) (us:List Value) (vs:List V) (Q:VK) (E:XK),Room k A→Env0 P w K mg base A outer s H→BindsTo s fd args (ps.zip us)→Vals vs us→sp vs H Q E →
  codeAny (model P w) A (.call (.ref f) args) (CR CX outer P w H s Q E) s
section
variable {X:Cx}{pins:List (Addr × Obj)}{σ:St}{H:Hp}{s s':Shared}
theorem Inv.env0 (I:Inv X pins σ H s):Env0 X.prog X.w X.K X.mg X.base X.A X.stack s H :=
 ⟨I.ok.frames,I.ok.mod,I.bs,AX I.ok.bsz I.sz,I.stack,I.stkFree,I.hok,I.bare⟩
theorem Inv.after {Q:VK}{u:Value}(I:Inv X pins σ H s)(h:CE X.stack X.prog X.w H s Q u s'):EP X pins σ Q u s':=by
 obtain ⟨v,H',os,bare,un,hok,r,q⟩:=h
 obtain ⟨hh,g,d,t,os'⟩:=s'
 obtain rfl:os'=s.os:=os
 exact ⟨v,H',I.call (h':=hh) (g':=g) (d':=d) (t':=t) (ch:=[]) un hok bare (fun b z=>absurd z (by simp)),r,q⟩
end
noncomputable def tCall (sp:Sp)(dvs:List V)(E:XK)(t:TA):TE:=fun σ H Q=>t σ H fun vs H1=>sp (vs ++ dvs) H1 Q E
noncomputable def Binds (K:PySem.W.Frag)(fd:FuncData)(ps:List Str)(ds:List Value):Prop :=
 ∀ (s:Shared) (us:List Value),K.In s.heap→(us ++ ds).length=ps.length→BindsTo s fd ⟨us,[]⟩ (ps.zip (us ++ ds))
theorem Binds.all {K:PySem.W.Frag}{fd:FuncData}{ps:List Str}(h:∀ us:List Value,us.length=ps.length→bindArgs fd ⟨us,[]⟩=pure (ps.zip us)):Binds K fd ps []:=fun s us _ hl=>by
 rw [B2] at hl ⊢
 exact .of_eq (h us hl)
noncomputable def sZ (CX:CXT)(X:Cx)(E:XK):Prop:=∀ (pins:List (Addr × Obj)) (σ:St) (H:Hp) (s:Shared) (e:Value) (s':Shared),Inv X pins σ H s→CX X.stack H s E e s'→X.xe e s'
section
variable {X:Cx}{CX:CXT}{k:Nat}{f C:Addr}{fd:FuncData}{ps:List Str}{sp:Sp}{dvs:List V}{ds:List Value}{E:XK}{x m:Str}{p pos apos:Pos}{e o:Expr}{es:List Expr}{ta:TE}{t:TA}
theorem run_fn {pins:List (Addr × Obj)}{σ:St}{H:Hp}{s:Shared}{Q:VK}{us:List Value}{vs:List V}(F:FnOk X.prog X.w X.K X.mg X.base CX k f fd ps sp)(hr:Room k X.A)(hb:Binds X.K fd ps ds)(hd:Vals dvs ds)(hx:sZ CX X E)
  (I:Inv X pins σ H s) (r:Vals vs us) (h:sp (vs ++ dvs) H Q E):wpAny (model X.prog X.w) X.A (call (.ref f) us) (EP X pins σ Q) X.xe s:=by
 have r2:Vals (vs ++ dvs) (us ++ ds):=r.append hd
 have hl:(us ++ ds).length=ps.length:=by rw [← r2.length];exact F.len _ _ _ _ h
 refine wpAny_call (codeAny_mono (F.run X.A X.stack s H ⟨us,[]⟩ (us ++ ds) (vs ++ dvs) Q E hr I.env0 (hb s us I.kIn hl) r2 h) fun r s' hq=>?_)
 cases r with
 | error e=>exact hx pins σ H s e s' I hq
 | ok fl =>
  cases fl with
  | ret u=>exact I.after hq
  | next=>exact False.elim hq
  | brk=>exact False.elim hq
  | cont=>exact False.elim hq
theorem pe_call (F:FnOk X.prog X.w X.K X.mg X.base CX k f fd ps sp)(hr:Room k X.A)(hg:Gl X x)(hm:X.mg x=some (.ref f))(hk:PySem.W.keepIn X.K (.ref f)=true)(hb:Binds X.K fd ps ds)(hd:Vals dvs ds)(hx:sZ CX X E)
  (ha:PA X (e :: es) t) (hdb:(x == ("__debug__" : Str))=false:=by decide) (he:starEach (e :: es) X.env=(false,eval e X.env) :: starEach es X.env:=by rfl) (hpl:(backTo pos (starEach es X.env)).any (·.1)=false:=by rfl) :
  PE X (.Call (.Name x p) (e :: es) [] pos) (tCall sp dvs E t):=by
 intro pins s σ H Q I h
 refine wpAny_Call_Name_kw (ld_glob I hg hm ?_ hdb)
 refine PySem.W.callWith_K (h₀:=X.base) I.ok.mod.kin hk (jM (ha pos pins s σ H _ I h) fun us s1 ⟨vs,H1,I1,r,q⟩=>⟨I1.kIn,?_⟩) he hpl
 exact run_fn F hr hb hd hx I1 r q
end
section
variable {X:Cx}{CX:CXT}{k:Nat}{f C:Addr}{fd:FuncData}{ps ks:List Str}{sp:Sp}{E:XK}{x m:Str}{p pos apos kpos:Pos}{e o:Expr}{es:List Expr}{kws:List Keyword}{te ta:TE}{t tk:TA}{nm:Option Str}
variable {g:List Value→List Value→List Value}{gV:List V→List V→List V}
end
structure FnScope (N P:List Str)(sc:Scope):Prop where
 kind:sc.kind = .function
 co:sc.isCoroutine=false
 gen:sc.isGenerator=false
 nd:N.Nodup
 pre:N.take P.length=P
 par:∀ x ∈ P,sc.names.lookup x=some .local∨sc.names.lookup x=some .cell
 nofree:∀ y ∈ sc.names,y.2 ≠ .free
theorem mR {kindOf:Str→Option NameKind}{x:Str}:∀ {binds:List (Str × Value)} {m:Str→Option Value},(∀ v,(x,v) ∉ binds)→bindL kindOf binds m x=m x
 | [],_,_=>rfl
 | (n,v) :: r,m,h=>by
  unfold bindL
  rw [mR fun w hw=>h w (Ay _ hw)]
  split
  ·have:x ≠ n:=by rintro rfl;exact h v A2
   simp [this]
  ·rfl
theorem mT {kindOf:Str→Option NameKind}{x:Str}:∀ {binds:List (Str × Value)} {m:Str→Option Value},(∀ v,(x,v) ∉ binds)→bindC kindOf binds m x=m x
 | [],_,_=>rfl
 | (n,v) :: r,m,h=>by
  unfold bindC
  rw [mT fun w hw=>h w (Ay _ hw)]
  split
  ·rfl
  ·have:x ≠ n:=by rintro rfl;exact h v A2
   simp [this]
theorem mS {kindOf:Str→Option NameKind}{x:Str}{v:Value}:∀ {P:List Str} {vs:List Value} {i:Nat} {m:Str→Option Value},P.Nodup→P[i]? = some x→vs[i]? = some v→kindOf x=some .local →
  bindL kindOf (P.zip vs) m x=some v
 | [],_,_,_,_,h,_,_=>by simp at h
 | _ :: _,[],_,_,_,_,h,_=>by simp at h
 | p :: P,w :: vs,0,m,nd,h1,h2,hk=>by
  simp at h1 h2;subst h1;subst h2
  show bindL kindOf ((p,w) :: P.zip vs) m p=_
  unfold bindL
  rw [mR fun v hv=>(BJ.mp nd).1 (List.of_mem_zip hv).1,Ai hk]
  simp
 | p :: P,w :: vs,i + 1,m,nd,h1,h2,hk=>by
  show bindL kindOf ((p,w) :: P.zip vs) m x=_
  unfold bindL
  exact mS (i:=i) (BJ.mp nd).2 (by simpa using h1) (by simpa using h2) hk
theorem mU {kindOf:Str→Option NameKind}{x:Str}{v:Value}:∀ {P:List Str} {vs:List Value} {i:Nat} {m:Str→Option Value},P.Nodup→P[i]? = some x→vs[i]? = some v→kindOf x ≠ some .local →
  bindC kindOf (P.zip vs) m x=some v
 | [],_,_,_,_,h,_,_=>by simp at h
 | _ :: _,[],_,_,_,_,h,_=>by simp at h
 | p :: P,w :: vs,0,m,nd,h1,h2,hk=>by
  simp at h1 h2;subst h1;subst h2
  show bindC kindOf ((p,w) :: P.zip vs) m p=_
  unfold bindC
  rw [mT fun v hv=>(BJ.mp nd).1 (List.of_mem_zip hv).1,Ah hk]
  simp
 | p :: P,w :: vs,i + 1,m,nd,h1,h2,hk=>by
  show bindC kindOf ((p,w) :: P.zip vs) m x=_
  unfold bindC
  exact mU (i:=i) (BJ.mp nd).2 (by simpa using h1) (by simpa using h2) hk
noncomputable def start (N:List Str)(vs:List V):St:=vs.map some ++ List.replicate (N.length - vs.length) none
noncomputable def sW (CX:CXT)(P:Program)(w:World)(K:PySem.W.Frag)(mg:Str→Option Value)(base:Heap)(N:List Str)(qual:Str)(scope:Scope)(f:Addr)(cd:Value)(A:Around)(outer:List Env)(s:Shared)(H:Hp)(E:XK):Cx where
 prog:=P
 w:=w
 K:=K
 mg:=mg
 base:=base
 A:=A.deeper (envOfC qual scope s.heap.objs.size f cd)
 N:=N
 s₀:=s
 H₀:=H
 env:=envOfC qual scope s.heap.objs.size f cd
 outer:=outer
 stack:=envOfC qual scope s.heap.objs.size f cd :: outer
 ex:=[]
 calm:=true
 fn:=fun _=>true
 pn:=[]
 xe:=fun e s'=>wpAny (model P w) (A.deeper (envOfC qual scope s.heap.objs.size f cd)) (leaving (envOfC qual scope s.heap.objs.size f cd) e) (fun _ s''=>CX outer H s E e s'') (fun e' s''=>CX outer H s E e' s'') s'
theorem rD {sc:Scope}{n:Nat}{x:Str}(h:sc.names.lookup x=some .cell):∃ c,(cellsFrom n sc.names []).lookup x=some c:=by
 have q:=PySem.W.cellsFrom_some sc.names n [] (.inl h)
 exact Option.isSome_iff_exists.mp q
theorem eK {CX:CXT}{P:Program}{w:World}{K:PySem.W.Frag}{mg:Str→Option Value}{base:Heap}{N ps:List Str}{qual:Str}{scope:Scope}{f:Addr}{cd:Value}{A:Around}{outer:List Env}{s s1:Shared}{H:Hp}{E:XK}{us:List Value}{vs:List V}
  (S:FnScope N ps scope) (hd:A.handled=none) (e0:Env0 P w K mg base A outer s H) (hl:vs.length=ps.length) (r:Vals vs us)
  (x:InCallC s s.heap.objs.size (bindL (envOfC qual scope s.heap.objs.size f cd).kindOf (ps.zip us) fun _=>none) (cellsFrom (s.heap.objs.size + 1) scope.names []) (bindC (envOfC qual scope s.heap.objs.size f cd).kindOf (ps.zip us) fun _=>none) s1) :
  Inv (sW CX P w K mg base N qual scope f cd A outer s H E) [] (start N vs) H s1:=by
 have hpl:ps.length ≤ N.length:=by have:=AY List.length S.pre;rw [Aq] at this;omega
 obtain ⟨h1,tk,rfl,hk⟩:=x.done
 have noA:∀ b:Addr,b ∉ (sW CX P w K mg base N qual scope f cd A outer s H E).ex:=fun b z=>absurd (show b ∈ ([] : List Addr) from z) (by simp)
 refine ⟨⟨e0.mod,S.kind,rfl,rfl,Ak _,fun y z c h1 h2=>?_,fun y hy=>?_,fun y c _ h=>?_,fun _=>hd,Around.frames_deeper e0.frames,.inr ⟨rfl,rfl⟩,fun b z=>absurd z (noA b),e0.bs,e0.bsz,fun b _ _=>noA b,fun b z=>absurd z (noA b),e0.funs,e0.frf⟩,
  rfl,e0.bare,Un.kept hk,⟨_,x.toInCall.ns,fun i y v h1 h2 h3=>?_⟩,fun y c h=>⟨_,x.cell y c h⟩,e0.hok.fresh (Ak _),fun y c h=>?_,fun p hp=>absurd (show p ∈ ([] : List (Addr × Obj)) from hp) (by simp),e0.hok.kept hk,?_⟩
 ·exact name_of_addr x.apart (B7 h1) (B7 h2)
 ·have hy:scope.names.lookup y=some .cell∨scope.names.lookup y=some .free:=hy
  rcases hy with hy | hy
  ·exact rD hy
  ·exact absurd rfl (S.nofree _ (B7 hy))
 ·exact AH (x.above y c (B7 h))
 ·have hi:i < vs.length:=by
   unfold start at h2
   by_cases hi:i < vs.length
   ·exact hi
   ·rw [AB (by simpa using hi)] at h2
    rw [List.getElem?_replicate] at h2
    split at h2 <;> cases h2
  have ha:vs[i]? = some v:=by
   unfold start at h2
   rw [Av (by simpa using hi),Ad] at h2
   cases e:vs[i]? with
   | none=>rw [e] at h2;cases h2
   | some a=>rw [e] at h2;cases h2;rfl
  obtain ⟨u,hu,rv⟩:=r.get ha
  have hp:ps[i]? = some y:=by
   rw [← S.pre,List.getElem?_take_of_lt (by omega)];exact h1
  have ndP:ps.Nodup:=by rw [← S.pre];exact S.nd.sublist (List.take_sublist _ _)
  refine ⟨u,rv,?_⟩
  rcases S.par y (An hp) with k | k
  ·exact .inl ⟨k,mS ndP hp hu k⟩
  ·obtain ⟨c,e⟩:=rD (n:=s.heap.objs.size + 1) k
   refine .inr ⟨.inl k,c,e,?_⟩
   have q:=x.cell y c e
   rw [mU ndP hp hu (by show scope.names.lookup y ≠ _;rw [k];decide)] at q
   exact q
 ·exact e0.hok.fresh (AH (x.above y c (B7 h)))
 ·unfold start
  show _=N.length
  rw [Aj,Aa,List.length_replicate]
  omega
theorem fn_of {CX:CXT}{P:Program}{w:World}{K:PySem.W.Frag}{mg:Str→Option Value}{base:Heap}{k:Nat}{f:Addr}{name qual:Str}{params:Arguments}{body:List Stmt}{scope:Scope}{dV kV doc pm cdv ct oc:Value}{an od:Option Addr}
  {osl:Array (Option Value)} {N ps:List Str} {sp:Sp} (lk:K.lookup f=some ⟨oc,od,.func (PySem.W.fnOf name qual params body scope dV kV doc pm an cdv ct),osl⟩) (hcd:PySem.W.codeIn K cdv qual=true) (S:FnScope N ps scope)
  (len:∀ vs H Q E,sp vs H Q E→vs.length=ps.length)
  (hbody:∀ (A:Around) (outer:List Env) (s:Shared) (H:Hp) (vs:List V) (Q:VK) (E:XK),Room k (A.deeper (envOfC qual scope s.heap.objs.size f cdv))→sp vs H Q E →
   ∃ t,PSs (sW CX P w K mg base N qual scope f cdv A outer s H E) body t∧t { nx:=fun _ H'=>Q .non H',rt:=Q } (start N vs) H) :
  FnOk P w K mg base CX (k + 1) f (PySem.W.fnOf name qual params body scope dV kV doc pm an cdv ct) ps sp:=by
 refine ⟨len,fun A outer s H args us vs Q E hr e0 hb r hsp=>?_⟩
 have hl:=len _ _ _ _ hsp
 have KX:K.In s.heap:=e0.mod.kin.keeps fun b o e=>(e0.bs b o e).1
 have lim:s.heap.NoLimit:=e0.mod.nolimit.keeps fun b o e=>(e0.bs b o e).1
 have hkind:∀ y ∈ ps.zip us,scope.names.lookup y.1=some .local∨(scope.names.lookup y.1=some .cell∧((cellsFrom (s.heap.objs.size + 1) scope.names []).lookup y.1).isSome=true):=fun ⟨n,v⟩ hy=>by
  rcases S.par n (List.of_mem_zip hy).1 with q | q
  ·exact .inl q
  ·exact .inr ⟨q,PySem.W.cellsFrom_some _ _ _ (.inl q)⟩
 refine codeAny_call_function hr.depth (KX _ _ lk) rfl S.co S.gen rfl (PySem.W.codeRec_of KX hcd) (hb _ _ _ _ ?_)
 refine wpAny_newFunctionEnv_cells S.kind hkind fun env he s1 x=>?_
 subst he
 refine ⟨lim.keeps x.toInCall.keep,codeAny_func ?_⟩
 obtain ⟨t,ht,hq⟩:=hbody A outer s H vs Q E (hr.deeper _) hsp
 have I:Inv (sW CX P w K mg base N qual scope f cdv A outer s H E) [] (start N vs) H s1:=eK S hr.hd e0 hl r x
 refine wpAny_mono (ht [] s1 (start N vs) H _ I hq) (fun fl s' hs=>?_) fun e s' hs=>hs
 have fin:∀ {σ':St} {H':Hp} {v:V} {u:Value},Inv (sW CX P w K mg base N qual scope f cdv A outer s H E) [] σ' H' s'→RelV v u→Q v H'→CE outer P w H s Q u s' :=
  fun {σ' H' v u} J rv q=>⟨v,H',J.os,J.bare,J.base,J.hok,rv,q⟩
 cases fl with
 | ret u =>
  obtain ⟨v,σ',H',J,rv,q⟩:=hs
  exact fin J rv q
 | next =>
  obtain ⟨σ',H',J,q⟩:=hs
  exact fin (v:=V.non) (u:=Value.none) J rfl q
 | brk =>
  obtain ⟨_,_,_,q⟩:=hs
  exact False.elim q
 | cont =>
  obtain ⟨_,_,_,q⟩:=hs
  exact False.elim q
end L2
namespace L2
open PySem PySem.Spec PyProof.Rows
section
variable {X:Cx}{x:Str}{p pos:Pos}{e:Expr}{es:List Expr}{t:TA}{id T:String}{r:List V→Hp→VK→Prop}
noncomputable def tCB (r:List V→Hp→VK→Prop)(t:TA):TE:=fun σ H Q=>t σ H fun vs H1=>r vs H1 Q
theorem qK (hc:yP X (.builtin id) r)(hg:Gl X x)(hm:X.mg x=none)(hv:bootBuiltins x=some (.builtin id))(ha:PA X (e :: es) t)(hn:x ≠ "__name__" := by decide) (hdb:(x == ("__debug__" : Str))=false:=by decide)
  (he:starEach (e :: es) X.env=(false,eval e X.env) :: starEach es X.env:=by rfl) (hpl:(backTo pos (starEach es X.env)).any (·.1)=false:=by rfl):PE X (.Call (.Name x p) (e :: es) [] pos) (tCB r t):=by
 intro pins s σ H Q I h
 refine wpAny_Call_Name_kw (xA I hg hm hv ?_ hn hdb)
 exact PyProof.Rows.callWith_builtin1 (jM (ha pos pins s σ H _ I h) fun us s1 ⟨vs,H1,I1,r1,q1⟩=>hc pins s1 σ H1 vs us Q I1 r1 q1) he hpl
theorem kZ (hc:yP X (.type T) r)(hg:Gl X x)(hm:X.mg x=none)(hv:bootBuiltins x=some (.type T))(ha:PA X (e :: es) t)(hn:x ≠ "__name__" := by decide) (hdb:(x == ("__debug__" : Str))=false:=by decide)
  (he:starEach (e :: es) X.env=(false,eval e X.env) :: starEach es X.env:=by rfl) (hpl:(backTo pos (starEach es X.env)).any (·.1)=false:=by rfl):PE X (.Call (.Name x p) (e :: es) [] pos) (tCB r t):=by
 intro pins s σ H Q I h
 refine wpAny_Call_Name_kw (xA I hg hm hv ?_ hn hdb)
 exact Bd (jM (ha pos pins s σ H _ I h) fun us s1 ⟨vs,H1,I1,r1,q1⟩=>hc pins s1 σ H1 vs us Q I1 r1 q1) he hpl
end
end L2
namespace HT
open PySem PyProof.Rows
noncomputable def lexLt:List Int→List Int→Bool
 | [],[]=>false
 | [],_ :: _=>true
 | _ :: _,[]=>false
 | x :: xs,y :: ys=>if x=y then lexLt xs ys else decide (x < y)
theorem sO (x y:Int)(xs ys:List Int):lexLt (x :: xs) (y :: ys)=if x=y then lexLt xs ys else decide (x < y):=rfl
theorem cG:lexLt [] [] = false:=rfl
theorem bN (y:Int)(ys:List Int):lexLt [] (y :: ys)=true:=rfl
theorem bO (x:Int)(xs:List Int):lexLt (x :: xs) [] = false:=rfl
theorem eqAt_int (A:Around)(s:Shared)(a:Int)(t:Tok)(c:Int)(u:Tok):∃ e,SeqAt.EqAt A s (.int a t) (.int c u) e∧(e=true ↔ a=c) :=
 ⟨(a == c),SeqAt.EqAt.int_int a t c u,by simp⟩
theorem oB (A:Around)(s:Shared)(a:Int)(t:Tok)(c:Int)(u:Tok)(prog:Program)(w:World)(E:Value→Shared→Prop)(Q:Value→Shared→Prop)(h:Q (.bool (decide (a < c))) s) :
  wpAny (model prog w) A (richCompare .Lt (.int a t) (.int c u)) Q E s :=
 (PyProof.Rows.lt_int h:wpAny (model prog w) A (compareOp .Lt (.int a t) (.int c u)) Q E s)
section
open PySem.SeqAt
open PySem.AutoSeq1 (wpAny_loadPart')
open PySem.MeetsSeq PySem.MeetsSeq2 PySem.MeetsSeq3
theorem cE (l b:Addr)(items items2:Array Value)(n n2:Nat)(dd dd2:Option Addr)(sl sl2:Array (Option Value))(ns ms:List Int)(hi:IntsAre items.toList ns)(hj:IntsAre items2.toList ms) :
  Meets (Builtin.«tuple.__lt__» ⟨[.ref l,.ref b],[]⟩)
   (fun _ R s=>s.heap.get? l=some { cls:=.type "tuple",dict:=dd,data:=.seq items n,slots:=sl }∧s.heap.get? b=some { cls:=.type "tuple",dict:=dd2,data:=.seq items2 n2,slots:=sl2 } ∧
    R (.ok (.ret (.bool (lexLt ns ms)))) s) :=
 .of_wp fun prog w A R s h=>by
  obtain ⟨hp,g,d,tk,os⟩:=s;obtain ⟨hl,hb,h⟩:=h
  have f2:=AutoSeq1.sub_tuple_tuple
  have z1:items.size=ns.length:=by rw [← hi.length];simp
  have z2:items2.size=ms.length:=by rw [← hj.length];simp
  wp_walk using wpAny_loadPart' hl,wpAny_loadPart' hb,wpAny_forIn_list _ (fun rest b s'=>b.1=none∧s'=⟨hp,g,d,tk,os⟩∧∃ (vs ws:List Value) (ns' ms':List Int),rest=vs.zip ws ∧
   IntsAre vs ns'∧IntsAre ws ms'∧ns'.length + items2.size=ms'.length + items.size∧R (.ok (.ret (.bool (lexLt ns' ms')))) ⟨hp,g,d,tk,os⟩) _
  case turn =>
   rintro ⟨y,x⟩ rest b s' ⟨hb',rfl,vs,ws,ns',ms',hz,hvi,hwi,hlen,hR⟩
   cases hvi with
   | nil=>rw [List.zip_nil_left] at hz;cases hz
   | cons a t hvi' =>
    cases hwi with
    | nil=>rw [List.zip_nil_right] at hz;cases hz
    | cons c u hwi' =>
     rw [List.zip_cons_cons] at hz
     injection hz with hyx hrest
     injection hyx with hy hx
     subst hy hx
     rw [sO] at hR
     simp only [A6] at hlen
     obtain ⟨e,he,hiff⟩:=eqAt_int A.in1 ⟨hp,g,d,tk,os⟩ a t c u
     refine wpAny_bind (he prog w _ _ ?_)
     cases e with
     | true =>
      rw [Ai (hiff.mp rfl)] at hR
      wp_walk
      exact ⟨rfl,rfl,_,_,_,_,hrest,hvi',hwi',by omega,hR⟩
     | false =>
      rw [Ah (fun q=>absurd (hiff.mpr q) A1)] at hR
      have hri:=oB A.in1 ⟨hp,g,d,tk,os⟩ a t c u prog w
      wp_walk using hri
      exact ⟨_,rfl,by simpa using hR⟩
  case fin =>
   rintro ⟨b1,b2⟩ s' ⟨hb',rfl,vs,ws,ns',ms',hz,hvi,hwi,hlen,hR⟩
   simp only at hb'
   subst hb'
   have hv:lexLt ns' ms'=decide (items.size < items2.size):=by
    cases hvi with
    | nil =>
     cases hwi with
     | nil =>
      simp only [Bq] at hlen
      rw [cG]
      exact (Aw (by omega)).symm
     | cons c u hw =>
      simp only [Bq,A6] at hlen
      rw [bN]
      exact (Ax (by omega)).symm
    | cons a t hv =>
     cases hwi with
     | nil =>
      simp only [Bq,A6] at hlen
      rw [bO]
      exact (Aw (by omega)).symm
     | cons c u hw =>
      rw [List.zip_cons_cons] at hz
      cases hz
   rw [hv] at hR
   wp_walk
   exact ⟨_,rfl,by simpa [Builtin.Tuple.tupleCompareSizes] using hR⟩
  case h =>
   exact ⟨rfl,rfl,items.toList,items2.toList,ns,ms,rfl,hi,hj,by omega,h⟩
end
section
variable {prog:Program}{w:World}{A:Around}{E:Value→Shared→Prop}{s:Shared}
theorem lt_tupInts {l b:Addr}{items items2:Array Value}{ns ms:List Int}{Q:Value→Shared→Prop}(hl:IsTup s.heap l items)(hb:IsTup s.heap b items2)(hi:IntsAre items.toList ns)(hj:IntsAre items2.toList ms)
  (hu:A.units < cLine) (h:Q (.bool (lexLt ns ms)) s):wpAny (model prog w) A (compareOp .Lt (.ref l) (.ref b)) Q E s:=by
 obtain ⟨⟨cls,dd,data,sl⟩,ho,hc,n,hd⟩:=id hl
 obtain ⟨⟨cls2,dd2,data2,sl2⟩,ho2,hc2,n2,hd2⟩:=id hb
 simp only at hc hd hc2 hd2
 subst hc hd hc2 hd2
 exact richCompare_meets_room (op:=.Lt) ⟨_,ho,rfl⟩ ⟨_,ho2,rfl⟩ PySem.F.slot_tuple_lt PySem.F.entry_tuple_lt (PySem.F.args_tuple_lt_2 _ _) (cE l b items items2 n n2 dd dd2 sl sl2 ns ms hi hj)
  ⟨ho,ho2,show Value.bool (lexLt ns ms) ≠ Value.notImplemented∧Q (.bool (lexLt ns ms)) s from ⟨(fun x=>nomatch x),h⟩⟩ hu
theorem cat_tup {t b:Addr}{vs ws:List Value}{Q:Value→Shared→Prop}(ht:IsTup s.heap t vs.toArray)(hb:IsTup s.heap b ws.toArray)(hv:vs ≠ [])
  (h1:ws=[]→Q (.ref t) s) (h2:ws ≠ []→Q (.ref s.heap.objs.size) { s with heap:=s.heap.push { cls:=.type "tuple",data:=.seq (vs ++ ws).toArray } })
  (hsz:vs.length + ws.length ≤ sizeLine):wpAny (model prog w) A (binaryOp .Add (.ref t) (.ref b)) Q E s:=by
 obtain ⟨⟨cls,dd,data,sl⟩,ho,hc,n,hd⟩:=id ht
 obtain ⟨⟨cls2,dd2,data2,sl2⟩,ho2,hc2,n2,hd2⟩:=id hb
 simp only at hc hd hc2 hd2
 subst hc hd hc2 hd2
 have e:vs.toArray ++ ws.toArray=(vs ++ ws).toArray:=by simp
 by_cases hw:ws=[]
 ·exact concat_meets ⟨_,ho,rfl⟩ ⟨_,ho2,rfl⟩ noFill_tuple_add seq_tuple_add PySem.F.slot_tuple_add PySem.F.entry_tuple_add (PySem.F.args_tuple_add_2 _ _)
   (tuple_addW1 t b vs.toArray ws.toArray n n2 dd dd2 sl sl2 (by simpa using hv) (by simp [hw])) ⟨ho,ho2,h1 hw⟩
 ·refine concat_meets ⟨_,ho,rfl⟩ ⟨_,ho2,rfl⟩ noFill_tuple_add seq_tuple_add PySem.F.slot_tuple_add PySem.F.entry_tuple_add (PySem.F.args_tuple_add_2 _ _)
   (tuple_addW2 t b vs.toArray ws.toArray n n2 dd dd2 sl sl2 (by simpa using hv) (by simpa using hw) (by rw [As,As];exact hsz)) ⟨ho,ho2,?_⟩
  rw [e]
  exact h2 hw
noncomputable def sIx (n d:Nat):Option Int→Nat
 | none=>d
 | some v=>if v < 0 then (v + (n:Int)).toNat else min v.toNat n
theorem sIx_none (n d:Nat):sIx n d none=d:=rfl
theorem sIx_nat (n d k:Nat):sIx n d (some (k:Int))=min k n:=by
 show (if (k:Int) < 0 then ((k:Int) + (n:Int)).toNat else min (k:Int).toNat n)=min k n
 rw [Ah (by omega),Ap]
theorem sIx_le (n d:Nat)(hd:d ≤ n)(o:Option Int):sIx n d o ≤ n:=by
 cases o with
 | none=>exact hd
 | some v =>
  show (if v < 0 then (v + (n:Int)).toNat else min v.toNat n) ≤ n
  by_cases hv:v < 0
  ·rw [Ai hv];omega
  ·rw [Ah hv];exact Nat.min_le_right _ _
theorem uP (v:Int)(n d:Nat):(if v < 0 then max (v + (n:Int)) 0 else min v (n:Int))=((sIx n d (some v):Nat):Int):=by
 show (if v < 0 then max (v + (n:Int)) 0 else min v (n:Int))=(((if v < 0 then (v + (n:Int)).toNat else min v.toNat n):Nat):Int)
 by_cases hv:v < 0
 ·simp only [Ai hv];omega
 ·simp only [Ah hv];omega
theorem sY (lo hi:Option Int)(n:Nat):Builtin.Slice.sliceAdjust lo hi 1 (n:Int)=(((sIx n 0 lo:Nat):Int),((sIx n n hi:Nat):Int)):=by
 have h1:¬ ((1:Int) < 0):=by omega
 unfold Builtin.Slice.sliceAdjust
 simp only [h1,C2]
 refine Prod.ext ?_ ?_
 ·cases lo with
  | none=>rfl
  | some v=>exact uP v n 0
 ·cases hi with
  | none=>rfl
  | some v=>exact uP v n n
theorem sD (i j:Nat):Builtin.Slice.slicePlaces (i:Int) (j:Int) 1=j - i:=by
 unfold Builtin.Slice.slicePlaces
 have h1:(1:Int) > 0:=by omega
 simp only [h1,Cv,Int.ediv_one]
 split <;> omega
theorem w5 {v:Value}{o:Option Int}{Q:Option Int→Shared→Prop}(p:IsPart v o)(h:Q o s):wpAny (model prog w) A (Builtin.Slice.slicePartIndex v) Q E s:=by
 cases p with
 | none=>exact slicePart_none h
 | int i t=>exact slicePart_int h
theorem sliceApplied_gen {sl:Addr}{vl vu:Value}{lo hi:Option Int}{n:Nat}{Q:Int × Int × Nat→Shared→Prop}(hs:s.heap.IsSliceOf sl vl vu .none)(pl:IsPart vl lo)(pu:IsPart vu hi)
  (h:Q (((sIx n 0 lo:Nat):Int),1,sIx n n hi - sIx n 0 lo) s):wpAny (model prog w) A (Builtin.Slice.sliceApplied (.ref sl) (pure (n:Int))) Q E s:=by
 obtain ⟨os,hos,hcs,hds⟩:=id hs
 unfold Builtin.Slice.sliceApplied Builtin.Slice.sliceFields
 refine wpAny_bind (wpAny_bind (wpAny_field hos hds (x:=vl) rfl (wpAny_bind (wpAny_field hos hds (x:=vu) rfl (wpAny_bind (wpAny_field hos hds (x:=.none) rfl (wpAny_pure ?_)))))))
 refine wpAny_bind (slicePart_none ?_)
 show wpAny _ _ (if ((1:Int) == 0)=true then _ else _) _ _ s
 rw [Ah (by decide)]
 refine wpAny_bind (w5 pl (wpAny_bind (w5 pu (wpAny_bind (wpAny_pure ?_)))))
 show wpAny _ _ (match Builtin.Slice.sliceAdjust lo hi 1 (n:Int) with | (lo,hi)=>pure (lo,(1:Int),Builtin.Slice.slicePlaces lo hi 1)) _ _ s
 rw [sY lo hi n]
 show wpAny _ _ (pure (((sIx n 0 lo:Nat):Int),(1:Int),Builtin.Slice.slicePlaces ((sIx n 0 lo:Nat):Int) ((sIx n n hi:Nat):Int) 1)) _ _ s
 rw [sD]
 exact wpAny_pure h
theorem oK (xs:Array Value)(i k:Nat):((List.range k).filterMap fun (m:Nat)=>xs[((i:Int) + (m:Int) * 1).toNat]?).toArray=((xs.toList.drop i).take k).toArray:=by
 have e:(fun (m:Nat)=>xs[((i:Int) + (m:Int) * 1).toNat]?)=fun m=>xs[i + m]? := by
  funext m
  have:((i:Int) + (m:Int) * 1).toNat=i + m:=by omega
  rw [this]
 rw [e]
 have:=pick_run xs i k
 rw [List.filterMap_map] at this
 have e2:((fun x=>xs[x]?) ∘ fun x=>i + x)=fun m=>xs[i + m]? := rfl
 rw [e2] at this
 rw [this]
theorem getItem_tuple_cut {t sl:Addr}{items:Array Value}{vl vu:Value}{lo hi:Option Int}{Q:Value→Shared→Prop}(ht:IsTup s.heap t items)(hs:s.heap.IsSliceOf sl vl vu .none)(pl:IsPart vl lo)(pu:IsPart vu hi)
  (hw:¬ (sIx items.size 0 lo=0∧sIx items.size items.size hi=items.size))
  (h:Q (.ref s.heap.objs.size) { s with heap:=s.heap.push { cls:=.type "tuple",data:=.seq ((items.toList.drop (sIx items.size 0 lo)).take (sIx items.size items.size hi - sIx items.size 0 lo)).toArray } })
  (hsz:items.size ≤ sizeLine):wpAny (model prog w) A (getItem (.ref t) (.ref sl)) Q E s:=by
 have htake:sizeOk (.seq ((items.toList.drop (sIx items.size 0 lo)).take (sIx items.size items.size hi - sIx items.size 0 lo)).toArray):=by
  show ((items.toList.drop (sIx items.size 0 lo)).take (sIx items.size items.size hi - sIx items.size 0 lo)).toArray.size ≤ sizeLine
  rw [As,Aq,Bv,Cd]
  omega
 have hj:sIx items.size items.size hi ≤ items.size:=sIx_le _ _ (Ak _) hi
 obtain ⟨os,hos,hcs,hds⟩:=id hs
 have hTs:s.TypeIs (.ref sl) "slice" := ⟨os,hos,hcs⟩
 unfold getItem
 try with_reducible refine wpAny_holding ?_
 first | refine wpAny_bind (wpAny_pure ?_) | skip
 refine wpAny_bind (wpAny_sequenceKey ht.typeIs (by decide) ?_)
 refine wpAny_bind (wpAny_callSpecial?_slot (name:=Str.ofString "__getitem__") ht.typeIs Cc
  (wpAny_call_entry Cc ht.typeIs entry_tuple_getitem ?_ (args_tuple_getitem _ _)))
 show wpAny _ _ (Builtin.Tuple.tupleItemsOf (.ref t) >>= _) _ _ s
 refine wpAny_bind (tupleItemsOf_ ht ?_)
 refine wpAny_bind (wpAny_typeOf hTs ?_)
 rw [Ai (by decide)]
 refine wpAny_bind (sliceApplied_gen hs pl pu ?_)
 have hno:¬ ((((sIx items.size 0 lo:Nat):Int) == 0 && (1:Int) == 1 && (sIx items.size items.size hi - sIx items.size 0 lo) == items.size)=true):=by
  intro q
  rw [Bt,Bt] at q
  have q1:((sIx items.size 0 lo:Nat):Int)=0:=eq_of_beq q.1.1
  have q2:sIx items.size items.size hi - sIx items.size 0 lo=items.size:=eq_of_beq q.2
  exact hw ⟨by omega,by omega⟩
 show wpAny _ _ (if (((sIx items.size 0 lo:Nat):Int) == 0 && (1:Int) == 1 && (sIx items.size items.size hi - sIx items.size 0 lo) == items.size)=true then _ else _) _ _ s
 rw [Ah hno,oK]
 first
  | exact wpAny_bind (m:=Builtin.Tuple.tupleExact _) (wpAny_newObj_type (wpAny_pure ⟨_,rfl,wpAny_pure h⟩) htake)
  | exact wpAny_bind (m:=Builtin.Tuple.tupleExact _) (wpAny_newObj_type (wpAny_bind (wpAny_pure (wpAny_pure ⟨_,rfl,wpAny_pure h⟩))) htake)
  | exact wpAny_bind (wpAny_bind (m:=Builtin.Tuple.tupleExact _) (wpAny_newObj_type (wpAny_pure (wpAny_pure ⟨_,rfl,wpAny_pure h⟩)) htake))
  | exact wpAny_bind (wpAny_bind (m:=Builtin.Tuple.tupleExact _) (wpAny_newObj_type (wpAny_pure ⟨_,rfl,wpAny_pure h⟩) htake))
end
end HT
namespace L2
open PySem PySem.Spec PyProof.Rows
noncomputable abbrev TO:=St→Hp→(Option Int→Hp→Prop)→Prop
noncomputable def PO (X:Cx)(e:Option Expr)(t:TO):Prop :=
 ∀ (pins:List (Addr × Obj)) (s:Shared) (σ:St) (H:Hp) (Q:Option Int→Hp→Prop),Inv X pins σ H s→t σ H Q →
  wpAny (model X.prog X.w) X.A (evalPart e X.env) (fun u s'=>∃ o H',Inv X pins σ H' s'∧IsPart u o∧Q o H') X.xe s
noncomputable def wB:TO:=fun _ H Q=>Q none H
noncomputable def tF (t:TE):TO:=fun σ H Q=>t σ H fun x H1=>∃ i,x = .int i∧Q (some i) H1
theorem intsAre_of {ns:List Int}:∀ {us:List Value},Vals (ns.map V.int) us→IntsAre us ns:=by
 induction ns with
 | nil=>intro us r;rw [C3] at r;cases r;exact .nil
 | cons n ns ih =>
  intro us r
  rw [AN] at r
  cases r with
  | cons r1 r2 =>
   obtain ⟨t,e⟩:=r1
   subst e
   exact .cons n t (ih r2)
section
variable {X:Cx}{e:Expr}{te:TE}{lo hi:Option Expr}{tl th:TO}{pos p2:Pos}
theorem jT:PO X none wB:=by
 intro pins s σ H Q I h
 rw [evalPart_none]
 exact wpAny_pure ⟨none,H,I,.none,h⟩
theorem jN (h:PE X e te):PO X (some e) (tF te):=by
 intro pins s σ H Q I hw
 rw [evalPart_some]
 refine jM (h pins s σ H _ I hw) fun u s1 ⟨x,H1,I1,r1,q1⟩=>?_
 obtain ⟨i,rfl,q⟩:=q1
 obtain ⟨t,rfl⟩:=r1
 exact ⟨some i,H1,I1,.int i t,q⟩
noncomputable def SlR (X:Cx)(r:V→Option Int→Option Int→Hp→VK→Prop):Prop :=
 ∀ (pins:List (Addr × Obj)) (s:Shared) (σ:St) (H:Hp) (x:V) (v vl vu:Value) (lo hi:Option Int) (sl:Addr) (Q:VK),Inv X pins σ H s→RelV x v→s.heap.IsSliceOf sl vl vu .none→IsPart vl lo→IsPart vu hi→r x lo hi H Q →
  ∃ T id,typeLookup (.type T) "__getitem__" = pure (some (.builtin id))∧s.TypeIs v T∧wpAny (model X.prog X.w) X.A (getItem v (.ref sl)) (EP X pins σ Q) X.xe s
noncomputable def tSl (r:V→Option Int→Option Int→Hp→VK→Prop)(te:TE)(tl th:TO):TE:=fun σ H Q=>te σ H fun x H1=>tl σ H1 fun l H2=>th σ H2 fun u H3=>r x l u H3 Q
theorem jH {r:V→Option Int→Option Int→Hp→VK→Prop}(hr:SlR X r)(he:PE X e te)(hl:PO X lo tl)(hu:PO X hi th):PE X (.Subscript e (.Slice lo hi none p2) pos) (tSl r te tl th):=by
 intro pins s σ H Q I h
 refine Subscript_ (jM (he pins s σ H _ I h) fun v s1 ⟨x,H1,I1,r1,q1⟩=>?_)
 refine wpAny_Slice (jM (hl pins s1 σ H1 _ I1 q1) fun vl s2 ⟨l,H2,I2,pl,q2⟩=>jM (hu pins s2 σ H2 _ I2 q2) fun vu s3 ⟨u,H3,I3,pu,q3⟩=>?_)
 rw [evalPart_none]
 refine wpAny_pure ?_
 have I4:Inv X pins σ H3 { s3 with heap:=s3.heap.push { cls:=.type "slice",data:=.fields #[vl,vu,.none] } }:=I3.kept (t':=s3.toks) fun b ob q=>Ac _ q
 obtain ⟨T,id,hT,ht,hg⟩:=hr pins { s3 with heap:=s3.heap.push { cls:=.type "slice",data:=.fields #[vl,vu,.none] } } σ H3 x v vl vu l u s3.heap.objs.size Q I4 r1 (Heap.IsSliceOf.new ..) pl pu q3
 show wpAny (model X.prog X.w) X.A (subscriptTail e (.Slice lo hi none p2) v (.ref s3.heap.objs.size)) (EP X pins σ Q) X.xe { s3 with heap:=s3.heap.push { cls:=.type "slice",data:=.fields #[vl,vu,.none] } }
 exact tail_any (ops:=[.ref s3.heap.objs.size,v]) ht hT hg (by with_unfolding_all rfl)
noncomputable def zI (xs:List V)(lo hi:Option Int):List V:=(xs.drop (HT.sIx xs.length 0 lo)).take (HT.sIx xs.length xs.length hi - HT.sIx xs.length 0 lo)
theorem xF (xs:List V)(lo hi:Option Int):(zI xs lo hi).length ≤ xs.length:=by
 unfold zI
 rw [Aq,Bv]
 exact AX (Nat.min_le_right _ _) (Nat.sub_le _ _)
noncomputable def rSlT (K:PySem.W.Frag):V→Option Int→Option Int→Hp→VK→Prop:=fun x lo hi H Q=>∃ a xs,x = .ref a∧SqT K H a xs ∧
 ¬ (HT.sIx xs.length 0 lo=0∧HT.sIx xs.length xs.length hi=xs.length)∧∀ p,H p=none→Q (.ref p) (upd H p (.tup (zI xs lo hi)))
theorem sl_tup:SlR X (rSlT X.K):=by
 intro pins s σ H x v vl vu lo hi sl Q I rx hs pl pu h
 obtain ⟨a,xs,rfl,hx,hw,q⟩:=h
 cases rx
 obtain ⟨its,r,ht,hz⟩:=I.tuple hx
 have hlen:its.toArray.size=xs.length:=by rw [As];exact r.length.symm
 refine ⟨"tuple",_,Cc.lookup,ht.typeIs,?_⟩
 refine HT.getItem_tuple_cut ht hs pl pu (by rw [hlen];exact hw) ?_ (by rw [hlen];exact hz)
 rw [hlen]
 refine ⟨.ref s.heap.objs.size,_,I.laid (t':=s.toks) (o:=.tup (zI xs lo hi)) (fun b ob q=>Ac _ q) (Ak _) ?_,rfl,q _ (I.hok.fresh (Ak _))⟩
 exact ⟨AX (xF xs lo hi) hz,_,(r.drop (HT.sIx xs.length 0 lo)).take (HT.sIx xs.length xs.length hi - HT.sIx xs.length 0 lo),IsTup.new _ _⟩
noncomputable def rLtT (K:PySem.W.Frag):R2:=fun x y H Q=>∃ a b ns ms,x = .ref a∧y = .ref b∧SqT K H a (ns.map V.int)∧SqT K H b (ms.map V.int)∧Q (.bl (HT.lexLt ns ms)) H
theorem op_ltT (hu:X.A.units < cLine):xZ X (compareOp .Lt) (rLtT X.K):=by
 intro pins s σ H x y v u Q I rx ry h
 obtain ⟨a,b,ns,ms,rfl,rfl,ha,hb,q⟩:=h
 cases rx
 cases ry
 obtain ⟨its,r1,p1,_⟩:=I.tuple ha
 obtain ⟨its2,r2,p2,_⟩:=I.tuple hb
 have i1:IntsAre its.toArray.toList ns:=intsAre_of r1
 have i2:IntsAre its2.toArray.toList ms:=intsAre_of r2
 exact HT.lt_tupInts p1 p2 i1 i2 hu ⟨.bl (HT.lexLt ns ms),H,I,rfl,q⟩
noncomputable def rCatT (K:PySem.W.Frag):R2:=fun x y H Q=>∃ a b xs ys,x = .ref a∧y = .ref b∧SqT K H a xs∧SqT K H b ys∧xs ≠ []∧xs.length + ys.length ≤ sizeLine ∧
 (ys=[]→Q (.ref a) H)∧(ys ≠ []→∀ p,H p=none→Q (.ref p) (upd H p (.tup (xs ++ ys))))
theorem Vals.nil_iff {xs:List V}{us:List Value}(r:Vals xs us):us=[] ↔ xs=[]:=by
 cases r with
 | nil=>simp
 | cons _ _=>simp
theorem op_catT:xZ X (binaryOp .Add) (rCatT X.K):=by
 intro pins s σ H x y v u Q I rx ry h
 obtain ⟨a,b,xs,ys,rfl,rfl,ha,hb,hx,hz,q1,q2⟩:=h
 cases rx
 cases ry
 obtain ⟨its,r1,p1,_⟩:=I.tuple ha
 obtain ⟨its2,r2,p2,_⟩:=I.tuple hb
 refine HT.cat_tup p1 p2 (fun z=>hx (r1.nil_iff.mp z)) (fun z=>⟨.ref a,H,I,rfl,q1 (r2.nil_iff.mp z)⟩) (fun z=>?_) (by rw [← r1.length,← r2.length];exact hz)
 refine ⟨.ref s.heap.objs.size,_,I.laid (t':=s.toks) (o:=.tup (xs ++ ys)) (fun b ob q=>Ac _ q) (Ak _) ?_,rfl,q2 (fun w=>z (r2.nil_iff.mpr w)) _ (I.hok.fresh (Ak _))⟩
 exact ⟨by rw [Aj];exact hz,_,r1.append r2,IsTup.new _ _⟩
end
end L2
namespace L2
open PySem PySem.Spec PyProof.Rows
noncomputable def iC (n:Nat)(i:Int):Option Nat:=if 0 ≤ i then (if i < n then some i.toNat else none) else if -(n:Int) ≤ i then some (i + n).toNat else none
noncomputable def xH {α:Type}(xs:List α)(i:Int):Option α:=(iC xs.length i).bind fun j=>xs[j]?
theorem ixN_seq {n:Nat}{i:Int}{j:Nat}(h:iC n i=some j):seqIndex? i n=some j∧j < n∧-(n:Int) ≤ i∧i < n:=by
 unfold iC at h
 by_cases h0:0 ≤ i
 ·rw [Ai h0] at h
  by_cases h1:i < n
  ·rw [Ai h1] at h
   have e:i.toNat=j:=A9 h
   exact ⟨by rw [seqIndex_of h0 h1,e],by omega,by omega,h1⟩
  ·rw [Ah h1] at h;cases h
 ·rw [Ah h0] at h
  by_cases h1 : -(n:Int) ≤ i
  ·rw [Ai h1] at h
   have e:(i + n).toNat=j:=A9 h
   exact ⟨by rw [seqIndex_neg (by omega) h1,e],by omega,h1,by omega⟩
  ·rw [Ah h1] at h;cases h
theorem uU {α:Type}{xs:List α}{i:Int}{v:α}(h:xH xs i=some v):∃ j,seqIndex? i xs.length=some j∧xs[j]? = some v∧j < xs.length∧-(xs.length:Int) ≤ i∧i < xs.length:=by
 unfold xH at h
 cases e:iC xs.length i with
 | none=>rw [e] at h;cases h
 | some j =>
  rw [e] at h
  obtain ⟨h1,h2,h3,h4⟩:=ixN_seq e
  exact ⟨j,h1,h,h2,h3,h4⟩
theorem zO {α:Type}{xs:List α}{j:Nat}{v:α}(h:xs[j]? = some v):xH xs (j:Int)=some v:=by
 have hj:j < xs.length:=(Ag.mp h).1
 have e:iC xs.length (j:Int)=some j:=by
  unfold iC
  rw [Ai (by omega),Ai (by omega)];simp
 unfold xH;rw [e];exact h
theorem atI_last {α:Type}(xs:List α)(v:α):xH (xs ++ [v]) (-1)=some v:=by
 have hl:(xs ++ [v]).length=xs.length + 1:=by simp
 have e:iC (xs ++ [v]).length (-1)=some xs.length:=by
  unfold iC
  rw [hl,Ah (by decide),Ai (by omega)]
  congr 1
  omega
 unfold xH
 rw [e]
 show (xs ++ [v])[xs.length]? = some v
 simp
noncomputable def PlainIx (b:Expr):Prop:=∀ o i,subscripted b false o i=operate [o,i] (getItem o i)
noncomputable def IxR (X:Cx)(r:R2):Prop :=
 ∀ (value slice:Expr) (pins:List (Addr × Obj)) (s:Shared) (σ:St) (H:Hp) (x y:V) (v u:Value) (Q:VK),Inv X pins σ H s→RelV x v→RelV y u→r x y H Q →
  subscripted slice false v u=operate [v,u] (getItem v u)→wpAny (model X.prog X.w) X.A (subscriptTail value slice v u) (EP X pins σ Q) X.xe s
section
variable {X:Cx}{a b:Expr}{ta tb:TE}{pos:Pos}
theorem kL {r:R2}(hr:IxR X r)(ha:PE X a ta)(hb:PE X b tb)(hs:PlainIx b):PE X (.Subscript a b pos) (tG r ta tb):=by
 intro pins s σ H Q I h
 exact Subscript_ (binT ha hb I h fun v u s2 x y H2 I2 rx ry q=>hr a b pins s2 σ H2 x y v u Q I2 rx ry q (hs _ _))
noncomputable def rIxL (K:PySem.W.Frag):R2:=fun x y H Q=>∃ p xs i v,x = .ref p∧y = .int i∧SqL K H p xs∧xH xs i=some v∧Q v H
noncomputable def rIxT (K:PySem.W.Frag):R2:=fun x y H Q=>∃ p xs i v,x = .ref p∧y = .int i∧SqT K H p xs∧xH xs i=some v∧Q v H
theorem ix_list:IxR X (rIxL X.K):=by
 intro value slice pins s σ H x y v u Q I rx ry h hs
 obtain ⟨p,xs,i,z,rfl,rfl,hq,he,q⟩:=h
 cases rx
 obtain ⟨t,rfl⟩:=ry
 obtain ⟨its,r,pl,hz⟩:=I.list hq
 obtain ⟨j,h1,h2,h3,h4,h5⟩:=uU he
 obtain ⟨w,ew,rw'⟩:=r.get h2
 have hl:=r.length
 have hn:=sN
 have fin:EP X pins σ Q w s:=⟨z,H,I,rw',q⟩
 by_cases h0:0 ≤ i
 ·have hj:i.toNat=j:=by
   rw [seqIndex_of h0 h5] at h1
   exact A9 h1
  exact item_listR pl.isList h0 (by omega) (by rw [hj];simpa using ew) fin hs
 ·have hj:(i + (its.toArray.size:Int)).toNat=j:=by
   rw [seqIndex_neg (by omega) h4] at h1
   rw [As,← hl]
   exact A9 h1
  exact subscriptTail_builtinR (x:=w) pl.isList.typeIs slot_list_getitem.lookup
   (wpAny_getItem_list_neg (Q:=fun r s'=>r=w∧EP X pins σ Q r s') pl.isList (by omega) (by rw [As] <;> omega) (by omega) (by rw [hj];simpa using ew) ⟨rfl,fin⟩) hs
theorem ix_tup:IxR X (rIxT X.K):=by
 intro value slice pins s σ H x y v u Q I rx ry h hs
 obtain ⟨p,xs,i,z,rfl,rfl,hq,he,q⟩:=h
 cases rx
 obtain ⟨t,rfl⟩:=ry
 obtain ⟨its,r,pl,hz⟩:=I.tuple hq
 obtain ⟨j,h1,h2,h3,h4,h5⟩:=uU he
 obtain ⟨w,ew,rw'⟩:=r.get h2
 have hl:=r.length
 have hn:=sN
 have fin:EP X pins σ Q w s:=⟨z,H,I,rw',q⟩
 exact subscriptTail_builtinR (x:=w) pl.typeIs slot_tuple_getitem.lookup
  (getItem_tuple (j:=j) (Q:=fun r s'=>r=w∧EP X pins σ Q r s') pl (by omega) (by omega) (by rw [As,← hl];exact h1) (by simpa using ew) ⟨rfl,fin⟩) hs
theorem clip0 (i:Int)(n:Nat):max 0 (min (if i < 0 then i + (n:Int) else i) (n:Int))=(((if i < 0 then (i + (n:Int)).toNat else min i.toNat n):Nat):Int):=by
 by_cases h:i < 0
 ·rw [Ai h,Ai h,Int.min_eq_left (by omega),Int.ofNat_toNat,Int.max_comm]
 ·have z:0 ≤ i:=Int.not_lt.mp h
  obtain ⟨k,rfl⟩:=AA z
  rw [Ah h,Ah h,Ap];exact (Int.max_eq_right (Int.le_min.mpr ⟨z,Int.natCast_nonneg n⟩)).trans (by omega)
theorem nD (lo hi:Option Int)(n:Nat):(sliceBounds lo hi none n).1=((HT.sIx n 0 lo:Nat):Int)∧(sliceBounds lo hi none n).2.1=((HT.sIx n n hi:Nat):Int)∧(sliceBounds lo hi none n).2.2=1:=by
 exact ⟨by cases lo with | none=>simp [sliceBounds,HT.sIx] | some i=>exact clip0 i n,by cases hi with | none=>simp [sliceBounds,HT.sIx] | some i=>exact clip0 i n,rfl⟩
theorem cF (its:List Value)(lo hi:Option Int):slicePick its.toArray lo hi none=((its.drop (HT.sIx its.length 0 lo)).take (HT.sIx its.length its.length hi - HT.sIx its.length 0 lo)).toArray:=by
 obtain ⟨h1,h2,h3⟩:=nD lo hi its.toArray.size
 unfold slicePick
 rw [h1,h2,h3]
 simp only [sliceRange_one,pick_run,As] <;> rfl
noncomputable def rSlL (K:PySem.W.Frag):V→Option Int→Option Int→Hp→VK→Prop:=fun x lo hi H Q=>∃ a xs,x = .ref a∧SqL K H a xs∧∀ p,H p=none→Q (.ref p) (upd H p (.lst (zI xs lo hi)))
theorem sl_list:SlR X (rSlL X.K):=by
 intro pins s σ H x v vl vu lo hi sl Q I rx hs pl pu h
 obtain ⟨a,xs,rfl,hx,q⟩:=h
 cases rx
 obtain ⟨its,r,ht,hz⟩:=I.list hx
 have hlen:=r.length
 refine ⟨"list",_,slot_list_getitem.lookup,ht.isList.typeIs,?_⟩
 refine wpAny_getItem_list_slice ht.isList hs pl pu .none (by simp) ?_ (by rw [As] <;> omega)
 rw [cF,← hlen]
 refine ⟨.ref s.heap.objs.size,_,I.laid (t':=s.toks) (o:=.lst (zI xs lo hi)) (fun b ob q=>Ac _ q) (Ak _) ?_,rfl,q _ (I.hok.fresh (Ak _))⟩
 exact ⟨AX (xF xs lo hi) hz,_,0,(r.drop (HT.sIx xs.length 0 lo)).take (HT.sIx xs.length xs.length hi - HT.sIx xs.length 0 lo),Ao _ rfl⟩
noncomputable def flatV:V→Bool
 | .non=>true
 | .bl _=>true
 | .int _=>true
 | .str _=>true
 | _=>false
noncomputable def eqV:V→V→Bool
 | .non,.non=>true
 | .bl a,.bl b=>a == b
 | .bl a,.int b=>(if a then 1 else 0) == b
 | .int a,.bl b=>a == (if b then 1 else 0)
 | .int a,.int b=>a == b
 | .str a,.str b=>a == b
 | _,_=>false
theorem eqAt_V {A:Around}{s:Shared}{y x:V}{u v:Value}(ry:RelV y u)(rx:RelV x v)(fy:flatV y=true)(fx:flatV x=true):SeqAt.EqAt A s u v (eqV y x):=by
 cases y with
 | non =>
  cases ry
  cases x with
  | non=>cases rx;exact SeqAt.EqAt.same _
  | bl b=>cases rx;exact SeqAt.EqAt.none_bool b
  | int b=>obtain ⟨t,rfl⟩:=rx;exact SeqAt.EqAt.none_int b t
  | str b=>obtain ⟨t,rfl⟩:=rx;exact SeqAt.EqAt.none_str b t
  | _=>exact absurd (show false=true from fx) A1
 | bl a =>
  cases ry
  cases x with
  | non=>cases rx;exact SeqAt.EqAt.bool_none a
  | bl b=>cases rx;exact SeqAt.EqAt.bool_bool a b
  | int b=>obtain ⟨t,rfl⟩:=rx;exact SeqAt.EqAt.bool_int a b t
  | str b=>obtain ⟨t,rfl⟩:=rx;exact SeqAt.EqAt.bool_str a b t
  | _=>exact absurd (show false=true from fx) A1
 | int a =>
  obtain ⟨t',rfl⟩:=ry
  cases x with
  | non=>cases rx;exact SeqAt.EqAt.int_none a t'
  | bl b=>cases rx;exact SeqAt.EqAt.int_bool a t' b
  | int b=>obtain ⟨t,rfl⟩:=rx;exact SeqAt.EqAt.int_int a t' b t
  | str b=>obtain ⟨t,rfl⟩:=rx;exact SeqAt.EqAt.int_str a t' b t
  | _=>exact absurd (show false=true from fx) A1
 | str a =>
  obtain ⟨t',rfl⟩:=ry
  cases x with
  | non=>cases rx;exact SeqAt.EqAt.str_none a t'
  | bl b=>cases rx;exact SeqAt.EqAt.str_bool a t' b
  | int b=>obtain ⟨t,rfl⟩:=rx;exact SeqAt.EqAt.str_int a t' b t
  | str b=>obtain ⟨t,rfl⟩:=rx;exact SeqAt.EqAt.str_str a t' b t
  | _=>exact absurd (show false=true from fx) A1
 | _=>exact absurd (show false=true from fy) A1
theorem lA:yP X (.builtin "len") (fun xs H Q=>∃ p ys,xs=[.ref p]∧(SqL X.K H p ys∨SqT X.K H p ys)∧Q (.int ys.length) H):=by
 intro pins s σ H xs us Q I r h
 obtain ⟨p,ys,rfl,hq,q⟩:=h
 obtain ⟨u,rfl,rx⟩:=vals1 r
 cases rx
 have hn:=sN
 rcases hq with hq | hq
 ·obtain ⟨its,r',pl,hz⟩:=I.list hq
  have hlen:=r'.length
  exact Calls.call_len_list pl.isList (by simp only [As] <;> omega) ⟨.int ys.length,H,I.tok _,⟨s.toks + 1,by rw [As,hlen]⟩,q⟩
 ·obtain ⟨its,r',pl,hz⟩:=I.tuple hq
  have hlen:=r'.length
  exact len_tuple pl (by simp only [As] <;> omega) ⟨.int ys.length,H,I.tok _,⟨s.toks + 1,by rw [As,hlen]⟩,q⟩
theorem nZ:yP X (.type "list") (fun xs H Q=>∃ p ys,xs=[.ref p]∧(SqL X.K H p ys∨SqT X.K H p ys)∧∀ l,H l=none→Q (.ref l) (upd H l (.lst ys))):=by
 intro pins s σ H xs us Q I r h
 obtain ⟨p,ys,rfl,hq,q⟩:=h
 obtain ⟨u,rfl,rx⟩:=vals1 r
 cases rx
 have fin:∀ (its:List Value),Vals ys its→ys.length ≤ sizeLine→∀ (h':Heap) (c':Nat),(∀ b o',s.heap.get? b=some o'→h'.get? b=some o') →
   h'.get? s.heap.objs.size=some { cls:=.type "list",dict:=none,data:=.seq its.toArray c',slots := #[] }→EP X pins σ Q (.ref s.heap.objs.size) { s with heap:=h' }:=fun its r' hz h' c' kp e =>
  ⟨.ref s.heap.objs.size,_,I.laid (t':=s.toks) kp (Ak _) (show ObjOk X.prog X.w _ h' _ (.lst ys) from ⟨hz,its,c',r',e⟩),rfl,q _ (I.hok.fresh (Ak _))⟩
 rcases hq with hq | hq
 ·obtain ⟨its,r',pl,hz⟩:=I.list hq
  have hlen:=r'.length
  obtain ⟨o,ho,hc,n,hd⟩:=pl.isList
  exact call_list_seq p (.inl rfl) ho hc hd (fun h' c' kp e=>fin its r' hz h' c' kp e) (by simp only [As] <;> omega)
 ·obtain ⟨its,r',pl,hz⟩:=I.tuple hq
  have hlen:=r'.length
  obtain ⟨o,ho,hc,n,hd⟩:=pl
  exact call_list_seq p (.inr rfl) ho hc hd (fun h' c' kp e=>fin its r' hz h' c' kp e) (by simp only [As] <;> omega)
theorem cI:yP X (.type "tuple") (fun xs H Q=>∃ p ys,xs=[.ref p]∧((SqL X.K H p ys∧∀ l,H l=none→Q (.ref l) (upd H l (.tup ys)))∨(SqT X.K H p ys∧Q (.ref p) H))):=by
 intro pins s σ H xs us Q I r h
 obtain ⟨p,ys,rfl,h⟩:=h
 obtain ⟨u,rfl,rx⟩:=vals1 r
 cases rx
 rcases h with ⟨hq,q⟩ | ⟨hq,q⟩
 ·obtain ⟨its,r',pl,hz⟩:=I.list hq
  have hlen:=r'.length
  refine call_tuple_list pl.isList (fun h' kp=>?_) (by simp only [As] <;> omega)
  have I1:Inv X pins σ H { s with heap:=h' }:=I.kept (t':=s.toks) kp
  have I2:Inv X pins σ (upd H h'.objs.size (.tup ys)) { s with heap:=h'.push { cls:=.type "tuple",data:=.seq its.toArray } } :=
   I1.laid (t':=s.toks) (fun b o e=>Ac _ e) (Ak _) (show ObjOk X.prog X.w _ _ _ (.tup ys) from ⟨hz,its,r',IsTup.new _ _⟩)
  exact ⟨.ref h'.objs.size,_,I2,rfl,q _ (I1.hok.fresh (Ak _))⟩
 ·obtain ⟨its,r',pl,hz⟩:=I.tuple hq
  exact call_tuple_same pl ⟨.ref p,H,I,rfl,q⟩
noncomputable def tyV (K:PySem.W.Frag)(T:String)(x:V)(H:Hp):Prop:=match x with
 | .str _=>T = "str"
 | .int _=>T = "int"
 | .ref p=>(T = "list" ∧ ∃ xs,SqL K H p xs)∨(T = "tuple" ∧ ∃ o,K.lookup p=some o∧o.cls = .type "tuple" ∧ o.dict=none) ∨
   (T = "dict" ∧ ((∃ kvs,H p=some (.dK kvs))∨∃ kvs,H p=some (.dT kvs)))∨(T = "set" ∧ ∃ S n,H p=some (.set S n))
 | _=>False
theorem tyV_is {pins:List (Addr × Obj)}{σ:St}{H:Hp}{s:Shared}{T:String}{x:V}{v:Value}(I:Inv X pins σ H s)(r:RelV x v)(ty:tyV X.K T x H) :
  s.TypeIs v T∧∀ a,v = .ref a→∃ ob,s.heap.get? a=some ob∧ob.dict=none:=by
 cases x with
 | str z =>
  obtain ⟨t,rfl⟩:=r
  cases (show T = "str" from ty)
  exact ⟨typeIs_str s z t,fun _ e=>nomatch e⟩
 | int i =>
  obtain ⟨t,rfl⟩:=r
  cases (show T = "int" from ty)
  exact ⟨typeIs_int s i t,fun _ e=>nomatch e⟩
 | ref p =>
  cases r
  rcases ty with ⟨rfl,xs,hq⟩ | ⟨rfl,o,hk,hc,hd⟩ | ⟨rfl,hk⟩ | ⟨rfl,S,n,hk⟩
  ·obtain ⟨its,_,pl,_⟩:=I.list hq
   refine ⟨pl.isList.typeIs,fun a e=>?_⟩
   cases e
   obtain ⟨o,n,e,c,hd,_⟩:=pl
   exact ⟨o,e,hd⟩
  ·refine ⟨⟨o,I.kIn p o hk,hc⟩,fun a e=>?_⟩
   cases e
   exact ⟨o,I.kIn _ o hk,hd⟩
  ·have z:∃ o,s.heap.get? p=some o∧o.ExactDict:=by
    rcases hk with ⟨kvs,hk⟩ | ⟨kvs,hk⟩
    ·obtain ⟨_,_,_,_,o,_,_,e,ex,_⟩:=I.hok p _ hk
     exact ⟨o,e,ex⟩
    ·obtain ⟨_,_,_,_,o,_,_,e,ex,_⟩:=I.hok p _ hk
     exact ⟨o,e,ex⟩
   obtain ⟨o,e,ex⟩:=z
   refine ⟨⟨o,e,ex.1⟩,fun a e2=>?_⟩
   cases e2
   exact ⟨o,e,ex.2.1⟩
  ·obtain ⟨o,_,_,_,e,ex,_⟩:=I.hok p _ hk
   refine ⟨⟨o,e,ex.1⟩,fun a e2=>?_⟩
   cases e2
   exact ⟨o,e,ex.2.1⟩
 | _=>exact False.elim ty
variable {o e:Expr}{es:List Expr}{to:TE}{t:TA}{name:Str}{apos cpos:Pos}{T id:String}{r:V→List V→Hp→VK→Prop}
end
end L2
namespace L2
open PySem PySem.Spec PyProof.Rows
noncomputable def MtM (X:Cx)(id:String)(r:V→List V→Hp→VK→Prop):Prop :=
 ∀ (pins:List (Addr × Obj)) (s:Shared) (σ:St) (H:Hp) (x:V) (xs:List V) (v:Value) (us:List Value) (Q:VK),Inv X pins σ H s→RelV x v→Vals xs us→r x xs H Q →
  wpAny (model X.prog X.w) X.A (call (.builtin id) (v :: us)) (EP X pins σ Q) X.xe s
theorem Vals.one {x:V}{us:List Value}(h:Vals [x] us):∃ u,us=[u]∧RelV x u:=by
 cases h with
 | cons r t=>cases t;exact ⟨_,rfl,r⟩
theorem Vals.two {x y:V}{us:List Value}(h:Vals [x,y] us):∃ u v,us=[u,v]∧RelV x u∧RelV y v:=by
 cases h with
 | cons r t =>
  cases t with
  | cons q z=>cases z;exact ⟨_,_,rfl,r,q⟩
theorem Vals.rep {xs:List V}{us:List Value}(h:Vals xs us):∀ k:Nat,Vals (List.replicate k xs).flatten (List.replicate k us).flatten
 | 0=>.nil
 | k + 1=>by
  rw [BE,BE,Cu,Cu]
  exact Vals.append h (Vals.rep h k)
theorem foldl_rep (its:List Value):∀ (k:Nat) (acc:List Value),
  List.foldl (fun x1 x2=>x1 ++ x2) acc.toArray (List.replicate k its.toArray)=(acc ++ (List.replicate k its).flatten).toArray
 | 0,acc=>by simp
 | k + 1,acc=>by
  have e:acc.toArray ++ its.toArray=(acc ++ its).toArray:=by simp
  have e2:(acc ++ its) ++ (List.replicate k its).flatten=acc ++ (List.replicate (k + 1) its).flatten:=by
   rw [BE,Cu,Dp]
  rw [← e2,← foldl_rep its k (acc ++ its),← e,BE,List.foldl_cons]
section
variable {X:Cx}{pins:List (Addr × Obj)}{σ:St}{H:Hp}{s:Shared}{l b:Addr}{xs ys zs:List V}
theorem Inv.lset {its its':List Value}{n:Nat}{f:Array Value→Array Value}{t':Nat}(I:Inv X pins σ H s)(hH:H l=some (.lst xs))
  (e:s.heap.get? l=some { cls:=.type "list",data:=.seq its.toArray n }) (hf:f its.toArray=its'.toArray) (hv:Vals ys its') (hz:ys.length ≤ sizeLine) :
  Inv X pins σ (upd H l (.lst ys)) { s with heap:=s.heap.update l (Obj.mapSeq f),toks:=t' }:=by
 have q:=PySem.IsL.update e f
 rw [hf] at q
 refine I.write (x:=l) (e:=l) (by rw [hH];exact trivial) (.inl rfl) (fun b' u hb hu=>(Heap.get?_update_other s.heap (Obj.mapSeq f) (Cr hb)).trans hu) ⟨_,q⟩ ?_
 exact ⟨hz,its',_,hv,q⟩
theorem Inv.lnew {its:List Value}{t':Nat}(I:Inv X pins σ H s)(hv:Vals ys its)(hz:ys.length ≤ sizeLine) :
  Inv X pins σ (upd H s.heap.objs.size (.lst ys)) { s with heap:=s.heap.push { cls:=.type "list",data:=.seq its.toArray },toks:=t' } :=
 I.laid (fun _ _ q=>Ac _ q) (Ak _) ⟨hz,its,0,hv,Ao _ rfl⟩
theorem Inv.fresh (I:Inv X pins σ H s):H s.heap.objs.size=none:=I.hok.fresh (Ak _)
theorem Inv.lstM (I:Inv X pins σ H s)(hH:H l=some (.lst xs)):xs.length ≤ sizeLine∧∃ (its:List Value) (n:Nat),Vals xs its∧xs.length=its.length∧s.heap.get? l=some { cls:=.type "list",data:=.seq its.toArray n }:=by
 obtain ⟨z,its,n,r,e⟩:=I.hok l _ hH
 exact ⟨z,its,n,r,r.length,e⟩
theorem pO {n:Nat}(h:n ≤ sizeLine):Builtin.List.listTooLong n=false:=by
 unfold Builtin.List.listTooLong
 exact Aw (by omega)
end
section
variable {X:Cx}
noncomputable def rAppend:V→List V→Hp→VK→Prop:=fun x vs H Q=>∃ l xs y,x = .ref l∧vs=[y]∧H l=some (.lst xs)∧xs.length < sizeLine∧Q .non (upd H l (.lst (xs ++ [y])))
theorem mE:MtM X "list.append" rAppend:=by
 intro pins s σ H x vs v us Q I rx rv h
 obtain ⟨l,xs,y,rfl,rfl,hH,hz,q⟩:=h
 cases rx
 obtain ⟨u,rfl,ru⟩:=rv.one
 obtain ⟨z,its,n,r,hl,e⟩:=I.lstM hH
 refine call_meets F.slot_list_append ⟨_,e,rfl⟩ F.entry_list_append (F.args_list_append_2 _ _) (PySem.list_append l its.toArray n u (by rw [As];omega)) ⟨e,?_⟩
 refine ⟨.non,_,I.lset (its':=its ++ [u]) hH e (by simp) (r.append (.cons ru .nil)) ?_,rfl,q⟩
 rw [Aj,AL]
 omega
noncomputable def rCat:R2:=fun x y H Q=>∃ l b xs zs,x = .ref l∧y = .ref b∧H l=some (.lst xs)∧H b=some (.lst zs)∧xs.length + zs.length ≤ sizeLine∧∀ p,H p=none→Q (.ref p) (upd H p (.lst (xs ++ zs)))
theorem op_cat:xZ X (binaryOp .Add) rCat:=by
 intro pins s σ H x y v u Q I rx ry h
 obtain ⟨l,b,xs,zs,rfl,rfl,hH,hB,hz,q⟩:=h
 cases rx
 cases ry
 obtain ⟨z,its,n,r,hl,e⟩:=I.lstM hH
 obtain ⟨z2,its2,n2,r2,hl2,e2⟩:=I.lstM hB
 refine PySem.P.add_list e e2 ?_ (by rw [As,As];omega)
 have ea:its.toArray ++ its2.toArray=(its ++ its2).toArray:=by simp
 rw [ea]
 exact ⟨.ref _,_,I.lnew (t':=s.toks) (r.append r2) (by rw [Aj];omega),rfl,q _ I.fresh⟩
noncomputable def rRep:R2:=fun x y H Q=>∃ l k xs,x = .ref l∧y = .int k∧H l=some (.lst xs)∧-(2 ^ 63) ≤ k∧k < 2 ^ 63∧xs.length * k.toNat ≤ sizeLine ∧
 ∀ p,H p=none→Q (.ref p) (upd H p (.lst (List.replicate k.toNat xs).flatten))
theorem len_rep {α:Type}(xs:List α)(k:Nat):(List.replicate k xs).flatten.length=k * xs.length:=by
 induction k with
 | zero=>simp
 | succ k ih=>rw [BE,Cu,Aj,ih,Nat.succ_mul,Nat.add_comm]
theorem op_rep:xZ X (binaryOp .Mult) rRep:=by
 intro pins s σ H x y v u Q I rx ry h
 obtain ⟨l,k,xs,rfl,rfl,hH,h1,h2,hz,q⟩:=h
 cases rx
 obtain ⟨t,rfl⟩:=ry
 obtain ⟨z,its,n,r,hl,e⟩:=I.lstM hH
 have hlen:its.toArray.size * k.toNat ≤ sizeLine:=by rw [As,← hl];exact hz
 have hcap:¬ its.toArray.size * k.toNat > (2 ^ 63 - 1) / 8:=by
  have:(sizeLine:Nat) ≤ (2 ^ 63 - 1) / 8:=by decide
  omega
 have hfit:¬ (!Builtin.List.listFitsIndex k)=true:=by
  rw [fitsIndex_both h1 h2]
  exact A1
 have hlong:¬ Builtin.List.listTooLong (its.toArray.size * k.toNat)=true:=by
  rw [pO hlen]
  exact A1
 have hnew:List.foldl (fun x1 x2=>x1 ++ x2) #[] (List.replicate (if its.toArray.isEmpty=true then 0 else k.toNat) its.toArray)=(List.replicate k.toNat its).flatten.toArray:=by
  have f0:∀ m:Nat,List.foldl (fun x1 x2=>x1 ++ x2) #[] (List.replicate m its.toArray)=(List.replicate m its).flatten.toArray:=fun m=>by
   have:=foldl_rep its m []
   rw [List.nil_append] at this
   exact this
  rw [f0]
  cases its with
  | nil=>simp
  | cons a r'=>rw [Ah (by simp)]
 refine wpAny_binaryOp_repeat_ref (T := "list") (U := "int") (by decide) ⟨_,e,rfl⟩ (fun s'=>typeIs_int s' k t) noFill_list_mul F.fills_int_mul F.slot_int_rmul repeat_list F.slot_int_index.lookup
  (call_meets F.slot_int_rmul (typeIs_int s k t) F.entry_int_rmul (F.args_int_rmul_2 _ _) (int___rmul___int_list k t l its.toArray n)
   ⟨e,rfl,⟨_,e,rfl⟩,call_meets F.slot_list_mul ⟨_,e,rfl⟩ F.entry_list_mul (F.args_list_mul_2 _ _) (AutoListH.list___mul___list_int_3 l its.toArray n k t hfit hcap hlong) ⟨e,?_⟩⟩)
 rw [hnew]
 exact ⟨.ref _,_,I.lnew (t':=s.toks) (r.rep k.toNat) (by rw [len_rep,B4];exact hz),rfl,q _ I.fresh⟩
end
section
variable {prog:Program}{w:World}{A:Around}{E:Value→Shared→Prop}{s:Shared}
end
section
variable {X:Cx}
end
end L2
namespace Att
open PySem PySem.W PySem.Calls PyProof.Rows
theorem wA {P:Params}{h:Heap}:∀ (ns:List Int) (vs:List Value),WellAll P h vs (ns.map WData.int)→IntsAre vs ns:=by
 intro ns
 induction ns with
 | nil =>
  intro vs w
  rw [C3] at w
  cases w
  exact .nil
 | cons n ns ih =>
  intro vs w
  rw [AN] at w
  cases w with
  | cons a b =>
   cases a
   exact .cons _ _ (ih _ b)
theorem aJ {l:OpenLaw}{n:Nat}(hn:l.most=some n){P:Params}{h:Heap}{args:List WData}{vals:List Value}
  (hpre:l.row.toRowW.claim.pre args=true) (hwl:WellAll P h vals args) :
  ∃ a vs ns,vals=[Value.ref a]∧args=[WData.list (ns.map WData.int)]∧h.get? a=some { cls:=.type "list",data:=.seq vs.toArray }∧IntsAre vs ns∧ns.length ≤ n:=by
 have hsh:WShape.hasAll [] args [.list .int] = true:=(pre_splitW hpre).1
 have hc:l.pre.holds [] { args:=args } = true:=(pre_splitW hpre).2
 obtain ⟨d,r,rfl,h1,h2⟩:=hasAllW_cons hsh
 obtain rfl:=hasAllW_nil h2
 obtain ⟨xs,rfl,h3⟩:=hasW_list h1
 obtain ⟨ns,rfl⟩:=items_int h3
 have hlen:ns.length ≤ n:=by
  unfold OpenLaw.pre at hc
  have h4:(WTm.not (.lt (.lit (.int (n:Int))) (.len (.arg 0)))).holds [] { args:=[.list (ns.map .int)] } = true:=by
   have h4:=(holds_andW hc).1
   rw [hn] at h4
   exact h4
  have h5:=condW_of h4 (w_not (w_lt w_lit (w_len_list (w_arg rfl))))
  rw [Aa] at h5
  refine Nat.le_of_not_lt fun q=>?_
  have q':(n:Int) < ((ns.length:Nat):Int):=by omega
  first
   | (rw [Ax q'] at h5;exact absurd h5 (by decide))
   | (simp at h5;omega)
 cases hwl with
 | cons w1 w2 =>
  cases w2
  cases w1 with
  | list ho hall=>exact ⟨_,_,ns,rfl,rfl,ho,wA ns _ hall,hlen⟩
theorem aM (l:OpenLaw)(args:List WData):l.row.toRowW.claim.post args (.bool true) args=true :=
 postW_of (r:=l.row.toRowW) (X:=(true == true))
  (show WShape.has [] (.bool true) .bool=true by first | rfl | decide | simp [WShape.has,WShape.arms,WShape.armsAll])
  (show (WTm.eq .res (.lit (.bool true))).value [] { args:=args,res:=some (.bool true),after:=args } = some (.bool (true == true)) from w_eq_bool (w_res rfl) w_lit) rfl
theorem attach_call {l:OpenLaw}{n:Nat}{q:Program}{loose:List Str}{XP:(Str→Option Value)→Heap→Prop}{YP:World→Heap→Prop}{d:DefRec}
  (hn:l.most=some n) (hdf:d.params.defaults=[])
  (call:∀ (w:World) (s₀ s₁:Shared) (mg mb:Str→Option Value) (fa:Addr) (o:Obj) (pm cd doc:Value) (a:Addr) (vs:List Value) (ns:List Int),
   Ground q loose [] XP w s₀ mg mb s₁.heap→YP w s₁.heap →
   s₁.heap.get? fa=some o→o.data = .func (docDef d.name d.params d.body d.scope pm cd doc)→s₁.heap.CodeRec cd d.name→mg d.name=some (.ref fa) →
   s₁.heap.get? a=some { cls:=.type "list",data:=.seq vs.toArray }→IntsAre vs ns→ns.length ≤ n→s₁.gens = #[] →
   codeAny (model l.prog w) callerA (.call (.ref fa) ⟨[.ref a],[]⟩) (fun r s'=>r = .ok (.ret (.bool true))∧OldK s₁.heap s'.heap∧s'.os=s₁.os∧AllBare s'.gens) s₁) :
  WalkO q loose XP YP l.row.toRowW d [] (fun f vs=>PySem.call f vs):=by
 intro w s₀ s₁ mg mb G Y fa o pm cd doc dV kV ho hd hcd hD hmg hg args vals as hpre hlay hrd hwl hlo
 obtain rfl:dV = .none:=Dflts.none hD hdf
 obtain rfl:kV = .none:=Dflts.noKw hD
 obtain ⟨a,vs,ns,rfl,rfl,hobj,hints,hlen⟩:=aJ hn hpre hwl
 refine enter_call (codeAny_mono (call w s₀ s₁ mg mb fa o pm cd doc a vs ns G Y ho (fd_plain hd) hcd hmg hobj hints hlen hg) fun r s' hq=>?_)
 obtain ⟨rfl,h2,h3,h4⟩:=hq
 exact ⟨.inl ⟨.bool true,.bool true,[],rfl,fun _=>rfl,.bool true,aM l _,fun _=>⟨List.Pairwise.nil,fun _ hm=>(nomatch hm)⟩⟩,h2,h3,h4⟩
section
variable {prog:Program}{w:World}{A:Around}{E:Value→Shared→Prop}{s:Shared}{K:Frag}
end
end Att
namespace L2
open PySem PySem.Spec PyProof.Rows
theorem cN:∀ {vs:List Value} {ns:List Int},IntsAre vs ns→Vals (ns.map V.int) vs
 | _,_,.nil=>.nil
 | _,_,.cons n t h=>.cons ⟨t,rfl⟩ (cN h)
noncomputable def Only (H:Hp):Prop:=∀ b,H b=none∨∃ o xs,H b=some (.frz o (.lst xs))
theorem law_call {P:Program}{w:World}{K:PySem.W.Frag}{mg mb:Str→Option Value}{CX:CXT}{k:Nat}{fa a:Addr}{fd:FuncData}{x:Str}{sp:Sp}{s₁:Shared}{vs:List Value}{ns:List Int}
  (KX:K.In s₁.heap) (hns:s₁.heap.Ns mainGlobals mg) (hb:s₁.heap.Ns builtinsNs mb) (hbb:∀ x:Str,x ≠ "__name__" → mb x=bootBuiltins x) (hlim:s₁.heap.NoLimit) (hg:s₁.gens = #[])
  (ha:s₁.heap.get? a=some { cls:=.type "list",data:=.seq vs.toArray }) (hi:IntsAre vs ns) (hl:ns.length ≤ sizeLine) (hr:Room k callerA)
  (F:∀ base:Heap,K.In base→base.Ns mainGlobals mg→FnOk P w K mg base CX k fa fd [x] sp) (hbind:∀ (s:Shared) (u:Value),BindsTo s fd ⟨[u],[]⟩ [(x,u)])
  (hsp:∀ H:Hp,Only H→SqL K H a (ns.map V.int)→sp [.ref a] H (fun v _=>v = .bl true) fun _ _ _=>False)
  (hCX:∀ H e s',CX [] H s₁ (fun _ _ _=>False) e s'→False) :
  codeAny (model P w) callerA (.call (.ref fa) ⟨[.ref a],[]⟩) (fun r s'=>r = .ok (.ret (.bool true))∧OldK s₁.heap s'.heap∧s'.os=s₁.os∧AllBare s'.gens) s₁:=by
 have rv:=cN hi
 have lenV:=hi.length
 have core:∀ H:Hp,Only H→SqL K H a (ns.map V.int)→HOk P w H s₁.heap→(∀ b,H b ≠ none→b=a)→(H a ≠ none→K.lookup a=none) →
   codeAny (model P w) callerA (.call (.ref fa) ⟨[.ref a],[]⟩) (fun r s'=>r = .ok (.ret (.bool true))∧OldK s₁.heap s'.heap∧s'.os=s₁.os∧AllBare s'.gens) s₁:=by
  intro H hO hS hok hA hK
  have base_of:∀ {b:Addr} {o:Obj},s₁.heap.get? b=some o→H b=none→(nU s₁.heap H).get? b=some o:=fun e n=>hidT_get e n
  have noA:∀ {b:Addr} {o:Obj} {es:Array DictEntry} {ep:Nat},s₁.heap.get? b=some o→o.data = .dict es ep→H b=none:=fun {b o es ep} e d=>by
   cases q:H b with
   | none=>rfl
   | some u =>
    have e':b=a:=hA b (by rw [q];simp)
    subst e'
    rw [ha] at e;cases e
    have d':Data.seq vs.toArray _=Data.dict es ep:=d
    cases d'
  have nsK:∀ {b:Addr} {m:Str→Option Value},s₁.heap.Ns b m→(nU s₁.heap H).Ns b m:=fun {b m} ⟨o,es,ep,e,d,r⟩=>⟨o,es,ep,base_of e (noA e d),d,r⟩
  have hKb:K.In (nU s₁.heap H):=fun b o e=>base_of (KX b o e) (by
   cases q:H b with
   | none=>rfl
   | some u =>
    have e':b=a:=hA b (by rw [q];simp)
    subst e'
    rw [hK (by rw [q];simp)] at e;cases e)
  have hM:Mod K mg (nU s₁.heap H):=⟨hKb,nsK hns,⟨mb,nsK hb,hbb⟩,let ⟨mc,h1,h2⟩:=hlim;⟨mc,nsK h1,h2⟩⟩
  have e0:Env0 P w K mg (nU s₁.heap H) callerA [] s₁ H:=⟨rfl,hM,fun b o e=>of_hidT e,Nat.le_of_eq (eN _ _),trivial,fun b hb=>absurd (show b ∈ ([] : List Addr) from hb) (by simp),hok,.of_eq hg⟩
  refine codeAny_mono ((F _ hKb (nsK hns)).run callerA [] s₁ H ⟨[.ref a],[]⟩ [.ref a] [.ref a] _ _ hr e0 (hbind s₁ (.ref a)) (.cons rfl .nil) (hsp H hO hS)) fun r s' h=>?_
  cases r with
  | error e=>exact (hCX H e s' h).elim
  | ok fl =>
   cases fl with
   | next=>exact False.elim h
   | brk=>exact False.elim h
   | cont=>exact False.elim h
   | ret u =>
    obtain ⟨v,H',os,bare,un,hok',r',q⟩:=h
    have q':v = .bl true:=q
    subst q'
    obtain rfl:u=Value.bool true:=r'
    refine ⟨rfl,OldK.of_keep fun b o e=>?_,os,bare⟩
    cases q:H b with
    | none=>exact un.keep b o e q (by intro z;exact absurd (show b ∈ ([] : List Addr) from z) (by simp)) (by simp)
    | some u =>
     rcases hO b with z | ⟨ob,xs,z⟩
     ·rw [q] at z;cases z
     ·have z2:=un.frzs b ob _ z
      obtain ⟨e1,_⟩:=hok b _ z
      obtain ⟨e2,_⟩:=hok' b _ z2
      rw [e] at e1;cases e1
      exact e2
 cases hk:K.lookup a with
 | some o =>
  have e:=KX a o hk
  rw [ha] at e
  cases e
  refine core (fun _=>none) (fun _=>.inl rfl) (.inr ⟨_,vs.toArray,_,hk,rfl,rfl,rfl,by rw [As,lenV];exact hl,by simpa using rv⟩) (fun b u z=>by have z':(none:Option HO)=some u:=z;cases z') (fun b z=>absurd rfl z) fun z=>absurd rfl z
 | none =>
  refine core (fun b=>if b=a then some (.frz { cls:=.type "list",data:=.seq vs.toArray } (.lst (ns.map V.int))) else none) (fun b=>?_) (.inl (.inr ⟨{ cls:=.type "list",data:=.seq vs.toArray },Ai rfl⟩)) (fun b u z=>?_) (fun b z=>?_) fun _=>hk
  ·by_cases hb:b=a
   ·exact .inr ⟨_,_,Ai hb⟩
   ·exact .inl (Ah hb)
  ·by_cases hb:b=a
   ·have z':=(Ai hb).symm.trans z
    cases z'
    subst hb
    exact ⟨ha,by rw [Aa];exact hl,vs,_,rv,ha⟩
   ·have z':=(Ah hb).symm.trans z
    cases z'
  ·by_cases hb:b=a
   ·exact hb
   ·exact absurd (Ah hb) z
end L2
namespace L2
open PySem PySem.Spec PyProof.Rows
theorem walk_of {l:PySem.W.OpenLaw}{n k:Nat}{q:Program}{loose:List Str}{XP:(Str→Option Value)→Heap→Prop}{YP:World→Heap→Prop}{d:DefRec}{K:Params→PySem.W.Frag}{CX:World→CXT}{sp:World→Sp}{x:Str}
  (hn:l.most=some n) (hn2:n ≤ sizeLine) (hdf:d.params.defaults=[]) (hr:Room k callerA)
  (hY:∀ (w:World) (h:Heap),YP w h→(K w.params).In h)
  (F:∀ (w:World) (mg:Str→Option Value) (fa:Addr) (h:Heap),(K w.params).In h→h.Ns mainGlobals mg→mg d.name=some (.ref fa) →
   ∃ fd:FuncData,(∀ (s:Shared) (u:Value),BindsTo s fd ⟨[u],[]⟩ [(x,u)]) ∧
    ∀ base:Heap,(K w.params).In base→base.Ns mainGlobals mg→FnOk l.prog w (K w.params) mg base (CX w) k fa fd [x] (sp w))
  (hsp:∀ (w:World) (H:Hp) (a:Addr) (ns:List Int),ns.length ≤ n→Only H→SqL (K w.params) H a (ns.map V.int)→sp w [.ref a] H (fun v _=>v = .bl true) fun _ _ _=>False)
  (hCX:∀ (w:World) (H:Hp) (s:Shared) (e:Value) (s':Shared),CX w [] H s (fun _ _ _=>False) e s'→False) :
  PySem.W.WalkO q loose XP YP l.row.toRowW d [] (fun f vs=>PySem.call f vs):=by
 refine Att.attach_call hn hdf fun w s₀ s₁ mg mb fa o pm cd doc a vs ns G Y ho hd hcd hmg hobj hints hlen hg=>?_
 have KX:=hY w _ Y
 obtain ⟨fd,hb,hF⟩:=F w mg fa _ KX G.T.g hmg
 exact law_call KX G.T.g G.T.b G.T.builtins G.T.nolimit hg hobj hints (AX hlen hn2) hr hF hb (fun H hO hS=>hsp w H a ns hlen hO hS) fun H e s'=>hCX w H s₁ e s'
end L2
namespace L2
open PySem PySem.Spec PyProof.Rows
noncomputable def kE (s:Stmt):Arguments:=match s with
 | .FunctionDef _ a _ _ _ _ _ _ _ _=>a
 | _=>{ posonlyargs:=[],args:=[],vararg:=none,kwonlyargs:=[],kw_defaults:=[],kwarg:=none,defaults:=[] }
noncomputable def kB (s:Stmt):List Stmt:=match s with
 | .FunctionDef _ _ b _ _ _ _ _ _ _=>b
 | _=>[]
noncomputable def qI (s:Stmt):Scope:=match s with
 | .FunctionDef _ _ _ _ _ _ sc _ _ _=>sc
 | _=>{ kind:=.function,names:=[],isGenerator:=false,isCoroutine:=false }
noncomputable abbrev CX0:CXT:=fun _ _ _ _ _ _=>False
noncomputable abbrev E0:XK:=fun _ _ _=>False
theorem pass0 {X:Cx}:sZ CX0 X E0:=fun _ _ _ _ _ _ _ h=>h.elim
structure Fun (K:PySem.W.Frag)(x qual:Str)(st:Stmt)(f:Addr)(fd:FuncData):Prop where
 ex:∃ (oc:Value) (od:Option Addr) (kV doc pm:Value) (an:Option Addr) (cdv ct:Value) (osl:Array (Option Value)),
  fd=PySem.W.fnOf x qual (kE st) (kB st) (qI st) .none kV doc pm an cdv ct∧K.lookup f=some ⟨oc,od,.func fd,osl⟩∧PySem.W.codeIn K cdv qual=true
 kp:PySem.W.keepIn K (.ref f)=true
section
variable {P:Program}{w:World}{K:PySem.W.Frag}{mg:Str→Option Value}{base:Heap}
theorem Fun.ok {x qual:Str}{st:Stmt}{f:Addr}{fd:FuncData}{N ps:List Str}{k:Nat}{sp:Sp}(F:Fun K x qual st f fd)(S:FnScope N ps (qI st))(len:∀ vs H Q E,sp vs H Q E→vs.length=ps.length)
  (hbody:∀ (cdv:Value) (A:Around) (outer:List Env) (s:Shared) (H:Hp) (vs:List V) (Q:VK) (E:XK),Room k (A.deeper (envOfC qual (qI st) s.heap.objs.size f cdv))→sp vs H Q E →
   ∃ t,PSs (sW CX0 P w K mg base N qual (qI st) f cdv A outer s H E).nox (kB st) t∧t { nx:=fun _ H'=>Q .non H',rt:=Q } (start N vs) H):FnOk P w K mg base CX0 (k + 1) f fd ps sp:=by
 obtain ⟨oc,od,kV,doc,pm,an,cdv,ct,osl,rfl,lk,hcd⟩:=F.ex
 refine fn_of lk hcd S len fun A outer s H vs Q E hr hsp=>?_
 obtain ⟨t,h,q⟩:=hbody cdv A outer s H vs Q E hr hsp
 exact ⟨t,h.nox,q⟩
theorem Fun.binds {x qual:Str}{st:Stmt}{f:Addr}{fd:FuncData}{ps:List Str}(F:Fun K x qual st f fd)
  (h:∀ (kV doc pm:Value) (an:Option Addr) (cdv ct:Value) (us:List Value),us.length=ps.length→bindArgs (PySem.W.fnOf x qual (kE st) (kB st) (qI st) .none kV doc pm an cdv ct) ⟨us,[]⟩=pure (ps.zip us)):Binds K fd ps []:=by
 obtain ⟨oc,od,kV,doc,pm,an,cdv,ct,osl,rfl,lk,hcd⟩:=F.ex
 exact .all (h kV doc pm an cdv ct)
theorem kR {x qual:Str}{st:Stmt}{f:Addr}{oc:Value}{od an:Option Addr}{osl:Array (Option Value)}{kV doc pm cdv ct:Value}(l:K.lookup f=some ⟨oc,od,.func (PySem.W.fnOf x qual (kE st) (kB st) (qI st) .none kV doc pm an cdv ct),osl⟩)
  (c:PySem.W.codeIn K cdv qual=true) (k:PySem.W.keepIn K (.ref f)=true):Fun K x qual st f (PySem.W.fnOf x qual (kE st) (kB st) (qI st) .none kV doc pm an cdv ct):=⟨⟨oc,od,kV,doc,pm,an,cdv,ct,osl,rfl,l,c⟩,k⟩
end
theorem j9 {A:Around}{k:Nat}(hr:Room k A):A.units + 1 < cLine:=Dm (Nat.add_le_add_left (by decide:1 ≤ 64) _) hr.units
theorem qL {n:Nat}(h:n ≤ 1000):n < sizeLine:=Dm h (by decide)
section
variable {X:Cx}
theorem pv (i:Nat){x:Str}{pos:Pos}(hN:X.N[i]? = some x:=by rfl)(hv:Vis X.env.scope x:=by first | exact Or.inl rfl | exact Or.inr (Or.inl rfl) | exact Or.inr (Or.inr rfl))(hd:(x == ("__debug__" : Str))=false:=by decide)
  (hcd:(x == ("__classdict__" : Str))=false:=by decide):PE X (.Name x pos) (j7 i):=pe_var hN hv hd hcd
end
noncomputable def Same (H H':Hp):Prop:=∀ b o,H b=some o→H' b=some o
theorem Same.refl (H:Hp):Same H H:=fun _ _ h=>h
theorem Same.trans {H H1 H2:Hp}(a:Same H H1)(b:Same H1 H2):Same H H2:=fun c o h=>b c o (a c o h)
theorem Same.seq {K:PySem.W.Frag}{H H':Hp}{a:Addr}{xs:List V}(e:Same H H')(h:SqL K H a xs):SqL K H' a xs:=by
 rcases h with (h | ⟨o,h⟩) | h
 ·exact .inl (.inl (e _ _ h))
 ·exact .inl (.inr ⟨o,e _ _ h⟩)
 ·exact .inr h
noncomputable def xC:List (Str × NameKind)→List (Str × Addr)→List (Str × Addr)→Option (List (Str × Addr))
 | [],_,acc=>some acc
 | (n,k) :: r,cs,acc=>if k == .free then (match cs.lookup n with | some c=>xC r cs ((n,c) :: acc) | none=>none) else xC r cs acc
theorem bX {env:Env}:∀ (names:List (Str × NameKind)) (acc cl:List (Str × Addr)),xC names env.cells acc=some cl →
  (forIn names acc fun (x:Str × NameKind) (cs:List (Str × Addr))=>(if (x.2 == NameKind.free)=true then (do let c ← cellOf env x.1;pure (ForInStep.yield ((x.1,c) :: cs))) else pure (ForInStep.yield cs):Sem (ForInStep (List (Str × Addr)))))=(pure cl:Sem _)
 | [],acc,cl,h=>by
  have e:acc=cl:=A9 h
  subst e;rfl
 | (n,k) :: r,acc,cl,h=>by
  unfold xC at h
  rw [List.forIn_cons]
  cases hk:k == NameKind.free with
  | false =>
   rw [hk] at h
   have ih:=bX (env:=env) r acc cl (by simpa using h)
   simp only [hk,Bg,C2,pure_bind]
   exact ih
  | true =>
   rw [hk] at h
   simp only [Cv] at h
   cases hc:env.cells.lookup n with
   | none=>rw [hc] at h;cases h
   | some c =>
    rw [hc] at h
    have ih:=bX (env:=env) r ((n,c) :: acc) cl h
    have e:cellOf env n=pure c:=by unfold cellOf;rw [hc]
    simp only [hk,Cv,e,pure_bind]
    exact ih
theorem zN {scope:Scope}{env:Env}{cl:List (Str × Addr)}(h:xC scope.names env.cells [] = some cl):closureFor scope env=pure cl:=by
 have q:=bX scope.names [] cl h
 unfold closureFor
 show (do let r ← _;pure r)=_
 refine Eq.trans ?_ (AY (fun z=>z >>= fun r=>pure r) q) |>.trans ?_
 ·rfl
 ·rfl
theorem bW {cs:List (Str × Addr)}:∀ (names:List (Str × NameKind)) (acc cl:List (Str × Addr)),xC names cs acc=some cl→(∀ n c,(n,c) ∈ acc→cs.lookup n=some c)→∀ n c,(n,c) ∈ cl→cs.lookup n=some c
 | [],acc,cl,h,ha,n,c,hm=>by
  have e:acc=cl:=A9 h
  subst e;exact ha n c hm
 | (n0,k) :: r,acc,cl,h,ha,n,c,hm=>by
  unfold xC at h
  split at h
  ·split at h
   ·rename_i c0 hc
    refine bW r _ cl h (fun n' c' h'=>?_) n c hm
    rcases A4.mp h' with e | h'
    ·cases e;exact hc
    ·exact ha n' c' h'
   ·cases h
  ·exact bW r acc cl h ha n c hm
theorem fP {cs:List (Str × Addr)}:∀ (names:List (Str × NameKind)) (acc cl:List (Str × Addr)),xC names cs acc=some cl→∀ p ∈ acc,p ∈ cl
 | [],acc,cl,h,p,hp=>by
  have e:acc=cl:=A9 h
  subst e;exact hp
 | (n0,k) :: r,acc,cl,h,p,hp=>by
  unfold xC at h
  split at h
  ·split at h
   ·exact fP r _ cl h p (Ay _ hp)
   ·cases h
  ·exact fP r acc cl h p hp
theorem xY {cs:List (Str × Addr)}:∀ (names:List (Str × NameKind)) (acc cl:List (Str × Addr)),xC names cs acc=some cl→∀ n,(n,NameKind.free) ∈ names→∃ c,(n,c) ∈ cl
 | (n0,k) :: r,acc,cl,h,n,hn=>by
  unfold xC at h
  rcases A4.mp hn with e | hn
  ·cases e
   simp only [C5,Cv] at h
   split at h
   ·rename_i c0 hc
    exact ⟨c0,fP r _ cl h _ A2⟩
   ·cases h
  ·split at h
   ·split at h
    ·exact xY r _ cl h n hn
    ·cases h
   ·exact xY r acc cl h n hn
theorem zM {β:Type}:∀ {l:List (Str × β)} {n:Str} {c:β},(n,c) ∈ l→∃ c',l.lookup n=some c'
 | (m,d) :: r,n,c,h=>by
  rw [AW]
  cases e:n == m with
  | true=>exact ⟨d,rfl⟩
  | false =>
   rcases A4.mp h with q | q
   ·cases q;simp at e
   ·exact zM q
theorem kP {cs cl:List (Str × Addr)}{names:List (Str × NameKind)}(h:xC names cs [] = some cl){x:Str}{c:Addr}(q:cl.lookup x=some c):cs.lookup x=some c :=
 bW names [] cl h (fun _ _ z=>absurd z (by simp)) x c (B7 q)
theorem dS {env : Env} : ∀ {names : List (Str × NameKind)} {x : Str}, (∀ y ∈ names, y.2 ≠ NameKind.cell) →
    ((names.map fun (n, k) => if (k == NameKind.free && env.scope.kind == .function && env.kindOf n == some .cell) then (n, NameKind.cell) else (n, k)).lookup x = some .cell ∨
     (names.map fun (n, k) => if (k == NameKind.free && env.scope.kind == .function && env.kindOf n == some .cell) then (n, NameKind.cell) else (n, k)).lookup x = some .free) → (x, NameKind.free) ∈ names
  | [], x, _, h => by simp at h
  | (n, k) :: r, x, hc, h => by
    have ih := @dS env r x (fun y hy => hc y (Ay _ hy))
    rw [AN] at h
    cases hx : x == n with
    | true =>
      have e : x = n := by simpa using hx
      subst e
      by_cases hk : k = NameKind.free
      · subst hk; exact A2
      · have hb : (k == NameKind.free) = false := by simpa using hk
        simp only [hb, Bz, Bg, C2, AW, C5] at h
        rcases h with h | h
        · exact absurd (A9 h) (hc (x, k) A2)
        · exact absurd (A9 h) hk
    | false =>
      refine Ay _ (ih ?_)
      by_cases hcnd : (k == NameKind.free && env.scope.kind == .function && env.kindOf n == some .cell) = true
      · simp only [hcnd, Cv, AW, hx] at h; exact h
      · simp only [hcnd, C2, AW, hx, Bg] at h; exact h
theorem relabel_free' {sc:Scope}{env:Env}{x:Str}(hc:∀ y ∈ sc.names,y.2 ≠ NameKind.cell)(h:(relabel sc env).names.lookup x=some .cell∨(relabel sc env).names.lookup x=some .free):(x,NameKind.free) ∈ sc.names:=dS hc h
noncomputable def wM (X:Cx)(N:List Str)(sc:Scope)(cl:List (Str × Addr))(s:Shared)(H:Hp)(ex:List Addr):Cx where
 prog:=X.prog
 w:=X.w
 K:=X.K
 mg:=X.mg
 base:=X.base
 A:=X.A
 N:=N
 s₀:=s
 H₀:=H
 env:=compEnvC sc cl s.heap.objs.size X.env
 outer:=X.stack
 stack:=X.stack
 ex:=ex
 fn:=fun _=>false
 calm:=X.calm
 pn:=[]
 xe:=fun _ _=>False
noncomputable def cH (fr:List (Option Nat))(σ:St):St:=fr.map fun o=>o.bind fun j=>(σ[j]?).bind id
noncomputable def cJ (X:Cx)(ifs:List Expr)(t:TT):Prop :=
 ∀ (pins:List (Addr × Obj)) (s:Shared) (σ:St) (H:Hp) (Q:Bool→Hp→Prop),Inv X pins σ H s→t σ H Q →
  wpAny (model X.prog X.w) X.A (forIn ifs true fun c r=>if r=true then do let ok ← isTrue c X.env (eval c X.env);pure (ForInStep.yield ok) else pure (ForInStep.yield r)) (TP X pins σ Q) X.xe s
noncomputable def lJ:TT:=fun _ H Q=>Q true H
theorem kH {X:Cx}:cJ X [] lJ:=fun _ _ _ _ _ I h=>wpAny_tests_nil ⟨_,I,h⟩
theorem zD {X:Cx}{c:Expr}{t:TT}(h:PT X c t):cJ X [c] t:=fun pins s σ H Q I q=>wpAny_tests_one (h pins s σ H Q I q)
noncomputable abbrev TB:=St→Hp→(St→Hp→Prop)→Prop
noncomputable def PB (X:Cx)(body:Sem Unit)(t:TB):Prop :=
 ∀ (pins:List (Addr × Obj)) (s:Shared) (σ:St) (H:Hp) (N:St→Hp→Prop),Inv X pins σ H s→t σ H N →
  wpAny (model X.prog X.w) X.A body (fun _ s'=>∃ σ' H',Inv X pins σ' H' s'∧N σ' H') X.xe s
noncomputable def y6 (p:Addr)(te:TE):TB:=fun σ H N=>te σ H fun y H1=>∃ ys,H1 p=some (.lst ys)∧ys.length < sizeLine∧N σ (upd H1 p (.lst (ys ++ [y])))
theorem dW {X:Cx}{elt:Expr}{te:TE}{p:Addr}(h:PE X elt te):PB X (do let _ ← call (.builtin "list.append") [.ref p,← eval elt X.env]) (y6 p te):=by
 intro pins s σ H N I q
 refine wpAny_bind (jM (h pins s σ H _ I q) fun u s1 ⟨y,H1,I1,r,ys,hp,hz,n⟩=>?_)
 refine wpAny_bind (jM (mE (X:=X) pins s1 σ H1 (.ref p) [y] (.ref p) [u] (fun _ H2=>N σ H2) I1 rfl (.cons r .nil) ⟨p,ys,y,rfl,rfl,hp,hz,n⟩) fun _ s2 ⟨_,H2,I2,_,n2⟩=>wpAny_pure ⟨σ,H2,I2,n2⟩)
noncomputable def m3 (J:It)(g:TG)(tc:TT)(tb:TB):(St→Hp→Prop)→St→Hp→Prop:=fun D σ H=>∃ W:Nat→Nat→St→Hp→Prop,(∃ m,W 0 m σ H)∧∀ i m σ H,W i m σ H →
 (J.stop i H∧D σ H)∨(J.go i H∧∃ N:St→Hp→Prop,(∀ σ' H',N σ' H'→∃ m',m' < m∧W (i + 1) m' σ' H')∧∀ x H',J.yld i H x H'→g x σ H' fun σ2 H2=>tc σ2 H2 fun b H3=>if b=true then tb σ2 H3 N else N σ2 H3)
theorem yX {X:Cx}{e tg:Expr}{d:Nat}{ip:Pos}{ifs:List Expr}{body:Sem Unit}{acc:Value}{it:Addr}{fp:List Addr}{tn:Nat→Heap→Prop}{J:It}{g:TG}{tc:TT}{tb:TB}{D:St→Hp→Prop}{pins:List (Addr × Obj)}{σ:St}{H:Hp}{s:Shared}
  (hc:X.calm=true) (hx:X.xe=fun _ _=>False)
  (heq:compTurn e d (.ref it) acc X.env=(do
   standAt ip
   match ← pyNext (.ref it) with
   | none=>pure (.done .next)
   | some v =>
    letOwnedTupleGo tg (.ref it) v
    assign tg X.env v
    let mut ok:=true
    for c in ifs do
     if ok then ok ← isTrue c X.env (eval c X.env)
    if ok then body
    again (.compLoop e d (.ref it) acc X.env)))
  (hfrm:(Code.compLoop e d (.ref it) acc X.env).isFrame=false) (hund:X.A.under (Code.compLoop e d (.ref it) acc X.env)=X.A) (hq:(Code.compLoop e d (.ref it) acc X.env).quiet=true)
  (T:Turn X.prog X.w X.K tg J fp it tn) (hg:PG X tg g) (hi:cJ X ifs tc) (hb:PB X body tb)
  (I:Inv X pins σ H s) (st:tn 0 s.heap) (f:∀ b ∈ fp,yU X pins H b) (h:m3 J g tc tb D σ H) :
  codeAny (model X.prog X.w) X.A (.compLoop e d (.ref it) acc X.env) (fun r s'=>r = .ok .next∧∃ σ' H',Inv X pins σ' H' s'∧D σ' H') s:=by
 obtain ⟨W,⟨m0,w0⟩,turn⟩:=h
 have stat:∀ {H':Hp},(∀ b ∈ fp,H' b=none)→∀ b ∈ fp,yU X pins H' b:=fun hn b hb=>⟨hn b hb,(f b hb).2⟩
 refine codeAny_loop hq (fun n s'=>∃ i σ' H',Inv X pins σ' H' s'∧tn i s'.heap∧(∀ b ∈ fp,H' b=none)∧W i n σ' H') ?_ m0 ⟨0,σ,H,I,st,fun b hb=>(f b hb).1,w0⟩
 rintro n s3 ⟨i,σ3,H3,I3,st3,fr3,w3⟩
 rw [hund]
 show wpAny _ X.A (if (Code.compLoop e d (.ref it) acc X.env).isFrame then _ else (compTurn e d (.ref it) acc X.env).onRaise (fun x=>do noteFrame x X.env;theTreesLotGoes x)) _ _ s3
 rw [hfrm]
 show wpAny _ X.A ((compTurn e d (.ref it) acc X.env).onRaise (fun x=>do noteFrame x X.env;theTreesLotGoes x)) _ _ s3
 refine wpAny_noted ?_
 rw [heq]
 have no:∀ {α:Type} {t:Sem α} {Q:α→Shared→Prop} {E:Value→Shared→Prop} {s:Shared},wpAny (model X.prog X.w) X.A t Q X.xe s→wpAny (model X.prog X.w) X.A t Q E s:=fun h=>wpAny_mono h (fun _ _ q=>q) fun _ _ z=>by rw [hx] at z;exact z.elim
 refine wpAny_bind (wpAny_standAt (wpAny_bind ?_))
 rcases turn i n σ3 H3 w3 with ⟨stop,qn⟩ | ⟨go,N,hN,step⟩
 ·refine jM (T.done X rfl rfl rfl hc i pins s3 σ3 H3 _ I3 (stat fr3) st3 stop) fun r s4 ⟨hr,I4⟩=>?_
  subst hr
  exact wpAny_pure ⟨rfl,σ3,H3,I4,qn⟩
 ·refine jM (T.item X rfl rfl rfl hc i pins s3 σ3 H3 _ I3 (stat fr3) st3 go) fun r s4 ⟨u,hr,h4⟩=>?_
  subst hr
  refine wpAny_bind (jM h4 fun _ s5 ⟨x,H5,I5,r5,y5,st5,fr5⟩=>?_)
  have I5':=I5.pinned (stat fr5) (T.obj _ _ st5)
  have again:∀ {s7:Shared} {σ7:St} {H7:Hp},Inv X (pins ++ bE fp s5.heap) σ7 H7 s7→N σ7 H7→∃ m,m < n∧∃ i σ' H',Inv X pins σ' H' s7∧tn i s7.heap∧(∀ b ∈ fp,H' b=none)∧W i m σ' H':=fun {s7 σ7 H7} I7 n7=>by
   obtain ⟨m',hm,w7⟩:=hN σ7 H7 n7
   refine ⟨m',hm,i + 1,σ7,H7,I7.unpinned,T.keep _ _ _ st5 fun b hb o e=>(I7.pin (b,o) (Bi _ (Bi _ (vA hb e)))).1,fun b hb=>?_,w7⟩
   obtain ⟨o,e,d⟩:=T.obj _ _ st5 b hb
   exact (I7.pin (b,o) (Bi _ (Bi _ (vA hb e)))).2.1
  refine wpAny_bind (no (jM (hg _ s5 σ3 H5 x u _ I5' r5 (step x H5 y5)) fun _ s6 ⟨σ6,H6,I6,q6⟩=>?_))
  refine wpAny_bind (no (jM (hi _ s6 σ6 H6 _ I6 q6) fun ok s7 ⟨H7,I7,q7⟩=>?_))
  cases ok with
  | false=>exact wpAny_pure ⟨rfl,again I7 q7⟩
  | true =>
   refine wpAny_bind (no (jM (hb _ s7 σ6 H7 _ I7 q7) fun _ s8 ⟨σ8,H8,I8,n8⟩=>?_))
   exact wpAny_pure ⟨rfl,again I8 n8⟩
theorem zL {env : Env} : ∀ {names : List (Str × NameKind)} {x : Str}, names.lookup x = some .free →
    ((names.map fun (n, k) => if (k == NameKind.free && env.scope.kind == .function && env.kindOf n == some .cell) then (n, NameKind.cell) else (n, k)).lookup x = some .cell ∨
     (names.map fun (n, k) => if (k == NameKind.free && env.scope.kind == .function && env.kindOf n == some .cell) then (n, NameKind.cell) else (n, k)).lookup x = some .free)
  | [], _, h => by simp at h
  | (n, k) :: r, x, h => by
    have ih := @zL env r x
    rw [AN]
    cases hx : x == n with
    | true =>
      simp only [AW, hx] at h
      cases h
      by_cases hc : (NameKind.free == NameKind.free && env.scope.kind == .function && env.kindOf n == some .cell) = true
      · left; simp only [hc, Cv, AW, hx]
      · right; simp only [hc, C2, AW, hx, Bg]
    | false =>
      simp only [AW, hx] at h
      by_cases hc : (k == NameKind.free && env.scope.kind == .function && env.kindOf n == some .cell) = true
      · simp only [hc, Cv, AW, hx]; exact ih h
      · simp only [hc, C2, AW, hx, Bg]; exact ih h
structure CScope (X:Cx)(N:List Str)(fr:List (Option Nat))(sc:Scope):Prop where
 kind:sc.kind = .function
 nocell:∀ y ∈ sc.names,y.2 ≠ NameKind.cell
 loc:∀ y ∈ sc.names,y.2 = .local→sc.names.lookup y.1=some .local
 len:fr.length=N.length
 fr:∀ (i j:Nat),fr[i]? = some (some j)→∃ x,N[i]? = some x∧X.N[j]? = some x∧sc.names.lookup x=some .free∧(X.env.kindOf x=some .cell∨X.env.kindOf x=some .free)
noncomputable def pN (XN:List Str)(XS names:List (Str × NameKind)):List Str→List (Option Nat)→Bool
 | [],[]=>true
 | x :: N,o :: fr=>(match o with
  | none=>true
  | some j=>XN[j]? == some x && names.lookup x == some .free && (XS.lookup x == some .cell || XS.lookup x == some .free)) && pN XN XS names N fr
 | _,_=>false
theorem bI {XN:List Str}{XS names:List (Str × NameKind)}:∀ {N:List Str} {fr:List (Option Nat)},pN XN XS names N fr=true→fr.length=N.length
 | [],[],_=>rfl
 | x :: N,o :: fr,h=>by
  unfold pN at h
  rw [Bt] at h
  rw [A6,A6,bI h.2]
 | [],_ :: _,h=>by cases h
 | _ :: _,[],h=>by cases h
theorem bJ {XN:List Str}{XS names:List (Str × NameKind)}:∀ {N:List Str} {fr:List (Option Nat)} {i j:Nat},pN XN XS names N fr=true→fr[i]? = some (some j)→∃ x,N[i]? = some x∧XN[j]? = some x∧names.lookup x=some .free∧(XS.lookup x=some .cell∨XS.lookup x=some .free)
 | [],[],_,_,_,e=>by simp at e
 | x :: N,o :: fr,0,j,h,e=>by
  unfold pN at h
  rw [Bt] at h
  simp at e
  subst e
  have h1:=h.1
  simp only [Bt,Bool.or_eq_true,beq_iff_eq] at h1
  exact ⟨x,rfl,h1.1.1,h1.1.2,h1.2⟩
 | x :: N,o :: fr,i + 1,j,h,e=>by
  unfold pN at h
  rw [Bt] at h
  obtain ⟨y,q⟩:=bJ (i:=i) (j:=j) h.2 (by simpa using e)
  exact ⟨y,by simpa using q.1,q.2⟩
 | [],_ :: _,_,_,h,_=>by cases h
 | _ :: _,[],_,_,h,_=>by cases h
noncomputable def okLoc (names:List (Str × NameKind)):Bool:=names.all fun y=>!(y.2 == .cell) && (!(y.2 == .local) || names.lookup y.1 == some .local)
theorem CScope.of {X:Cx}{N:List Str}{fr:List (Option Nat)}{sc:Scope}(h1:sc.kind = .function)(h2:okLoc sc.names=true)(h3:pN X.N X.env.scope.names sc.names N fr=true):CScope X N fr sc:=by
 have h2':=AR.mp h2
 refine ⟨h1,fun y hy e=>?_,fun y hy e=>?_,bI h3,fun i j e=>bJ h3 e⟩
 ·have q:=h2' y hy
  rw [e] at q
  simp at q
 ·have q:=h2' y hy
  rw [e] at q
  simpa using q
theorem uH {fr:List (Option Nat)}{σ:St}{i:Nat}{v:V}(h:(cH fr σ)[i]? = some (some v)):∃ j,fr[i]? = some (some j)∧σ[j]? = some (some v):=by
 unfold cH at h
 rw [Ad] at h
 cases e:fr[i]? with
 | none=>rw [e] at h;cases h
 | some o =>
  rw [e] at h
  cases o with
  | none=>cases h
  | some j =>
   refine ⟨j,rfl,?_⟩
   have h':(σ[j]?).bind id=some v:=A9 h
   cases q:σ[j]? with
   | none=>rw [q] at h';cases h'
   | some o=>rw [q] at h';exact AY some h'
section
variable {X:Cx}{pins:List (Addr × Obj)}{σ:St}{H H':Hp}{s:Shared}
theorem Inv.block {N:List Str}{fr:List (Option Nat)}{sc:Scope}{cl:List (Str × Addr)}{ex:List Addr}{h1:Heap}{tk:Nat}(I:Inv X pins σ H s)(S:CScope X N fr sc)(hcl:xC sc.names X.env.cells [] = some cl)
  (hex:∀ b ∈ ex,yU X pins H b∧b < s.heap.objs.size) (hns:h1.Ns s.heap.objs.size (fun _=>none)) (hk:∀ b u,s.heap.get? b=some u→h1.get? b=some u) :
  Inv (wM X N sc cl s H ex) [] (cH fr σ) H { s with heap:=h1,toks:=tk }:=by
 have hfree:H s.heap.objs.size=none:=I.hok.fresh (Ak _)
 have cne:∀ x c,cl.lookup x=some c→c ≠ s.heap.objs.size:=fun x c e z=>by
  obtain ⟨v,q⟩:=I.cell x c (kP hcl e)
  exact absurd q.lt (by rw [z];exact BA _)
 refine ⟨⟨I.ok.mod,S.kind,I.ok.glob,I.ok.blt,Ak _,fun x y c h1 h2=>I.ok.inj x y c (kP hcl h1) (kP hcl h2),fun x hx=>?_,fun x c z=>absurd (show false=true from z) (by decide),I.ok.hd,I.ok.frames,Or.inl rfl,fun b hb=>?_,I.bs,AX I.ok.bsz I.sz,fun b o e hb=>?_,fun b hb hf=>?_,I.stack,I.stkFree⟩,
  rfl,I.bare,Un.kept hk,⟨_,hns,fun i x v h1 h2 h3=>?_⟩,fun x c e=>?_,hfree,fun x c e=>I.freeC x c (kP hcl e),fun p hp=>absurd (show p ∈ ([] : List (Addr × Obj)) from hp) (by simp),I.hok.kept hk,?_⟩
 ·have hx':(relabel sc X.env).names.lookup x=some .cell∨(relabel sc X.env).names.lookup x=some .free:=hx
  obtain ⟨c,hc⟩:=xY sc.names [] cl hcl x (relabel_free' S.nocell hx')
  exact zM hc
 ·obtain ⟨⟨f0,f1,f2,f3,f4,f5⟩,lt⟩:=hex b hb
  exact ⟨A0 lt,fun x c e=>f4 x c (kP hcl e)⟩
 ·obtain ⟨⟨f0,f1,f2,f3,f4,f5⟩,lt⟩:=hex b hb
  rcases f3 with f3 | f3
  ·exact I.ok.noex b o e f3
  ·exact absurd (A8 (Am e) I.ok.bsz) (CQ.mpr f3)
 ·obtain ⟨⟨f0,f1,f2,f3,f4,f5⟩,lt⟩:=hex b hb
  rcases A4.mp (I.stkSub b hf) with e | e
  ·exact f1 e
  ·exact f2 e
 ·obtain ⟨j,hj,hv⟩:=uH h2
  obtain ⟨x',e1,e2,e3,e4⟩:=S.fr i j hj
  have hN:N[i]? = some x:=h1
  rw [hN] at e1
  cases e1
  obtain ⟨c,hc⟩:=xY sc.names [] cl hcl x (B7 e3)
  obtain ⟨c',hc'⟩:=zM hc
  have hcX:=kP hcl hc'
  obtain ⟨m,hn,hl⟩:=I.loc
  have kc:(relabel sc X.env).names.lookup x=some .cell∨(relabel sc X.env).names.lookup x=some .free:=zL e3
  have vis:Vis X.env.scope x∧(X.env.kindOf x ≠ some .local):=by
   rcases e4 with q | q
   ·exact ⟨.inr (.inl q),by rw [q];decide⟩
   ·exact ⟨.inr (.inr q),by rw [q];decide⟩
  obtain ⟨u,r,l⟩:=hl j x v e2 hv vis.1
  refine ⟨u,r,.inr ⟨kc,c',hc',?_⟩⟩
  rcases l with ⟨q,_⟩ | ⟨_,d,hd,hcell⟩
  ·exact absurd q vis.2
  ·rw [hcX] at hd
   cases hd
   exact hcell.keeps hk
 ·obtain ⟨v,q⟩:=I.cell x c (kP hcl e)
  exact ⟨v,q.keeps hk⟩
 ·show (cH fr σ).length=N.length
  unfold cH
  rw [Aa];exact S.len
end
section
variable {X:Cx}{pins:List (Addr × Obj)}{σ:St}{H H':Hp}{s:Shared}
theorem Inv.unblock {N:List Str}{sc:Scope}{cl:List (Str × Addr)}{ex:List Addr}{pins':List (Addr × Obj)}{σ':St}{s':Shared}{h':Heap}(I:Inv X pins σ H s)(J:Inv (wM X N sc cl s H ex) pins' σ' H' s')
  (hex:∀ b ∈ ex,yU X pins H b) (sb:Heap.SameBut s.heap.objs.size s'.heap h'):Inv X pins σ H' { s' with heap:=h' }:=by
 have free:H' s.heap.objs.size=none:=J.free
 have eq:∀ b,b ≠ s.heap.objs.size→h'.get? b=s'.heap.get? b:=sb.2
 have ne:∀ b o,s.heap.get? b=some o→b ≠ s.heap.objs.size:=fun b o e=>A0 (Am e)
 have B:Un (eO X.stack) ex H H' s.heap s'.heap:=J.base
 refine I.call' (s':={ s' with heap:=h' }) (ch:=ex) J.os ⟨fun b o q n hb hx=>(eq b (ne b o q)).trans (B.keep b o q n hb hx),fun b o q n hb hx=>?_,B.free,fun b o q hx=>?_,B.tups,B.frzs,B.tbls⟩ (fun a o e=>?_) J.bare (fun b hb=>?_)
 ·obtain ⟨sl,e⟩:=B.slot b o q n hb hx
  exact ⟨sl,(eq b (ne b o q)).trans e⟩
 ·obtain ⟨o',e⟩:=B.there b o q hx
  exact ⟨o',(eq b (ne b o q)).trans e⟩
 ·refine (J.hok a o e).stay (fun b u hb q=>?_) (fun _ q=>q) fun _ _ q=>q
  refine (eq b ?_).trans q
  rcases hb with rfl | hb
  ·exact qC e free
  ·exact qC hb free
 ·obtain ⟨f0,f1,f2,f3,f4,f5⟩:=hex b hb
  exact ⟨f3,f1,f4,f5⟩
end
section
variable {X:Cx}
noncomputable def tLC (fr:List (Option Nat))(wi:TI)(g:TG)(tc:TT)(te:TE):TE:=fun σ H Q=>wi σ H fun J H1=>∀ p,H1 p=none→m3 J g tc (y6 p te) (fun _ H2=>Q (.ref p) H2) (cH fr σ) (upd H1 p (.lst []))
theorem pV {N:List Str}{fr:List (Option Nat)}{e tg iter:Expr}{ifs:List Expr}{gs:List Comprehension}{sc:Scope}{ip:Pos}{cl:List (Str × Addr)}{wi:TI}{D:It→Addr→St→Hp→Prop}{pins:List (Addr × Obj)}{σ:St}{H:Hp}{s:Shared}{Q:VK}
  (he:clausesOf e=⟨tg,iter,ifs,0⟩ :: gs) (hi:PI X tg iter wi) (S:CScope X N fr sc) (hcl:xC sc.names X.env.cells [] = some cl) (I:Inv X pins σ H s)
  (h:wi σ H fun J H1=>∀ p,H1 p=none→D J p (cH fr σ) (upd H1 p (.lst [])))
  (loop:∀ (it p:Addr) (fp:List Addr) (tn:Nat→Heap→Prop) (J:It) (s1 s2:Shared) (H1:Hp) (σ1:St),Turn X.prog X.w X.K tg J fp it tn→Inv (wM X N sc cl s1 H1 fp) [] σ1 H1 s2→tn 0 s2.heap→(∀ b ∈ fp,yU (wM X N sc cl s1 H1 fp) [] H1 b)→D J p σ1 H1 →
   codeAny (model X.prog X.w) X.A (.compStart e 0 (.ref it) (.ref p) (compEnvC sc cl s1.heap.objs.size X.env)) (fun r s'=>r = .ok .next∧∃ σ' H',Inv (wM X N sc cl s1 H1 fp) [] σ' H' s'∧Q (.ref p) H') s2)
  (hs:∀ x,foldedSetIterable iter X.env x=pure x) :
  wpAny (model X.prog X.w) X.A (comprehension e sc X.env ip (newList []) false (eval iter X.env)) (EP X pins σ Q) X.xe s:=by
 refine wpAny_comprehension_free (use:=none) he hs (zN hcl) S.kind S.loc ?_
 refine jM (hi pins s σ H _ I h) fun v s1 h1=>jM h1 fun itv s2 ⟨it,fp,tn,J,H2,e2,I2,T,st2,f2,q⟩=>?_
 subst e2
 refine wpAny_newObj_type ?_
 have hp:H2 s2.heap.objs.size=none:=I2.hok.fresh (Ak _)
 have I3:Inv X pins σ (upd H2 s2.heap.objs.size (.lst [])) { s2 with heap:=s2.heap.push { cls:=.type "list",data:=.seq ([] : List Value).toArray },toks:=s2.toks }:=I2.lnew (its:=[]) (ys:=[]) .nil (AJ _)
 have lt2:∀ b ∈ fp,b < s2.heap.objs.size:=fun b hb=>let ⟨o,e,_⟩:=T.obj 0 _ st2 b hb;Am e
 have f3:∀ b ∈ fp,yU X pins (upd H2 s2.heap.objs.size (.lst [])) b:=fun b hb=>⟨by rw [q9 (A0 (lt2 b hb))];exact (f2 b hb).1,(f2 b hb).2⟩
 have st3:tn 0 (s2.heap.push { cls:=.type "list",data:=.seq ([] : List Value).toArray }):=T.keep _ _ _ st2 fun b _ o e=>Ac _ e
 refine wpAny_newFunctionEnv S.nocell (by intro y hy;simp at hy) (fun h₁ hns₁ hsb₁=>?_) S.kind
 generalize hs3:({ s2 with heap:=s2.heap.push { cls:=.type "list",data:=.seq ([] : List Value).toArray } }:Shared)=s3 at hns₁ hsb₁ ⊢
 have I3':Inv X pins σ (upd H2 s2.heap.objs.size (.lst [])) s3:=by rw [← hs3];exact I3
 have st3':tn 0 s3.heap:=by rw [← hs3];exact st3
 have lt3:∀ b ∈ fp,b < s3.heap.objs.size:=fun b hb=>let ⟨o,e,_⟩:=T.obj 0 _ st3' b hb;Am e
 have hk:∀ b u,s3.heap.get? b=some u→h₁.get? b=some u:=fun b u e=>hsb₁.extBut b u (A0 (Am e)) (Ac _ e)
 have hns:h₁.Ns s3.heap.objs.size (fun _=>none):=by simpa using hns₁
 have B:=I3'.block (N:=N) (fr:=fr) (sc:=sc) (cl:=cl) (ex:=fp) (h1:=h₁) (tk:=s3.toks + ([] : List (Str × Value)).length) S hcl (fun b hb=>⟨f3 b hb,lt3 b hb⟩) hns hk
 have stB:tn 0 h₁:=T.keep _ _ _ st3' fun b _ o e=>hk b o e
 refine codeAny_mono (loop it s2.heap.objs.size fp tn J s3 _ (upd H2 s2.heap.objs.size (.lst [])) (cH fr σ) T B stB (fun b hb=>?_) (q _ hp)) fun r s' hr=>?_
 ·obtain ⟨f0,f1,f2',f3',f4,f5⟩:=f3 b hb
  refine ⟨f0,A0 (lt3 b hb),fun z=>?_,.inl hb,fun x c e=>f4 x c (kP hcl e),fun p hp'=>absurd (show p ∈ ([] : List (Addr × Obj)) from hp') (by simp)⟩
  rcases A4.mp (I3'.stkSub b z) with e | e
  ·exact f1 e
  ·exact f2' e
 ·obtain ⟨rfl,σ',H',J',q'⟩:=hr
  obtain ⟨m,hn,_⟩:=J'.loc
  exact ⟨m,hn,fun h' sb=>⟨.ref s2.heap.objs.size,H',I3'.unblock J' f3 sb,rfl,q'⟩⟩
theorem jO {N:List Str}{fr:List (Option Nat)}{tg iter elt:Expr}{ifs:List Expr}{sc:Scope}{pos:Pos}{cl:List (Str × Addr)}{wi:TI}{g:TG}{tc:TT}{te:TE}(hc:X.calm=true)(hi:PI X tg iter wi)(S:CScope X N fr sc)(hcl:xC sc.names X.env.cells [] = some cl)
  (hb:∀ s H ex,PG (wM X N sc cl s H ex) tg g∧cJ (wM X N sc cl s H ex) ifs tc∧PE (wM X N sc cl s H ex) elt te) (hs:∀ x,foldedSetIterable iter X.env x=pure x:=by intro _;rfl) :
  PE X (.ListComp elt [⟨tg,iter,ifs,0⟩] sc pos) (tLC fr wi g tc te):=by
 intro pins s σ H Q I h
 rw [eval_ListComp]
 refine pV (D:=fun J p σ H=>m3 J g tc (y6 p te) (fun _ H2=>Q (.ref p) H2) σ H) rfl hi S hcl I h (fun it p fp tn J s1 s2 H1 σ1 T B st f d=>?_) hs
 obtain ⟨hg,hifs,helt⟩:=hb s1 H1 fp
 have L:=yX (X:=wM X N sc cl s1 H1 fp) (e:=.ListComp elt [⟨tg,iter,ifs,0⟩] sc pos) (d:=0) (acc:=.ref p) (D:=fun _ H2=>Q (.ref p) H2) (s:=s2) hc rfl (compTurn_list elt tg iter ifs sc pos (.ref it) (.ref p) _) rfl rfl rfl T hg hifs (dW helt) B st f d
 exact codeAny_compStart_list L (T.self X.A 0 s2 _ _ st L)
end
noncomputable def sq (H:Hp)(a:Addr):Option (List V):=match H a with
 | some (.lst xs)=>some xs
 | some (.tup xs)=>some xs
 | some (.frz _ (.lst xs))=>some xs
 | some (.frz _ (.tup xs))=>some xs
 | _=>none
theorem kF {H:Hp}{a:Addr}{xs:List V}(h:H a=some (.lst xs)):sq H a=some xs:=by unfold sq;rw [h]
theorem kC {H:Hp}{a:Addr}{xs:List V}(h:H a=some (.tup xs)):sq H a=some xs:=by unfold sq;rw [h]
theorem sq_updL {H:Hp}{a:Addr}{xs:List V}:sq (upd H a (.lst xs)) a=some xs:=kF qF
theorem sq_updT {H:Hp}{a:Addr}{xs:List V}:sq (upd H a (.tup xs)) a=some xs:=kC qF
theorem sq_rd {H:Hp}{a:Addr}{xs:List V}(h:sq H a=some xs):Rd H a (.lst xs)∨Rd H a (.tup xs):=by
 unfold sq at h
 cases e:H a with
 | none=>rw [e] at h;cases h
 | some o =>
  rw [e] at h
  cases o with
  | lst ys=>cases h;exact .inl (.inl e)
  | tup ys=>cases h;exact .inr (.inl e)
  | frz ob u =>
   cases u with
   | lst ys=>cases h;exact .inl (.inr ⟨ob,e⟩)
   | tup ys=>cases h;exact .inr (.inr ⟨ob,e⟩)
   | _=>cases h
  | _=>cases h
theorem rX {K:PySem.W.Frag}{H:Hp}{a:Addr}{xs:List V}(h:sq H a=some xs):SqL K H a xs∨SqT K H a xs:=by
 rcases sq_rd h with h | h
 ·exact .inl (.inl h)
 ·exact .inr (.inl h)
section
variable {X:Cx}
noncomputable def oE:R2:=fun x y H Q=>∃ p xs i v,x = .ref p∧y = .int i∧sq H p=some xs∧xH xs i=some v∧Q v H
theorem z6:IxR X oE:=by
 intro value slice pins s σ H x y v u Q I rx ry h hs
 obtain ⟨p,xs,i,z,e1,e2,hq,ha,q⟩:=h
 rcases rX (K:=X.K) hq with k | k
 ·exact ix_list value slice pins s σ H x y v u Q I rx ry ⟨p,xs,i,z,e1,e2,k,ha,q⟩ hs
 ·exact ix_tup value slice pins s σ H x y v u Q I rx ry ⟨p,xs,i,z,e1,e2,k,ha,q⟩ hs
theorem len0:yP X (.builtin "len") (fun xs H Q=>∃ p ys,xs=[.ref p]∧sq H p=some ys∧Q (.int ys.length) H):=by
 intro pins s σ H xs us Q I r h
 obtain ⟨p,ys,e,hq,q⟩:=h
 exact lA pins s σ H xs us Q I r ⟨p,ys,e,rX hq,q⟩
theorem tupL0:yP X (.type "tuple") (fun xs H Q=>∃ p ys,xs=[.ref p]∧H p=some (.lst ys)∧∀ l,H l=none→Q (.ref l) (upd H l (.tup ys))):=by
 intro pins s σ H xs us Q I r h
 obtain ⟨p,ys,e,hq,q⟩:=h
 exact cI pins s σ H xs us Q I r ⟨p,ys,e,.inl ⟨SqL.of hq,q⟩⟩
noncomputable def uE (n:Nat)(t:TGs):TG:=fun v σ H Q=>∃ a xs,v = .ref a∧H a=some (.tup xs)∧xs.length=n∧t xs σ H Q
theorem kK {es:List Expr}{k:Nat}{t:TGs}{n:Nat}{pos:Pos}(hc:X.calm=true)(h:PGs X es t)
  (hn:(assignEach es X.env).length=n:=by rfl) (hst:(assignEach es X.env).findIdx? (·.1)=none:=by rfl):PG X (.Tuple es k pos) (uE n t):=by
 intro pins s σ H v u Q I r hw
 obtain ⟨a,xs,e1,hq,hl,hw⟩:=hw
 exact pg_tup hc h hn hst pins s σ H v u Q I r ⟨a,xs,e1,SqT.of hq,hl,hw⟩
noncomputable def lF (f:Hp→Prop)(xs:List V):It:=⟨fun i H=>f H∧i < xs.length,fun i H x H'=>H'=H∧xs[i]? = some x,fun i H=>f H∧xs.length ≤ i⟩
theorem Turn.weak {P:Program}{w:World}{K:PySem.W.Frag}{tg:Expr}{J J':It}{fp:List Addr}{it:Addr}{tn:Nat→Heap→Prop}(T:Turn P w K tg J fp it tn)(hg:∀ i H,J'.go i H→J.go i H)(hs:∀ i H,J'.stop i H→J.stop i H)
  (hy:∀ i H x H',J'.go i H→J.yld i H x H'→J'.yld i H x H'):Turn P w K tg J' fp it tn where
 mem:=T.mem
 obj:=T.obj
 keep:=T.keep
 item:=fun X h1 h2 h3 hc i pins s σ H E I f st go=>jM (T.item X h1 h2 h3 hc i pins s σ H E I f st (hg i H go)) fun r s1 ⟨u,e,q⟩=>⟨u,e,jM q fun _ s2 ⟨x,H',I2,r2,y,t,n⟩=>⟨x,H',I2,r2,hy i H x H' go y,t,n⟩⟩
 done:=fun X h1 h2 h3 hc i pins s σ H E I f st go=>T.done X h1 h2 h3 hc i pins s σ H E I f st (hs i H go)
 self:=T.self
noncomputable def iT0 (tl:TE):TI:=fun σ H R=>tl σ H fun x H1=>∃ a xs,x = .ref a∧H1 a=some (.tup xs)∧R (lF (fun H=>H a=some (.tup xs)) xs) H1
noncomputable def iL0 (tl:TE):TI:=fun σ H R=>tl σ H fun x H1=>∃ a xs,x = .ref a∧H1 a=some (.lst xs)∧R (lF (fun H=>H a=some (.lst xs)) xs) H1
theorem g9 {xs:List V}{i:Nat}(h:i < xs.length):∃ x,xs[i]? = some x:=⟨xs[i],by simp [h]⟩
theorem zH {tg l:Expr}{tl:TE}(hl:PE X l tl):PI X tg l (iT0 tl):=by
 intro pins s σ H R I h
 refine jM (hl pins s σ H _ I h) fun v s1 ⟨x,H1,I1,r1,q1⟩=>?_
 obtain ⟨a,xs,e,hq,q⟩:=q1
 subst e
 cases r1
 obtain ⟨its,rv,p,hz⟩:=I1.tuple (SqT.of hq)
 refine wpAny_pyIter_tuple (show s1.heap.IsTuple a its.toArray from p) ?_
 refine ⟨s1.heap.objs.size,[s1.heap.objs.size],_,_,H1,rfl,I1.kept (t':=s1.toks) fun b o e=>Ac _ e,(wX a _).weak (J':=lF (fun H=>H a=some (.tup xs)) xs) (fun i H ⟨k,hi⟩=>?_) (fun i H ⟨k,hi⟩=>⟨xs,SqT.of k,hi⟩) (fun i H x H' ⟨k,hi⟩ ⟨y1,y2⟩=>⟨y1,y2 xs (SqT.of k)⟩),⟨_,Ao _ rfl,rfl,rfl⟩,fun b hb=>?_,q⟩
 ·obtain ⟨x,hx⟩:=g9 hi
  exact ⟨xs,x,SqT.of k,hx⟩
 ·have e:b=s1.heap.objs.size:=by simpa using hb
  subst e
  exact I1.fpOk (Ak _) (I1.hok.fresh (Ak _))
theorem pH {tg l:Expr}{tl:TE}(hl:PE X l tl):PI X tg l (iL0 tl):=by
 intro pins s σ H R I h
 refine jM (hl pins s σ H _ I h) fun v s1 ⟨x,H1,I1,r1,q1⟩=>?_
 obtain ⟨a,xs,e,hq,q⟩:=q1
 subst e
 cases r1
 obtain ⟨its,rv,p,hz⟩:=I1.list (SqL.of hq)
 refine wpAny_pyIter_list p.isList ?_
 refine ⟨s1.heap.objs.size,[s1.heap.objs.size],_,_,H1,rfl,I1.kept (t':=s1.toks) fun b o e=>Ac _ e,(cO a _).weak (J':=lF (fun H=>H a=some (.lst xs)) xs) (fun i H ⟨k,hi⟩=>?_) (fun i H ⟨k,hi⟩=>⟨xs,SqL.of k,hi⟩) (fun i H x H' ⟨k,hi⟩ ⟨y1,y2⟩=>⟨y1,y2 xs (SqL.of k)⟩),⟨_,Ao _ rfl,rfl,rfl⟩,fun b hb=>?_,q⟩
 ·obtain ⟨x,hx⟩:=g9 hi
  exact ⟨xs,x,SqL.of k,hx⟩
 ·have e:b=s1.heap.objs.size:=by simpa using hb
  subst e
  exact I1.fpOk (Ak _) (I1.hok.fresh (Ak _))
noncomputable def j4 (P:Program)(w:World)(K:PySem.W.Frag)(mg:Str→Option Value)(base:Heap)(x:Str)(ps:List Str)(k:Nat)(sp:Sp):Prop :=
 ∃ f fd,FnOk P w K mg base CX0 k f fd ps sp∧mg x=some (.ref f)∧PySem.W.keepIn K (.ref f)=true∧Binds K fd ps []
noncomputable def iS (sp:Sp)(t:TA):TE:=fun σ H Q=>t σ H fun vs H1=>sp vs H1 Q E0
theorem qU {k j:Nat}{x:Str}{ps:List Str}{sp:Sp}{t:TA}{e:Expr}{es:List Expr}{p pos:Pos}(c:j4 X.prog X.w X.K X.mg X.base x ps k sp)(hr:Room j X.A)(ha:PA X (e :: es) t)(hg:Gl X x:=by rfl)(hk:k ≤ j:=by decide)
  (hdb:(x == ("__debug__" : Str))=false:=by decide) (he:starEach (e :: es) X.env=(false,eval e X.env) :: starEach es X.env:=by rfl) (hpl:(backTo pos (starEach es X.env)).any (·.1)=false:=by rfl) :
  PE X (.Call (.Name x p) (e :: es) [] pos) (iS sp t):=by
 obtain ⟨f,fd,F,hm,kp,hb⟩:=c
 intro pins s σ H Q I h
 refine pe_call (E:=E0) (dvs:=[]) F (hr.mono hk) hg hm kp hb .nil pass0 ha hdb he hpl pins s σ H Q I ?_
 show t σ H fun vs H1=>sp (vs ++ []) H1 Q E0
 have h':t σ H fun vs H1=>sp vs H1 Q E0:=h
 simpa using h'
theorem kU {P:Program}{w:World}{K:PySem.W.Frag}{mg:Str→Option Value}{base:Heap}{x:Str}{st:Stmt}{f:Addr}{fd:FuncData}{N ps:List Str}{k:Nat}{sp:Sp}(F:Fun K x x st f fd)(hm:mg x=some (.ref f))(hb:Binds K fd ps [])
  (S:FnScope N ps (qI st)) (len:∀ vs H Q E,sp vs H Q E→vs.length=ps.length)
  (hbody:∀ (cdv:Value) (A:Around) (outer:List Env) (s:Shared) (H:Hp) (vs:List V) (Q:VK) (E:XK),Room k (A.deeper (envOfC x (qI st) s.heap.objs.size f cdv))→sp vs H Q E →
   ∃ t,PSs (sW CX0 P w K mg base N x (qI st) f cdv A outer s H E).nox (kB st) t∧t { nx:=fun _ H'=>Q .non H',rt:=Q } (start N vs) H):j4 P w K mg base x ps (k + 1) sp :=
 ⟨f,fd,F.ok S len hbody,hm,F.kp,hb⟩
theorem is_bl:xZ X (compareOp .Is) (fun x y H Q=>∃ a b,x = .bl a∧y = .bl b∧Q (.bl (a == b)) H):=by
 intro pins s σ H x y v u Q I rx ry h
 obtain ⟨a,b,rfl,rfl,q⟩:=h
 cases rx
 cases ry
 exact is_bool ⟨.bl (a == b),H,I,rfl,q⟩
section
variable {pins:List (Addr × Obj)}{σ:St}{H:Hp}{s:Shared}
theorem Inv.walk {p:Addr}{xs:List V}{E:Value→Shared→Prop}{R:Value→Shared→Prop}(I:Inv X pins σ H s)(hc:X.calm=true)(hq:sq H p=some xs)
  (h:∀ (it:Addr) (its:List Value) (s2:Shared) (St:Nat→Heap→Prop) (fp:List Addr),Vals xs its→Walks X.prog X.w X.A.in1 it fp [it] its.length (fun i v=>its[i]? = some v) St→St 0 s2.heap→(∀ b ∈ fp,b < s2.heap.objs.size)→s2.heap.objs.size=it + 1 →
   (∀ h' tk,(∀ b o,b ∉ [it]→s2.heap.get? b=some o→h'.get? b=some o)→Inv X pins σ H { s2 with heap:=h',toks:=tk })→R (.ref it) s2) :
  wpAny (model X.prog X.w) X.A.in1 (pyIter (.ref p)) R E s:=by
 have hd:X.A.in1.handled=none:=I.ok.hd hc
 have key:∀ (ob:Obj),Inv X pins σ H { s with heap:=s.heap.push ob }∧∀ h' tk,(∀ b o,b ∉ [s.heap.objs.size]→(s.heap.push ob).get? b=some o→h'.get? b=some o)→Inv X pins σ H { s with heap:=h',toks:=tk }:=fun ob=>by
  refine ⟨I.kept (t':=s.toks) fun b o e=>Ac _ e,fun h' tk k=>I.kept fun b o e=>k b o (fun z=>?_) (Ac _ e)⟩
  have e':b=s.heap.objs.size:=by simpa using z
  exact BA _ (e' ▸ Am e)
 rcases rX (K:=X.K) hq with k | k
 ·obtain ⟨its,rv,pl,hz⟩:=I.list k
  have ne:p ≠ s.heap.objs.size:=A0 (let ⟨_,e,_⟩:=pl.isList;Am e)
  refine wpAny_pyIter_list pl.isList ?_
  refine h s.heap.objs.size its _ (fun i h=>h.IsListIter s.heap.objs.size p i∧h.IsList p its.toArray) [s.heap.objs.size,p] rv (by simpa using Walks.list hd s.heap.objs.size p ne its.toArray) ⟨⟨_,Ao _ rfl,rfl,rfl⟩,pl.isList.at fun o e=>Ac _ e⟩ (fun b hb=>?_) (Bh ..) (key _).2
  rw [Bh]
  rcases A4.mp hb with rfl | hb
  ·exact Nat.lt_succ_self _
  ·have e:b=p:=by simpa using hb
   subst e
   exact Cb (let ⟨_,e,_⟩:=pl.isList;Am e)
 ·obtain ⟨its,rv,pl,hz⟩:=I.tuple k
  have lt:p < s.heap.objs.size:=pl.lt
  have ne:p ≠ s.heap.objs.size:=A0 lt
  refine wpAny_pyIter_tuple (show s.heap.IsTuple p its.toArray from pl) ?_
  refine h s.heap.objs.size its _ (fun i h=>h.IsTupleIter s.heap.objs.size p i∧h.IsTuple p its.toArray) [s.heap.objs.size,p] rv (by simpa using Walks.tuple hd s.heap.objs.size p ne its.toArray) ⟨⟨_,Ao _ rfl,rfl,rfl⟩,(show s.heap.IsTuple p its.toArray from pl).at fun o e=>Ac _ e⟩ (fun b hb=>?_) (Bh ..) (key _).2
  rw [Bh]
  rcases A4.mp hb with rfl | hb
  ·exact Nat.lt_succ_self _
  ·have e:b=p:=by simpa using hb
   subst e
   exact Cb lt
end
theorem preSum_eq (ns:List Int):∀ n,n ≤ ns.length→preSum (fun i=>ns.getD i 0) n=(ns.take n).sum
 | 0,_=>rfl
 | n + 1,h=>by
  show preSum (fun i=>ns.getD i 0) n + ns.getD n 0=_
  rw [preSum_eq ns n (by omega),A7,Af (by omega),CV]
  simp [Ab,Af (show n < ns.length by omega)]
theorem zW {ns:List Int}{its:List Value}(r:Vals (ns.map V.int) its){i:Nat}{v:Value}(h:its[i]? = some v):∃ t,v = .int (ns.getD i 0) t:=by
 have hl:=r.length
 rw [Aa] at hl
 have hi:i < ns.length:=by rw [hl];exact (Ag.mp h).1
 obtain ⟨u,hu,t,rfl⟩:=r.get (i:=i) (x:=V.int ns[i]) (by simp [hi])
 rw [h] at hu
 cases hu
 exact ⟨t,by simp [Ab,hi]⟩
noncomputable def wC (ns:List Int):Prop:=(∀ n ∈ ns,-(2 ^ 62) ≤ n∧n < 2 ^ 62)∧∀ j,j ≤ ns.length→InLong (ns.take j).sum
theorem fD (hc:X.calm=true):yP X (.builtin "sum") (fun xs H Q=>∃ (p:Addr) (ns:List Int),xs=[.ref p]∧sq H p=some (ns.map V.int)∧wC ns∧Q (.int ns.sum) H):=by
 intro pins s σ H xs us Q I r h
 obtain ⟨p,ns,rfl,hq,fit,q⟩:=h
 obtain ⟨u,rfl,ru⟩:=r.one
 cases ru
 refine call_sum_walk (I.walk hc hq fun it its s2 St fp rv W st hfp hsz J=>?_)
 have hl:=rv.length
 rw [Aa] at hl
 refine ⟨it,fp,[it],its.length,_,St,fun i=>ns.getD i 0,rfl,W,st,hfp,fun i v hv=>zW rv hv,fun j hj=>⟨?_,?_⟩,fun h' tk t' k=>⟨.int ns.sum,H,J h' tk k,?_,q⟩⟩
 ·have hj':j < ns.length:=by omega
  have e:ns.getD j 0=ns[j]:=by simp [Ab,hj']
  show InLong (ns.getD j 0)
  rw [e]
  obtain ⟨a,b⟩:=fit.1 ns[j] (AE hj')
  exact ⟨by omega,by omega⟩
 ·rw [preSum_eq ns (j + 1) (by omega)]
  exact fit.2 (j + 1) (by omega)
 ·rw [← hl,preSum_eq ns _ (Ak _),AG]
  exact ⟨_,rfl⟩
theorem lG {bs:List Bool}{its:List Value}(r:Vals (bs.map V.bl) its){i:Nat}{v:Value}(h:its[i]? = some v):v = .bool (bs.getD i true):=by
 have hl:=r.length
 rw [Aa] at hl
 have hi:i < bs.length:=by rw [hl];exact (Ag.mp h).1
 obtain ⟨u,hu,e⟩:=r.get (i:=i) (x:=V.bl bs[i]) (by simp [hi])
 rw [h] at hu
 cases hu
 rw [show v=Value.bool bs[i] from e]
 simp [Ab,hi]
theorem iN {bs:List Bool}{its:List Value}(r:Vals (bs.map V.bl) its)(A:Around):TruthOf X.prog X.w A (fun i v=>its[i]? = some v) (fun i=>bs.getD i true):=fun i v s Q E h q=>by
 rw [lG r h]
 exact wpAny_truthy_bool q
theorem range_all (bs:List Bool):(List.range bs.length).all (fun i=>bs.getD i true)=bs.all id:=by
 rw [BI,AR,AR]
 constructor
 ·intro h b hb
  obtain ⟨i,hi,rfl⟩:=List.mem_iff_getElem.mp hb
  have:=h i (AD.mpr hi)
  simpa [Ab,hi] using this
 ·intro h i hi
  have hi':=AD.mp hi
  have:=h bs[i] (AE hi')
  simpa [Ab,hi'] using this
theorem eX (hc:X.calm=true):yP X (.builtin "all") (fun xs H Q=>∃ (p:Addr) (bs:List Bool),xs=[.ref p]∧sq H p=some (bs.map V.bl)∧Q (.bl (bs.all id)) H):=by
 intro pins s σ H xs us Q I r h
 obtain ⟨p,bs,rfl,hq,q⟩:=h
 obtain ⟨u,rfl,ru⟩:=r.one
 cases ru
 refine call_all_walk (I.walk hc hq fun it its s2 St fp rv W st hfp hsz J=>?_)
 have hl:=rv.length
 rw [Aa] at hl
 refine ⟨it,fp,[it],its.length,_,St,fun i=>bs.getD i true,rfl,W,st,iN rv _,fun h' tk k=>⟨.bl (bs.all id),H,J h' tk k,?_,q⟩⟩
 rw [← hl,range_all]
 exact rfl
noncomputable def wW (H:Hp):V→Option String
 | .non=>some "NoneType"
 | .bl _=>some "bool"
 | .int _=>some "int"
 | .str _=>some "str"
 | .ref a=>match H a with
  | some (.lst _)=>some "list"
  | some (.tup _)=>some "tuple"
  | some (.dK _)=>some "dict"
  | _=>none
 | _=>none
noncomputable def subN (t T:String):Bool:=t == T || (t == "bool" && T == "int")
theorem iK {K:PySem.W.Frag}{H:Hp}{x:V}{t:String}(h:wW H x=some t):TyOf K H x (.type t)∧(t = "NoneType" ∨ t = "bool" ∨ t = "int" ∨ t = "str" ∨ t = "list" ∨ t = "tuple" ∨ t = "dict"):=by
 cases x with
 | non=>cases h;exact ⟨.non,by simp⟩
 | bl b=>cases h;exact ⟨.bl b,by simp⟩
 | int i=>cases h;exact ⟨.int i,by simp⟩
 | str i=>cases h;exact ⟨.str i,by simp⟩
 | ref a =>
  cases e:H a with
  | none=>simp [wW,e] at h
  | some o =>
   cases o with
   | lst xs=>simp [wW,e] at h;subst h;exact ⟨.lst e,by simp⟩
   | tup xs=>simp [wW,e] at h;subst h;exact ⟨.tup e,by simp⟩
   | dK xs=>simp [wW,e] at h;subst h;exact ⟨.dK e,by simp⟩
   | _=>simp [wW,e] at h
 | _=>cases h
theorem kit_of {K:PySem.W.Frag}{t T:String}(h:t = "NoneType" ∨ t = "bool" ∨ t = "int" ∨ t = "str" ∨ t = "list" ∨ t = "tuple" ∨ t = "dict") (hT:T = "int" ∨ T = "bool" ∨ T = "tuple" ∨ T = "str" ∨ T = "list"):PySem.W.kitOne K (.type t) (.type T)=some (subN t T):=by
 rcases h with rfl | rfl | rfl | rfl | rfl | rfl | rfl <;> rcases hT with rfl | rfl | rfl | rfl | rfl <;> rfl
theorem vX:yP X (.builtin "isinstance") (fun xs H Q=>∃ x T t,xs=[x,.ty T]∧wW H x=some t∧(T = "int" ∨ T = "bool" ∨ T = "tuple" ∨ T = "str" ∨ T = "list")∧Q (.bl (subN t T)) H):=by
 intro pins s σ H xs us Q I r h
 obtain ⟨x,T,t,rfl,ht,hT,q⟩:=h
 obtain ⟨u,v,rfl,ru,rv⟩:=r.two
 cases (show v=Value.type T from rv)
 obtain ⟨ty,ht'⟩:=iK (K:=X.K) ht
 exact eJ I ru ty (kit_of ht' hT) fun tk=>⟨.bl (subN t T),H,I.tok tk,rfl,q⟩
end
theorem kY:bootBuiltins "len" = some (.builtin "len"):=by decide +kernel
theorem yC:bootBuiltins "sum" = some (.builtin "sum"):=by decide +kernel
theorem fV:bootBuiltins "all" = some (.builtin "all"):=by decide +kernel
theorem kG:bootBuiltins "isinstance" = some (.builtin "isinstance"):=by decide +kernel
theorem fU:bootBuiltins "max" = some (.builtin "max"):=by decide +kernel
theorem fT:bootBuiltins "sorted" = some (.builtin "sorted"):=by decide +kernel
theorem kX:bootBuiltins "tuple" = some (.type "tuple"):=by decide +kernel
theorem uQ:bootBuiltins "list" = some (.type "list"):=by decide +kernel
theorem dD:bootBuiltins "int" = some (.type "int"):=by decide +kernel
theorem d6:bootBuiltins "bool" = some (.type "bool"):=by decide +kernel
theorem for_seq {f:Hp→Prop}{xs:List V}{g:TG}{tb:TS}{D:Ends}{σ:St}{H:Hp}(Pv:Nat→St→Hp→Prop)(h0:Pv 0 σ H)(hl:∀ i σ H,i ≤ xs.length→Pv i σ H→f H)
  (hs:∀ i x σ H,xs[i]? = some x→Pv i σ H→g x σ H fun σ2 H2=>tb { D with nx:=Pv (i + 1),ct:=Pv (i + 1),bk:=D.nx } σ2 H2) (hd:∀ σ H,Pv xs.length σ H→D.nx σ H) :
  ∃ W:Nat→Nat→St→Hp→Prop,(∃ m,W 0 m σ H)∧∀ i m σ H,W i m σ H →
   ((lF f xs).stop i H∧D.nx σ H)∨((lF f xs).go i H∧∃ N:St→Hp→Prop,(∀ σ' H',N σ' H'→∃ m',m' < m∧W (i + 1) m' σ' H')∧∀ x H',(lF f xs).yld i H x H'→g x σ H' fun σ2 H2=>tb { D with nx:=N,ct:=N,bk:=D.nx } σ2 H2):=by
 refine ⟨fun i m σ H=>m=xs.length - i∧i ≤ xs.length∧Pv i σ H,⟨xs.length,by simp,AJ _,h0⟩,?_⟩
 rintro i m σ H ⟨rfl,hi,p⟩
 have q:=hl i σ H hi p
 by_cases hlt:i < xs.length
 ·refine .inr ⟨⟨q,hlt⟩,Pv (i + 1),fun σ' H' p'=>⟨xs.length - (i + 1),by omega,rfl,hlt,p'⟩,fun x H' y=>?_⟩
  obtain ⟨e,y⟩:=y
  subst e
  exact hs i x σ _ y p
 ·have e:i=xs.length:=by omega
  subst e
  exact .inl ⟨⟨q,Ak _⟩,hd σ H p⟩
theorem zC {f:Hp→Prop}{xs:List V}{g:TG}{tc:TT}{tb:TB}{D:St→Hp→Prop}{σ:St}{H:Hp}(Pv:Nat→St→Hp→Prop)(h0:Pv 0 σ H)(hl:∀ i σ H,i ≤ xs.length→Pv i σ H→f H)
  (hs:∀ i x σ H,xs[i]? = some x→Pv i σ H→g x σ H fun σ2 H2=>tc σ2 H2 fun b H3=>if b=true then tb σ2 H3 (Pv (i + 1)) else Pv (i + 1) σ2 H3) (hd:∀ σ H,Pv xs.length σ H→D σ H):m3 (lF f xs) g tc tb D σ H:=by
 refine ⟨fun i m σ H=>m=xs.length - i∧i ≤ xs.length∧Pv i σ H,⟨xs.length,by simp,AJ _,h0⟩,?_⟩
 rintro i m σ H ⟨rfl,hi,p⟩
 have q:=hl i σ H hi p
 by_cases hlt:i < xs.length
 ·refine .inr ⟨⟨q,hlt⟩,Pv (i + 1),fun σ' H' p'=>⟨xs.length - (i + 1),by omega,rfl,hlt,p'⟩,fun x H' y=>?_⟩
  obtain ⟨e,y⟩:=y
  subst e
  exact hs i x σ _ y p
 ·have e:i=xs.length:=by omega
  subst e
  exact .inl ⟨⟨q,Ak _⟩,hd σ H p⟩
theorem jL {lo:Int}{n:Nat}{g:TG}{tc:TT}{tb:TB}{D:St→Hp→Prop}{σ:St}{H:Hp}(Pv:Nat→St→Hp→Prop)(h0:Pv 0 σ H)
  (hs:∀ i σ H,i < n→Pv i σ H→g (.int (lo + i)) σ H fun σ2 H2=>tc σ2 H2 fun b H3=>if b=true then tb σ2 H3 (Pv (i + 1)) else Pv (i + 1) σ2 H3) (hd:∀ σ H,Pv n σ H→D σ H):m3 (Itr lo n) g tc tb D σ H:=by
 refine ⟨fun i m σ H=>m=n - i∧i ≤ n∧Pv i σ H,⟨n,by simp,AJ _,h0⟩,?_⟩
 rintro i m σ H ⟨rfl,hi,p⟩
 by_cases hlt:i < n
 ·refine .inr ⟨hlt,Pv (i + 1),fun σ' H' p'=>⟨n - (i + 1),by omega,rfl,hlt,p'⟩,fun x H' y=>?_⟩
  obtain ⟨e,y⟩:=y
  subst e y
  exact hs i σ _ hlt p
 ·have e:i=n:=by omega
  subst e
  exact .inl ⟨Ak _,hd σ H p⟩
noncomputable def Scr (K:PySem.W.Frag)(a:Addr)(ns:List Int)(H:Hp):Prop:=SqL K H a (ns.map V.int)
theorem kI {H:Hp}{p:Addr}{o:HO}(n:H p=none):Same H (upd H p o):=fun b u e=>by rw [q9 (qC e n)];exact e
section
variable {X:Cx}
noncomputable def tD (t:TA):TE:=fun σ H Q=>t σ H fun xs H1=>xs.length ≤ sizeLine∧∀ (p:Addr) (H2:Hp),H1 p=none→Same H1 H2→H2 p=some (.tup xs)→Q (.ref p) H2
theorem jB {es:List Expr}{t:TA}{x1}{pos:Pos}(h:PA X es t):PE X (.Tuple es x1 pos) (tD t):=by
 intro pins s σ H Q I hq
 refine Tuple_ (jM (h pos pins s σ H _ I hq) fun us s1 ⟨xs,H1,I1,r,z,q⟩=>?_)
 have hf:H1 s1.heap.objs.size=none:=I1.hok.fresh (Ak _)
 refine wpAny_newObj_type ?_ (by show us.toArray.size ≤ sizeLine;rw [As,← r.length];exact z)
 refine ⟨.ref s1.heap.objs.size,upd H1 s1.heap.objs.size (.tup xs),I1.laid (t':=s1.toks) (fun b u e=>Ac _ e) (Ak _) ?_,rfl,q _ _ hf (kI hf) qF⟩
 exact ⟨z,us,r,IsTup.new s1.heap _⟩
theorem yM:yP X (.type "tuple") (fun xs H Q=>∃ p ys,xs=[.ref p]∧H p=some (.lst ys)∧∀ (l:Addr) (H2:Hp),H l=none→Same H H2→H2 l=some (.tup ys)→Q (.ref l) H2):=by
 intro pins s σ H xs us Q I r h
 obtain ⟨p,ys,e,hq,q⟩:=h
 exact tupL0 pins s σ H xs us Q I r ⟨p,ys,e,hq,fun l n=>q l _ n (kI n) qF⟩
theorem a_tTupA {t:TA}{σ:St}{H:Hp}{Q:VK}:tD t σ H Q=t σ H fun xs H1=>xs.length ≤ sizeLine∧∀ (p:Addr) (H2:Hp),H1 p=none→Same H1 H2→H2 p=some (.tup xs)→Q (.ref p) H2:=rfl
end
section
variable {D:Ends}{σ:St}{H:Hp}{Q:VK}{QB:Bool→Hp→Prop}{QA:List V→Hp→Prop}{QG:St→Hp→Prop}{R:It→Hp→Prop}
theorem a_tSeq {t u:TS}:aD t u D σ H=t { D with nx:=u D } σ H:=rfl
theorem a_tRet {te:TE}:tRet te D σ H=te σ H D.rt:=rfl
theorem a_tNext:tNext D σ H=D.nx σ H:=rfl
theorem a_tDrop {te:TE}:tDrop te D σ H=te σ H fun _ H1=>D.nx σ H1:=rfl
theorem a_tAsg {te:TE}{g:TG}:lK te g D σ H=te σ H fun x H1=>g x σ H1 D.nx:=rfl
theorem a_tIfS {c:TT}{t u:TS}:tIfS c t u D σ H=c σ H fun b H1=>if b=true then t D σ H1 else u D σ H1:=rfl
theorem a_tPar {i j:Nat}{ta:TA}:tPar i j ta D σ H=ta σ H fun vs H1=>∃ v w,vs=[v,w]∧D.nx ((σ.set i (some v)).set j (some w)) H1:=rfl
theorem a_gName {i:Nat}{v:V}:jZ i v σ H QG=QG (σ.set i (some v)) H:=rfl
theorem a_gNil {vs:List V}:gNil vs σ H QG=(vs=[]∧QG σ H):=rfl
theorem a_gCons {t:TG}{u:TGs}{vs:List V}:hZ t u vs σ H QG = ∃ v r,vs=v :: r∧t v σ H fun σ' H'=>u r σ' H' QG:=rfl
theorem a_gTup0 {n:Nat}{t:TGs}{v:V}:uE n t v σ H QG = ∃ a xs,v = .ref a∧H a=some (.tup xs)∧xs.length=n∧t xs σ H QG:=rfl
theorem a_gSub {to ti:TE}{t:TSet}{v:V}:gSub to ti t v σ H QG=to σ H fun o H1=>ti σ H1 fun i H2=>t o i v H2 fun H3=>QG σ H3:=rfl
theorem a_tAnd {t u:TT}:tAnd t u σ H QB=t σ H fun c H1=>if c=true then u σ H1 QB else QB false H1:=rfl
theorem a_tOr {t u:TT}:tOr t u σ H QB=t σ H fun c H1=>if c=true then QB true H1 else u σ H1 QB:=rfl
theorem a_tNot {t:TT}:tNot t σ H QB=t σ H fun c H1=>QB (!c) H1:=rfl
theorem a_tTest {t:TE}:tE t σ H QB=t σ H fun x H'=>∃ k,x = .bl k∧QB k H':=rfl
theorem a_tB {t:TE}:tB t σ H QB=t σ H fun x H1=>∃ c,x = .bl c∧QB c H1:=rfl
theorem a_tTrue:lJ σ H QB=QB true H:=rfl
theorem a_tIf {t:TT}{ta tb:TE}:tIf t ta tb σ H Q=t σ H fun c H1=>if c=true then ta σ H1 Q else tb σ H1 Q:=rfl
theorem a_tAndV {ta tb:TE}:tAndV ta tb σ H Q=ta σ H fun x H1=>∃ c,x = .bl c∧if c=true then tb σ H1 Q else Q (.bl false) H1:=rfl
theorem a_tOrV {ta tb:TE}:tOrV ta tb σ H Q=ta σ H fun x H1=>∃ c,x = .bl c∧if c=true then Q (.bl true) H1 else tb σ H1 Q:=rfl
theorem a_tNotV {ta:TE}:tNotV ta σ H Q=ta σ H fun x H1=>∃ c,x = .bl c∧Q (.bl (!c)) H1:=rfl
theorem a_tOp {r:R2}{ta tb:TE}:tG r ta tb σ H Q=ta σ H fun x H1=>tb σ H1 fun y H2=>r x y H2 Q:=rfl
theorem a_tUn {r:V→Hp→VK→Prop}{ta:TE}:tUn r ta σ H Q=ta σ H fun x H1=>r x H1 Q:=rfl
theorem a_rU {g:Int→V}{x:V}:rU g x H Q = ∃ i,x = .int i∧Q (g i) H:=rfl
theorem a_tVar {i:Nat}:j7 i σ H Q = ∃ v,σ[i]? = some (some v)∧Q v H:=rfl
theorem a_tC {v:V}:tC v σ H Q=Q v H:=rfl
theorem a_rI0 {g:Int→Int→V}{x y:V}:iB g x y H Q = ∃ i j,x = .int i∧y = .int j∧Q (g i j) H:=rfl
theorem a_rI {C:Int→Int→Prop}{g:Int→Int→V}{x y:V}:rI C g x y H Q = ∃ i j,x = .int i∧y = .int j∧C i j∧Q (g i j) H:=rfl
theorem a_rEq {x y:V}:rEq x y H Q=(xM x y=true∧Q (.bl (decide (x=y))) H):=rfl
theorem a_rNe {x y:V}:rNe x y H Q=(xM x y=true∧Q (.bl (!decide (x=y))) H):=rfl
theorem a_rIx0 {x y:V}:oE x y H Q = ∃ p xs i v,x = .ref p∧y = .int i∧sq H p=some xs∧xH xs i=some v∧Q v H:=rfl
theorem a_tCB {r:List V→Hp→VK→Prop}{t:TA}:tCB r t σ H Q=t σ H fun vs H1=>r vs H1 Q:=rfl
theorem a_tCal {sp:Sp}{t:TA}:iS sp t σ H Q=t σ H fun vs H1=>sp vs H1 Q E0:=rfl
theorem a_tCons {ta:TE}{tr:TA}:zU ta tr σ H QA=ta σ H fun x H1=>tr σ H1 fun xs H2=>QA (x :: xs) H2:=rfl
theorem a_tNil:mZ σ H QA=QA [] H:=rfl
theorem a_tLst {t:TA}:tLst t σ H Q=t σ H fun xs H1=>xs.length ≤ sizeLine∧∀ p,H1 p=none→Q (.ref p) (upd H1 p (.lst xs)):=rfl
theorem a_tLC {fr:List (Option Nat)}{wi:TI}{g:TG}{tc:TT}{te:TE}:tLC fr wi g tc te σ H Q=wi σ H fun J H1=>∀ p,H1 p=none→m3 J g tc (y6 p te) (fun _ H2=>Q (.ref p) H2) (cH fr σ) (upd H1 p (.lst [])):=rfl
theorem a_iRng1 {ta:TA}:iRng1 ta σ H R=ta σ H fun vs H1=>∃ j:Int,vs=[.int j]∧-(2 ^ 62) ≤ j∧j < 2 ^ 62∧R (Itr 0 j.toNat) H1:=rfl
theorem a_iRng2 {ta:TA}:iRng2 ta σ H R=ta σ H fun vs H1=>∃ i j:Int,vs=[.int i,.int j]∧(-(2 ^ 62) ≤ i∧i < 2 ^ 62∧-(2 ^ 62) ≤ j∧j < 2 ^ 62)∧R (Itr i (j - i).toNat) H1:=rfl
theorem a_iT0 {tl:TE}:iT0 tl σ H R=tl σ H fun x H1=>∃ a xs,x = .ref a∧H1 a=some (.tup xs)∧R (lF (fun H=>H a=some (.tup xs)) xs) H1:=rfl
theorem a_iL0 {tl:TE}:iL0 tl σ H R=tl σ H fun x H1=>∃ a xs,x = .ref a∧H1 a=some (.lst xs)∧R (lF (fun H=>H a=some (.lst xs)) xs) H1:=rfl
theorem a_tEmit {p:Addr}{te:TE}:y6 p te σ H QG=te σ H fun y H1=>∃ ys,H1 p=some (.lst ys)∧ys.length < sizeLine∧QG σ (upd H1 p (.lst (ys ++ [y]))):=rfl
end
noncomputable def FL (J:It)(g:TG)(tb:TS)(D:Ends)(σ:St)(H1:Hp):Prop:=∃ W:Nat→Nat→St→Hp→Prop,(∃ m,W 0 m σ H1)∧∀ i m σ H,W i m σ H →
 (J.stop i H∧D.nx σ H)∨(J.go i H∧∃ N:St→Hp→Prop,(∀ σ' H',N σ' H'→∃ m',m' < m∧W (i + 1) m' σ' H')∧∀ x H',J.yld i H x H'→g x σ H' fun σ2 H2=>tb { D with nx:=N,ct:=N,bk:=D.nx } σ2 H2)
theorem a_tFor {wi:TI}{g:TG}{tb:TS}{D:Ends}{σ:St}{H:Hp}:tFor wi g tb D σ H=wi σ H fun J H1=>FL J g tb D σ H1:=rfl
theorem sT {f:Hp→Prop}{xs:List V}{g:TG}{tb:TS}{D:Ends}{σ:St}{H:Hp}(Pv:Nat→St→Hp→Prop)(h0:Pv 0 σ H)(hl:∀ i σ H,i ≤ xs.length→Pv i σ H→f H)
  (hs:∀ i x σ H,xs[i]? = some x→Pv i σ H→g x σ H fun σ2 H2=>tb { D with nx:=Pv (i + 1),ct:=Pv (i + 1),bk:=D.nx } σ2 H2) (hd:∀ σ H,Pv xs.length σ H→D.nx σ H):FL (lF f xs) g tb D σ H:=for_seq Pv h0 hl hs hd
theorem xX {lo:Int}{n:Nat}{g:TG}{tb:TS}{D:Ends}{σ:St}{H:Hp}(Pv:Nat→St→Hp→Prop)(h0:Pv 0 σ H)
  (hs:∀ i σ H,i < n→Pv i σ H→g (.int (lo + i)) σ H fun σ2 H2=>tb { D with nx:=Pv (i + 1),ct:=Pv (i + 1),bk:=D.nx } σ2 H2) (hd:∀ σ H,Pv n σ H→D.nx σ H):FL (Itr lo n) g tb D σ H:=eQ Pv h0 hs hd
noncomputable def SameX (c:Addr)(H H':Hp):Prop:=∀ b o,b ≠ c→H b=some o→H' b=some o
theorem SameX.refl {c:Addr}{H:Hp}:SameX c H H:=fun _ _ _ h=>h
theorem SameX.trans {c:Addr}{H H1 H2:Hp}(a:SameX c H H1)(b:SameX c H1 H2):SameX c H H2:=fun d o n h=>b d o n (a d o n h)
theorem SameX.upd {c:Addr}{H:Hp}{o:HO}:SameX c H (upd H c o):=fun b u n h=>by rw [q9 n];exact h
theorem Same.x {c:Addr}{H H':Hp}(h:Same H H'):SameX c H H':=fun b o _ e=>h b o e
theorem SameX.same {c:Addr}{H H':Hp}(h:SameX c H H')(n:H c=none):Same H H':=fun b o e=>h b o (qC e n) e
theorem Same.sq {H H':Hp}(h:Same H H'){a:Addr}{xs:List V}(e:L2.sq H a=some xs):L2.sq H' a=some xs:=by
 unfold L2.sq at e ⊢
 cases q:H a with
 | none=>rw [q] at e;cases e
 | some o=>rw [q] at e;rw [h a o q];exact e
theorem Scr.keep {K:PySem.W.Frag}{a p:Addr}{ns:List Int}{H H':Hp}(h:Scr K a ns H)(n:H p=none)(s:SameX p H H'):Scr K a ns H':=Same.seq (s.same n) h
theorem a_rIxL {K:PySem.W.Frag}{x y:V}{H:Hp}{Q:VK}:rIxL K x y H Q = ∃ p xs i v,x = .ref p∧y = .int i∧SqL K H p xs∧xH xs i=some v∧Q v H:=rfl
theorem sum_bound {b:Int}:∀ {ns:List Int},(∀ n ∈ ns,-b ≤ n∧n ≤ b)→-(b * (ns.length:Int)) ≤ ns.sum∧ns.sum ≤ b * (ns.length:Int)
 | [],_=>by simp
 | n :: ns,h=>by
  have h1:=h n A2
  have h2:=sum_bound (ns:=ns) fun m hm=>h m (Ay _ hm)
  rw [Bw,A6,Int.natCast_add,Int.mul_add]
  simp only [Int.natCast_one,Cz]
  omega
theorem y7 {ns:List Int}(h:∀ n ∈ ns,-(2 ^ 40) ≤ n∧n ≤ 2 ^ 40)(hl:ns.length ≤ 1000):wC ns:=by
 refine ⟨fun n hn=>⟨by have:=(h n hn).1;omega,by have:=(h n hn).2;omega⟩,fun j hj=>?_⟩
 have q:=sum_bound (b:=2 ^ 40) (ns:=ns.take j) fun n hn=>h n (Bf hn)
 have e:(ns.take j).length ≤ 1000:=by rw [Aq];omega
 have e':(2:Int) ^ 40 * ((ns.take j).length:Int) ≤ 2 ^ 40 * 1000:=BG (by omega) (by decide)
 constructor
 ·have:(2:Int) ^ 40 * 1000 < 2 ^ 63:=by decide
  omega
 ·have:(2:Int) ^ 40 * 1000 < 2 ^ 63:=by decide
  omega
theorem ixN30:iC 3 0=some 0:=rfl
theorem ixN31:iC 3 1=some 1:=rfl
theorem ixN32:iC 3 2=some 2:=rfl
theorem atI0 {α:Type}(a:α)(l:List α):xH (a :: l) 0=some a:=zO (j:=0) (xs:=a :: l) rfl
theorem atI1 {α:Type}(a b:α)(l:List α):xH (a :: b :: l) 1=some b:=zO (j:=1) (xs:=a :: b :: l) rfl
theorem atI2 {α:Type}(a b c:α)(l:List α):xH (a :: b :: c :: l) 2=some c:=zO (j:=2) (xs:=a :: b :: c :: l) rfl
noncomputable def SeqOf (h:Heap)(c:String)(l:Addr)(xs:Array Value):Prop:=(c = "list_iterator" ∧ h.IsList l xs)∨(c = "tuple_iterator" ∧ h.IsTuple l xs)
noncomputable def Src (h:Heap)(c:String)(it l:Addr)(xs:Array Value)(k:Nat):Prop:=(c = "list_iterator" ∧ h.IsListIter it l k∧h.IsList l xs)∨(c = "tuple_iterator" ∧ h.IsTupleIter it l k∧h.IsTuple l xs)
theorem SeqOf.at {h h':Heap}{c:String}{l:Addr}{xs:Array Value}(x:SeqOf h c l xs)(k:∀ o,h.get? l=some o→h'.get? l=some o):SeqOf h' c l xs:=by
 rcases x with ⟨e,x⟩ | ⟨e,x⟩
 ·exact .inl ⟨e,x.at k⟩
 ·exact .inr ⟨e,x.at k⟩
theorem SeqOf.lt {h:Heap}{c:String}{l:Addr}{xs:Array Value}(x:SeqOf h c l xs):l < h.objs.size:=by
 rcases x with ⟨_,o,e,_⟩ | ⟨_,o,e,_⟩ <;> exact Am e
theorem Src.at {h h':Heap}{c:String}{it l:Addr}{xs:Array Value}{k:Nat}(x:Src h c it l xs k)(k1:∀ o,h.get? it=some o→h'.get? it=some o)(k2:∀ o,h.get? l=some o→h'.get? l=some o):Src h' c it l xs k:=by
 rcases x with ⟨e,⟨o,a,r⟩,y⟩ | ⟨e,⟨o,a,r⟩,y⟩
 ·exact .inl ⟨e,⟨o,k1 o a,r⟩,y.at k2⟩
 ·exact .inr ⟨e,⟨o,k1 o a,r⟩,y.at k2⟩
theorem Src.ext {h h':Heap}{c:String}{it l b:Addr}{xs:Array Value}{k:Nat}(x:Src h c it l xs k)(hs:Heap.SameBut b h h')(n1:it ≠ b)(n2:l ≠ b):Src h' c it l xs k :=
 x.at (fun o e=>hs.extBut _ _ n1 e) fun o e=>hs.extBut _ _ n2 e
theorem Src.itlt {h:Heap}{c:String}{it l:Addr}{xs:Array Value}{k:Nat}(x:Src h c it l xs k):∃ o,h.get? it=some o∧∀ v,o.data ≠ .cell v:=by
 rcases x with ⟨_,⟨o,e,_,d⟩,_⟩ | ⟨_,⟨o,e,_,d⟩,_⟩ <;> exact ⟨o,e,fun v z=>by rw [d] at z;cases z⟩
section
variable {prog:Program}{w:World}{A:Around}{E:Value→Shared→Prop}{s:Shared}
theorem pW {c:String}{l:Addr}{xs:Array Value}{Q:Value→Shared→Prop}(x:SeqOf s.heap c l xs)(h:Q (.ref s.heap.objs.size) { s with heap:=s.heap.push { cls:=.type c,data:=.fields #[.ref l,.int 0 0] } }):wpAny (model prog w) A (pyIter (.ref l)) Q E s:=by
 rcases x with ⟨rfl,x⟩ | ⟨rfl,x⟩
 ·exact wpAny_pyIter_list x h
 ·exact wpAny_pyIter_tuple x h
theorem sM {it l:Addr}{i:Nat}{items:Array Value}{x:Value}{Q:Value→Shared→Prop}(hit:s.heap.IsTupleIter it l i)(ht:s.heap.IsTuple l items)(hx:items[i]? = some x)
  (hQ:∀ h',h'.IsTupleIter it l (i + 1)→Heap.SameBut it s.heap h'→Q x { s with heap:=h' }):wpAny (model prog w) A (Builtin.SmallTypes.nextOf (.ref it)) Q E s:=by
 obtain ⟨o,ho,hc,hd⟩:=id hit
 obtain ⟨ot,hot,_,nt,hdt⟩:=ht
 unfold Builtin.SmallTypes.nextOf
 refine wpAny_bind (wpAny_callSpecial?_slot (name:=Str.ofString "__next__") hit.typeIs BO (wpAny_call_entry BO hit.typeIs F.entry_tuple_iterator_next ?_ (F.args_tuple_iterator_next_1 _)))
 refine wpAny_bind (m:=field (.ref it) 0) (wpAny_field ho hd (x:=.ref l) rfl ?_)
 rw [Ah (show ¬ ((Value.ref l == Value.none)=true) from A1)]
 refine wpAny_bind (m:=field (.ref it) 1) (wpAny_field ho hd (x:=.int i 0) rfl ?_)
 refine wpAny_bind (m:=seqItems? (.ref l)) (wpAny_seqItems hot hdt ?_)
 simp only [Ap,hx]
 refine wpAny_bind (wpAny_setField ho hd (by simp) (wpAny_pure ⟨x,rfl,wpAny_pure (hQ _ ?_ (BD ..))⟩))
 refine ⟨_,BQ _ ho (Obj.isFreed_of_fields (Obj.data_mapFields hd _)),(Obj.cls_mapFields ..).trans hc,?_⟩
 rw [Obj.data_mapFields hd];simp [rawInt]
theorem wJ {c:String}{it l:Addr}{xs:Array Value}{k:Nat}{x:Value}{Q:Value→Shared→Prop}(S:Src s.heap c it l xs k)(ne:l ≠ it)(hx:xs[k]? = some x)
  (hQ:∀ h',Src h' c it l xs (k + 1)→Heap.SameBut it s.heap h'→Q x { s with heap:=h' }):wpAny (model prog w) A (Builtin.SmallTypes.nextOf (.ref it)) Q E s:=by
 rcases S with ⟨e,a,b⟩ | ⟨e,a,b⟩
 ·exact wpAny_nextOf_list_item a b hx fun h' a' sb=>hQ h' (.inl ⟨e,a',b.extBut sb.extBut ne⟩) sb
 ·exact sM a b hx fun h' a' sb=>hQ h' (.inr ⟨e,a',b.at fun o q=>sb.extBut _ _ ne q⟩) sb
theorem bL {it l:Addr}{i:Nat}{items:Array Value}{Q:Value→Shared→Prop}(hh:A.handled=none)(hit:s.heap.IsTupleIter it l i)(ht:s.heap.IsTuple l items)(hx:items[i]? = none)
  (hE:∀ h' e,Heap.ExtBut it s.heap h'→(∃ o,h'.get? e=some o∧o.cls = .type "StopIteration")→E (.ref e) { s with heap:=h' }):wpAny (model prog w) A (Builtin.SmallTypes.nextOf (.ref it)) Q E s:=by
 obtain ⟨o,ho,hc,hd⟩:=id hit
 obtain ⟨ot,hot,_,nt,hdt⟩:=ht
 unfold Builtin.SmallTypes.nextOf
 refine wpAny_bind (wpAny_callSpecial?_slot (name:=Str.ofString "__next__") hit.typeIs BO (wpAny_call_entry BO hit.typeIs F.entry_tuple_iterator_next ?_ (F.args_tuple_iterator_next_1 _)))
 refine wpAny_bind (m:=field (.ref it) 0) (wpAny_field ho hd (x:=.ref l) rfl ?_)
 rw [Ah (show ¬ ((Value.ref l == Value.none)=true) from A1)]
 refine wpAny_bind (m:=field (.ref it) 1) (wpAny_field ho hd (x:=.int i 0) rfl ?_)
 refine wpAny_bind (m:=seqItems? (.ref l)) (wpAny_seqItems hot hdt ?_)
 simp only [Ap,hx]
 refine wpAny_bind (wpAny_rule (wpAny_bind (wpAny_setField ho hd (by simp) ?_)))
 refine wpAny_bind (m:=newExc (.type "StopIteration") []) ?_
 simp only [newExc,newTuple]
 refine wpAny_bind (wpAny_newObj_type ?_ (by size_fits))
 refine wpAny_bind (m:=firstArgMember _ _) (wpAny_of_eq (a:=Value.none) (by first | rfl | (simp only [firstArgMember];rfl)) ?_)
 refine wpAny_newObj_type ?_ (by size_fits)
 simp only [raiseNew]
 refine wpAny_bind (wpAny_handled ?_)
 first | rw [show A.in1.handled=none from hh] | rw [hh]
 refine wpAny_bind (wpAny_pure (wpAny_throw ?_))
 exact hE _ _ (((BD ..).extBut.push _).push _) ⟨_,Ao _ rfl,rfl⟩
theorem sJ {c:String}{it l:Addr}{xs:Array Value}{k:Nat}{Q:Value→Shared→Prop}(hh:A.handled=none)(S:Src s.heap c it l xs k)(hx:xs[k]? = none)
  (hE:∀ h' e,Heap.ExtBut it s.heap h'→(∃ o,h'.get? e=some o∧o.cls = .type "StopIteration")→E (.ref e) { s with heap:=h' }):wpAny (model prog w) A (Builtin.SmallTypes.nextOf (.ref it)) Q E s:=by
 rcases S with ⟨e,a,b⟩ | ⟨e,a,b⟩
 ·exact wpAny_nextOf_list_end hh a b hx hE
 ·exact bL hh a b hx hE
structure Zs (h:Heap)(z TI TO i1 i2:Addr)(c1 c2:String)(l1 l2:Addr)(xs ys:Array Value)(k:Nat):Prop where
 zip:IsZip h z TI TO .none
 ti:IsPair h TI (.ref i1) (.ref i2)
 to:∃ a b,IsPair h TO a b
 s1:Src h c1 i1 l1 xs k
 s2:Src h c2 i2 l2 ys k
theorem zs_item {z TI TO i1 i2 l1 l2:Addr}{c1 c2:String}{k:Nat}{xs ys:Array Value}{x y:Value}{Q:Option Value→Shared→Prop}(D:ZipApart z TI TO i1 i2 l1 l2)(Z:Zs s.heap z TI TO i1 i2 c1 c2 l1 l2 xs ys k)(hx:xs[k]? = some x)(hy:ys[k]? = some y)
  (hQ:∀ h',IsZip h' z TI TO (rawInt s.heap.objs.size)→IsPair h' TI (.ref i1) (.ref i2)→IsPair h' TO x y→Src h' c1 i1 l1 xs (k + 1)→Src h' c2 i2 l2 ys (k + 1)→IsPair h' s.heap.objs.size x y→h'.objs.size=s.heap.objs.size + 1 →
   (∀ c o,c ∉ [z,TO,i1,i2]→s.heap.get? c=some o→h'.get? c=some o)→Q (some (.ref s.heap.objs.size)) { s with heap:=h' }):wpAny (model prog w) A (pyNext (.ref z)) Q E s:=by
 obtain ⟨hz,hTI,⟨a,b,hTO⟩,h1,h2⟩:=Z
 have hT:s.TypeIs (.ref z) "zip" := ⟨_,hz,rfl⟩
 unfold pyNext
 refine wpAny_bind (wpAny_attempt (wpAny_callSpecial?_slot (name:=Str.ofString "__next__") hT CU (wpAny_call_entry CU hT F.entry_zip_next ?_ (F.args_zip_next_1 _))))
 refine wpAny_bind (m:=field (.ref z) 2) (wpAny_field hz rfl (x:=.bool false) rfl ?_)
 refine wpAny_bind (m:=field (.ref z) 3) (wpAny_field hz rfl (x:=.ref TI) rfl ?_)
 refine wpAny_bind (wpAny_seqItems hTI rfl ?_)
 refine wpAny_bind (m:=Builtin.SmallTypes.ownedTupleIsFree (.ref z)) ?_
 unfold Builtin.SmallTypes.ownedTupleIsFree
 refine wpAny_bind (wpAny_field hz rfl (x:=.none) rfl (wpAny_pure ?_))
 simp only [Cv]
 refine wpAny_bind (wpAny_rule ?_)
 refine wpAny_bind (wpAny_field hz rfl (x:=.ref TO) rfl ?_)
 refine wpAny_bind (wpAny_setField_rec hz (by simp) fun ha hza hsa=>?_)
 replace hza:IsZip ha z TI TO .ellipsis:=hza
 refine wpAny_bind ?_
 simp only [List.zipIdx_cons,List.zipIdx_nil,List.forIn_cons,List.forIn_nil]
 refine wpAny_bind (wpAny_bind (wpAny_onRaise ?_))
 refine wpAny_bind (m:=Builtin.SmallTypes.nextOf (.ref i1)) (wJ (s:={ s with heap:=ha }) (h1.ext hsa D.i1z D.l1z) D.l1i1 hx fun hb h1b hsb=>wpAny_pure ?_)
 have hTOb:IsPair hb TO a b:=hsb.extBut _ _ D.TOi1 (hsa.extBut _ _ D.TOz hTO)
 refine wpAny_bind (wpAny_seqItems hTOb rfl ?_)
 refine wpAny_bind (wpAny_updateSeq_pair hTOb fun hc hTOc hsc=>?_)
 replace hTOc:IsPair hc TO x b:=hTOc
 refine wpAny_bind (wpAny_letGo (wpAny_pure ?_))
 refine wpAny_bind (wpAny_bind (wpAny_onRaise ?_))
 refine wpAny_bind (m:=Builtin.SmallTypes.nextOf (.ref i2)) (wJ (s:={ s with heap:=hc }) (((h2.ext hsa D.i2z D.l2z).ext hsb D.i12.symm D.l2i1).ext hsc D.TOi2.symm D.l2TO) D.l2i2 hy fun hd h2d hsd=>wpAny_pure ?_)
 have hTOd:IsPair hd TO x b:=hsd.extBut _ _ D.TOi2 hTOc
 refine wpAny_bind (wpAny_seqItems hTOd rfl ?_)
 refine wpAny_bind (wpAny_updateSeq_pair hTOd fun he hTOe hse=>?_)
 replace hTOe:IsPair he TO x y:=hTOe
 refine wpAny_bind (wpAny_letGo (wpAny_pure (wpAny_pure ?_)))
 refine wpAny_bind (wpAny_seqItems hTOe rfl ?_)
 refine wpAny_bind (wpAny_newTuple ?_)
 have sz:he.objs.size=s.heap.objs.size:=by rw [hse.1,hsd.1,hsc.1,hsb.1,hsa.1]
 have ze:IsZip he z TI TO .ellipsis:=hse.extBut _ _ D.TOz.symm (hsd.extBut _ _ D.i2z.symm (hsc.extBut _ _ D.TOz.symm (hsb.extBut _ _ D.i1z.symm hza)))
 have ke:∀ c o,c ≠ z→c ≠ TO→c ≠ i1→c ≠ i2→s.heap.get? c=some o→he.get? c=some o:=fun c o n1 n2 n3 n4 e=>hse.extBut _ _ n2 (hsd.extBut _ _ n4 (hsc.extBut _ _ n2 (hsb.extBut _ _ n3 (hsa.extBut _ _ n1 e))))
 have h1e:Src he c1 i1 l1 xs (k + 1):=((h1b.ext hsc D.TOi1.symm D.l1TO).ext hsd D.i12 D.l1i2).ext hse D.TOi1.symm D.l1TO
 have h2e:Src he c2 i2 l2 ys (k + 1):=h2d.ext hse D.TOi2.symm D.l2TO
 have zlt:z < he.objs.size:=Am ze
 refine wpAny_bind (m:=Builtin.SmallTypes.ownedTupleHandOut (.ref z) (.ref he.objs.size)) ?_
 unfold Builtin.SmallTypes.ownedTupleHandOut
 refine wpAny_bind (wpAny_setField_rec (show IsZip (he.push { cls:=.type "tuple",data:=.seq #[x,y] }) z TI TO .ellipsis from Ac _ ze) (by simp) fun hf hzf hsf=>?_)
 replace hzf:IsZip hf z TI TO (rawInt he.objs.size):=hzf
 refine wpAny_setField_rec hzf (by simp) fun hg hzg hsg=>?_
 replace hzg:IsZip hg z TI TO (rawInt he.objs.size):=hzg
 have up:∀ c o,c ≠ z→he.get? c=some o→hg.get? c=some o:=fun c o n e=>hsg.extBut _ _ n (hsf.extBut _ _ n (Ac _ e))
 have new:IsPair hg he.objs.size x y:=hsg.extBut _ _ (Dc zlt) (hsf.extBut _ _ (Dc zlt) (Ao _ rfl))
 have szg:hg.objs.size=he.objs.size + 1:=by rw [hsg.1,hsf.1,Bh]
 refine wpAny_pure ⟨_,rfl,wpAny_pure ?_⟩
 rw [sz] at hzg new szg ⊢
 refine hQ hg hzg (up _ _ D.TIz (ke _ _ D.TIz D.TITO D.TIi1 D.TIi2 hTI)) (up _ _ D.TOz hTOe) (h1e.at (fun o e=>up _ o D.i1z e) fun o e=>up _ o D.l1z e) (h2e.at (fun o e=>up _ o D.i2z e) fun o e=>up _ o D.l2z e) new szg fun c o hc' e=>?_
 have n1:c ≠ z:=fun q=>hc' (by simp [q])
 exact up c o n1 (ke c o n1 (fun q=>hc' (by simp [q])) (fun q=>hc' (by simp [q])) (fun q=>hc' (by simp [q])) e)
end
section
variable {prog:Program}{w:World}{A:Around}{E:Value→Shared→Prop}{s:Shared}
theorem zs_end {z TI TO i1 i2 l1 l2:Addr}{c1 c2:String}{k:Nat}{xs ys:Array Value}{Q:Option Value→Shared→Prop}(hh:A.handled=none)(D:ZipApart z TI TO i1 i2 l1 l2)(Z:Zs s.heap z TI TO i1 i2 c1 c2 l1 l2 xs ys k)(hend:xs[k]? = none∨ys[k]? = none)
  (hQ:∀ h',(∀ c o,c ∉ [z,TO,i1,i2]→s.heap.get? c=some o→h'.get? c=some o)→Q none { s with heap:=h' }):wpAny (model prog w) A (pyNext (.ref z)) Q E s:=by
 obtain ⟨hz,hTI,⟨a,b,hTO⟩,h1,h2⟩:=Z
 have hT:s.TypeIs (.ref z) "zip" := ⟨_,hz,rfl⟩
 unfold pyNext
 have fin:∀ h' e,(∀ c o,c ≠ z→c ≠ TO→c ≠ i1→c ≠ i2→s.heap.get? c=some o→h'.get? c=some o)→(∃ o,h'.get? e=some o∧o.cls = .type "StopIteration") →
   wpAny (model prog w) A (isInstance (.ref e) (.type "StopIteration") >>= fun y=>if y=true then pure none else throw (.ref e)) Q E { s with heap:=h' }:=fun h' e k ⟨o,ho,hc⟩=>by
  refine wpAny_bind (wpAny_isInstance (T := "StopIteration") (b:=true) ⟨o,ho,hc⟩ isSubtype_stop ?_)
  exact wpAny_pure (hQ _ fun c o hc' x=>k c o (fun q=>hc' (by simp [q])) (fun q=>hc' (by simp [q])) (fun q=>hc' (by simp [q])) (fun q=>hc' (by simp [q])) x)
 refine wpAny_bind (wpAny_attempt (wpAny_callSpecial?_slot (name:=Str.ofString "__next__") hT CU (wpAny_call_entry CU hT F.entry_zip_next ?_ (F.args_zip_next_1 _))))
 refine wpAny_bind (m:=field (.ref z) 2) (wpAny_field hz rfl (x:=.bool false) rfl ?_)
 refine wpAny_bind (m:=field (.ref z) 3) (wpAny_field hz rfl (x:=.ref TI) rfl ?_)
 refine wpAny_bind (wpAny_seqItems hTI rfl ?_)
 refine wpAny_bind (m:=Builtin.SmallTypes.ownedTupleIsFree (.ref z)) ?_
 unfold Builtin.SmallTypes.ownedTupleIsFree
 refine wpAny_bind (wpAny_field hz rfl (x:=.none) rfl (wpAny_pure ?_))
 simp only [Cv]
 refine wpAny_bind (wpAny_rule ?_)
 refine wpAny_bind (wpAny_field hz rfl (x:=.ref TO) rfl ?_)
 refine wpAny_bind (wpAny_setField_rec hz (by simp) fun ha hza hsa=>?_)
 replace hza:IsZip ha z TI TO .ellipsis:=hza
 refine wpAny_bind ?_
 simp only [List.zipIdx_cons,List.zipIdx_nil,List.forIn_cons,List.forIn_nil]
 refine wpAny_bind (wpAny_bind (wpAny_onRaise ?_))
 cases hx:xs[k]? with
 | none =>
  refine wpAny_bind (m:=Builtin.SmallTypes.nextOf (.ref i1)) (sJ (s:={ s with heap:=ha }) hh (h1.ext hsa D.i1z D.l1z) hx fun hb e hsb he=>?_)
  obtain ⟨oe,hoe,hce⟩:=he
  have hzb:IsZip hb z TI TO .ellipsis:=hsb _ _ D.i1z.symm hza
  have hez:e ≠ z:=fun q=>by subst q;rw [hzb] at hoe;cases hoe;simp at hce
  refine wpAny_setField_rec hzb (by simp) fun hc _ hsc=>fin hc e (fun c o n1 _ n3 _ q=>hsc.extBut _ _ n1 (hsb _ _ n3 (hsa.extBut _ _ n1 q))) ⟨oe,hsc.extBut _ _ hez hoe,hce⟩
 | some x =>
  have hy:ys[k]? = none:=by rcases hend with h | h;rw [hx] at h;cases h;exact h
  refine wpAny_bind (m:=Builtin.SmallTypes.nextOf (.ref i1)) (wJ (s:={ s with heap:=ha }) (h1.ext hsa D.i1z D.l1z) D.l1i1 hx fun hb h1b hsb=>wpAny_pure ?_)
  have hTOb:IsPair hb TO a b:=hsb.extBut _ _ D.TOi1 (hsa.extBut _ _ D.TOz hTO)
  refine wpAny_bind (wpAny_seqItems hTOb rfl ?_)
  refine wpAny_bind (wpAny_updateSeq_pair hTOb fun hc hTOc hsc=>?_)
  refine wpAny_bind (wpAny_letGo (wpAny_pure ?_))
  refine wpAny_bind (wpAny_bind (wpAny_onRaise ?_))
  refine wpAny_bind (m:=Builtin.SmallTypes.nextOf (.ref i2)) (sJ (s:={ s with heap:=hc }) hh (((h2.ext hsa D.i2z D.l2z).ext hsb D.i12.symm D.l2i1).ext hsc D.TOi2.symm D.l2TO) hy fun hd e hsd he=>?_)
  obtain ⟨oe,hoe,hce⟩:=he
  have hzd:IsZip hd z TI TO .ellipsis:=hsd _ _ D.i2z.symm (hsc.extBut _ _ D.TOz.symm (hsb.extBut _ _ D.i1z.symm hza))
  have hez:e ≠ z:=fun q=>by subst q;rw [hzd] at hoe;cases hoe;simp at hce
  refine wpAny_setField_rec hzd (by simp) fun he _ hse=>fin he e (fun c o n1 n2 n3 n4 q=>hse.extBut _ _ n1 (hsd _ _ n4 (hsc.extBut _ _ n2 (hsb.extBut _ _ n3 (hsa.extBut _ _ n1 q))))) ⟨oe,hse.extBut _ _ hez hoe,hce⟩
noncomputable abbrev zH1 (h:Heap)(c1:String)(l1:Addr):Heap:=h.push { cls:=.type c1,data:=.fields #[.ref l1,.int 0 0] }
noncomputable abbrev zH2 (h:Heap)(c1 c2:String)(l1 l2:Addr):Heap:=(zH1 h c1 l1).push { cls:=.type c2,data:=.fields #[.ref l2,.int 0 0] }
noncomputable abbrev zH3 (h:Heap)(c1 c2:String)(l1 l2:Addr):Heap:=(zH2 h c1 c2 l1 l2).push { cls:=.type "tuple",data:=.seq #[.ref h.objs.size,.ref (zH1 h c1 l1).objs.size] }
noncomputable abbrev zH4 (h:Heap)(c1 c2:String)(l1 l2:Addr):Heap:=(zH3 h c1 c2 l1 l2).push { cls:=.type "tuple",data:=.seq #[.none,.none] }
noncomputable abbrev zH5 (h:Heap)(c1 c2:String)(l1 l2:Addr):Heap:=(zH4 h c1 c2 l1 l2).push { cls:=.type "zip",data:=.fields #[.none,.bool false,.bool false,.ref (zH2 h c1 c2 l1 l2).objs.size,.ref (zH3 h c1 c2 l1 l2).objs.size] }
theorem aX (c1 c2:String)(l1 l2:Addr)(xs ys:Array Value) :
  Meets (Builtin.«zip.__new__» ⟨[.type "zip",.ref l1,.ref l2],[]⟩) (fun _ R s=>SeqOf s.heap c1 l1 xs∧SeqOf s.heap c2 l2 ys∧R (.ok (.ret (.ref (zH4 s.heap c1 c2 l1 l2).objs.size))) { s with heap:=zH5 s.heap c1 c2 l1 l2 }) :=
 .of_wp fun prog w A R s h=>by
  obtain ⟨hp,g,d,tk,os⟩:=s
  obtain ⟨hl1,hl2,h⟩:=h
  have hsub:=PySem.sub_zip
  have hL1:SeqOf (Shared.heap ⟨hp,g,d,tk,os⟩) c1 l1 xs:=hl1
  have hL2:SeqOf (Shared.heap ⟨hp.push { cls:=.type c1,data:=.fields #[.ref l1,.int 0 0] },g,d,tk,os⟩) c2 l2 ys:=hl2.at fun o e=>Ac _ e
  wp_walk using pW hL1,pW hL2
  exact ⟨_,rfl,h⟩
theorem call_zip {c1 c2:String}{l1 l2:Addr}{xs ys:Array Value}{Q:Value→Shared→Prop}(hl1:SeqOf s.heap c1 l1 xs)(hl2:SeqOf s.heap c2 l2 ys)
  (h:∀ h',Zs h' (s.heap.objs.size + 4) (s.heap.objs.size + 2) (s.heap.objs.size + 3) s.heap.objs.size (s.heap.objs.size + 1) c1 c2 l1 l2 xs ys 0→h'.objs.size=s.heap.objs.size + 5 →
   (∀ c o,s.heap.get? c=some o→h'.get? c=some o)→Q (.ref (s.heap.objs.size + 4)) { s with heap:=h' }):wpAny (model prog w) A (call (.type "zip") [.ref l1,.ref l2]) Q E s:=by
 refine callType_new F.called_zip (by decide) (F.typeCall_zip_2 _ _) (F.newCall_zip_2 _ _) (fun obj=>F.args_object_init_3 obj _ _) F.entry_zip_new (aX c1 c2 l1 l2 xs ys) ⟨hl1,hl2,?_⟩
 have z1:(zH1 s.heap c1 l1).objs.size=s.heap.objs.size + 1:=Bh ..
 have z2:(zH2 s.heap c1 c2 l1 l2).objs.size=s.heap.objs.size + 2:=by rw [Bh,z1]
 have z3:(zH3 s.heap c1 c2 l1 l2).objs.size=s.heap.objs.size + 3:=by rw [Bh,z2]
 have z4:(zH4 s.heap c1 c2 l1 l2).objs.size=s.heap.objs.size + 4:=by rw [Bh,z3]
 have z5:(zH5 s.heap c1 c2 l1 l2).objs.size=s.heap.objs.size + 5:=by rw [Bh,z4]
 have g5:(zH5 s.heap c1 c2 l1 l2).get? (zH4 s.heap c1 c2 l1 l2).objs.size=some _:=Ao _ rfl
 have g4:(zH5 s.heap c1 c2 l1 l2).get? (zH3 s.heap c1 c2 l1 l2).objs.size=some _:=Ac _ (Ao _ rfl)
 have g3:(zH5 s.heap c1 c2 l1 l2).get? (zH2 s.heap c1 c2 l1 l2).objs.size=some _:=Ac _ (Ac _ (Ao _ rfl))
 have g2:(zH5 s.heap c1 c2 l1 l2).get? (zH1 s.heap c1 l1).objs.size=some _:=Ac _ (Ac _ (Ac _ (Ao _ rfl)))
 have g1:(zH5 s.heap c1 c2 l1 l2).get? s.heap.objs.size=some _:=Ac _ (Ac _ (Ac _ (Ac _ (Ao _ rfl))))
 show _∧_
 rw [z2,z3,z4] at g5
 rw [z1,z2] at g3
 rw [z3] at g4
 rw [z1] at g2
 rw [z4]
 have old:∀ c o,s.heap.get? c=some o→(zH5 s.heap c1 c2 l1 l2).get? c=some o:=fun c o x=>Ac _ (Ac _ (Ac _ (Ac _ (Ac _ x))))
 refine ⟨⟨_,g5,rfl⟩,h _ ⟨g5,g3,⟨_,_,g4⟩,?_,?_⟩ z5 old⟩
 ·rcases hl1 with ⟨rfl,x⟩ | ⟨rfl,x⟩
  ·exact .inl ⟨rfl,⟨_,g1,rfl,rfl⟩,x.at fun o e=>old _ o e⟩
  ·exact .inr ⟨rfl,⟨_,g1,rfl,rfl⟩,x.at fun o e=>old _ o e⟩
 ·rcases hl2 with ⟨rfl,x⟩ | ⟨rfl,x⟩
  ·exact .inl ⟨rfl,⟨_,g2,rfl,rfl⟩,x.at fun o e=>old _ o e⟩
  ·exact .inr ⟨rfl,⟨_,g2,rfl,rfl⟩,x.at fun o e=>old _ o e⟩
end
theorem Inv.turnedT {X:Cx}{pins:List (Addr × Obj)}{σ:St}{H:Hp}{s:Shared}{fp:List Addr}{h':Heap}{T:Addr}{xs:List V}{us:List Value}{t':Nat}(I:Inv X pins σ H s)(f:∀ b ∈ fp,yU X pins H b)
  (k:∀ c o,c ∉ fp→s.heap.get? c=some o→h'.get? c=some o) (hT:s.heap.objs.size ≤ T) (hz:xs.length ≤ sizeLine) (r:Vals xs us) (hp:IsTup h' T us.toArray) (hTf:T ∉ fp) :
  Inv X pins σ (upd H T (.tup xs)) { s with heap:=h',toks:=t' }:=by
 have hn:H T=none:=I.hok.fresh hT
 have nfp:∀ a o,H a=some o→a ∉ fp:=fun a o e hb=>by have:=(f a hb).1;rw [e] at this;cases this
 have hTn:∀ b o,s.heap.get? b=some o→b ≠ T:=fun b o e=>A0 (A8 (Am e) hT)
 refine I.call' (s':={ s with heap:=h',toks:=t' }) (ch:=fp) rfl ⟨fun b o q n _ hx=>k b o hx q,fun b o q n _ hx=>⟨o.slots,k b o hx q⟩,fun b o q n _=>by rw [q9 (hTn b o q)];exact n,fun b o q hx=>⟨o,k b o hx q⟩,
  fun b ys q=>by rw [q9 (qC q hn)];exact q,fun b o ys q=>by rw [q9 (qC q hn)];exact q,fun b ps q=>⟨#[],by rw [q9 (qC q hn),q];simp⟩⟩ (fun a o e=>?_) I.bare (fun b hb=>?_)
 ·by_cases ha:a=T
  ·subst ha
   rw [qF] at e
   cases e
   exact ⟨hz,us,r,hp⟩
  ·rw [q9 ha] at e
   refine (I.hok a o e).stay (fun b u hb q=>k b u ?_ q) (fun b q=>by rw [q9 (qC q hn)];exact q) fun b ys q=>by rw [q9 (qC q hn)];exact q
   rcases hb with rfl | hb
   ·exact nfp b o e
   ·exact nfp b _ hb
 ·obtain ⟨f0,f1,f2,f3,f4,f5⟩:=f b hb
  exact ⟨f3,f1,f4,f5⟩
theorem Inv.turnedN {X:Cx}{pins:List (Addr × Obj)}{σ:St}{H:Hp}{s:Shared}{fp:List Addr}{h':Heap}{t':Nat}(I:Inv X pins σ H s)(f:∀ b ∈ fp,yU X pins H b)
  (k:∀ c o,c ∉ fp→s.heap.get? c=some o→h'.get? c=some o):Inv X pins σ H { s with heap:=h',toks:=t' }:=by
 have nfp:∀ a o,H a=some o→a ∉ fp:=fun a o e hb=>by have:=(f a hb).1;rw [e] at this;cases this
 refine I.call' (s':={ s with heap:=h',toks:=t' }) (ch:=fp) rfl ⟨fun b o q n _ hx=>k b o hx q,fun b o q n _ hx=>⟨o.slots,k b o hx q⟩,fun b o q n _=>n,fun b o q hx=>⟨o,k b o hx q⟩,fun b ys q=>q,fun b o ys q=>q,fun b ps q=>⟨#[],by rw [q];simp⟩⟩ (fun a o e=>?_) I.bare (fun b hb=>?_)
 ·refine (I.hok a o e).stay (fun b u hb q=>k b u ?_ q) (fun b q=>q) fun b ys q=>q
  rcases hb with rfl | hb
  ·exact nfp b o e
  ·exact nfp b _ hb
 ·obtain ⟨f0,f1,f2,f3,f4,f5⟩:=f b hb
  exact ⟨f3,f1,f4,f5⟩
noncomputable def lD (H:Hp)(c:String)(a:Addr)(xs:List V):Prop:=(c = "list_iterator" ∧ H a=some (.lst xs))∨(c = "tuple_iterator" ∧ H a=some (.tup xs))
theorem Inv.seqOf {X:Cx}{pins:List (Addr × Obj)}{σ:St}{H:Hp}{s:Shared}{c:String}{a:Addr}{xs:List V}(I:Inv X pins σ H s)(h:lD H c a xs):∃ its:List Value,Vals xs its∧SeqOf s.heap c a its.toArray:=by
 rcases h with ⟨rfl,h⟩ | ⟨rfl,h⟩
 ·obtain ⟨its,r,p,_⟩:=I.list (SqL.of h)
  exact ⟨its,r,.inl ⟨rfl,p.isList⟩⟩
 ·obtain ⟨its,r,p,_⟩:=I.tuple (SqT.of h)
  exact ⟨its,r,.inr ⟨rfl,p⟩⟩
noncomputable def Itz (c1 c2:String)(a b:Addr)(xs ys:List V):It :=
 ⟨fun i H=>lD H c1 a xs∧lD H c2 b ys∧i < xs.length∧i < ys.length,fun i H x H'=>∃ T u v,x = .ref T∧H T=none∧H'=upd H T (.tup [u,v])∧xs[i]? = some u∧ys[i]? = some v,fun i H=>lD H c1 a xs∧lD H c2 b ys∧(xs.length ≤ i∨ys.length ≤ i)⟩
structure Zt (h:Heap)(z TI TO i1 i2:Addr)(c1 c2:String)(l1 l2:Addr)(k:Nat):Prop where
 zip:IsZip h z TI TO .none
 ti:IsPair h TI (.ref i1) (.ref i2)
 to:∃ a b,IsPair h TO a b
 s1:(c1 = "list_iterator" ∧ h.IsListIter i1 l1 k)∨(c1 = "tuple_iterator" ∧ h.IsTupleIter i1 l1 k)
 s2:(c2 = "list_iterator" ∧ h.IsListIter i2 l2 k)∨(c2 = "tuple_iterator" ∧ h.IsTupleIter i2 l2 k)
theorem fF {h:Heap}{c:String}{it l:Addr}{xs:Array Value}{k:Nat}(a:(c = "list_iterator" ∧ h.IsListIter it l k)∨(c = "tuple_iterator" ∧ h.IsTupleIter it l k)) (b:SeqOf h c l xs):Src h c it l xs k:=by
 rcases a with ⟨rfl,a⟩ | ⟨rfl,a⟩ <;> rcases b with ⟨e,b⟩ | ⟨e,b⟩
 ·exact .inl ⟨rfl,a,b⟩
 ·exact absurd e (by decide)
 ·exact absurd e (by decide)
 ·exact .inr ⟨rfl,a,b⟩
theorem bK {h:Heap}{c:String}{it l:Addr}{xs:Array Value}{k:Nat}(a:Src h c it l xs k):(c = "list_iterator" ∧ h.IsListIter it l k)∨(c = "tuple_iterator" ∧ h.IsTupleIter it l k):=by
 rcases a with ⟨e,a,_⟩ | ⟨e,a,_⟩
 ·exact .inl ⟨e,a⟩
 ·exact .inr ⟨e,a⟩
theorem mK {h h':Heap}{c:String}{it l:Addr}{k:Nat}(a:(c = "list_iterator" ∧ h.IsListIter it l k)∨(c = "tuple_iterator" ∧ h.IsTupleIter it l k)) (q:∀ o,h.get? it=some o→h'.get? it=some o):(c = "list_iterator" ∧ h'.IsListIter it l k)∨(c = "tuple_iterator" ∧ h'.IsTupleIter it l k):=by
 rcases a with ⟨e,o,a,r⟩ | ⟨e,o,a,r⟩
 ·exact .inl ⟨e,o,q o a,r⟩
 ·exact .inr ⟨e,o,q o a,r⟩
theorem nS {h:Heap}{c:String}{it l:Addr}{k:Nat}(a:(c = "list_iterator" ∧ h.IsListIter it l k)∨(c = "tuple_iterator" ∧ h.IsTupleIter it l k)):∃ o,h.get? it=some o∧∀ v,o.data ≠ .cell v:=by
 rcases a with ⟨_,o,e,_,d⟩ | ⟨_,o,e,_,d⟩ <;> exact ⟨o,e,fun v z=>by rw [d] at z;cases z⟩
theorem mm1 {α:Type}{a b:α}{l:List α}:b ∈ a :: b :: l:=.tail _ (.head _)
theorem mm2 {α:Type}{a b c:α}{l:List α}:c ∈ a :: b :: c :: l:=.tail _ mm1
theorem mm3 {α:Type}{a b c d:α}{l:List α}:d ∈ a :: b :: c :: d :: l:=.tail _ mm2
theorem mm4 {α:Type}{a b c d e:α}{l:List α}:e ∈ a :: b :: c :: d :: e :: l:=.tail _ mm3
theorem mm45 {α:Type}{c z t:α}{l:List α}(h:c ∈ z :: l):c ∈ z :: t :: l:=by
 cases h with
 | head=>exact .head _
 | tail _ h=>exact .tail _ (.tail _ h)
theorem rF {α:Type}{l:List α}{n i:Nat}(e:n=l.length)(q:n ≤ i):l.toArray[i]? = none:=by subst e;simp;omega
theorem dat_f {v:Option Value}{xs:Array Value}:Data.fields xs ≠ Data.cell v:=fun q=>by cases q
theorem iE {h:Heap}{z TI TO i1 i2 l1 l2:Addr}{c1 c2:String}{i:Nat}(st:Zt h z TI TO i1 i2 c1 c2 l1 l2 i):∀ b ∈ [z,TI,TO,i1,i2],∃ o,h.get? b=some o∧∀ v,o.data ≠ .cell v:=by
 obtain ⟨hz,hti,⟨a,c,hto⟩,h1,h2⟩:=st
 exact BY.2 ⟨⟨_,hz,fun _=>dat_f⟩,BY.2 ⟨⟨_,hti,fun v q=>by cases (show Data.seq _ _=Data.cell v from q)⟩,BY.2 ⟨⟨_,hto,fun v q=>by cases (show Data.seq _ _=Data.cell v from q)⟩,BY.2 ⟨nS h1,BY.2 ⟨nS h2,fun _ q=>nomatch q⟩⟩⟩⟩⟩
theorem ob_lt {h:Heap}{fp:List Addr}(k:∀ b ∈ fp,∃ o,h.get? b=some o∧∀ v,o.data ≠ .cell v):∀ b ∈ fp,b < h.objs.size:=fun b hb=>let ⟨_,e,_⟩:=k b hb;Am e
theorem iL {P:Program}{w:World}{K:PySem.W.Frag}{es:List Expr}{tk:_}{tp:Pos}(z TI TO i1 i2 l1 l2:Addr)(c1 c2:String)(xs ys:List V)(D:ZipApart z TI TO i1 i2 l1 l2) :
  Turn P w K (.Tuple es tk tp) (Itz c1 c2 l1 l2 xs ys) [z,TI,TO,i1,i2] z (fun i h=>Zt h z TI TO i1 i2 c1 c2 l1 l2 i) where
 mem:=.head _
 obj:=fun i h st=>iE st
 keep:=fun i h h' st k=>by
  obtain ⟨hz,hti,⟨a,c,hto⟩,h1,h2⟩:=st
  exact ⟨k z (.head _) _ hz,k TI mm1 _ hti,⟨a,c,k TO mm2 _ hto⟩,mK h1 fun o e=>k i1 mm3 o e,mK h2 fun o e=>k i2 mm4 o e⟩
 item:=by
  intro X hP hw hK hc i pins s σ H E I hf st hg
  subst hP hw hK
  obtain ⟨q1,q2,hi1,hi2⟩:=hg
  obtain ⟨its1,r1,e1⟩:=I.seqOf q1
  obtain ⟨its2,r2,e2⟩:=I.seqOf q2
  obtain ⟨x,hx⟩:=g9 hi1
  obtain ⟨y,hy⟩:=g9 hi2
  obtain ⟨u,hu,ru⟩:=r1.get hx
  obtain ⟨v,hv,rv⟩:=r2.get hy
  obtain ⟨hz,hti,hto,h1,h2⟩:=id st
  refine zs_item D ⟨hz,hti,hto,fF h1 e1,fF h2 e2⟩ (by simpa using hu) (by simpa using hv) fun h' z' ti' to' s1' s2' new szn k=>?_
  have kk:∀ c o,c ∉ [z,TI,TO,i1,i2]→s.heap.get? c=some o→h'.get? c=some o:=fun c o hc e=>k c o (fun q=>hc (mm45 q)) e
  have lt:=ob_lt (iE st)
  refine ⟨_,rfl,wpAny_letOwnedTupleGo_zip z' fun h'' z'' sb=>?_⟩
  have nT:s.heap.objs.size ∉ [z,TI,TO,i1,i2]:=fun hb=>BA _ (lt _ hb)
  have nTz:s.heap.objs.size ≠ z:=fun q=>nT (q ▸ .head _)
  have J:=I.turnedT (fp:=[z,TI,TO,i1,i2]) (h':=h'') (T:=s.heap.objs.size) (xs:=[x,y]) (us:=[u,v]) (t':=s.toks) hf (fun c o hc e=>sb.extBut _ _ (fun q=>hc (q ▸ .head _)) (kk c o hc e)) (Ak _) (by show 2 ≤ sizeLine;decide) (.cons ru (.cons rv .nil))
   ⟨_,sb.extBut _ _ nTz new,rfl,_,rfl⟩ nT
  refine ⟨.ref s.heap.objs.size,_,J,rfl,⟨_,x,y,rfl,I.hok.fresh (Ak _),rfl,hx,hy⟩,⟨z'',sb.extBut _ _ D.TIz ti',⟨_,_,sb.extBut _ _ D.TOz to'⟩,mK (bK s1') fun o e=>sb.extBut _ _ D.i1z e,mK (bK s2') fun o e=>sb.extBut _ _ D.i2z e⟩,fun b hb=>?_⟩
  rw [q9 (A0 (lt b hb))]
  exact (hf b hb).1
 done:=by
  intro X hP hw hK hc i pins s σ H E I hf st hg
  subst hP hw hK
  obtain ⟨q1,q2,hend⟩:=hg
  obtain ⟨its1,r1,e1⟩:=I.seqOf q1
  obtain ⟨its2,r2,e2⟩:=I.seqOf q2
  obtain ⟨hz,hti,hto,h1,h2⟩:=id st
  refine zs_end (I.ok.hd hc) D ⟨hz,hti,hto,fF h1 e1,fF h2 e2⟩ (hend.imp (rF r1.length) (rF r2.length)) fun h' k=>?_
  exact ⟨rfl,I.turnedN (fp:=[z,TI,TO,i1,i2]) hf fun c o hc e=>k c o (fun q=>hc (mm45 q)) e⟩
 self:=fun A i s Q E st h=>wpAny_pyIter_zip st.zip h
theorem bt_zip:bootBuiltins "zip" = some (.type "zip"):=by decide +kernel
section
variable {X:Cx}
noncomputable def iZip (ta:TA):TI:=fun σ H R=>ta σ H fun vs H1=>∃ a b c1 c2 xs ys,vs=[.ref a,.ref b]∧lD H1 c1 a xs∧lD H1 c2 b ys∧R (Itz c1 c2 a b xs ys) H1
theorem gZ {es:List Expr}{kk:_}{tp:Pos}{a b:Expr}{ta:TA}{p pos:Pos}(hg:Gl X "zip") (hm:X.mg "zip" = none) (ha:PA X [a,b] ta) (hs:starEach [a,b] X.env=[(false,eval a X.env),(false,eval b X.env)]:=by rfl) (hs2:starEach [b] X.env=[(false,eval b X.env)]:=by rfl) :
  PI X (.Tuple es kk tp) (.Call (.Name "zip" p) [a,b] [] pos) (iZip ta):=by
 intro pins s σ H R I h
 refine Call_ (xA I hg hm bt_zip (Bd (jM (ha pos pins s σ H _ I h) fun us s1 ⟨vs,H1,I1,r1,q1⟩=>?_) (by rw [hs,hs2]) (by rw [hs2];rfl)))
 obtain ⟨l1,l2,c1,c2,xs,ys,e,k1,k2,q⟩:=q1
 subst e
 obtain ⟨u1,u2,rfl,e1,e2⟩:=r1.two
 cases e1
 cases e2
 obtain ⟨its1,v1,o1⟩:=I1.seqOf k1
 obtain ⟨its2,v2,o2⟩:=I1.seqOf k2
 have lt1:(l1:Nat) < (s1.heap.objs.size:Nat):=o1.lt
 have lt2:(l2:Nat) < (s1.heap.objs.size:Nat):=o2.lt
 refine call_zip o1 o2 fun h' Z sz old=>wpAny_pyIter_zip Z.zip ?_
 have D:ZipApart (s1.heap.objs.size + 4) (s1.heap.objs.size + 2) (s1.heap.objs.size + 3) s1.heap.objs.size (s1.heap.objs.size + 1) l1 l2:=PySem.W.ktu_apart _ _ _ o1.lt o2.lt
 have J:Inv X pins σ H1 { s1 with heap:=h' }:=I1.kept (t':=s1.toks) old
 refine ⟨s1.heap.objs.size + 4,_,_,_,H1,rfl,J,iL _ _ _ _ _ l1 l2 c1 c2 xs ys D,⟨Z.zip,Z.ti,Z.to,bK Z.s1,bK Z.s2⟩,fun b hb=>?_,q⟩
 have hb':s1.heap.objs.size ≤ b:=by
  simp only [A4,Ck,or_false] at hb
  rcases hb with rfl | rfl | rfl | rfl | rfl <;> omega
 exact I1.fpOk hb' (I1.hok.fresh hb')
theorem a_iZip {ta:TA}{σ:St}{H:Hp}{R:It→Hp→Prop}:iZip ta σ H R=ta σ H fun vs H1=>∃ a b c1 c2 xs ys,vs=[.ref a,.ref b]∧lD H1 c1 a xs∧lD H1 c2 b ys∧R (Itz c1 c2 a b xs ys) H1:=rfl
end
theorem fQ {c1 c2:String}{a b:Addr}{xs ys:List V}{g:TG}{tc:TT}{tb:TB}{D:St→Hp→Prop}{σ:St}{H:Hp}(Pv:Nat→St→Hp→Prop)(h0:Pv 0 σ H)(hl:∀ i σ H,Pv i σ H→lD H c1 a xs∧lD H c2 b ys)
  (hs:∀ (i:Nat) u v (T:Addr) σ H H',xs[i]? = some u→ys[i]? = some v→Pv i σ H→H T=none→Same H H'→H' T=some (.tup [u,v])→g (.ref T) σ H' fun σ2 H2=>tc σ2 H2 fun b H3=>if b=true then tb σ2 H3 (Pv (i + 1)) else Pv (i + 1) σ2 H3)
  (hd:∀ σ H,Pv (min xs.length ys.length) σ H→D σ H):m3 (Itz c1 c2 a b xs ys) g tc tb D σ H:=by
 refine ⟨fun i m σ H=>m=min xs.length ys.length - i∧i ≤ min xs.length ys.length∧Pv i σ H,⟨min xs.length ys.length,by simp,AJ _,h0⟩,?_⟩
 rintro i m σ H ⟨rfl,hi,p⟩
 obtain ⟨q1,q2⟩:=hl i σ H p
 by_cases hlt:i < min xs.length ys.length
 ·refine .inr ⟨⟨q1,q2,by omega,by omega⟩,Pv (i + 1),fun σ' H' p'=>⟨min xs.length ys.length - (i + 1),by omega,rfl,hlt,p'⟩,fun x H' y=>?_⟩
  obtain ⟨T,u,v,rfl,n,rfl,e1,e2⟩:=y
  exact hs i u v T σ H _ e1 e2 p n (kI n) qF
 ·have e:i=min xs.length ys.length:=by omega
  subst e
  exact .inl ⟨⟨q1,q2,by omega⟩,hd σ H p⟩
section
variable {X:Cx}
noncomputable def tQ:V→Option Int→Option Int→Hp→VK→Prop:=fun x lo hi H Q=>∃ a xs,x = .ref a∧H a=some (.lst xs)∧∀ p,H p=none→Q (.ref p) (upd H p (.lst (zI xs lo hi)))
theorem rZ:SlR X tQ:=fun pins s σ H x v vl vu lo hi sl Q I rx hs pl pu h=>by
 obtain ⟨a,xs,e,k,q⟩:=h
 exact sl_list pins s σ H x v vl vu lo hi sl Q I rx hs pl pu ⟨a,xs,e,SqL.of k,q⟩
theorem a_tSl {r:V→Option Int→Option Int→Hp→VK→Prop}{te:TE}{tl th:TO}{σ:St}{H:Hp}{Q:VK}:tSl r te tl th σ H Q=te σ H fun x H1=>tl σ H1 fun l H2=>th σ H2 fun u H3=>r x l u H3 Q:=rfl
theorem a_rSlL0 {x:V}{lo hi:Option Int}{H:Hp}{Q:VK}:tQ x lo hi H Q = ∃ a xs,x = .ref a∧H a=some (.lst xs)∧∀ p,H p=none→Q (.ref p) (upd H p (.lst (zI xs lo hi))):=rfl
theorem eY {σ:St}{H:Hp}{q:Option Int→Hp→Prop}:wB σ H q=q none H:=rfl
theorem a_tPart {t:TE}{σ:St}{H:Hp}{q:Option Int→Hp→Prop}:tF t σ H q=t σ H fun x H1=>∃ i,x = .int i∧q (some i) H1:=rfl
noncomputable def tApp (to:TE)(t:TA):TE:=fun σ H Q=>to σ H fun x H1=>∃ l xs0,x = .ref l∧H1 l=some (.lst xs0)∧t σ H1 fun vs H2=>∃ xs y,vs=[y]∧H2 l=some (.lst xs)∧xs.length < sizeLine∧Q .non (upd H2 l (.lst (xs ++ [y])))
theorem gG {o e:Expr}{to:TE}{t:TA}{apos cpos:Pos}(ho:PE X o to)(ha:PA X [e] t)(hbase:attributeBase o "append" X.env (eval o X.env)=eval o X.env:=by rfl)
  (hfew:((backTo cpos (starEach [e] X.env)).all (fun x=>!x.1) && (backToKw cpos (keywordEach [] X.env)).all (fun x=>x.1.isSome) && decide ([e].length + ([] : List Keyword).length + (if ([] : List Keyword).isEmpty then 0 else 1) < 30))=true:=by rfl)
  (hline:(apos.endLine == cpos.line)=true:=by rfl) (hs:starEach [e] X.env=(false,eval e X.env) :: starEach [] X.env:=by rfl):PE X (.Call (.Attribute o "append" apos) [e] [] cpos) (tApp to t):=by
 intro pins s σ H Q I h
 refine wpAny_Call_method_late hbase hfew hline rfl (jM (ho pins s σ H _ I h) fun v s1 ⟨x,H1,I1,r1,q1⟩=>?_)
 obtain ⟨l,xs0,rfl,hl,q1⟩:=q1
 have ty:tyV X.K "list" (.ref l) H1:=.inl ⟨rfl,_,SqL.of hl⟩
 obtain ⟨h1,h2⟩:=tyV_is I1 r1 ty
 refine ⟨"list", "list.append",PySem.F.plainAttrs_list,PySem.F.slot_list_append,PySem.F.type_list_append,h1,h2,?_⟩
 have hA:=ha cpos pins s1 σ H1 _ I1 q1
 rw [hs] at hA ⊢
 refine Calls.callWith_builtin (by rfl) (Calls.evalArgs_plain ?_)
 exact jM hA fun us s2 ⟨vs,H2,I2,r2,xs,y,e,k,z,q⟩=>mE pins s2 σ H2 (.ref l) vs v us Q I2 r1 r2 ⟨l,xs,y,rfl,e,k,z,q⟩
theorem a_tApp {to:TE}{t:TA}{σ:St}{H:Hp}{Q:VK}:tApp to t σ H Q=to σ H fun x H1=>∃ l xs0,x = .ref l∧H1 l=some (.lst xs0)∧t σ H1 fun vs H2=>∃ xs y,vs=[y]∧H2 l=some (.lst xs)∧xs.length < sizeLine∧Q .non (upd H2 l (.lst (xs ++ [y]))):=rfl
end
section
variable {X:Cx}
theorem max_gen (hc:X.calm=true){pins:List (Addr × Obj)}{σ:St}{H:Hp}{s:Shared}{p:Addr}{ns:List Int}{Q:VK}(I:Inv X pins σ H s)(hq:sq H p=some (ns.map V.int))(hne:ns ≠ [])
  (q:∀ m,m ∈ ns→(∀ x ∈ ns,x ≤ m)→Q (.int m) H):wpAny (model X.prog X.w) X.A (call (.builtin "max") [.ref p]) (EP X pins σ Q) X.xe s:=by
 have hp:0 < ns.length:=List.length_pos_iff.mpr hne
 refine call_max_walk (I.walk hc hq fun it its s2 St fp rv W st hfp hsz J=>?_)
 have hl:=rv.length
 rw [Aa] at hl
 refine ⟨it,fp,[it],its.length,_,St,_,rfl,W,st,hfp,by omega,CmpOf.ints_gt (fun i=>ns.getD i 0) fun i v hv=>zW rv hv,fun v h' tk hv k=>?_⟩
 obtain ⟨a1,a2⟩:=argBest_gt (fun i=>ns.getD i 0) (its.length - 1)
 obtain ⟨t,rfl⟩:=zW rv hv
 generalize argBest (fun i j=>decide (ns.getD i 0 > ns.getD j 0)) (its.length - 1)=j at a1 a2 hv ⊢
 have hj:j < ns.length:=by omega
 have e:ns.getD j 0=ns[j]:=by simp [Ab,hj]
 refine ⟨.int ns[j],H,J h' tk k,⟨t,by rw [e]⟩,q _ (AE hj) fun x hx=>?_⟩
 obtain ⟨i,hi,rfl⟩:=List.mem_iff_getElem.mp hx
 have:=a2 i (by omega)
 simp only [Ab,Af hi,Af hj,Option.getD_some] at this
 exact this
theorem aY (hc:X.calm=true):yP X (.builtin "max") (fun xs H Q=>∃ (p:Addr) (ns:List Int),xs=[.ref p]∧sq H p=some (ns.map V.int)∧ns ≠ []∧∀ m,m ∈ ns→(∀ x ∈ ns,x ≤ m)→Q (.int m) H):=by
 intro pins s σ H xs us Q I r h
 obtain ⟨p,ns,rfl,hq,hne,q⟩:=h
 obtain ⟨u,rfl,ru⟩:=r.one
 cases ru
 exact max_gen hc I hq hne q
noncomputable def rCatA:R2:=fun x y H Q=>∃ a b xs ys,x = .ref a∧y = .ref b∧H a=some (.tup xs)∧H b=some (.tup ys)∧xs.length + ys.length ≤ sizeLine∧∀ (p:Addr) (H':Hp),Same H H'→H' p=some (.tup (xs ++ ys))→Q (.ref p) H'
theorem bY:xZ X (binaryOp .Add) rCatA:=by
 intro pins s σ H x y v u Q I rx ry h
 obtain ⟨a,b,xs,ys,rfl,rfl,ha,hb,hz,q⟩:=h
 by_cases hx:xs=[]
 ·cases rx
  cases ry
  obtain ⟨its,r1,p1,_⟩:=I.tuple (SqT.of ha)
  obtain ⟨its2,r2,p2,_⟩:=I.tuple (SqT.of hb)
  have e1:its=[]:=r1.nil_iff.mpr hx
  obtain ⟨⟨c1,d1,da1,sl1⟩,o1,k1,n1,g1⟩:=id p1
  obtain ⟨⟨c2,d2,da2,sl2⟩,o2,k2,n2,g2⟩:=id p2
  simp only at k1 g1 k2 g2
  subst k1 g1 k2 g2
  refine concat_meets ⟨_,o1,rfl⟩ ⟨_,o2,rfl⟩ noFill_tuple_add seq_tuple_add F.slot_tuple_add F.entry_tuple_add (F.args_tuple_add_2 _ _) (tuple_addW0 a b its.toArray its2.toArray n1 n2 d1 d2 sl1 sl2 (by simp [e1])) ⟨o1,o2,?_⟩
  subst hx
  exact ⟨.ref b,H,I,rfl,q b H (Same.refl H) hb⟩
 ·refine op_catT pins s σ H (.ref a) (.ref b) v u Q I rx ry ⟨a,b,xs,ys,rfl,rfl,SqT.of ha,SqT.of hb,hx,hz,fun e=>?_,fun _ p np=>q p _ (kI np) qF⟩
  subst e
  exact q a H (Same.refl H) (by rw [B2];exact ha)
theorem a_rCatA {x y:V}{H:Hp}{Q:VK}:rCatA x y H Q = ∃ a b xs ys,x = .ref a∧y = .ref b∧H a=some (.tup xs)∧H b=some (.tup ys)∧xs.length + ys.length ≤ sizeLine∧∀ (p:Addr) (H':Hp),Same H H'→H' p=some (.tup (xs ++ ys))→Q (.ref p) H':=rfl
noncomputable def tS:R2:=fun x y H Q=>∃ l b xs zs,x = .ref l∧y = .ref b∧H l=some (.lst xs)∧H b=some (.lst zs)∧xs.length + zs.length ≤ sizeLine∧∀ (p:Addr) (H':Hp),H p=none→Same H H'→H' p=some (.lst (xs ++ zs))→Q (.ref p) H'
theorem vJ:xZ X (binaryOp .Add) tS:=fun pins s σ H x y v u Q I rx ry h=>by
 obtain ⟨l,b,xs,zs,e1,e2,h1,h2,hz,q⟩:=h
 exact op_cat pins s σ H x y v u Q I rx ry ⟨l,b,xs,zs,e1,e2,h1,h2,hz,fun p np=>q p _ np (kI np) qF⟩
theorem a_rCatL {x y:V}{H:Hp}{Q:VK}:tS x y H Q = ∃ l b xs zs,x = .ref l∧y = .ref b∧H l=some (.lst xs)∧H b=some (.lst zs)∧xs.length + zs.length ≤ sizeLine∧∀ (p:Addr) (H':Hp),H p=none→Same H H'→H' p=some (.lst (xs ++ zs))→Q (.ref p) H':=rfl
end
section
variable {prog:Program}{w:World}{A:Around}{E:Value→Shared→Prop}{s:Shared}
theorem aA {t sl:Addr}{items:Array Value}{vl vu:Value}{lo hi:Option Int}{Q:Value→Shared→Prop}(ht:IsTup s.heap t items)(hs:s.heap.IsSliceOf sl vl vu .none)(pl:IsPart vl lo)(pu:IsPart vu hi)
  (hw:HT.sIx items.size 0 lo=0∧HT.sIx items.size items.size hi=items.size) (h:Q (.ref t) s):wpAny (model prog w) A (getItem (.ref t) (.ref sl)) Q E s:=by
 obtain ⟨os,hos,hcs,hds⟩:=id hs
 have kind:s.TypeIs (.ref sl) "slice" := ⟨os,hos,hcs⟩
 unfold getItem
 try with_reducible refine wpAny_holding ?_
 first | refine wpAny_bind (wpAny_pure ?_) | skip
 refine wpAny_bind (wpAny_sequenceKey ht.typeIs (by decide) ?_)
 refine wpAny_bind (wpAny_callSpecial?_slot (name:=Str.ofString "__getitem__") ht.typeIs slot_tuple_getitem (wpAny_call_entry slot_tuple_getitem ht.typeIs entry_tuple_getitem ?_ (args_tuple_getitem _ _)))
 show wpAny _ _ (Builtin.Tuple.tupleItemsOf (.ref t) >>= _) _ _ s
 refine wpAny_bind (tupleItemsOf_ ht (wpAny_bind (wpAny_typeOf kind ?_)))
 rw [Ai (by decide)]
 refine wpAny_bind (HT.sliceApplied_gen hs pl pu ?_)
 rw [hw.1,hw.2]
 have yes:((((0:Nat):Int) == 0 && (1:Int) == 1 && (items.size - 0) == items.size)=true):=by simp
 show wpAny _ _ (if ((((0:Nat):Int) == 0 && (1:Int) == 1 && (items.size - 0) == items.size)=true) then _ else _) _ _ s
 rw [Ai yes]
 unfold Builtin.Tuple.tupleIsExact
 refine wpAny_bind (wpAny_bind (wpAny_typeOf ht.typeIs (wpAny_pure ?_)))
 rw [Ai (by decide)]
 exact wpAny_bind (wpAny_rule (wpAny_pure ⟨_,rfl,wpAny_pure h⟩))
end
section
variable {X:Cx}
noncomputable def rSlA:V→Option Int→Option Int→Hp→VK→Prop:=fun x lo hi H Q=>∃ a xs,x = .ref a∧H a=some (.tup xs)∧∀ (p:Addr) (H':Hp),Same H H'→H' p=some (.tup (zI xs lo hi))→Q (.ref p) H'
theorem eV {xs:List V}{lo hi:Option Int}(h:HT.sIx xs.length 0 lo=0∧HT.sIx xs.length xs.length hi=xs.length):zI xs lo hi=xs:=by
 unfold zI
 rw [h.1,h.2,CL,Dd,AG]
theorem h9:SlR X rSlA:=by
 intro pins s σ H x v vl vu lo hi sl Q I rx hs pl pu h
 obtain ⟨a,xs,rfl,hx,q⟩:=h
 by_cases hw:HT.sIx xs.length 0 lo=0∧HT.sIx xs.length xs.length hi=xs.length
 ·cases rx
  obtain ⟨its,r,ht,hz⟩:=I.tuple (SqT.of hx)
  have hlen:its.toArray.size=xs.length:=by rw [As];exact r.length.symm
  refine ⟨"tuple",_,slot_tuple_getitem.lookup,ht.typeIs,aA ht hs pl pu (by rw [hlen];exact hw) ?_⟩
  exact ⟨.ref a,H,I,rfl,q a H (Same.refl H) (by rw [eV hw];exact hx)⟩
 ·exact sl_tup pins s σ H (.ref a) v vl vu lo hi sl Q I rx hs pl pu ⟨a,xs,rfl,SqT.of hx,hw,fun p np=>q p _ (kI np) qF⟩
theorem a_rSlA {x:V}{lo hi:Option Int}{H:Hp}{Q:VK}:rSlA x lo hi H Q = ∃ a xs,x = .ref a∧H a=some (.tup xs)∧∀ (p:Addr) (H':Hp),Same H H'→H' p=some (.tup (zI xs lo hi))→Q (.ref p) H':=rfl
end
section
variable {prog:Program}{w:World}{A:Around}{E:Value→Shared→Prop}{s:Shared}
theorem rA {t:Addr}{vs:List Value}{Q:List Value→Shared→Prop}(ht:IsTup s.heap t vs.toArray)(hz:vs.length ≤ sizeLine)
  (h:Q vs { s with heap:=(s.heap.push (seqObj "list" #[] 0)).update s.heap.objs.size (Obj.mapSeq (· ++ vs.toArray)) }):wpAny (model prog w) A (collect (.ref t)) Q E s:=by
 obtain ⟨ot,hot,kt,nt,dt⟩:=id ht
 unfold collect
 refine wpAny_bind (wpAny_runValue (codeAny_builtin entry_proto_collect' (show wpAny _ _ (do again (.builtin "list.__iadd__" ⟨[← newList [],.ref t],[]⟩)) _ _ s from ?_)))
 refine wpAny_bind (wpAny_newList (wpAny_pure ⟨Code.quiet_builtin _ (by decide +kernel),codeAny_builtin entry_list_iadd' (show wpAny _ _ (Builtin.List.listExtendWith (.ref s.heap.objs.size) (.ref t) (.ref s.heap.objs.size)) _ _ { s with heap:=s.heap.push (seqObj "list" #[] 0) } from ?_)⟩))
 unfold Builtin.List.listExtendWith
 have old:(s.heap.push (seqObj "list" #[] 0)).get? t=some ot:=Ac _ hot
 refine wpAny_bind (wpAny_typeOf (T := "tuple") ⟨ot,old,kt⟩ ?_)
 have yes:(Value.type "tuple" == Value.type "tuple")=true:=by rfl
 rw [Ai (by rw [yes,Bool.or_true])]
 refine wpAny_bind (listItems_at old dt (wpAny_bind (listItems_at (xs := #[]) (n:=0) (Ao _ rfl) rfl ?_)))
 rw [Ah (by simp)]
 refine wpAny_bind (listUpdate_at (xs := #[]) (n:=0) (Ao _ rfl) rfl (wpAny_pure ?_) (AJ _) (by show (#[] ++ vs.toArray).size ≤ sizeLine + 1;rw [Array.size_append,As];simp;omega))
 show wpAny (model prog w) A (do { let o ← load s.heap.objs.size;match o.data with | .seq xs _=>pure xs.toList | _=>unsupported "internal:collect" }) Q E { s with heap:=(s.heap.push (seqObj "list" #[] 0)).update s.heap.objs.size (Obj.mapSeq (· ++ vs.toArray)) }
 refine wpAny_bind (wpAny_load (get?_update_seq (Ao _ rfl) _) (show wpAny _ _ (pure ((#[] : Array Value) ++ vs.toArray).toList) Q E _ from ?_))
 rw [show ((#[] : Array Value) ++ vs.toArray).toList=vs by simp]
 exact wpAny_pure h
end
section
variable {X:Cx}
end
noncomputable def gJ (e iter:Expr)(d:Nat)(acc:Value)(env:Env):Sem Unit:=do
 let x ← eval iter env
 standAt iter.pos
 let x ← foldedSetIterable iter env x
 let _ ← runOwn (.compStart e d (← holding [x] (pyIter x)) acc env) env
theorem rR (elt tg iter tg2 iter2:Expr)(ifs ifs2:List Expr)(rest:List Comprehension)(sc:Scope)(pos:Pos)(it acc:Value)(env:Env) :
  compTurn (.ListComp elt (⟨tg,iter,ifs,0⟩ :: ⟨tg2,iter2,ifs2,0⟩ :: rest) sc pos) 0 it acc env=(do
   standAt iter.pos
   match ← pyNext it with
   | none=>pure (.done .next)
   | some v =>
    letOwnedTupleGo tg it v
    assign tg env v
    let mut ok:=true
    for c in ifs do
     if ok then ok ← isTrue c env (eval c env)
    if ok then gJ (.ListComp elt (⟨tg,iter,ifs,0⟩ :: ⟨tg2,iter2,ifs2,0⟩ :: rest) sc pos) iter2 1 acc env
    again (.compLoop (.ListComp elt (⟨tg,iter,ifs,0⟩ :: ⟨tg2,iter2,ifs2,0⟩ :: rest) sc pos) 0 it acc env)):=by
 unfold gJ
 simp only [bind_assoc,pure_bind]
 rfl
theorem rS (elt tg iter tg2 iter2:Expr)(ifs ifs2:List Expr)(sc:Scope)(pos:Pos)(it acc:Value)(env:Env) :
  compTurn (.ListComp elt [⟨tg,iter,ifs,0⟩,⟨tg2,iter2,ifs2,0⟩] sc pos) 1 it acc env=(do
   standAt iter2.pos
   match ← pyNext it with
   | none=>pure (.done .next)
   | some v =>
    letOwnedTupleGo tg2 it v
    assign tg2 env v
    let mut ok:=true
    for c in ifs2 do
     if ok then ok ← isTrue c env (eval c env)
    if ok then (do let _ ← call (.builtin "list.append") [acc,← eval elt env])
    again (.compLoop (.ListComp elt [⟨tg,iter,ifs,0⟩,⟨tg2,iter2,ifs2,0⟩] sc pos) 1 it acc env)):=by rfl
section
variable {prog:Program}{w:World}{A:Around}{R:Result→Shared→Prop}{s:Shared}
theorem lM {elt:Expr}{gs:List Comprehension}{sc:Scope}{pos:Pos}{d:Nat}{g:Comprehension}{it acc:Value}{env:Env}(hg:gs[d]? = some g)(ha:g.is_async=0)
  (h0:codeAny (model prog w) A (.compLoop (.ListComp elt gs sc pos) d it acc env) R s)
  (h:wpAny (model prog w) A (pyIter it) (fun it' s'=>codeAny (model prog w) A (.compLoop (.ListComp elt gs sc pos) d it' acc env) R s') (notedBy (model prog w) A env fun x s'=>R (.error x) s') s) :
  codeAny (model prog w) A (.compStart (.ListComp elt gs sc pos) d it acc env) R s:=by
 refine codeAny_of_tree (show wpAny _ _ ((compStart (.ListComp elt gs sc pos) d it acc env).onRaise (fun x=>do noteFrame x env;standAt theWindowsPlace)) _ _ s from wpAny_notedAt ?_)
 unfold compStart
 have e:(clausesOf (.ListComp elt gs sc pos))[d]? = some g:=hg
 rw [e]
 have ea:(some g).elim false (fun x:Comprehension=>x.is_async != 0)=false:=by show (g.is_async != 0)=false;rw [ha];rfl
 rw [ea]
 refine wpAny_bind (wpAny_askSetting (wpAny_ite ?_))
 split
 ·first
   | exact wpAny_pure ⟨rfl,h0⟩
   | exact wpAny_bind (wpAny_pure (wpAny_pure ⟨rfl,h0⟩))
 ·exact wpAny_bind (wpAny_rule (wpAny_bind (wpAny_standAt (wpAny_bind (wpAny_mono h (fun it' s' h'=>wpAny_pure ⟨rfl,h'⟩) fun _ _ x=>x)))))
end
noncomputable def wY (wi:TI)(g:TG)(tc:TT)(tb:TB):TB:=fun σ H N=>wi σ H fun J H1=>m3 J g tc tb N σ H1
theorem oM {X:Cx}{elt tg iter:Expr}{ifs:List Expr}{gs:List Comprehension}{sc:Scope}{pos:Pos}{d:Nat}{acc:Value}{wi:TI}{g:TG}{tc:TT}{tb:TB}{body:Sem Unit}(hc:X.calm=true)(hx:X.xe=fun _ _=>False)(hgs:gs[d]? = some ⟨tg,iter,ifs,0⟩)
  (hi:PI X tg iter wi) (hg:PG X tg g) (hifs:cJ X ifs tc) (hb:PB X body tb)
  (heq:∀ it:Addr,compTurn (.ListComp elt gs sc pos) d (.ref it) acc X.env=(do
   standAt iter.pos
   match ← pyNext (.ref it) with
   | none=>pure (.done .next)
   | some v =>
    letOwnedTupleGo tg (.ref it) v
    assign tg X.env v
    let mut ok:=true
    for c in ifs do
     if ok then ok ← isTrue c X.env (eval c X.env)
    if ok then body
    again (.compLoop (.ListComp elt gs sc pos) d (.ref it) acc X.env)))
  (hs:∀ x,foldedSetIterable iter X.env x=pure x):PB X (gJ (.ListComp elt gs sc pos) iter d acc X.env) (wY wi g tc tb):=by
 intro pins s σ H N I q
 unfold gJ
 refine wpAny_bind (jM (hi pins s σ H _ I q) fun v s1 h1=>?_)
 refine wpAny_bind (wpAny_standAt (wpAny_bind (wpAny_of_eq (hs v) (wpAny_bind (wpAny_holding (jM h1 fun itv s2 h2=>?_))))))
 obtain ⟨it,fp,tn,J,H2,e2,I2,T,st2,f2,q2⟩:=h2
 subst e2
 have L:=yX (X:=X) (e:=.ListComp elt gs sc pos) (d:=d) (acc:=acc) (D:=N) (s:=s2) hc hx (heq it) rfl rfl rfl T hg hifs hb I2 st2 f2 q2
 refine wpAny_bind (wpAny_runOwn (lM hgs rfl ?_ ?_))
 ·refine codeAny_mono L fun r s' hr=>?_
  obtain ⟨rfl,σ',H',J',n'⟩:=hr
  exact wpAny_pure ⟨σ',H',J',n'⟩
 ·refine T.self X.A 0 s2 _ _ st2 ?_
  refine codeAny_mono L fun r s' hr=>?_
  obtain ⟨rfl,σ',H',J',n'⟩:=hr
  exact wpAny_pure ⟨σ',H',J',n'⟩
section
variable {X:Cx}
noncomputable def tLC2 (fr:List (Option Nat))(wi:TI)(g:TG)(tc:TT)(wi2:TI)(g2:TG)(tc2:TT)(te:TE):TE:=fun σ H Q=>wi σ H fun J H1=>∀ p,H1 p=none→m3 J g tc (wY wi2 g2 tc2 (y6 p te)) (fun _ H2=>Q (.ref p) H2) (cH fr σ) (upd H1 p (.lst []))
theorem pe_lc2 {N:List Str}{fr:List (Option Nat)}{tg iter tg2 iter2 elt:Expr}{ifs ifs2:List Expr}{sc:Scope}{pos:Pos}{cl:List (Str × Addr)}{wi wi2:TI}{g g2:TG}{tc tc2:TT}{te:TE}(hc:X.calm=true)(hi:PI X tg iter wi)(S:CScope X N fr sc)(hcl:xC sc.names X.env.cells [] = some cl)
  (hb:∀ s H ex,PG (wM X N sc cl s H ex) tg g∧cJ (wM X N sc cl s H ex) ifs tc∧PI (wM X N sc cl s H ex) tg2 iter2 wi2∧PG (wM X N sc cl s H ex) tg2 g2∧cJ (wM X N sc cl s H ex) ifs2 tc2∧PE (wM X N sc cl s H ex) elt te) (hs:∀ x,foldedSetIterable iter X.env x=pure x:=by intro _;rfl) (hs2:∀ env x,foldedSetIterable iter2 env x=pure x:=by intro _ _;rfl) :
  PE X (.ListComp elt [⟨tg,iter,ifs,0⟩,⟨tg2,iter2,ifs2,0⟩] sc pos) (tLC2 fr wi g tc wi2 g2 tc2 te):=by
 intro pins s σ H Q I h
 rw [eval_ListComp]
 refine pV (D:=fun J p σ H=>m3 J g tc (wY wi2 g2 tc2 (y6 p te)) (fun _ H2=>Q (.ref p) H2) σ H) rfl hi S hcl I h (fun it p fp tn J s1 s2 H1 σ1 T B st f d=>?_) hs
 obtain ⟨hg,hifs,hi2,hg2,hifs2,helt⟩:=hb s1 H1 fp
 have inn:=oM (X:=wM X N sc cl s1 H1 fp) (elt:=elt) (gs:=[⟨tg,iter,ifs,0⟩,⟨tg2,iter2,ifs2,0⟩]) (sc:=sc) (pos:=pos) (d:=1) (acc:=.ref p) hc rfl rfl hi2 hg2 hifs2 (dW (p:=p) helt) (fun it=>rS elt tg iter tg2 iter2 ifs ifs2 sc pos (.ref it) (.ref p) _) (hs2 _)
 have L:=yX (X:=wM X N sc cl s1 H1 fp) (e:=.ListComp elt [⟨tg,iter,ifs,0⟩,⟨tg2,iter2,ifs2,0⟩] sc pos) (d:=0) (acc:=.ref p) (D:=fun _ H2=>Q (.ref p) H2) (s:=s2) hc rfl (rR elt tg iter tg2 iter2 ifs ifs2 [] sc pos (.ref it) (.ref p) _) rfl rfl rfl T hg hifs inn B st f d
 exact codeAny_compStart_list L (T.self X.A 0 s2 _ _ st L)
theorem a_tLC2 {fr:List (Option Nat)}{wi wi2:TI}{g g2:TG}{tc tc2:TT}{te:TE}{σ:St}{H:Hp}{Q:VK}:tLC2 fr wi g tc wi2 g2 tc2 te σ H Q=wi σ H fun J H1=>∀ p,H1 p=none→m3 J g tc (wY wi2 g2 tc2 (y6 p te)) (fun _ H2=>Q (.ref p) H2) (cH fr σ) (upd H1 p (.lst [])):=rfl
theorem a_tInner {wi:TI}{g:TG}{tc:TT}{tb:TB}{σ:St}{H:Hp}{N:St→Hp→Prop}:wY wi g tc tb σ H N=wi σ H fun J H1=>m3 J g tc tb N σ H1:=rfl
end
theorem ints_all:∀ (ns ms:List Int),((List.range (min ns.length ms.length)).all (fun j=>decide (ns.getD j 0=ms.getD j 0)) && ns.length == ms.length)=decide (ns=ms):=fun ns ms=>by
 rw [BI,Bt,AR,AU,beq_iff_eq]
 constructor
 ·rintro ⟨h1,h2⟩
  apply Ci h2
  intro i q1 q2
  have:=h1 i (AD.mpr (by omega))
  simpa [Ab,q1,q2] using this
 ·rintro rfl
  exact ⟨fun j _=>by simp,rfl⟩
section
variable {X:Cx}
theorem tup_eqs {pins:List (Addr × Obj)}{σ:St}{H:Hp}{s:Shared}{a b:Addr}{ns ms:List Int}(I:Inv X pins σ H s)(ha:H a=some (.tup (ns.map V.int)))(hb:H b=some (.tup (ms.map V.int))) :
  ∃ its its2:List Value,IsTup s.heap a its.toArray∧IsTup s.heap b its2.toArray∧its.length=ns.length∧its2.length=ms.length∧∀ (A:Around) (j:Nat) (h1:j < its.toArray.size) (h2:j < its2.toArray.size),SeqAt.EqAt A s its.toArray[j] its2.toArray[j] (decide (ns.getD j 0=ms.getD j 0)):=by
 obtain ⟨its,r1,p1,_⟩:=I.tuple (SqT.of ha)
 obtain ⟨its2,r2,p2,_⟩:=I.tuple (SqT.of hb)
 have l1:=r1.length
 have l2:=r2.length
 rw [Aa] at l1 l2
 refine ⟨its,its2,p1,p2,l1.symm,l2.symm,fun A j h1 h2=>?_⟩
 have h1':j < its.length:=by simpa using h1
 have h2':j < its2.length:=by simpa using h2
 obtain ⟨t,e1⟩:=zW r1 (i:=j) (v:=its[j]) (by simp [h1'])
 obtain ⟨u,e2⟩:=zW r2 (i:=j) (v:=its2[j]) (by simp [h2'])
 have key:SeqAt.EqAt A s its[j] its2[j] (eqV (.int (ns.getD j 0)) (.int (ms.getD j 0))):=eqAt_V ⟨t,e1⟩ ⟨u,e2⟩ rfl rfl
 have e:eqV (.int (ns.getD j 0)) (.int (ms.getD j 0))=decide (ns.getD j 0=ms.getD j 0):=by
  show (ns.getD j 0 == ms.getD j 0)=_
  rfl
 rw [e] at key
 simpa using key
end
section
variable {X:Cx}
noncomputable def oI:Expr→Bool
 | .Starred _ _=>false
 | _=>true
theorem aE {e:Expr}{es:List Expr}{env:Env}(h:oI e=true):starEach (e :: es) env=(false,eval e env) :: starEach es env:=by
 cases e <;> first | rfl | cases h
theorem qA {e:Expr}{es:List Expr}{te:TE}{t:TA}(ha:PE X e te)(hr:PA X es t)(hp:oI e=true:=by rfl):PA X (e :: es) (zU te t):=nN ha hr (aE hp)
theorem a_tChain {r r':R2}{ta tb tc:TE}{σ:St}{H:Hp}{Q:VK}:rT r r' ta tb tc σ H Q=ta σ H fun x H1=>tb σ H1 fun y H2=>r x y H2 fun z H3=>∃ k,z = .bl k∧(if k=true then tc σ H3 fun w' H4=>r' y w' H4 Q else Q (.bl false) H3):=rfl
noncomputable def iR (t:TA):TE:=fun σ H Q=>t σ H fun xs H1=>xs.length ≤ sizeLine∧∀ (p:Addr) (H2:Hp),H1 p=none→Same H1 H2→H2 p=some (.lst xs)→Q (.ref p) H2
theorem jW {es:List Expr}{t:TA}{pos:Pos}(h:PA X es t):PE X (.List es pos) (iR t):=by
 intro pins s σ H Q I hq
 refine wpAny_List_spliced (jM (h pos pins s σ H _ I hq) fun us s1 ⟨xs,H1,I1,r,z,q⟩=>⟨r.length ▸ z,?_⟩)
 have nf:=I1.hok.fresh (Ak s1.heap.objs.size)
 exact ⟨.ref s1.heap.objs.size,upd H1 s1.heap.objs.size (.lst xs),I1.laid (t':=s1.toks) (fun b u e=>Ac _ e) (Ak _) ⟨z,us,0,r,Ao _ rfl⟩,rfl,q _ _ nf (kI nf) qF⟩
theorem a_tLstA {t:TA}{σ:St}{H:Hp}{Q:VK}:iR t σ H Q=t σ H fun xs H1=>xs.length ≤ sizeLine∧∀ (p:Addr) (H2:Hp),H1 p=none→Same H1 H2→H2 p=some (.lst xs)→Q (.ref p) H2:=rfl
end
noncomputable def tSeqL (t u:TS):TS:=aD t u
theorem qG {X:Cx}{st:Stmt}{sts:List Stmt}{t u:TS}(h:PS X st t)(hs:PSs X sts u):PSs X (st :: sts) (tSeqL t u):=jI h hs
section
variable {X:Cx}
theorem eD {N:List Str}{fr:List (Option Nat)}{e tg iter:Expr}{ifs:List Expr}{gs:List Comprehension}{sc:Scope}{ip pos':Pos}{cl:List (Str × Addr)}{wi:TI}{D:It→Addr→St→Hp→Prop}{pins:List (Addr × Obj)}{σ:St}{H:Hp}{s:Shared}{Q:VK}{i:Nat}{x:Str}
  (hN:X.N.Nodup) (hix:X.N[i]? = some x) (hx:Loc X.env.scope x) (hf:X.fn x=true∨X.env.scope.names.lookup x=some .local)
  (he:clausesOf e=⟨tg,iter,ifs,0⟩ :: gs) (hi:PI X tg iter wi) (S:CScope X N fr sc) (hcl:xC sc.names X.env.cells [] = some cl) (I:Inv X pins σ H s)
  (h:wi σ H fun J H1=>∀ p,H1 p=none→D J p (cH fr σ) (upd H1 p (.lst [])))
  (loop:∀ (it p:Addr) (fp:List Addr) (tn:Nat→Heap→Prop) (J:It) (s1 s2:Shared) (H1:Hp) (σ1:St),Turn X.prog X.w X.K tg J fp it tn→Inv (wM X N sc cl s1 H1 fp) [] σ1 H1 s2→tn 0 s2.heap→(∀ b ∈ fp,yU (wM X N sc cl s1 H1 fp) [] H1 b)→D J p σ1 H1 →
   codeAny (model X.prog X.w) X.A (.compStart e 0 (.ref it) (.ref p) (compEnvC sc cl s1.heap.objs.size X.env)) (fun r s'=>r = .ok .next∧∃ σ' H',Inv (wM X N sc cl s1 H1 fp) [] σ' H' s'∧Q (.ref p) H') s2)
  (hs:∀ x,foldedSetIterable iter X.env x=pure x) :
  wpAny (model X.prog X.w) X.A (comprehension e sc X.env ip (newList []) false (eval iter X.env) (some (assign (.Name x pos') X.env))) (fun _ s'=>∃ v H',Inv X pins (σ.set i (some v)) H' s'∧Q v H') X.xe s:=by
 refine wpAny_comprehension_free (use:=some (assign (.Name x pos') X.env)) he hs (zN hcl) S.kind S.loc ?_
 refine jM (hi pins s σ H _ I h) fun v s1 h1=>jM h1 fun itv s2 ⟨it,fp,tn,J,H2,e2,I2,T,st2,f2,q⟩=>?_
 subst e2
 refine wpAny_newObj_type ?_
 have hp:H2 s2.heap.objs.size=none:=I2.hok.fresh (Ak _)
 have I3:Inv X pins σ (upd H2 s2.heap.objs.size (.lst [])) { s2 with heap:=s2.heap.push { cls:=.type "list",data:=.seq ([] : List Value).toArray },toks:=s2.toks }:=I2.lnew (its:=[]) (ys:=[]) .nil (AJ _)
 have lt2:∀ b ∈ fp,b < s2.heap.objs.size:=fun b hb=>let ⟨o,e,_⟩:=T.obj 0 _ st2 b hb;Am e
 have f3:∀ b ∈ fp,yU X pins (upd H2 s2.heap.objs.size (.lst [])) b:=fun b hb=>⟨by rw [q9 (A0 (lt2 b hb))];exact (f2 b hb).1,(f2 b hb).2⟩
 have st3:tn 0 (s2.heap.push { cls:=.type "list",data:=.seq ([] : List Value).toArray }):=T.keep _ _ _ st2 fun b _ o e=>Ac _ e
 refine wpAny_newFunctionEnv S.nocell (by intro y hy;simp at hy) (fun h₁ hns₁ hsb₁=>?_) S.kind
 generalize hs3:({ s2 with heap:=s2.heap.push { cls:=.type "list",data:=.seq ([] : List Value).toArray } }:Shared)=s3 at hns₁ hsb₁ ⊢
 have I3':Inv X pins σ (upd H2 s2.heap.objs.size (.lst [])) s3:=by rw [← hs3];exact I3
 have st3':tn 0 s3.heap:=by rw [← hs3];exact st3
 have lt3:∀ b ∈ fp,b < s3.heap.objs.size:=fun b hb=>let ⟨o,e,_⟩:=T.obj 0 _ st3' b hb;Am e
 have hk:∀ b u,s3.heap.get? b=some u→h₁.get? b=some u:=fun b u e=>hsb₁.extBut b u (A0 (Am e)) (Ac _ e)
 have hns:h₁.Ns s3.heap.objs.size (fun _=>none):=by simpa using hns₁
 have B:=I3'.block (N:=N) (fr:=fr) (sc:=sc) (cl:=cl) (ex:=fp) (h1:=h₁) (tk:=s3.toks + ([] : List (Str × Value)).length) S hcl (fun b hb=>⟨f3 b hb,lt3 b hb⟩) hns hk
 have stB:tn 0 h₁:=T.keep _ _ _ st3' fun b _ o e=>hk b o e
 have fC:yU X pins (upd H2 s2.heap.objs.size (.lst [])) s3.heap.objs.size:=I3'.fpOk (Ak _) (I3'.hok.fresh (Ak _))
 refine codeAny_mono (loop it s2.heap.objs.size fp tn J s3 _ (upd H2 s2.heap.objs.size (.lst [])) (cH fr σ) T B stB (fun b hb=>?_) (q _ hp)) fun r s' hr=>?_
 ·obtain ⟨f0,f1,f2',f3',f4,f5⟩:=f3 b hb
  refine ⟨f0,A0 (lt3 b hb),fun z=>?_,.inl hb,fun x c e=>f4 x c (kP hcl e),fun p hp'=>absurd (show p ∈ ([] : List (Addr × Obj)) from hp') (by simp)⟩
  rcases A4.mp (I3'.stkSub b z) with e | e
  ·exact f1 e
  ·exact f2' e
 ·obtain ⟨rfl,σ',H',J',q'⟩:=hr
  have I5:Inv X pins σ H' s':=I3'.unblock (h':=s'.heap) J' f3 ⟨rfl,fun _ _=>rfl⟩
  show wpAny _ X.A (assign (.Name x pos') X.env (.ref s2.heap.objs.size)) _ X.xe s'
  refine wpAny_assign_Name (fE (v:=.ref s2.heap.objs.size) I5 hN hix hx rfl (fun s4 I6 ⟨a,sb,ha⟩=>?_) hf)
  obtain ⟨m,hn,_⟩:=J'.loc
  have free:H' s3.heap.objs.size=none:=J'.free
  obtain ⟨g0,g1,g2,g3,g4,g5⟩:=fC
  have aC:s3.heap.objs.size ≠ a:=by
   rcases ha with rfl | ha
   ·exact g1
   ·exact fun z=>g4 x a ha z.symm
  refine ⟨m,hn.sameBut sb aC,fun h' sb'=>⟨.ref s2.heap.objs.size,H',?_,q'⟩⟩
  refine I6.turnedN (fp:=[s3.heap.objs.size]) (fun b hb=>?_) fun c o hc e=>sb'.extBut _ _ (fun z=>hc (A5.mpr z)) e
  have eb:b=s3.heap.objs.size:=by simpa using hb
  subst eb
  exact ⟨free,g1,g2,g3,g4,g5⟩
theorem yE {N:List Str}{fr:List (Option Nat)}{tg iter elt:Expr}{ifs:List Expr}{sc:Scope}{pos pos' cpos:Pos}{cl:List (Str × Addr)}{wi:TI}{g:TG}{tc:TT}{te:TE}{i:Nat}{x:Str}(hN:X.N.Nodup)(hix:X.N[i]? = some x)(hx:Loc X.env.scope x)
  (hc:X.calm=true) (hi:PI X tg iter wi) (S:CScope X N fr sc) (hcl:xC sc.names X.env.cells [] = some cl)
  (hb:∀ s H ex,PG (wM X N sc cl s H ex) tg g∧cJ (wM X N sc cl s H ex) ifs tc∧PE (wM X N sc cl s H ex) elt te) (hsw:swapsWith (.ListComp elt [⟨tg,iter,ifs,0⟩] sc cpos) (some (.Name x pos')) pos.line X.env=pure true:=by rfl)
  (hs:∀ x,foldedSetIterable iter X.env x=pure x:=by intro _;rfl) (hf:X.fn x=true∨X.env.scope.names.lookup x=some .local:=by first | exact .inl rfl | exact .inr rfl | assumption) :
  PS X (.Assign [.Name x pos'] (.ListComp elt [⟨tg,iter,ifs,0⟩] sc cpos) pos) (lK (tLC fr wi g tc te) (jZ i)):=by
 intro pins s σ H D I h
 rw [exec_Assign_Name_used _ _ _ _ hsw]
 refine wpAny_bind (wpAny_standAt (wpAny_bind ?_))
 show wpAny _ X.A (do let _ ← comprehension (.ListComp elt [⟨tg,iter,ifs,0⟩] sc cpos) sc X.env _ (newList []) false (eval iter X.env) (some (assign (.Name x pos') X.env))) _ _ s
 refine wpAny_bind (jM (eD (Q:=fun v H2=>D.nx (σ.set i (some v)) H2) (D:=fun J p σ1 H1=>m3 J g tc (y6 p te) (fun _ H2=>D.nx (σ.set i (some (.ref p))) H2) σ1 H1) hN hix hx hf rfl hi S hcl I h (fun it p fp tn J s1 s2 H1 σ1 T B st f d=>?_) hs) fun _ s' ⟨v,H',I',q'⟩=>wpAny_pure (wpAny_pure ⟨_,H',I',q'⟩))
 obtain ⟨hg,hifs,helt⟩:=hb s1 H1 fp
 have L:=yX (X:=wM X N sc cl s1 H1 fp) (e:=.ListComp elt [⟨tg,iter,ifs,0⟩] sc cpos) (d:=0) (acc:=.ref p) (D:=fun _ H2=>D.nx (σ.set i (some (.ref p))) H2) (s:=s2) hc rfl (compTurn_list elt tg iter ifs sc cpos (.ref it) (.ref p) _) rfl rfl rfl T hg hifs (dW helt) B st f d
 exact codeAny_compStart_list L (T.self X.A 0 s2 _ _ st L)
end
theorem lB:bootBuiltins "enumerate" = some (.type "enumerate"):=by decide +kernel
noncomputable def Itr1 (h:Heap)(c:String)(it l:Addr)(k:Nat):Prop:=(c = "list_iterator" ∧ h.IsListIter it l k)∨(c = "tuple_iterator" ∧ h.IsTupleIter it l k)
theorem mN {prog:Program}{w:World}{A:Around}(hh:A.handled=none)(c:String)(it l:Addr)(ne:l ≠ it)(xs:Array Value):Draws prog w A it [it,l] xs.size (fun i v=>xs[i]? = some v) (fun i h=>Src h c it l xs i) where
 live:=fun _ _ st=>let ⟨o,ho,_⟩:=st.itlt;⟨o,ho⟩
 frame:=fun _ _ _ st hk=>st.at (fun o e=>hk it (by simp) o e) fun o e=>hk l (by simp) o e
 item:=fun i s Q E hi st hQ=>wJ st ne (x:=xs[i]) (by simp [hi]) fun h' st' sb=>hQ _ h' s.toks (by simp [hi]) st' sb
 done:=fun s Q E st hE=>sJ hh st (by simp) hE
theorem eS (l:Addr)(items:Array Value)(n:Nat)(dct:Option Addr)(sl:Array (Option Value)) :
  Meets (Builtin.«enumerate.__new__» ⟨[.type "enumerate",.ref l],[]⟩) (fun _ R s=>s.heap.get? l=some { cls:=.type "tuple",dict:=dct,data:=.seq items n,slots:=sl }∧R (.ok (.ret (.ref (s.heap.push { cls:=.type "tuple_iterator",data:=.fields #[.ref l,.int 0 0] }).objs.size)))
    { s with heap:=(s.heap.push { cls:=.type "tuple_iterator",data:=.fields #[.ref l,.int 0 0] }).push { cls:=.type "enumerate",data:=.fields #[.none,.bool false,.ref s.heap.objs.size,rawInt 0,.none,.none] } }) :=
 .of_wp fun prog w A R s h=>by
  obtain ⟨hp,g,d,tk,os⟩:=s
  obtain ⟨hl,h⟩:=h
  have sub:=sub_enumerate
  have isT:Heap.IsTuple (Shared.heap ⟨hp,g,d,tk,os⟩) l items:=⟨_,hl,rfl,n,rfl⟩
  wp_walk using CA hl
  refine wpAny_stack_any fun st=>wpAny_pure ?_
  split
  ·rename_i c _ _ _ _ _
   cases (c == Value.type "enumerate") <;> (wp_walk using CA hl,wpAny_pyIter_tuple isT;exact ⟨_,rfl,h⟩)
  ·wp_walk using CA hl,wpAny_pyIter_tuple isT
   exact ⟨_,rfl,h⟩
section
variable {prog:Program}{w:World}{A:Around}{E:Value→Shared→Prop}{s:Shared}
theorem eW {c:String}{l:Addr}{xs:Array Value}{Q:Value→Shared→Prop}(x:SeqOf s.heap c l xs)
  (h:∀ h',IsEnum h' (s.heap.objs.size + 1) s.heap.objs.size 0 .none→Itr1 h' c s.heap.objs.size l 0→(∀ b o,s.heap.get? b=some o→h'.get? b=some o)→Q (.ref (s.heap.objs.size + 1)) { s with heap:=h' }):wpAny (model prog w) A (call (.type "enumerate") [.ref l]) Q E s:=by
 rcases x with ⟨rfl,x⟩ | ⟨rfl,x⟩
 ·exact call_enumerate_list x fun h' he hi _ k=>h h' he (.inl ⟨rfl,hi⟩) k
 ·obtain ⟨⟨c,dct,dt,sl⟩,hl,hc,n,hd⟩:=x
  cases (show c = .type "tuple" from hc)
  cases (show dt = .seq xs n from hd)
  refine callType_new F.called_enumerate (by decide) (F.typeCall_enumerate_1 _) (F.newCall_enumerate_1 _) (fun obj=>F.args_object_init_2 obj _) F.entry_enumerate_new (eS l xs n dct sl) ⟨hl,?_⟩
  have size1:(s.heap.push { cls:=.type "tuple_iterator",data:=.fields #[.ref l,.int 0 0] }).objs.size=s.heap.objs.size + 1:=Bh ..
  show _∧_
  rw [size1]
  have made:=Ao (s.heap.push { cls:=.type "tuple_iterator",data:=.fields #[.ref l,.int 0 0] }) (o:={ cls:=.type "enumerate",data:=.fields #[.none,.bool false,.ref s.heap.objs.size,rawInt 0,.none,.none] }) rfl
  rw [size1] at made
  exact ⟨⟨_,made,rfl⟩,h _ made (.inr ⟨rfl,_,Ac _ (Ao _ rfl),rfl,rfl⟩) fun b o z=>Ac _ (Ac _ z)⟩
end
noncomputable def Ite (c:String)(l:Addr)(xs:List V):It:=⟨fun i H=>lD H c l xs∧i < xs.length,fun i H x H'=>∃ T v,x = .ref T∧H T=none∧H'=upd H T (.tup [.int (i:Int),v])∧xs[i]? = some v,fun i H=>lD H c l xs∧i=xs.length⟩
theorem u9 {P:Program}{w:World}{K:PySem.W.Frag}{es:List Expr}{tk:_}{tp:Pos}(e it l:Addr)(c:String)(xs:List V)(hei:e ≠ it)(hle:l ≠ e)(hli:l ≠ it) :
  Turn P w K (.Tuple es tk tp) (Ite c l xs) [e,it] e (fun i h=>(∃ old,IsEnum h e it (i:Int) old)∧Itr1 h c it l i) where
 mem:=by simp
 obj:=fun i h st b hb=>by
  obtain ⟨⟨old,he⟩,hi⟩:=st
  simp only [A4,Ck,or_false] at hb
  rcases hb with rfl | rfl
  ·exact ⟨_,he,fun v q=>by cases (show Data.fields _=Data.cell v from q)⟩
  ·exact nS hi
 keep:=fun i h h' st k=>by
  obtain ⟨⟨old,he⟩,hi⟩:=st
  exact ⟨⟨old,k e (by simp) _ he⟩,mK hi fun o q=>k it (by simp) o q⟩
 item:=by
  intro X hP hw hK hc i pins s σ H E I hf st hg
  subst hP hw hK
  obtain ⟨q1,hi1⟩:=hg
  obtain ⟨its,r1,e1⟩:=I.seqOf q1
  obtain ⟨x,hx⟩:=g9 hi1
  obtain ⟨u,hu,ru⟩:=r1.get hx
  obtain ⟨⟨old,he⟩,hi⟩:=id st
  have hl:=r1.length
  have hlt:i < its.toArray.size:=by rw [As,← hl];exact hi1
  refine wpAny_pyNext_enum_itemD (mN (A:=X.A.in1) (I.ok.hd hc) c it l hli its.toArray) he (fF hi e1) hlt hei (by simp;exact ⟨hei,hle.symm⟩) fun y h' tk' hy out st' new size k=>?_
  have yu:y=u:=by
   have hu':its.toArray[i]? = some u:=by simpa using hu
   have hy':its.toArray[i]? = some y:=hy
   rw [hu'] at hy'
   exact (A9 hy').symm
  subst yu
  refine ⟨_,rfl,wpAny_letOwnedTupleGo_enum out fun h'' z'' sb=>?_⟩
  have lt:∀ b ∈ [e,it],b < s.heap.objs.size:=fun b hb=>by
   simp only [A4,Ck,or_false] at hb
   rcases hb with rfl | rfl
   ·exact Am he
   ·obtain ⟨o,q,_⟩:=nS hi;exact Am q
  have nT:s.heap.objs.size ∉ [e,it]:=fun hb=>BA _ (lt _ hb)
  have nTe:s.heap.objs.size ≠ e:=fun q=>nT (by simp [q])
  have J:=I.turnedT (fp:=[e,it]) (h':=h'') (T:=s.heap.objs.size) (xs:=[.int (i:Int),x]) (us:=[.int i tk',y]) (t':=tk' + 1) hf (fun b o hb q=>sb.extBut _ _ (fun z=>hb (by simp [z])) (k b o (fun z=>hb (by simp [z])) (fun z=>hb (by simp [z])) q)) (Ak _) (by show 2 ≤ sizeLine;decide) (.cons ⟨tk',rfl⟩ (.cons ru .nil))
   ⟨_,sb.extBut _ _ nTe new,rfl,_,rfl⟩ nT
  refine ⟨.ref s.heap.objs.size,_,J,rfl,⟨_,x,rfl,I.hok.fresh (Ak _),rfl,hx⟩,⟨⟨y,z''⟩,mK (bK st') fun o q=>sb.extBut _ _ hei.symm q⟩,fun b hb=>?_⟩
  rw [q9 (A0 (lt b hb))]
  exact (hf b hb).1
 done:=by
  intro X hP hw hK hc i pins s σ H E I hf st hg
  subst hP hw hK
  obtain ⟨q1,hend⟩:=hg
  obtain ⟨its,r1,e1⟩:=I.seqOf q1
  obtain ⟨⟨old,he⟩,hi⟩:=id st
  have hl:=r1.length
  have si:Src s.heap c it l its.toArray its.toArray.size:=by
   have:=fF hi e1
   rw [hend,hl] at this
   simpa using this
  refine wpAny_pyNext_enum_endD (mN (A:=X.A.in1) (I.ok.hd hc) c it l hli its.toArray) he si fun h' k=>?_
  exact ⟨rfl,I.turnedN (fp:=[e,it]) hf fun b o hb q=>k b o (fun z=>hb (by simp [z])) q⟩
 self:=fun A i s Q E st h=>by
  obtain ⟨⟨old,he⟩,hi⟩:=st
  exact wpAny_pyIter_enum he h
section
variable {X:Cx}
noncomputable def iEnum (ta:TA):TI:=fun σ H R=>ta σ H fun vs H1=>∃ l c xs,vs=[.ref l]∧lD H1 c l xs∧R (Ite c l xs) H1
theorem dU {es:List Expr}{kk:_}{tp:Pos}{a:Expr}{ta:TA}{p pos:Pos}(hg:Gl X "enumerate") (hm:X.mg "enumerate" = none) (ha:PA X [a] ta) (hs:starEach [a] X.env=[(false,eval a X.env)]:=by rfl):PI X (.Tuple es kk tp) (.Call (.Name "enumerate" p) [a] [] pos) (iEnum ta):=by
 intro pins s σ H R I h
 refine Call_ (xA I hg hm lB (Bd (jM (ha pos pins s σ H _ I h) fun us s1 ⟨vs,H1,I1,r1,q1⟩=>?_) hs rfl))
 obtain ⟨l,c,xs,e,k1,q⟩:=q1
 subst e
 obtain ⟨u,rfl,ru⟩:=r1.one
 cases ru
 obtain ⟨its,v1,o1⟩:=I1.seqOf k1
 have lt1:(l:Nat) < (s1.heap.objs.size:Nat):=o1.lt
 refine eW o1 fun h' he hi old=>wpAny_pyIter_enum he ?_
 have J:Inv X pins σ H1 { s1 with heap:=h' }:=I1.kept (t':=s1.toks) old
 refine ⟨s1.heap.objs.size + 1,_,_,_,H1,rfl,J,u9 (s1.heap.objs.size + 1) s1.heap.objs.size l c xs (Nat.succ_ne_self _) (A0 (Cb lt1)) (A0 lt1),⟨⟨_,he⟩,hi⟩,fun b hb=>?_,q⟩
 have hb':s1.heap.objs.size ≤ b:=by
  simp only [A4,Ck,or_false] at hb
  rcases hb with rfl | rfl <;> omega
 exact I1.fpOk hb' (I1.hok.fresh hb')
theorem a_iEnum {ta:TA}{σ:St}{H:Hp}{R:It→Hp→Prop}:iEnum ta σ H R=ta σ H fun vs H1=>∃ l c xs,vs=[.ref l]∧lD H1 c l xs∧R (Ite c l xs) H1:=rfl
end
theorem nY {c:String}{l:Addr}{xs:List V}{g:TG}{tc:TT}{tb:TB}{D:St→Hp→Prop}{σ:St}{H:Hp}(Pv:Nat→St→Hp→Prop)(h0:Pv 0 σ H)(hl:∀ i σ H,Pv i σ H→lD H c l xs)
  (hs:∀ (i:Nat) v (T:Addr) σ H H',xs[i]? = some v→Pv i σ H→H T=none→Same H H'→H' T=some (.tup [.int (i:Int),v])→g (.ref T) σ H' fun σ2 H2=>tc σ2 H2 fun b H3=>if b=true then tb σ2 H3 (Pv (i + 1)) else Pv (i + 1) σ2 H3)
  (hd:∀ σ H,Pv xs.length σ H→D σ H):m3 (Ite c l xs) g tc tb D σ H:=by
 refine ⟨fun i m σ H=>m=xs.length - i∧i ≤ xs.length∧Pv i σ H,⟨xs.length,by simp,AJ _,h0⟩,?_⟩
 rintro i m σ H ⟨rfl,hi,p⟩
 have q:=hl i σ H p
 by_cases hlt:i < xs.length
 ·refine .inr ⟨⟨q,hlt⟩,Pv (i + 1),fun σ' H' p'=>⟨xs.length - (i + 1),by omega,rfl,hlt,p'⟩,fun x H' y=>?_⟩
  obtain ⟨T,v,rfl,n,rfl,e⟩:=y
  exact hs i v T σ H _ e p n (kI n) qF
 ·have e:i=xs.length:=by omega
  subst e
  exact .inl ⟨⟨q,rfl⟩,hd σ H p⟩
theorem uI {c:String}{l:Addr}{xs:List V}{g:TG}{tb:TS}{D:Ends}{σ:St}{H:Hp}(Pv:Nat→St→Hp→Prop)(h0:Pv 0 σ H)(hl:∀ i σ H,Pv i σ H→lD H c l xs)
  (hs:∀ (i:Nat) v (T:Addr) σ H H',xs[i]? = some v→Pv i σ H→H T=none→Same H H'→H' T=some (.tup [.int (i:Int),v])→g (.ref T) σ H' fun σ2 H2=>tb { D with nx:=Pv (i + 1),ct:=Pv (i + 1),bk:=D.nx } σ2 H2)
  (hd:∀ σ H,Pv xs.length σ H→D.nx σ H):FL (Ite c l xs) g tb D σ H:=by
 refine ⟨fun i m σ H=>m=xs.length - i∧i ≤ xs.length∧Pv i σ H,⟨xs.length,by simp,AJ _,h0⟩,?_⟩
 rintro i m σ H ⟨rfl,hi,p⟩
 have q:=hl i σ H p
 by_cases hlt:i < xs.length
 ·refine .inr ⟨⟨q,hlt⟩,Pv (i + 1),fun σ' H' p'=>⟨xs.length - (i + 1),by omega,rfl,hlt,p'⟩,fun x H' y=>?_⟩
  obtain ⟨T,v,rfl,n,rfl,e⟩:=y
  exact hs i v T σ H _ e p n (kI n) qF
 ·have e:i=xs.length:=by omega
  subst e
  exact .inl ⟨⟨q,rfl⟩,hd σ H p⟩
section
variable {X:Cx}
noncomputable def oD:R2:=fun x y H Q=>∃ (l b:Addr) (ns:List Int),x = .ref l∧y = .ref b∧H l=some (.lst (ns.map V.int))∧H b=some (.lst [])∧Q (.bl (!decide (ns=[]))) H
theorem nP (hu:X.A.units < cLine):xZ X (compareOp .NotEq) oD:=by
 intro pins s σ H x y v u Q I rx ry h
 obtain ⟨l,b,ns,rfl,rfl,hl,hb,q⟩:=h
 cases rx
 cases ry
 obtain ⟨its,r1,p1,_⟩:=I.list (SqL.of hl)
 obtain ⟨its2,r2,p2,_⟩:=I.list (SqL.of hb)
 have l1:=r1.length
 have l2:=r2.length
 rw [Aa] at l1
 by_cases hn:ns=[]
 ·subst hn
  have e1:its=[]:=Bx.mp (by simpa using l1.symm)
  have e2:its2=[]:=Bx.mp (by simpa using l2.symm)
  subst e1 e2
  refine SeqAt.RcNeAt.lists (e:=fun _=>true) p1.isList p2.isList rfl hu (fun j h1 _=>absurd h1 (by simp)) X.prog X.w X.xe _ ?_
  exact ⟨.bl false,H,I,rfl,q⟩
 ·refine SeqAt.RcNeAt.lists_lengths p1.isList p2.isList ?_ hu X.prog X.w X.xe _ ?_
  ·have:its.length ≠ 0:=by
    intro z
    exact hn (Bx.mp (by omega))
   have e2:its2=[]:=Bx.mp (by simpa using l2.symm)
   subst e2
   simpa using this
  ·refine ⟨.bl true,H,I,rfl,?_⟩
   rw [Aw hn] at q
   exact q
theorem a_rNeNil {x y:V}{H:Hp}{Q:VK}:oD x y H Q = ∃ (l b:Addr) (ns:List Int),x = .ref l∧y = .ref b∧H l=some (.lst (ns.map V.int))∧H b=some (.lst [])∧Q (.bl (!decide (ns=[]))) H:=rfl
end
section
variable {X:Cx}
end
noncomputable def g1 {α:Type}:List α→List α
 | [a]=>[a]
 | _=>[]
noncomputable def g2 {α:Type}:List α→List α
 | [a,b]=>[a,b]
 | _=>[]
theorem cal_fn {P:Program}{w:World}{K:PySem.W.Frag}{mg:Str→Option Value}{base:Heap}{x:Str}{st:Stmt}{f:Addr}{fd:FuncData}{ps:List Str}{k:Nat}{sp:Sp}(F:Fun K x x st f fd)(ok:FnOk P w K mg base CX0 k f fd ps sp)(hm:mg x=some (.ref f))(hb:Binds K fd ps []):j4 P w K mg base x ps k sp:=⟨f,fd,ok,hm,F.kp,hb⟩
section
variable {X:Cx}
noncomputable def rRepL:R2:=fun x y H Q=>∃ (l:Addr) (k:Nat) (xs:List V),x = .ref l∧y = .int (k:Int)∧H l=some (.lst xs)∧k ≤ 1000000∧xs.length * k ≤ sizeLine∧∀ (p:Addr) (H':Hp),H p=none→Same H H'→H' p=some (.lst (List.replicate k xs).flatten)→Q (.ref p) H'
theorem repL0:xZ X (binaryOp .Mult) rRepL:=fun pins s σ H x y v u Q I rx ry h=>by
 obtain ⟨l,k,xs,e1,e2,h1,hk,hz,q⟩:=h
 exact op_rep pins s σ H x y v u Q I rx ry ⟨l,(k:Int),xs,e1,e2,h1,by omega,by omega,by rw [Ap];exact hz,fun p np=>q p _ np (kI np) (by rw [Ap];exact qF)⟩
theorem a_rRepL {x y:V}{H:Hp}{Q:VK}:rRepL x y H Q = ∃ (l:Addr) (k:Nat) (xs:List V),x = .ref l∧y = .int (k:Int)∧H l=some (.lst xs)∧k ≤ 1000000∧xs.length * k ≤ sizeLine∧∀ (p:Addr) (H':Hp),H p=none→Same H H'→H' p=some (.lst (List.replicate k xs).flatten)→Q (.ref p) H':=rfl
end
section
variable {X:Cx}
theorem eqAt_tup {pins:List (Addr × Obj)}{σ:St}{H:Hp}{s:Shared}{A:Around}{a b:Addr}{ns ms:List Int}(I:Inv X pins σ H s)(ha:H a=some (.tup (ns.map V.int)))(hb:H b=some (.tup (ms.map V.int)))(hu:A.units < cLine):SeqAt.EqAt A s (.ref a) (.ref b) (decide (ns=ms)):=by
 by_cases hab:a=b
 ·subst hab
  rw [ha] at hb
  have e:ns.map V.int=ms.map V.int:=by injection hb with h;injection h
  have:ns=ms:=List.map_inj_right (fun _ _ h=>by injection h) |>.mp e
  rw [Ax this]
  exact SeqAt.EqAt.same _
 ·obtain ⟨its,its2,p1,p2,l1,l2,he⟩:=tup_eqs I ha hb
  have r:=SeqAt.RcAt.tuples (A:=A) (s:=s) (show s.heap.IsTuple a its.toArray from p1) (show s.heap.IsTuple b its2.toArray from p2) hu (fun j h1 h2=>he _ j h1 h2)
  rw [As,As,l1,l2,ints_all] at r
  exact SeqAt.EqAt.of_refs hab r
end
section
variable {X:Cx}
theorem listS0:yP X (.type "list") (fun xs H Q=>∃ p ys,xs=[.ref p]∧SqL X.K H p ys∧∀ (l:Addr) (H2:Hp),H l=none→Same H H2→H2 l=some (.lst ys)→Q (.ref l) H2):=by
 intro pins s σ H xs us Q I r h
 obtain ⟨p,ys,e,hq,q⟩:=h
 exact nZ pins s σ H xs us Q I r ⟨p,ys,e,.inl hq,fun l n=>q l _ n (kI n) qF⟩
end
section
variable {X:Cx}
noncomputable def iS0 (tl:TE):TI:=fun σ H R=>tl σ H fun x H1=>∃ a xs o,x = .ref a∧(o=HO.tup xs∨o=HO.lst xs)∧H1 a=some o∧R (lF (fun H=>H a=some o) xs) H1
theorem pi_s0 {tg l:Expr}{tl:TE}(hl:PE X l tl):PI X tg l (iS0 tl):=by
 intro pins s σ H R I h
 refine jM (hl pins s σ H _ I h) fun v s1 ⟨x,H1,I1,r1,q1⟩=>?_
 obtain ⟨a,xs,o,e,ho,hq,q⟩:=q1
 subst e
 cases r1
 rcases ho with rfl | rfl
 ·skip
  obtain ⟨its,rv,p,hz⟩:=I1.tuple (SqT.of hq)
  refine wpAny_pyIter_tuple (show s1.heap.IsTuple a its.toArray from p) ?_
  refine ⟨s1.heap.objs.size,[s1.heap.objs.size],_,_,H1,rfl,I1.kept (t':=s1.toks) fun b o e=>Ac _ e,(wX a _).weak (J':=lF (fun H=>H a=some (.tup xs)) xs) (fun i H ⟨k,hi⟩=>?_) (fun i H ⟨k,hi⟩=>⟨xs,SqT.of k,hi⟩) (fun i H x H' ⟨k,hi⟩ ⟨y1,y2⟩=>⟨y1,y2 xs (SqT.of k)⟩),⟨_,Ao _ rfl,rfl,rfl⟩,fun b hb=>?_,q⟩
  ·obtain ⟨x,hx⟩:=g9 hi
   exact ⟨xs,x,SqT.of k,hx⟩
  ·have e:b=s1.heap.objs.size:=by simpa using hb
   subst e
   exact I1.fpOk (Ak _) (I1.hok.fresh (Ak _))
 ·skip
  obtain ⟨its,rv,p,hz⟩:=I1.list (SqL.of hq)
  refine wpAny_pyIter_list p.isList ?_
  refine ⟨s1.heap.objs.size,[s1.heap.objs.size],_,_,H1,rfl,I1.kept (t':=s1.toks) fun b o e=>Ac _ e,(cO a _).weak (J':=lF (fun H=>H a=some (.lst xs)) xs) (fun i H ⟨k,hi⟩=>?_) (fun i H ⟨k,hi⟩=>⟨xs,SqL.of k,hi⟩) (fun i H x H' ⟨k,hi⟩ ⟨y1,y2⟩=>⟨y1,y2 xs (SqL.of k)⟩),⟨_,Ao _ rfl,rfl,rfl⟩,fun b hb=>?_,q⟩
  ·obtain ⟨x,hx⟩:=g9 hi
   exact ⟨xs,x,SqL.of k,hx⟩
  ·have e:b=s1.heap.objs.size:=by simpa using hb
   subst e
   exact I1.fpOk (Ak _) (I1.hok.fresh (Ak _))
theorem a_iS0 {tl:TE}{σ:St}{H:Hp}{R:It→Hp→Prop}:iS0 tl σ H R=tl σ H fun x H1=>∃ a xs o,x = .ref a∧(o=HO.tup xs∨o=HO.lst xs)∧H1 a=some o∧R (lF (fun H=>H a=some o) xs) H1:=rfl
end
section
variable {X:Cx}
theorem d5:∀ {vs:List Value} {ns:List Int},CarriedAll vs (ns.map PyData.int)→Vals (ns.map V.int) vs
 | [],[],_=>.nil
 | v :: vs,n :: ns,h=>by
  cases h with
  | cons h1 h2=>cases h1;exact .cons ⟨_,rfl⟩ (d5 h2)
 | [],_ :: _,h=>by cases h
 | _ :: _,[],h=>by cases h
end
end L2
namespace L2
open PySem PySem.Spec PyProof.Rows
end L2
namespace L2
open PySem PySem.Spec PyProof.Rows
end L2
namespace L2
open PySem PySem.Spec PyProof.Rows
end L2
namespace L2
open PySem PySem.Spec PyProof.Rows
end L2
namespace L2
open PySem PySem.Spec PyProof.Rows
end L2
namespace L2
open PySem PySem.Spec PyProof.Rows
end L2
namespace L2
open PySem PySem.Spec PyProof.Rows
end L2
namespace L2
open PySem PySem.Spec PyProof.Rows
end L2
namespace L2
open PySem PySem.Spec PyProof.Rows
end L2
namespace L2
open PySem PySem.Spec PyProof.Rows
section
variable {κ:Type}[DecidableEq κ]
noncomputable def y4 (kvs:List (κ × V))(k:κ):Option V:=(kvs.find? fun kv=>decide (kv.1=k)).map (·.2)
noncomputable def putK (kvs:List (κ × V))(k:κ)(v:V):List (κ × V) :=
 if (kvs.any fun kv=>decide (kv.1=k))=true then kvs.map (fun kv=>if kv.1=k then (kv.1,v) else kv) else kvs ++ [(k,v)]
theorem wR {p:κ × V}{r:List (κ × V)}{k:κ}(e:p.1=k):y4 (p :: r) k=some p.2:=by simp [y4,Cs,e]
theorem wU {p:κ × V}{r:List (κ × V)}{k:κ}(e:¬ p.1=k):y4 (p :: r) k=y4 r k:=by simp [y4,Cs,e]
theorem lH (k:κ):∀ kvs:List (κ × V),(kvs.any fun kv=>decide (kv.1=k))=(y4 kvs k).isSome
 | []=>rfl
 | p :: r=>by
  rw [List.any_cons]
  by_cases e:p.1=k
  ·simp only [wR e,Ax e,Bool.true_or,Option.isSome_some]
  ·rw [wU e,Aw e,Bool.false_or];exact lH k r
theorem vW (kvs:List (κ × V))(k:κ)(v:V):(putK kvs k v).length ≤ kvs.length + 1:=by
 unfold putK
 split
 ·rw [Aa];omega
 ·rw [Aj,A6,Bq];omega
theorem RelO.isSome_eq {o:Option V}{u:Option Value}(r:RelO o u):o.isSome=u.isSome:=by
 cases o with
 | none=>cases u with
  | none=>rfl
  | some _=>exact (show False from r).elim
 | some _=>cases u with
  | none=>exact (show False from r).elim
  | some _=>rfl
theorem KV.val {kvs:List (κ × V)}{vs:List (κ × Value)}(r:KV kvs vs)(k:κ):RelO (y4 kvs k) (valueAt vs k):=by
 unfold KV at r
 induction r with
 | nil=>exact True.intro
 | @cons p q ps qs h t ih =>
  obtain ⟨h1,h2⟩:=h
  by_cases e:p.1=k
  ·have e':q.1=k:=h1.symm.trans e
   have b:valueAt (q :: qs) k=some q.2:=by simp [valueAt,Cs,e']
   rw [wR e,b];exact h2
  ·have e':¬ q.1=k:=fun z=>e (h1.trans z)
   have b:valueAt (q :: qs) k=valueAt qs k:=by simp [valueAt,Cs,e']
   rw [wU e,b];exact ih
theorem KV.any {kvs:List (κ × V)}{vs:List (κ × Value)}(r:KV kvs vs)(k:κ):(kvs.any fun kv=>decide (kv.1=k))=vs.any fun kv=>decide (kv.1=k):=by
 unfold KV at r
 induction r with
 | nil=>rfl
 | cons h t ih=>rw [List.any_cons,List.any_cons,ih,h.1]
theorem KV.repl {kvs:List (κ × V)}{vs:List (κ × Value)}(r:KV kvs vs)(k:κ){y:V}{u:Value}(ry:RelV y u) :
  KV (kvs.map fun kv=>if kv.1=k then (kv.1,y) else kv) (vs.map fun kv=>if kv.1=k then (kv.1,u) else kv):=by
 unfold KV at r ⊢
 induction r with
 | nil=>exact .nil
 | @cons p q ps qs h t ih =>
  rw [AN,AN]
  refine .cons ?_ ih
  obtain ⟨h1,h2⟩:=h
  by_cases e:p.1=k
  ·rw [Ai e,Ai (h1.symm.trans e)];exact ⟨h1,ry⟩
  ·rw [Ah e,Ah (fun z=>e (h1.trans z))];exact ⟨h1,h2⟩
theorem KV.put {kvs:List (κ × V)}{vs:List (κ × Value)}(r:KV kvs vs)(k:κ){y:V}{u:Value}(ry:RelV y u):KV (putK kvs k y) (stored vs k u):=by
 unfold putK stored
 rw [r.any k]
 by_cases e:(vs.any fun kv=>decide (kv.1=k))=true
 ·rw [Ai e,Ai e];exact r.repl k ry
 ·rw [Ah e,Ah e];exact Paired.snoc r ⟨rfl,ry⟩
theorem KV.length {kvs:List (κ × V)}{vs:List (κ × Value)}(r:KV kvs vs):kvs.length=vs.length:=Paired.length r
end
theorem uB {P:Program}{w:World}{k:Key}{u:Value}(r:RelV (kV k) u):(zA P w).is k u=true:=by
 cases k with
 | inl i=>obtain ⟨t,e⟩:=(show ∃ t,u=Value.int i t from r);subst e;exact pS P w i t
 | inr x=>obtain ⟨t,e⟩:=(show ∃ t,u=Value.str x t from r);subst e;exact pR P w x t
theorem mJ {P:Program}{w:World}:∀ {ks:List Key} {us:List Value},Vals (ks.map kV) us→ItemsAre (zA P w) ks us
 | [],_,r=>by rw [C3] at r;cases r;exact .nil
 | k :: ks,_,r=>by
  rw [AN] at r
  cases r with
  | cons h t=>exact .cons (uB h) (mJ t)
noncomputable abbrev KT (H:Hp):List (List Key × V)→List (List Key × Addr × Value)→Prop:=Paired fun p q=>p.1=q.1∧H q.2.1=some (.tup (p.1.map kV))∧RelV p.2 q.2.2
theorem KT.val {H:Hp}{kvs:List (List Key × V)}{xs:List (List Key × Addr × Value)}(r:KT H kvs xs)(k:List Key):RelO (y4 kvs k) ((atKey xs k).map (·.2)):=by
 induction r with
 | nil=>exact True.intro
 | @cons p q ps qs h t ih =>
  obtain ⟨h1,_,h2⟩:=h
  by_cases e:p.1=k
  ·have e':q.1=k:=h1.symm.trans e
   have b:atKey (q :: qs) k=some q.2:=by simp [atKey,Cs,e']
   rw [wR e,b];exact h2
  ·have e':¬ q.1=k:=fun z=>e (h1.trans z)
   have b:atKey (q :: qs) k=atKey qs k:=by simp [atKey,Cs,e']
   rw [wU e,b];exact ih
theorem KT.repl {H:Hp}{kvs:List (List Key × V)}{xs:List (List Key × Addr × Value)}(r:KT H kvs xs)(k:List Key){y:V}{u:Value}(ry:RelV y u) :
  KT H (kvs.map fun kv=>if kv.1=k then (kv.1,y) else kv) (xs.map (putAt k u)):=by
 induction r with
 | nil=>exact .nil
 | @cons p q ps qs h t ih =>
  rw [AN,AN]
  refine .cons ?_ ih
  obtain ⟨h1,h2,h3⟩:=h
  unfold putAt
  by_cases e:p.1=k
  ·rw [Ai e,Ai (h1.symm.trans e)];exact ⟨h1,h2,ry⟩
  ·rw [Ah e,Ah (fun z=>e (h1.trans z))];exact ⟨h1,h2,h3⟩
theorem KT.put {H:Hp}{kvs:List (List Key × V)}{xs:List (List Key × Addr × Value)}(r:KT H kvs xs)(k:List Key){b:Addr}{y:V}{u:Value}(hb:H b=some (.tup (k.map kV)))(ry:RelV y u) :
  KT H (putK kvs k y) (storedH xs k b u):=by
 have e:(kvs.any fun kv=>decide (kv.1=k))=(atKey xs k).isSome:=by
  rw [lH,(r.val k).isSome_eq,Option.isSome_map]
 unfold putK storedH
 rw [e]
 by_cases q:(atKey xs k).isSome=true
 ·rw [Ai q,Ai q];exact r.repl k ry
 ·rw [Ah q,Ah q];exact Paired.snoc r ⟨rfl,hb,ry⟩
theorem KT.keeps {H H':Hp}{kvs:List (List Key × V)}{xs:List (List Key × Addr × Value)}(r:KT H kvs xs)(ht:∀ b ys,H b=some (.tup ys)→H' b=some (.tup ys)):KT H' kvs xs :=
 Paired.mapP r fun _ _ z=>⟨z.1,ht _ _ z.2.1,z.2.2⟩
section
variable {P:Program}{w:World}{H:Hp}{h:Heap}{a:Addr}
theorem rd_of {u:HO}(ok:HOk P w H h)(e:Rd H a u):ObjOk P w H h a u:=e.ok ok
theorem dk_rd {kvs:List (Key × V)}(ok:HOk P w H h)(e:Rd H a (.dK kvs)):kvs.length ≤ sizeLine∧(a == sysModules)=false∧∃ vs,KV kvs vs∧h.DictOf (zA P w) a vs :=
 show ObjOk P w H h a (.dK kvs) from rd_of ok e
theorem dk_of {kvs:List (Key × V)}(ok:HOk P w H h)(e:H a=some (.dK kvs)):kvs.length ≤ sizeLine∧(a == sysModules)=false∧∃ vs,KV kvs vs∧h.DictOf (zA P w) a vs:=dk_rd ok (.inl e)
theorem sQ {ks:List Key}(ok:HOk P w H h)(e:H a=some (.tup (ks.map kV))):(tupleKind (zA P w)).is h ks a:=by
 obtain ⟨_,its,r,o,h1,h2,n,h3⟩:=(show ObjOk P w H h a (.tup (ks.map kV)) from ok a _ e)
 exact ⟨o,its.toArray,n,h1,h2,h3,by simpa using mJ r⟩
theorem dt_rd {kvs:List (List Key × V)}(ok:HOk P w H h)(e:Rd H a (.dT kvs)):kvs.length ≤ sizeLine∧(a == sysModules)=false ∧
  ∃ xs,KT H kvs xs∧h.DictOfH (tupleKind (zA P w)) a xs:=by
 obtain ⟨z,y,xs,r,o,es,ep,h1,h2,h3,h4,h5⟩:=(show ObjOk P w H h a (.dT kvs) from rd_of ok e)
 refine ⟨z,y,xs,r,o,es,ep,h1,h2,h3,h4,fun x hx=>?_,h5⟩
 have all:∀ {l:List (List Key × V)} {m:List (List Key × Addr × Value)},KT H l m→∀ x ∈ m,(tupleKind (zA P w)).is h x.1 x.2.1:=by
  intro l m q
  induction q with
  | nil=>intro x hx;exact nomatch hx
  | @cons p q ps qs hq t ih =>
   intro x hx
   rcases A4.mp hx with e | hx
   ·subst e
    exact sQ ok (by rw [← hq.1];exact hq.2.1)
   ·exact ih x hx
 exact all r x hx
theorem dt_of {kvs:List (List Key × V)}(ok:HOk P w H h)(e:H a=some (.dT kvs)):kvs.length ≤ sizeLine∧(a == sysModules)=false ∧
  ∃ xs,KT H kvs xs∧h.DictOfH (tupleKind (zA P w)) a xs:=dt_rd ok (.inl e)
end
noncomputable def DGet (H:Hp)(a:Addr)(y:V)(r:Option V):Prop :=
 (∃ kvs k,Rd H a (.dK kvs)∧y=kV k∧r=y4 kvs k)∨∃ kvs k b,Rd H a (.dT kvs)∧y = .ref b∧H b=some (.tup (k.map kV))∧r=y4 kvs k
noncomputable def DPut (H:Hp)(a:Addr)(y v:V)(H':Hp):Prop :=
 (∃ kvs k,H a=some (.dK kvs)∧y=kV k∧kvs.length < sizeLine∧H'=upd H a (.dK (putK kvs k v))) ∨
 ∃ kvs k b,H a=some (.dT kvs)∧y = .ref b∧H b=some (.tup (k.map kV))∧kvs.length < sizeLine∧H'=upd H a (.dT (putK kvs k v))
theorem DGet.k {H:Hp}{a:Addr}{kvs:List (Key × V)}{k:Key}(e:H a=some (.dK kvs)):DGet H a (kV k) (y4 kvs k):=.inl ⟨kvs,k,.inl e,rfl,rfl⟩
theorem DPut.k {H:Hp}{a:Addr}{kvs:List (Key × V)}{k:Key}{v:V}(e:H a=some (.dK kvs))(hl:kvs.length < sizeLine):DPut H a (kV k) v (upd H a (.dK (putK kvs k v))):=.inl ⟨kvs,k,e,rfl,hl,rfl⟩
section
variable {X:Cx}{pins:List (Addr × Obj)}{σ:St}{H:Hp}{s:Shared}{a:Addr}{y v:V}{u r:Value}{o:Option V}{A:Around}{E:Value→Shared→Prop}
theorem Inv.big (I:Inv X pins σ H s):sysModules < s.heap.objs.size:=by
 have h:mainGlobals < s.heap.objs.size:=(I.mod.glob.keeps I.bk).lt
 exact Nat.lt_trans (by decide) h
theorem mO {Q:Value→Shared→Prop}(hu:A.units + 1 < cLine)(I:Inv X pins σ H s)(g:DGet H a y (some v))(ry:RelV y u)(h:∀ w' s',Inv X pins σ H s'→RelV v w'→Q w' s') :
  wpAny (model X.prog X.w) A (getItem (.ref a) u) Q E s:=by
 rcases g with ⟨kvs,k,e,ey,l⟩ | ⟨kvs,k,b,e,ey,eb,l⟩
 ·subst ey
  obtain ⟨z,hd,vs,rel,dd⟩:=dk_rd I.hok e
  obtain ⟨w',hw,rw'⟩:=RelO.some_of (v:=v) (o:=valueAt vs k) (by rw [l];exact rel.val k)
  exact wpAny_getItem_of (uB ry) dd.mapOf hw (h w' _ (I.tok _) rw')
 ·subst ey
  cases (show u=Value.ref b from ry)
  obtain ⟨z,hd,xs,rel,dd⟩:=dt_rd I.hok e
  obtain ⟨w',hw,rw'⟩:=RelO.some_of (v:=v) (o:=(atKey xs k).map (·.2)) (by rw [l];exact rel.val k)
  obtain ⟨p,hp,hp2⟩:=Al.mp hw
  refine wpAny_getItem_heap (tupleKind_room_in1 hu) (sQ I.hok eb) dd hp ?_
  rw [hp2]
  exact h w' _ (I.tok _) rw'
theorem nX {h':Heap}{t':Nat}{ob:HO}(I:Inv X pins σ H s)(mu:Mut (H a))(hs:Heap.SameBut a s.heap h')(he:∃ q,h'.get? a=some q)(new:ObjOk X.prog X.w (upd H a ob) h' a ob) :
  Inv X pins σ (upd H a ob) { s with heap:=h',toks:=t' } :=
 I.write (x:=a) (e:=a) mu (.inl rfl) (fun b q hb z=>(hs.2 b hb).trans z) he new
theorem dk_new {P:Program}{w:World}{H':Hp}{h':Heap}{kvs:List (Key × V)}{vs:List (Key × Value)}(z:kvs.length ≤ sizeLine)(hd:(a == sysModules)=false)(rel:KV kvs vs)(dd:h'.DictOf (zA P w) a vs) :
  ObjOk P w H' h' a (.dK kvs):=⟨z,hd,vs,rel,dd⟩
theorem eU {H':Hp}{Q:Unit→Shared→Prop}(hu:A.units + 1 < cLine)(I:Inv X pins σ H s)(g:DPut H a y v H')(ry:RelV y u)(rv:RelV v r)(h:∀ s',Inv X pins σ H' s'→Q () s') :
  wpAny (model X.prog X.w) A (setItem (.ref a) u r) Q E s:=by
 rcases g with ⟨kvs,k,e,ey,l,eH⟩ | ⟨kvs,k,b,e,ey,eb,l,eH⟩
 ·subst ey eH
  obtain ⟨z,hd,vs,rel,dd⟩:=dk_of I.hok e
  have hz:vs.length ≤ sizeLine:=by rw [← rel.length];exact z
  have hl:(putK kvs k v).length ≤ sizeLine:=by have:=vW kvs k v;omega
  refine wpAny_setItem_pairs (hsz:=hz) (uB ry) dd fun h' dd' hs=>h _ ?_
  have he:∃ q,h'.get? a=some q:=let ⟨q,_,_,hq,_⟩:=dd';⟨q,hq⟩
  exact nX I (by rw [e];exact True.intro) hs he (dk_new hl hd (rel.put k rv) dd')
 ·subst ey eH
  cases (show u=Value.ref b from ry)
  obtain ⟨z,hd,xs,rel,dd⟩:=dt_of I.hok e
  have hz:xs.length ≤ sizeLine:=by rw [← Paired.length rel];exact z
  have hl:(putK kvs k v).length ≤ sizeLine:=by have:=vW kvs k v;omega
  refine wpAny_setItem_heap (hsz:=hz) (tupleKind_room_in1 hu) (sQ I.hok eb) dd fun h' dd' hs=>h _ ?_
  obtain ⟨q,es,ep,hq,h2,h3,h4,_,h5⟩:=dd'
  refine nX I (by rw [e];exact True.intro) hs ⟨q,hq⟩ ⟨hl,hd,_,(rel.put k eb rv).keeps fun c ys ec=>?_,q,es,ep,hq,h2,h3,h4,h5⟩
  rw [q9 (ne_of ec e (fun z=>nomatch z))]
  exact ec
end
section
variable {X:Cx}{pins:List (Addr × Obj)}{σ:St}{H:Hp}{s:Shared}{a:Addr}{kvs:List (Key × V)}{k:Key}{u:Value}{A:Around}{E:Value→Shared→Prop}
end
noncomputable def NoSl (i:Expr):Prop:=∀ ov iv,subscripted i false ov iv=operate [ov,iv] (getItem ov iv)
theorem subD_of {prog:Program}{w:World}{A:Around}{E:Value→Shared→Prop}{s:Shared}{env:Env}{value slice:Expr}{pos:Pos}{T id:String}{Q:Value→Shared→Prop}
  (hl:typeLookup (.type T) "__getitem__" = pure (some (.builtin id))) (hs:NoSl slice)
  (h:wpAny (model prog w) A (eval value env) (fun o s₁=>wpAny (model prog w) A (eval slice env) (fun i s₂=>s₂.TypeIs o T∧wpAny (model prog w) A (getItem o i) Q E s₂) E s₁) E s) :
  wpAny (model prog w) A (eval (.Subscript value slice pos) env) Q E s:=by
 refine Subscript_ (wpAny_mono h (fun o s₁ h₁=>wpAny_mono h₁ (fun i s₂ h₂=>?_) fun _ _ x=>x) fun _ _ x=>x)
 obtain ⟨hT,h₂⟩:=h₂
 unfold subscriptTail
 refine wpAny_bind ?_
 rw [getitemInPython_of_ne hT.not_modules]
 refine wpAny_bind (wpAny_specialOf hT hl ?_)
 have fin:wpAny (model prog w) A (subscripted slice false o i) (fun r s₃=>wpAny (model prog w) A (letTemporaryGo value o r >>= fun _=>pure r) Q E s₃) E s₂:=by
  rw [hs o i]
  exact wpAny_operating (wpAny_mono h₂ (fun r s₃ h₃=>wpAny_bind (wpAny_letTemporaryGo (wpAny_pure h₃))) fun _ _ x=>x)
 first
  | exact wpAny_pure (wpAny_bind fin)
  | exact wpAny_bind (wpAny_pure (wpAny_bind fin))
  | exact wpAny_bind fin
theorem pZ {X:Cx}{pins:List (Addr × Obj)}{σ:St}{H:Hp}{s:Shared}{a:Addr}{y:V}{o:Option V}(I:Inv X pins σ H s)(g:DGet H a y o):s.TypeIs (.ref a) "dict" := by
 rcases g with ⟨kvs,k,e,_,_⟩ | ⟨kvs,k,b,e,_,_,_⟩
 ·obtain ⟨_,_,vs,_,dd⟩:=dk_rd I.hok e
  exact dd.typeIs
 ·obtain ⟨_,_,xs,_,dd⟩:=dt_rd I.hok e
  exact dd.typeIs
section
variable {X:Cx}{o i e value:Expr}{pos pos' tpos:Pos}{td ty tv:TE}
end
theorem dk_empty {P:Program}{w:World}{H:Hp}(h:Heap)(hb:sysModules < h.objs.size):ObjOk P w H (h.push { cls:=.type "dict",data:=.dict #[] }) h.objs.size (.dK []) :=
 ⟨AJ _,beq_eq_false_iff_ne.mpr (Cr (A0 hb)),[],.nil,Heap.DictOf.new h⟩
section
variable {X:Cx}{pos:Pos}
end
noncomputable def gW:List (TE × TE)→St→Hp→(List (V × V)→Hp→Prop)→Prop
 | [],_,H,Q=>Q [] H
 | (tk,tv) :: r,σ,H,Q=>tk σ H fun x H1=>tv σ H1 fun y H2=>gW r σ H2 fun ps H3=>Q ((x,y) :: ps) H3
noncomputable abbrev VV:List (V × V)→List (Value × Value)→Prop:=Paired fun p q=>RelV p.1 q.1∧RelV p.2 q.2
noncomputable def PPs (X:Cx)(pos:Pos)(keys:List (Option Expr))(values:List Expr)(trs:List (TE × TE)):Prop :=
 ∀ (pins:List (Addr × Obj)) (s:Shared) (σ:St) (H:Hp) (Q:List (V × V)→Hp→Prop),Inv X pins σ H s→gW trs σ H Q →
  wpAny (model X.prog X.w) X.A (evalPairs (pairTrees keys values X.env pos)) (fun vs s'=>∃ ps H',Inv X pins σ H' s'∧VV ps vs∧Q ps H') X.xe s
theorem pps_nil {X:Cx}{pos:Pos}:PPs X pos [] [] []:=fun pins s σ H Q I h=>pairTrees_nil_walk ⟨[],H,I,.nil,h⟩
theorem xT {X:Cx}{pos:Pos}{k v:Expr}{ks:List (Option Expr)}{vs:List Expr}{tk tv:TE}{trs:List (TE × TE)}(hk:PE X k tk)(hv:PE X v tv)(hr:PPs X pos ks vs trs) :
  PPs X pos (some k :: ks) (v :: vs) ((tk,tv) :: trs):=fun pins s σ H Q I h =>
 pairTrees_cons_walk (jM (hk pins s σ H _ I h) fun u s1 ⟨x,H1,I1,rx,q1⟩=>jM (hv pins s1 σ H1 _ I1 q1) fun w2 s2 ⟨y,H2,I2,ry,q2⟩ =>
  jM (hr pins s2 σ H2 _ I2 q2) fun ws s3 ⟨ps,H3,I3,rel,q3⟩=>⟨(x,y) :: ps,H3,I3,.cons ⟨rx,ry⟩ rel,q3⟩)
noncomputable def g8 (kvs more:List (Key × V)):List (Key × V):=more.foldl (fun acc kv=>putK acc kv.1 kv.2) kvs
theorem KV.merge:∀ {more:List (Key × V)} {rs:List (Key × Value)} {kvs:List (Key × V)} {vs:List (Key × Value)},KV more rs→KV kvs vs→KV (g8 kvs more) (merged vs rs):=by
 intro more rs kvs vs r
 unfold KV at r
 induction r generalizing kvs vs with
 | nil=>intro q;exact q
 | @cons p q ps qs h t ih =>
  intro r0
  have e:KV (putK kvs p.1 p.2) (stored vs q.1 q.2):=by
   have:=r0.put p.1 h.2
   rw [← h.1];exact this
  exact ih e
theorem gT:∀ (more kvs:List (Key × V)),(g8 kvs more).length ≤ kvs.length + more.length
 | [],kvs=>by show kvs.length ≤ kvs.length + 0;omega
 | p :: r,kvs=>by
  have h1:=gT r (putK kvs p.1 p.2)
  have h2:=vW kvs p.1 p.2
  show (g8 (putK kvs p.1 p.2) r).length ≤ _
  rw [A6];omega
theorem bZ {P:Program}{w:World}:∀ {kvs:List (Key × V)} {ws:List (Value × Value)},VV (kvs.map fun kv=>(kV kv.1,kv.2)) ws→∃ rs,Carries (zA P w) ws rs∧KV kvs rs
 | [],_,r=>by rw [C3] at r;cases r;exact ⟨[],True.intro,.nil⟩
 | p :: kvs,_,r=>by
  rw [AN] at r
  cases r with
  | @cons a b as bs h t =>
   obtain ⟨rs,c,q⟩:=bZ (P:=P) (w:=w) t
   obtain ⟨b1,b2⟩:=b
   exact ⟨(p.1,b2) :: rs,⟨uB h.1,rfl,c⟩,.cons ⟨rfl,h.2⟩ q⟩
noncomputable def tDisp (trs:List (TE × TE)):TE:=fun σ H Q=>∀ p,H p=none→gW trs σ (upd H p (.dK [])) fun ps H2=>H2 p=some (.dK [])∧∃ kvs:List (Key × V),ps=kvs.map (fun kv=>(kV kv.1,kv.2))∧kvs.length ≤ 15∧Q (.ref p) (upd H2 p (.dK (g8 [] kvs)))
theorem pe_disp {X:Cx}{pos:Pos}{keys:List (Option Expr)}{values:List Expr}{trs:List (TE × TE)}(h:PPs X pos keys values trs)(hall:keys.all (·.isSome)=true)(hl:keys.length=values.length)(h0:keys ≠ [])
  (h15:keys.length ≤ 15):PE X (.Dict keys values pos) (tDisp trs):=by
 intro pins s σ H Q I q
 have hn:=I.hok.fresh (Ak s.heap.objs.size)
 have I1:=I.laid (a:=s.heap.objs.size) (o:=.dK []) (h':=s.heap.push { cls:=.type "dict",data:=.dict #[] }) (t':=s.toks) (fun _ _ q=>Ac _ q) (Ak _) (dk_empty s.heap I.big)
 refine wpAny_Dict_walk (knd:=zA X.prog X.w) hall hl h0 h15 (jM (h pins _ σ _ _ I1 (q _ hn)) fun ws s2 ⟨ps,H2,I2,rel,e,kvs,ep,lk,q2⟩=>?_)
 subst ep
 obtain ⟨rs,c,rk⟩:=bZ (P:=X.prog) (w:=X.w) rel
 obtain ⟨z,hd,vs0,r0,dd⟩:=dk_of I2.hok e
 cases r0
 refine ⟨rs,c,dd,fun h' dd' hs=>⟨.ref s.heap.objs.size,_,?_,rfl,q2⟩⟩
 have hz:(g8 [] kvs).length ≤ sizeLine:=by
  have h1:=gT kvs []
  rw [Bq] at h1
  rw [sizeLine_eq];omega
 have he:∃ q,h'.get? s.heap.objs.size=some q:=let ⟨q,_,_,hq,_⟩:=dd';⟨q,hq⟩
 exact nX I2 (by rw [e];exact True.intro) hs he (dk_new hz hd (rk.merge .nil) dd')
section
variable {X:Cx}{pins:List (Addr × Obj)}{σ:St}{H:Hp}{s:Shared}{a:Addr}{y d:V}{u r:Value}{o:Option V}{A:Around}{E:Value→Shared→Prop}
end
section
variable {X:Cx}{o e f:Expr}{apos cpos:Pos}{td ty tx:TE}
end
section
variable {X:Cx}{pins:List (Addr × Obj)}{σ:St}{H:Hp}{s:Shared}{a:Addr}{kvs:List (Key × V)}{A:Around}{E:Value→Shared→Prop}
end
section
variable {X:Cx}{pins:List (Addr × Obj)}{σ:St}{H:Hp}{s:Shared}{a:Addr}{y:V}{u:Value}{A:Around}{E:Value→Shared→Prop}
end
end L2
namespace Att
open PySem PySem.W PySem.Calls PyProof.Rows
end Att
namespace L2
open PySem PySem.Spec PyProof.Rows
end L2
namespace L2
open PySem PySem.Spec PyProof.Rows
end L2
namespace L2
open PySem PySem.Spec PyProof.Rows
section
variable {X:Cx}
end
section
variable {κ:Type}[DecidableEq κ]
end
noncomputable def tR (x y:V)(H:Hp)(Q:VK):Prop:=∃ a kvs k v,x = .ref a∧y = .str k∧H a=some (.dK kvs)∧y4 kvs (Sum.inr k)=some v∧Q v H
noncomputable def oC (x y v:V)(H:Hp)(Q:Hp→Prop):Prop:=∃ a kvs k,x = .ref a∧y = .str k∧H a=some (.dK kvs)∧kvs.length < sizeLine∧Q (upd H a (.dK (putK kvs (Sum.inr k) v)))
theorem dget_k {H:Hp}{a:Addr}{kvs:List (Key × V)}{k:Str}{v:V}(e:H a=some (.dK kvs))(hv:y4 kvs (Sum.inr k)=some v):DGet H a (.str k) (some v):=by
 have:=DGet.k (k:=Sum.inr k) e
 rw [hv] at this
 exact this
section
variable {X:Cx}
theorem yS (hu:X.A.units + 1 < cLine):PSet X oC:=by
 intro pins s σ H o i v ov iv u Q I ro ri rv h
 obtain ⟨a,kvs,k,rfl,rfl,e,l,q⟩:=h
 obtain rfl:ov=Value.ref a:=ro
 exact eU hu I (DPut.k (k:=Sum.inr k) e l) ri rv fun s' I'=>⟨_,I',q⟩
theorem nV (hu:X.A.units + 1 < cLine):PGet X tR:=by
 intro pins s σ H o i ov iv Q I ro ri h
 obtain ⟨a,kvs,k,v,rfl,rfl,e,hv,q⟩:=h
 obtain rfl:ov=Value.ref a:=ro
 exact mO hu I (dget_k e hv) ri fun w' s' I' rw'=>⟨v,H,I',rw',q⟩
theorem zE {o i:Expr}{pos:Pos}{td ti:TE}(hu:X.A.units + 1 < cLine)(ho:PE X o td)(hi:PE X i ti)(hs:NoSl i):PE X (.Subscript o i pos) (tG tR td ti):=by
 intro pins s σ H Q I h
 refine subD_of PySem.F.slot_dict_getitem.lookup hs (jM (ho pins s σ H _ I h) fun u s1 ⟨x,H1,I1,rx,q1⟩=>jM (hi pins s1 σ H1 _ I1 q1) fun iv s2 ⟨y,H2,I2,ry,a,kvs,k,v,ex,ey,e,hv,q2⟩=>?_)
 subst ex ey
 obtain rfl:u=Value.ref a:=rx
 have g:=dget_k e hv
 exact ⟨pZ I2 g,mO hu I2 g ry fun w' s3 I3 rw'=>⟨v,H2,I3,rw',q2⟩⟩
theorem op_mulB:xZ X (binaryOp .Mult) (rI IntMulOk fun i j=>.int (i * j)):=opI fun _ _ _ _ _ _ _ hc q=>mul_int q hc
end
theorem a_rGetK {x y:V}{H:Hp}{Q:VK}:tR x y H Q = ∃ a kvs k v,x = .ref a∧y = .str k∧H a=some (.dK kvs)∧y4 kvs (Sum.inr k)=some v∧Q v H:=rfl
theorem a_rSetK {x y v:V}{H:Hp}{Q:Hp→Prop}:oC x y v H Q = ∃ a kvs k,x = .ref a∧y = .str k∧H a=some (.dK kvs)∧kvs.length < sizeLine∧Q (upd H a (.dK (putK kvs (Sum.inr k) v))):=rfl
theorem a_tAugS {to ti te:TE}{tget:V→V→Hp→VK→Prop}{tip:TIp}{tset:TSet}{D:Ends}{σ:St}{H:Hp}:tAugS to ti te tget tip tset D σ H=to σ H fun o H1=>ti σ H1 fun i H2=>tget o i H2 fun x H3=>te σ H3 fun y H4=>tip x y H4 fun z H5=>tset o i z H5 fun H6=>D.nx σ H6:=rfl
theorem a_ipI {f:Int→Int→Int}{x y:V}{H:Hp}{Q:VK}:ipI f x y H Q = ∃ i j,x = .int i∧y = .int j∧Q (.int (f i j)) H:=rfl
theorem a_tDisp {trs:List (TE × TE)}{σ:St}{H:Hp}{Q:VK}:tDisp trs σ H Q = ∀ p,H p=none→gW trs σ (upd H p (.dK [])) fun ps H2=>H2 p=some (.dK [])∧∃ kvs:List (Key × V),ps=kvs.map (fun kv=>(kV kv.1,kv.2))∧kvs.length ≤ 15∧Q (.ref p) (upd H2 p (.dK (g8 [] kvs))):=rfl
theorem a_prs0 {σ:St}{H:Hp}{Q:List (V × V)→Hp→Prop}:gW [] σ H Q=Q [] H:=rfl
theorem a_prs {tk tv:TE}{r:List (TE × TE)}{σ:St}{H:Hp}{Q:List (V × V)→Hp→Prop}:gW ((tk,tv) :: r) σ H Q=tk σ H fun x H1=>tv σ H1 fun y H2=>gW r σ H2 fun ps H3=>Q ((x,y) :: ps) H3:=rfl
theorem a_tAug {i:Nat}{te:TE}{ti:TIp}{D:Ends}{σ:St}{H:Hp}:tAug i te ti D σ H = ∃ x,σ[i]? = some (some x)∧te σ H fun y H1=>ti x y H1 fun z H2=>D.nx (σ.set i (some z)) H2:=rfl
noncomputable def CpAt (op:CmpOp)(A:Around)(s:Shared)(y x:Value)(b:Bool):Prop:=∀ (prog:Program) (w:World) (E:Value→Shared→Prop) (Q:Value→Shared→Prop),Q (.bool b) s→wpAny (model prog w) A (richCompare op y x) Q E s
inductive Ky where
 | i (n:Int)
 | t (a:Addr) (ns:List Int)
noncomputable def kyV:Ky→V
 | .i n=>.int n
 | .t a _=>.ref a
noncomputable def kyOk (H:Hp):Ky→Prop
 | .i _=>True
 | .t a ns=>H a=some (.tup (ns.map V.int))
noncomputable def kyS:Ky→Option Nat
 | .i _=>none
 | .t _ ns=>some ns.length
noncomputable def k0:Ky:=.i 0
section
variable {X:Cx}
theorem int_lt {A:Around}{s:Shared}{n m:Int}{u v:Value}(ru:RelV (.int n) u)(rv:RelV (.int m) v):CpAt .Lt A s u v (decide (n < m)):=by
 intro prog w E Q h
 obtain ⟨t,rfl⟩:=ru
 obtain ⟨t',rfl⟩:=rv
 exact CmpOf.ints_lt (P:=fun i v=>∃ t,v = .int (if i=0 then n else m) t) (fun i=>if i=0 then n else m) (fun i v h=>h) 0 1 _ _ s Q E ⟨t,rfl⟩ ⟨t',rfl⟩ h
end
section
variable {prog:Program}{w:World}{A:Around}{R:Result→Shared→Prop}{it:Addr}{fp wr:List Addr}{n:Nat}{Pv:Nat→Value→Prop}{St:Nat→Heap→Prop}{D:Shared→Prop}
end
section
variable {prog:Program}{w:World}{A:Around}{R:Result→Shared→Prop}{it:Addr}{fp wr:List Addr}{n:Nat}{Pv:Nat→Value→Prop}{St:Nat→Heap→Prop}{D:Shared→Prop}
end
section
variable {X:Cx}
noncomputable def RowsK (H:Hp)(rs:List (Addr × List Ky)):Prop:=(∀ r ∈ rs,H r.1=some (.tup (r.2.map kyV))∧∀ k ∈ r.2,kyOk H k)∧∃ sh,∀ r ∈ rs,r.2.map kyS=sh
end
noncomputable def rN (X:Cx)(N:List Str)(sc:Scope)(y:Str)(cl:List (Str × Addr))(s:Shared)(H:Hp)(ex:List Addr):Cx where
 prog:=X.prog
 w:=X.w
 K:=X.K
 mg:=X.mg
 base:=X.base
 A:=X.A
 N:=N
 s₀:=s
 H₀:=H
 env:=compEnvC sc ((y,s.heap.objs.size + 1) :: cl) s.heap.objs.size X.env
 outer:=X.stack
 stack:=X.stack
 ex:=ex
 fn:=fun x=>x == y
 calm:=X.calm
 pn:=[]
 xe:=fun _ _=>False
structure CScope1 (X:Cx)(N:List Str)(fr:List (Option Nat))(sc:Scope)(y:Str):Prop where
 kind:sc.kind = .function
 cell:∀ z ∈ sc.names,z.2=NameKind.cell→z.1=y
 loc:∀ z ∈ sc.names,z.2 = .local→sc.names.lookup z.1=some .local
 own:sc.names.lookup y=some .cell
 len:fr.length=N.length
 fr:∀ (i j:Nat),fr[i]? = some (some j)→∃ x,N[i]? = some x∧X.N[j]? = some x∧sc.names.lookup x=some .free∧(X.env.kindOf x=some .cell∨X.env.kindOf x=some .free)
 from1:∀ n cl,cellsFrom n sc.names cl=(y,n) :: cl
 push1:∀ h,pushCells h sc.names=h.push { cls:=.type "cell",data:=.cell none }
noncomputable def okLoc1 (y:Str)(names:List (Str × NameKind)):Bool:=names.all fun z=>(z.2 != .cell || z.1 == y) && (z.2 != .local || names.lookup z.1 == some .local)
theorem CScope1.of {X:Cx}{N:List Str}{fr:List (Option Nat)}{sc:Scope}{y:Str}(h1:sc.kind = .function)(h2:okLoc1 y sc.names=true)(h3:pN X.N X.env.scope.names sc.names N fr=true)(h4:sc.names.lookup y=some .cell)
  (h5:∀ n cl,cellsFrom n sc.names cl=(y,n) :: cl) (h6:∀ h,pushCells h sc.names=h.push { cls:=.type "cell",data:=.cell none }):CScope1 X N fr sc y:=by
 have h2':=AR.mp h2
 refine ⟨h1,fun z hz e=>?_,fun z hz e=>?_,h4,bI h3,fun i j e=>bJ h3 e,h5,h6⟩
 ·have q:=h2' z hz
  rw [e] at q
  simp at q
  exact q
 ·have q:=h2' z hz
  rw [e] at q
  simp at q
  exact q
theorem hI {env : Env}{y : Str} : ∀ {names : List (Str × NameKind)} {x : Str}, (∀ z ∈ names, z.2 = NameKind.cell → z.1 = y) →
    ((names.map fun (n, k) => if (k == NameKind.free && env.scope.kind == .function && env.kindOf n == some .cell) then (n, NameKind.cell) else (n, k)).lookup x = some .cell ∨
     (names.map fun (n, k) => if (k == NameKind.free && env.scope.kind == .function && env.kindOf n == some .cell) then (n, NameKind.cell) else (n, k)).lookup x = some .free) → x = y ∨ (x, NameKind.free) ∈ names
  | [], x, _, h => by simp at h
  | (n, k) :: r, x, hc, h => by
    have ih := @hI env y r x (fun z hz => hc z (Ay _ hz))
    rw [AN] at h
    cases hx : x == n with
    | true =>
      have e : x = n := by simpa using hx
      subst e
      by_cases hk : k = NameKind.free
      · subst hk; exact .inr A2
      · have hb : (k == NameKind.free) = false := by simpa using hk
        simp only [hb, Bz, Bg, C2, AW, C5] at h
        rcases h with h | h
        · exact .inl (hc (x, k) A2 (A9 h))
        · exact absurd (A9 h) hk
    | false =>
      refine (ih ?_).imp id (Ay _)
      by_cases hcnd : (k == NameKind.free && env.scope.kind == .function && env.kindOf n == some .cell) = true
      · simp only [hcnd, Cv, AW, hx] at h; exact h
      · simp only [hcnd, C2, AW, hx, Bg] at h; exact h
theorem hV {y x:Str}{n c:Addr}{cl:List (Str × Addr)}(h:((y,n) :: cl).lookup x=some c):(x=y∧c=n)∨(x ≠ y∧cl.lookup x=some c):=by
 rw [AW] at h
 cases e:x == y with
 | true=>rw [e] at h;cases h;exact .inl ⟨by simpa using e,rfl⟩
 | false=>rw [e] at h;exact .inr ⟨by simpa using e,h⟩
theorem pU {y x:Str}{n c:Addr}{cl:List (Str × Addr)}(ne:x ≠ y)(h:cl.lookup x=some c):((y,n) :: cl).lookup x=some c:=by
 rw [AW]
 have e:(x == y)=false:=by simpa using ne
 rw [e]
 exact h
section
variable {X:Cx}{pins:List (Addr × Obj)}{σ:St}{H H':Hp}{s:Shared}
theorem Inv.block1 {N:List Str}{fr:List (Option Nat)}{sc:Scope}{y:Str}{cl:List (Str × Addr)}{ex:List Addr}{h1:Heap}{tk:Nat}(I:Inv X pins σ H s)(S:CScope1 X N fr sc y)(hcl:xC sc.names X.env.cells [] = some cl)
  (hex:∀ b ∈ ex,yU X pins H b∧b < s.heap.objs.size) (hns:h1.Ns s.heap.objs.size (fun _=>none)) (hce:h1.IsCell (s.heap.objs.size + 1) none) (hk:∀ b u,s.heap.get? b=some u→h1.get? b=some u) :
  Inv (rN X N sc y cl s H ex) [] (cH fr σ) H { s with heap:=h1,toks:=tk }:=by
 have hfree:H s.heap.objs.size=none:=I.hok.fresh (Ak _)
 have clt:∀ x c,cl.lookup x=some c→c < s.heap.objs.size:=fun x c e=>by
  obtain ⟨v,q⟩:=I.cell x c (kP hcl e)
  exact q.lt
 refine ⟨⟨I.ok.mod,S.kind,I.ok.glob,I.ok.blt,Ak _,fun x z c h1 h2=>?_,fun x hx=>?_,fun x c z h1=>?_,I.ok.hd,I.ok.frames,Or.inl rfl,fun b hb=>?_,I.bs,AX I.ok.bsz I.sz,fun b o e hb=>?_,fun b hb hf=>?_,I.stack,I.stkFree⟩,
  rfl,I.bare,Un.kept hk,⟨_,hns,fun i x v h1 h2 h3=>?_⟩,fun x c e=>?_,hfree,fun x c e=>?_,fun p hp=>absurd (show p ∈ ([] : List (Addr × Obj)) from hp) (by simp),I.hok.kept hk,?_⟩
 ·rcases hV h1 with ⟨e1,c1⟩ | ⟨_,e1⟩ <;> rcases hV h2 with ⟨e2,c2⟩ | ⟨_,e2⟩
  ·rw [e1,e2]
  ·exact absurd (clt z c e2) (by rw [c1];exact CQ.mpr (BN _))
  ·exact absurd (clt x c e1) (by rw [c2];exact CQ.mpr (BN _))
  ·exact I.ok.inj x z c (kP hcl e1) (kP hcl e2)
 ·have hx':(relabel sc X.env).names.lookup x=some .cell∨(relabel sc X.env).names.lookup x=some .free:=hx
  by_cases ne:x=y
  ·exact ⟨s.heap.objs.size + 1,by show ((y,s.heap.objs.size + 1) :: cl).lookup x=_;rw [ne,AW];simp⟩
  ·rcases hI S.cell hx' with e | e
   ·exact absurd e ne
   ·obtain ⟨c,hc⟩:=xY sc.names [] cl hcl x e
    obtain ⟨c',hc'⟩:=zM hc
    exact ⟨c',pU ne hc'⟩
 ·have e:x=y:=by simpa using (show (x == y)=true from z)
  rcases hV h1 with ⟨_,c1⟩ | ⟨ne,_⟩
  ·show s.heap.objs.size ≤ c
   rw [c1]
   exact BN _
  ·exact absurd e ne
 ·obtain ⟨⟨f0,f1,f2,f3,f4,f5⟩,lt⟩:=hex b hb
  refine ⟨A0 lt,fun x c e=>?_⟩
  rcases hV e with ⟨_,c1⟩ | ⟨_,e1⟩
  ·rw [c1]
   exact fun z=>absurd lt (by rw [← z];exact CQ.mpr (BN _))
  ·exact f4 x c (kP hcl e1)
 ·obtain ⟨⟨f0,f1,f2,f3,f4,f5⟩,lt⟩:=hex b hb
  rcases f3 with f3 | f3
  ·exact I.ok.noex b o e f3
  ·exact absurd (A8 (Am e) I.ok.bsz) (CQ.mpr f3)
 ·obtain ⟨⟨f0,f1,f2,f3,f4,f5⟩,lt⟩:=hex b hb
  rcases A4.mp (I.stkSub b hf) with e | e
  ·exact f1 e
  ·exact f2 e
 ·obtain ⟨j,hj,hv⟩:=uH h2
  obtain ⟨x',e1,e2,e3,e4⟩:=S.fr i j hj
  have hN:N[i]? = some x:=h1
  rw [hN] at e1
  cases e1
  have ne:x ≠ y:=fun z=>by rw [z,S.own] at e3;cases e3
  obtain ⟨c,hc⟩:=xY sc.names [] cl hcl x (B7 e3)
  obtain ⟨c',hc'⟩:=zM hc
  have hcX:=kP hcl hc'
  obtain ⟨m,hn,hl⟩:=I.loc
  have kc:(relabel sc X.env).names.lookup x=some .cell∨(relabel sc X.env).names.lookup x=some .free:=zL e3
  have vis:Vis X.env.scope x∧(X.env.kindOf x ≠ some .local):=by
   rcases e4 with q | q
   ·exact ⟨.inr (.inl q),by rw [q];decide⟩
   ·exact ⟨.inr (.inr q),by rw [q];decide⟩
  obtain ⟨u,r,l⟩:=hl j x v e2 hv vis.1
  refine ⟨u,r,.inr ⟨kc,c',pU ne hc',?_⟩⟩
  rcases l with ⟨q,_⟩ | ⟨_,d,hd,hcell⟩
  ·exact absurd q vis.2
  ·rw [hcX] at hd
   cases hd
   exact hcell.keeps hk
 ·rcases hV e with ⟨_,c1⟩ | ⟨_,e1⟩
  ·exact ⟨none,by rw [c1];exact hce⟩
  ·obtain ⟨v,q⟩:=I.cell x c (kP hcl e1)
   exact ⟨v,q.keeps hk⟩
 ·rcases hV e with ⟨_,c1⟩ | ⟨_,e1⟩
  ·rw [c1]
   exact I.hok.fresh (BN _)
  ·exact I.freeC x c (kP hcl e1)
 ·show (cH fr σ).length=N.length
  unfold cH
  rw [Aa];exact S.len
theorem Inv.unblock1 {N:List Str}{sc:Scope}{y:Str}{cl:List (Str × Addr)}{ex:List Addr}{pins':List (Addr × Obj)}{σ':St}{s':Shared}{h':Heap}(I:Inv X pins σ H s)(J:Inv (rN X N sc y cl s H ex) pins' σ' H' s')
  (hex:∀ b ∈ ex,yU X pins H b) (sb:Heap.SameBut s.heap.objs.size s'.heap h'):Inv X pins σ H' { s' with heap:=h' }:=by
 have free:H' s.heap.objs.size=none:=J.free
 have eq:∀ b,b ≠ s.heap.objs.size→h'.get? b=s'.heap.get? b:=sb.2
 have ne:∀ b o,s.heap.get? b=some o→b ≠ s.heap.objs.size:=fun b o e=>A0 (Am e)
 have B:Un (eO X.stack) ex H H' s.heap s'.heap:=J.base
 refine I.call' (s':={ s' with heap:=h' }) (ch:=ex) J.os ⟨fun b o q n hb hx=>(eq b (ne b o q)).trans (B.keep b o q n hb hx),fun b o q n hb hx=>?_,B.free,fun b o q hx=>?_,B.tups,B.frzs,B.tbls⟩ (fun a o e=>?_) J.bare (fun b hb=>?_)
 ·obtain ⟨sl,e⟩:=B.slot b o q n hb hx
  exact ⟨sl,(eq b (ne b o q)).trans e⟩
 ·obtain ⟨o',e⟩:=B.there b o q hx
  exact ⟨o',(eq b (ne b o q)).trans e⟩
 ·refine (J.hok a o e).stay (fun b u hb q=>?_) (fun _ q=>q) fun _ _ q=>q
  refine (eq b ?_).trans q
  rcases hb with rfl | hb
  ·exact qC e free
  ·exact qC hb free
 ·obtain ⟨f0,f1,f2,f3,f4,f5⟩:=hex b hb
  exact ⟨f3,f1,f4,f5⟩
end
theorem hU {M:Model}{A:Around}{E:Value→Shared→Prop}{s:Shared}{scope:Scope}{globals:Addr}{cl:List (Str × Addr)}{y:Str}{qual:Str}{outer:Env}{Q:Env→Shared→Prop}
  (h5:∀ n cl,cellsFrom n scope.names cl=(y,n) :: cl) (h6:∀ h,pushCells h scope.names=h.push { cls:=.type "cell",data:=.cell none })
  (hQ:∀ h',h'.Ns s.heap.objs.size (fun _=>none)→h'.IsCell (s.heap.objs.size + 1) none→(∀ b u,s.heap.get? b=some u→h'.get? b=some u) →
   Q { scope,locals:=s.heap.objs.size,globals,cells:=(y,s.heap.objs.size + 1) :: cl,qual,func:=none,code:=outer.code,frame:=outer.frame,builtins:=outer.builtins } { s with heap:=h' }) :
  wpAny M A (newFunctionEnv scope globals cl [] qual none .none (some outer)) Q E s:=by
 simp only [newFunctionEnv,Option.isSome_some,Cv]
 refine wpAny_bind (wpAny_alloc ?_)
 refine wpAny_bind (wpAny_layCells _ (fun name kind cells=>by cases hkc:kind == NameKind.cell <;> simp [hkc]) _ _ _ _ ?_)
 rw [h5,h6]
 rw [show ({ s with heap:=s.heap.push { cls:=.type "dict",data:=.dict #[] } }:Shared).heap.objs.size=s.heap.objs.size + 1 from Bh ..]
 refine wpAny_bind ?_
 rw [List.forIn_nil]
 refine wpAny_pure (wpAny_pure (hQ _ ?_ ?_ ?_))
 ·exact (Heap.Ns.new ..).keeps fun b o e=>Ac _ e
 ·refine ⟨{ cls:=.type "cell",data:=.cell none },?_,rfl⟩
  have:((s.heap.push { cls:=.type "dict",data:=.dict #[] }).push { cls:=.type "cell",data:=.cell none }).get? (s.heap.push { cls:=.type "dict",data:=.dict #[] }).objs.size=some { cls:=.type "cell",data:=.cell none }:=Ao _ rfl
  rwa [Bh] at this
 ·exact fun b u e=>Ac _ (Ac _ e)
section
variable {X:Cx}
theorem eE {N:List Str}{fr:List (Option Nat)}{e tg iter:Expr}{ifs:List Expr}{gs:List Comprehension}{sc:Scope}{y:Str}{ip:Pos}{cl:List (Str × Addr)}{wi:TI}{D:It→Addr→St→Hp→Prop}{pins:List (Addr × Obj)}{σ:St}{H:Hp}{s:Shared}{Q:VK}
  (he:clausesOf e=⟨tg,iter,ifs,0⟩ :: gs) (hi:PI X tg iter wi) (S:CScope1 X N fr sc y) (hcl:xC sc.names X.env.cells [] = some cl) (I:Inv X pins σ H s)
  (h:wi σ H fun J H1=>∀ p,H1 p=none→D J p (cH fr σ) (upd H1 p (.lst [])))
  (loop:∀ (it p:Addr) (fp:List Addr) (tn:Nat→Heap→Prop) (J:It) (s1 s2:Shared) (H1:Hp) (σ1:St),Turn X.prog X.w X.K tg J fp it tn→Inv (rN X N sc y cl s1 H1 fp) [] σ1 H1 s2→tn 0 s2.heap→(∀ b ∈ fp,yU (rN X N sc y cl s1 H1 fp) [] H1 b)→D J p σ1 H1 →
   codeAny (model X.prog X.w) X.A (.compStart e 0 (.ref it) (.ref p) (compEnvC sc ((y,s1.heap.objs.size + 1) :: cl) s1.heap.objs.size X.env)) (fun r s'=>r = .ok .next∧∃ σ' H',Inv (rN X N sc y cl s1 H1 fp) [] σ' H' s'∧Q (.ref p) H') s2)
  (hs:∀ x,foldedSetIterable iter X.env x=pure x) :
  wpAny (model X.prog X.w) X.A (comprehension e sc X.env ip (newList []) false (eval iter X.env)) (EP X pins σ Q) X.xe s:=by
 refine wpAny_comprehension_free (use:=none) he hs (zN hcl) S.kind S.loc ?_
 refine jM (hi pins s σ H _ I h) fun v s1 h1=>jM h1 fun itv s2 ⟨it,fp,tn,J,H2,e2,I2,T,st2,f2,q⟩=>?_
 subst e2
 refine wpAny_newObj_type ?_
 have hp:H2 s2.heap.objs.size=none:=I2.hok.fresh (Ak _)
 have I3:Inv X pins σ (upd H2 s2.heap.objs.size (.lst [])) { s2 with heap:=s2.heap.push { cls:=.type "list",data:=.seq ([] : List Value).toArray },toks:=s2.toks }:=I2.lnew (its:=[]) (ys:=[]) .nil (AJ _)
 have lt2:∀ b ∈ fp,b < s2.heap.objs.size:=fun b hb=>let ⟨o,e,_⟩:=T.obj 0 _ st2 b hb;Am e
 have f3:∀ b ∈ fp,yU X pins (upd H2 s2.heap.objs.size (.lst [])) b:=fun b hb=>⟨by rw [q9 (A0 (lt2 b hb))];exact (f2 b hb).1,(f2 b hb).2⟩
 have st3:tn 0 (s2.heap.push { cls:=.type "list",data:=.seq ([] : List Value).toArray }):=T.keep _ _ _ st2 fun b _ o e=>Ac _ e
 refine hU S.from1 S.push1 fun h₁ hns hce hk=>?_
 generalize hs3:({ s2 with heap:=s2.heap.push { cls:=.type "list",data:=.seq ([] : List Value).toArray } }:Shared)=s3 at hns hce hk ⊢
 have I3':Inv X pins σ (upd H2 s2.heap.objs.size (.lst [])) s3:=by rw [← hs3];exact I3
 have st3':tn 0 s3.heap:=by rw [← hs3];exact st3
 have lt3:∀ b ∈ fp,b < s3.heap.objs.size:=fun b hb=>let ⟨o,e,_⟩:=T.obj 0 _ st3' b hb;Am e
 have B:=I3'.block1 (N:=N) (fr:=fr) (sc:=sc) (y:=y) (cl:=cl) (ex:=fp) (h1:=h₁) (tk:=s3.toks) S hcl (fun b hb=>⟨f3 b hb,lt3 b hb⟩) hns hce hk
 have stB:tn 0 h₁:=T.keep _ _ _ st3' fun b _ o e=>hk b o e
 refine codeAny_mono (loop it s2.heap.objs.size fp tn J s3 _ (upd H2 s2.heap.objs.size (.lst [])) (cH fr σ) T B stB (fun b hb=>?_) (q _ hp)) fun r s' hr=>?_
 ·obtain ⟨f0,f1,f2',f3',f4,f5⟩:=f3 b hb
  refine ⟨f0,A0 (lt3 b hb),fun z=>?_,.inl hb,fun x c e=>?_,fun p hp'=>absurd (show p ∈ ([] : List (Addr × Obj)) from hp') (by simp)⟩
  ·rcases A4.mp (I3'.stkSub b z) with e | e
   ·exact f1 e
   ·exact f2' e
  ·rcases hV e with ⟨_,c1⟩ | ⟨_,e1⟩
   ·rw [c1]
    exact fun z=>absurd (lt3 b hb) (by rw [← z];exact CQ.mpr (BN _))
   ·exact f4 x c (kP hcl e1)
 ·obtain ⟨rfl,σ',H',J',q'⟩:=hr
  obtain ⟨m,hn,_⟩:=J'.loc
  exact ⟨m,hn,fun h' sb=>⟨.ref s2.heap.objs.size,H',I3'.unblock1 J' f3 sb,rfl,q'⟩⟩
theorem sE {N:List Str}{fr:List (Option Nat)}{tg iter elt:Expr}{ifs:List Expr}{sc:Scope}{pos:Pos}(y:Str){cl:List (Str × Addr)}{wi:TI}{g:TG}{tc:TT}{te:TE}(hc:X.calm=true)(hi:PI X tg iter wi)(S:CScope1 X N fr sc y)(hcl:xC sc.names X.env.cells [] = some cl)
  (hb:∀ s H ex,PG (rN X N sc y cl s H ex) tg g∧cJ (rN X N sc y cl s H ex) ifs tc∧PE (rN X N sc y cl s H ex) elt te) (hs:∀ x,foldedSetIterable iter X.env x=pure x:=by intro _;rfl) :
  PE X (.ListComp elt [⟨tg,iter,ifs,0⟩] sc pos) (tLC fr wi g tc te):=by
 intro pins s σ H Q I h
 rw [eval_ListComp]
 refine eE (D:=fun J p σ H=>m3 J g tc (y6 p te) (fun _ H2=>Q (.ref p) H2) σ H) rfl hi S hcl I h (fun it p fp tn J s1 s2 H1 σ1 T B st f d=>?_) hs
 obtain ⟨hg,hifs,helt⟩:=hb s1 H1 fp
 have L:=yX (X:=rN X N sc y cl s1 H1 fp) (e:=.ListComp elt [⟨tg,iter,ifs,0⟩] sc pos) (d:=0) (acc:=.ref p) (D:=fun _ H2=>Q (.ref p) H2) (s:=s2) hc rfl (compTurn_list elt tg iter ifs sc pos (.ref it) (.ref p) _) rfl rfl rfl T hg hifs (dW helt) B st f d
 exact codeAny_compStart_list L (T.self X.A 0 s2 _ _ st L)
end
end L2
end
section
namespace L2
open PySem
section
variable {D:Ends}{σ:St}{H:Hp}{Q:VK}{QB:Bool→Hp→Prop}{QA:List V→Hp→Prop}
end
end L2
namespace L2
theorem us0 {P:List PySem.Value→Prop}(h:P []):∀ us:List PySem.Value,us.length=0→P us:=fun us e=>by
 cases us with
 | nil=>exact h
 | cons _ _=>cases e
theorem iA {P:List PySem.Value→Prop}(h:∀ a,P [a]):∀ us:List PySem.Value,us.length=1→P us:=fun us e=>by
 cases us with
 | nil=>cases e
 | cons a t=>exact us0 (P:=fun t=>P (a :: t)) (h a) t (De e)
theorem mX {P:List PySem.Value→Prop}(h:∀ a b,P [a,b]):∀ us:List PySem.Value,us.length=2→P us:=fun us e=>by
 cases us with
 | nil=>cases e
 | cons a t=>exact iA (P:=fun t=>P (a :: t)) (h a) t (De e)
theorem us3 {P:List PySem.Value→Prop}(h:∀ a b c,P [a,b,c]):∀ us:List PySem.Value,us.length=3→P us:=fun us e=>by
 cases us with
 | nil=>cases e
 | cons a t=>exact mX (P:=fun t=>P (a :: t)) (h a) t (De e)
theorem us4 {P:List PySem.Value→Prop}(h:∀ a b c d,P [a,b,c,d]):∀ us:List PySem.Value,us.length=4→P us:=fun us e=>by
 cases us with
 | nil=>cases e
 | cons a t=>exact us3 (P:=fun t=>P (a :: t)) (h a) t (De e)
theorem us5 {P:List PySem.Value→Prop}(h:∀ a b c d f,P [a,b,c,d,f]):∀ us:List PySem.Value,us.length=5→P us:=fun us e=>by
 cases us with
 | nil=>cases e
 | cons a t=>exact us4 (P:=fun t=>P (a :: t)) (h a) t (De e)
end L2
end
section
namespace L2
open PySem PySem.Spec
noncomputable def Asks (n:Nat){α:Type}(P:α→Prop):PySem.W.KasT α→Prop
 | .ret a=>P a
 | .ask i j k=>(i < n∧j < n)∧∀ b,Asks n P (k b)
theorem Asks.mono {n:Nat}{α:Type}{P P':α→Prop}(m:∀ a,P a→P' a):∀ {t:PySem.W.KasT α},Asks n P t→Asks n P' t
 | .ret a,h=>m a h
 | .ask _ _ k,h=>⟨h.1,fun b=>(h.2 b).mono m⟩
theorem Asks.next {n:Nat}{α β:Type}{f:α→PySem.W.KasT β}{P:β→Prop}:∀ {t:PySem.W.KasT α},Asks n (fun a=>Asks n P (f a)) t→Asks n P (t.bind f)
 | .ret _,h=>h
 | .ask _ _ _,h=>⟨h.1,fun b=>(h.2 b).next⟩
theorem Asks.told {n:Nat}{α:Type}{cmp:Nat→Nat→(Bool→Shared→Prop)→Shared→Prop}{s:Shared}(hc:∀ i j C,i < n→j < n→(∀ b,C b s)→cmp i j C s){P:α→Prop}{Q:α→Shared→Prop}(hq:∀ a,P a→Q a s):∀ {t:PySem.W.KasT α},Asks n P t→t.kasWp cmp Q s
 | .ret a,h=>hq a h
 | .ask i j k,h=>hc i j _ h.1.1 h.1.2 fun b=>(h.2 b).told hc hq
noncomputable def Pn (n:Nat)(p:Array Nat):Prop:=p.Perm (List.range n).toArray
section
variable {n:Nat}{p:Array Nat}
theorem Pn.size (h:Pn n p):p.size=n:=h.size_eq.trans (by simp)
theorem Pn.lt (h:Pn n p){i:Nat}(hi:i < n):p.getD i 0 < n:=by
 have z:i < p.size:=by have:=h.size;omega
 have m:=(By.mp h).mem_iff.mp (show p[i] ∈ p.toList by simp)
 rw [show p.getD i 0=p[i] by simp [Array.getD,z]]
 simpa using m
theorem Pn.rev (h:Pn n p)(i j:Nat):Pn n (PySem.W.kas_rev p i j):=Array.Perm.trans (PyProof.Rows.mirror_perm _ _ _ _) h
theorem Pn.bub (h:Pn n p)(i d:Nat):Pn n (PyProof.Rows.bubble p i d):=Array.Perm.trans (PyProof.Rows.bubble_perm _ _ _) h
theorem sX (h:Pn n p):∀ f a,a + f ≤ n→Asks n (fun m=>m ≤ a + f) (PySem.W.kas_asc p f a)
 | 0,a,_=>Ak a
 | f + 1,a,l=>⟨⟨h.lt (by omega),h.lt (by omega)⟩,fun b=>by
  cases b with
  | true=>exact Nat.le_add_right a (f + 1)
  | false=>exact (sX h f (a + 1) (by omega)).mono fun m hm=>by omega⟩
theorem uX:∀ f (p:Array Nat) a q,Pn n p→a + f ≤ n→Asks n (fun r=>Pn n r.1∧r.2.1 ≤ a + f) (PySem.W.kas_desc f p a q)
 | 0,p,a,q,h,_=>⟨h,Ak a⟩
 | f + 1,p,a,q,h,l=>by
  have in2:p.getD a 0 < n∧p.getD (a - 1) 0 < n:=⟨h.lt (by omega),h.lt (by omega)⟩
  have go:∀ p' q',Pn n p'→Asks n (fun r=>Pn n r.1∧r.2.1 ≤ a + (f + 1)) (PySem.W.kas_desc f p' (a + 1) q'):=fun p' q' h'=>(uX f p' (a + 1) q' h' (by omega)).mono fun r hr=>⟨hr.1,by omega⟩
  refine ⟨in2,fun b=>?_⟩
  cases b with
  | true =>
   by_cases z:q > 0
   ·simpa [z] using go _ 0 (h.rev _ _)
   ·simpa [z] using go _ 0 h
  | false =>
   refine ⟨in2.symm,fun c=>?_⟩
   cases c with
   | true=>exact ⟨h,by show a ≤ a + (f + 1);omega⟩
   | false=>exact go p (q + 1) h
theorem uV (h:Pn n p){m:Nat}(l:m ≤ n):Asks n (fun r=>r.1 ≤ n∧Pn n r.2) (PySem.W.kas_tail3 m n p) :=
 Asks.next ((sX (h.rev 0 m) (n - m) m (by omega)).mono fun a ha=>⟨by show a ≤ n;omega,h.rev 0 m⟩)
theorem uW (h:Pn n p){m:Nat}(l:m + 1 ≤ n):Asks n (fun r=>r.1 ≤ n∧Pn n r.2) (PySem.W.kas_descPart m n p):=by
 refine Asks.next ((uX (n - (m + 1)) p (m + 1) 0 h (by omega)).mono fun r hr=>?_)
 obtain ⟨r1,r2,r3⟩:=r
 obtain ⟨h1,h2⟩:=hr
 simp only at h1 h2 ⊢
 split
 ·exact uV (h1.rev _ _) (by omega)
 ·exact uV h1 (by omega)
theorem as_count (h:Pn n p)(l:1 ≤ n):Asks n (fun r=>r.1 ≤ n∧Pn n r.2) (PySem.W.kas_count n p):=by
 refine Asks.next ((sX h (n - 1) 1 (by omega)).mono fun m hm=>?_)
 have here:Asks n (fun r=>r.1 ≤ n∧Pn n r.2) (PySem.W.KasT.ret (m,p)):=⟨by show m ≤ n;omega,h⟩
 by_cases z:m=n
 ·simpa [z] using here
 ·have l':m + 1 ≤ n:=by omega
  have ne:(m == n)=false:=by simpa using z
  simp only [ne,Bg,C2]
  split
  ·refine ⟨⟨h.lt (by omega),h.lt (by omega)⟩,fun b=>?_⟩
   cases b with
   | true=>exact here
   | false=>exact uW (h.rev _ _) l'
  ·exact uW h l'
theorem cC (h:Pn n p){k:Nat}(hk:k < n):∀ f l r,r ≤ k→Asks n (fun _=>True) (PySem.W.kas_place p k f l r)
 | 0,_,_,_=>trivial
 | f + 1,l,r,hr=>by
  unfold PySem.W.kas_place
  by_cases z:l ≥ r
  ·rw [Ai z]
   trivial
  ·rw [Ah z]
   refine ⟨⟨h.lt hk,h.lt (by omega)⟩,fun b=>?_⟩
   cases b with
   | true=>exact cC h hk f l _ (by omega)
   | false=>exact cC h hk f _ r hr
theorem as_bin:∀ f (p:Array Nat) k,Pn n p→k + f ≤ n→Asks n (Pn n) (PySem.W.kas_bin f p k)
 | 0,_,_,h,_=>h
 | f + 1,p,k,h,l=>Asks.next ((cC h (show k < n by omega) k 0 k (Ak k)).mono fun a _=>as_bin f _ (k + 1) (h.bub _ _) (by omega))
theorem wN (l:1 ≤ n):Asks n (Pn n) (PySem.W.kas_sort n):=by
 refine Asks.next ((as_count (BV _) l).mono fun r hr=>?_)
 by_cases z:r.1 < n
 ·rw [Ai z]
  exact as_bin _ _ _ hr.2 (by omega)
 ·rw [Ah z]
  exact hr.2
end
end L2
end
section
namespace L2
open PySem PySem.Spec
open PyProof.Rows hiding Fr News
section
variable {prog:Program}{w:World}{s:Shared}
theorem rC {A:Around}{fin:Bool}{Q:Bool→Shared→Prop}(all:∀ b,Q b s):∀ {xs ys:List Value} {ns ms:List Int} (i:Nat),IntsAre xs ns→IntsAre ys ms→PySem.W.KatLex prog w A true fin Q (xs.zip ys) i s
 | _,_,_,_,_,.nil,_=>CW (all _)
 | _,_,_,_,_,.cons _ _ _,.nil=>CW (all _)
 | _,_,_,_,i,.cons n t hx,.cons m u hy=>by
  refine PySem.W.kat_cons (wpAny_eqBool_int (PySem.W.kat_go (fun _=>PySem.W.kat_yes (rC all (i + 1) hx hy)) fun _=>PySem.W.kat_no ?_))
  cases z:(true && i == 0) with
  | true=>exact oneLt_int (all _)
  | false=>exact PySem.W.kat_one _ _ (int_lt (n:=n) (m:=m) ⟨t,rfl⟩ ⟨u,rfl⟩ prog w _ _ (all _))
noncomputable def TupI (h:Heap)(v:Value):Prop:=∃ (t:Addr) (its:List Value) (n:Int) (ns:List Int),v = .ref t∧IsTup h t its.toArray∧IntsAre its (n :: ns)
theorem TupI.keep {h h':Heap}{v:Value}(T:TupI h v)(k:∀ b o,v = .ref b→h.get? b=some o→h'.get? b=some o):TupI h' v:=by
 obtain ⟨t,its,n,ns,rfl,⟨o,ho,rest⟩,I⟩:=T
 exact ⟨t,its,n,ns,rfl,⟨o,k t o rfl ho,rest⟩,I⟩
theorem dB {h:Heap}:∀ {vs:List Value},(∀ v ∈ vs,TupI h v)→∃ fs,PySem.W.KatTups h vs fs∧fs.length=vs.length∧∀ f ∈ fs,∃ n t,f=Value.int n t
 | [],_=>⟨[],trivial,rfl,nofun⟩
 | v :: vs,T=>by
  obtain ⟨fs,f1,f2,f3⟩:=dB fun x hx=>T x (.tail v hx)
  obtain ⟨t,its,n,ns,rfl,⟨o,ho,hc,k,hd⟩,I⟩:=T v (.head vs)
  cases I with
  | cons _ u _=>exact ⟨.int n u :: fs,⟨⟨t,o,_,k,rfl,ho,hc,hd,rfl⟩,f1⟩,by simp [f2],fun f hf=>(A4.mp hf).elim (fun e=>⟨n,u,e⟩) (f3 f)⟩
theorem aF {A:Around}{E:Value→Shared→Prop}{a:Addr}{vs:List Value}{n:Nat}{P:Fin→Shared→Prop}(ho:s.heap.get? a=some (seqObj "list" vs.toArray n)) (T:∀ v ∈ vs,TupI s.heap v) (few:vs.length < 64)
  (out:∀ p:Array Nat,Pn vs.length p→P (.done (.ret .none)) { s with heap:=sortedHeap s.heap a vs (p.toList.map fun i=>vs.getD i .none).toArray }):wpAny (model prog w) A (Builtin.«list.sort» ⟨[.ref a],[]⟩) P E s:=by
 have small:∀ k,k < 64→k ≤ sizeLine:=fun k hk=>by rw [sizeLine_eq];omega
 have la:=Am ho
 obtain ⟨e,he⟩:∃ e,(s.heap.update a (Obj.mapSeq fun _=>(#[] : Array Value))).get? a=some (seqObj "list" #[] e):=⟨_,get?_update_seq ho _⟩
 let mid:Heap:=((s.heap.update a (Obj.mapSeq fun _=>(#[] : Array Value))).push (seqObj "tuple" vs.toArray 0)).push (seqObj "list" #[] 0)
 have amid:mid.get? a=some (seqObj "list" #[] e):=Ac _ (Ac _ he)
 have Tm:∀ v ∈ vs,TupI mid v:=fun v hv=>(T v hv).keep fun b o eb q=>by
  have nb:b ≠ a:=fun z=>by
   obtain ⟨t,its,n',ns,e1,⟨o',h1,h2,_⟩,_⟩:=T v hv
   rw [eb] at e1
   cases e1
   rw [z,ho] at h1
   cases h1
   exact nomatch (show Value.type "list" = Value.type "tuple" from h2)
  exact Ac _ (Ac _ ((Ce _ _ _ _ nb).trans q))
 rw [list_sort_plain]
 refine wpAny_bind (listItems_at ho rfl (wpAny_bind (listUpdate_at ho rfl (wpAny_bind (seqEpoch_at he rfl (wpAny_bind (wpAny_newTuple (wpAny_bind (wpAny_newList (wpAny_holding (show wpAny (model prog w) A _ P E { s with heap:=mid } from ?_)) (AJ _))) (small _ few))))) (small _ (by simpa using few)) (AJ _))))
 have told:∀ (st:SortSt) (p:Array Nat),arrOf st=p.map (PySem.W.kas_item (vs.toArray.zip vs.toArray))→(arrOf st).map (·.2)=(p.toList.map fun i=>vs.getD i .none).toArray:=fun st p har=>PySem.W.kat_snds rfl har
 have fits:∀ p:Array Nat,Pn vs.length p→((p.toList.map fun i=>vs.getD i .none).toArray).size ≤ sizeLine + 1:=fun p hp=>Nat.le_succ_of_le (small _ (by simp [hp.size];exact few))
 have same:(e != e)=false:=by simp
 by_cases two:vs.toArray.size < 2
 ·have two':vs.length < 2:=by simpa using two
  rw [Ai two,Ai two]
  have one:vs.toArray.zip vs.toArray=(List.range vs.length).toArray.map (PySem.W.kas_item (vs.toArray.zip vs.toArray)):=by
   match vs,two' with
   | [],_=>simp
   | [v],_=>simp [PySem.W.kas_item]
  refine wpAny_bind (wpAny_pure (show wpAny _ _ (((pure ():StateT SortSt Sem Unit).run _) >>= _) P E _ from ?_))
  rw [StateT.run_pure]
  refine wpAny_bind (wpAny_pure (wpAny_bind (seqEpoch_at amid rfl (wpAny_bind ?_))))
  rw [same,told (SortSt.mk' general' (vs.toArray.zip vs.toArray) #[] 7 none) _ one]
  exact listUpdate_at amid rfl (wpAny_pure (out _ (BV _))) (AJ _) (fits _ (BV _))
 ·rw [Ah two,Ah two]
  have two':2 ≤ vs.length:=by simpa using two
  obtain ⟨fs,f1,f2,f3⟩:=dB Tm
  refine wpAny_bind (PySem.W.kat_kind (T:=Value.type "int") f1 (by omega) (fun v hv=>by obtain ⟨_,_,rfl⟩:=f3 v hv;exact PySem.W.Looks.of_pure rfl) rfl ?_)
  refine wpAny_bind (wpAny_mono (PySem.W.kat_run (ks:=vs) (Q:=fun st s'=>s'={ s with heap:=mid }∧∃ p,arrOf st=p.map (PySem.W.kas_item (vs.toArray.zip vs.toArray))∧failedOf st=none∧Pn vs.length p) (G:=fun p s'=>s'={ s with heap:=mid }∧Pn vs.length p)
   rfl two' few (fun p st s' _ b c d=>⟨d.1,p,b,c,d.2⟩) (Asks.told (n:=vs.length) (P:=Pn vs.length) (fun i j C hi hj all=>?_) (fun p hp=>⟨rfl,hp⟩) (wN (by omega)))) (fun r s' h=>?_) fun _ _ x=>x)
  ·have at':∀ k,k < vs.length→∃ (t:Addr) (o:Obj) (its:List Value) (c:Nat) (ns:List Int),vs.getD k .none = .ref t∧mid.get? t=some o∧o.data = .seq its.toArray c∧IntsAre its ns:=fun k hk=>by
    obtain ⟨t,its,n',ns,e1,⟨o,h1,_,c,h3⟩,I⟩:=Tm vs[k] (AE hk)
    exact ⟨t,o,its,c,_,by simpa [Ab,hk] using e1,h1,h3,I⟩
   obtain ⟨t,o,xs,c,_,t1,t2,t3,t4⟩:=at' i hi
   obtain ⟨u,q,ys,d,_,u1,u2,u3,u4⟩:=at' j hj
   show wpAny (model prog w) A (keyLt' (tuples' true) (vs.getD i .none) (vs.getD j .none)) C (fun _ _=>False) { s with heap:=mid }
   rw [t1,u1]
   exact PySem.W.kat_lt t2 t3 u2 u3 (rC all 0 t4 u4)
  ·obtain ⟨⟨⟩,st⟩:=r
   obtain ⟨rfl,p,h1,h2,h3⟩:=h
   refine wpAny_bind (seqEpoch_at amid rfl (wpAny_bind ?_))
   rw [same,told st p h1,h2]
   exact listUpdate_at amid rfl (wpAny_pure (out p h3)) (AJ _) (fits p h3)
end
theorem fK {α:Type}(l:List α)(d:α){p:Array Nat}(h:Pn l.length p):(p.toList.map fun i=>l.getD i d).Perm l:=by
 have m:=(By.mp h).map fun i=>l.getD i d
 have e:(List.range l.length).map (fun i=>l.getD i d)=l:=Ci (by simp) fun i h1 h2=>by simp [Ab,h2]
 rwa [show (List.range l.length).toArray.toList=List.range l.length from rfl,e] at m
section
variable {X:Cx}
end
section
variable {X:Cx}
noncomputable def tH (ta:TA):TE:=fun σ H Q=>ta σ H fun vs H1=>∃ i j:Int,vs=[.int i,.int j]∧0 ≤ i∧i ≤ j∧j ≤ 1000000∧∀ (l:Addr) (H2:Hp),H1 l=none→Same H1 H2→H2 l=some (.lst ((List.range (j - i).toNat).map fun k:Nat=>V.int (i + (k:Int))))→Q (.ref l) H2
theorem eZ {ta:TA}{σ:St}{H:Hp}{Q:VK}:tH ta σ H Q=ta σ H fun vs H1=>∃ i j:Int,vs=[.int i,.int j]∧0 ≤ i∧i ≤ j∧j ≤ 1000000∧∀ (l:Addr) (H2:Hp),H1 l=none→Same H1 H2→H2 l=some (.lst ((List.range (j - i).toNat).map fun k:Nat=>V.int (i + (k:Int))))→Q (.ref l) H2:=rfl
theorem aN {a b:Expr}{ta:TA}{p1 p pos pos2:Pos}(hgl:Gl X "list") (hml:X.mg "list" = none) (hg:Gl X "range") (hm:X.mg "range" = none) (ha:PA X [a,b] ta) (hs:starEach [a,b] X.env=[(false,eval a X.env),(false,eval b X.env)]:=by rfl) (hs2:starEach [b] X.env=[(false,eval b X.env)]:=by rfl) (hcalm:X.calm=true:=by rfl) :
  PE X (.Call (.Name "list" p1) [.Call (.Name "range" p) [a,b] [] pos] [] pos2) (tH ta):=by
 intro pins s σ H Q I h
 refine wpAny_Call_Name_kw (xA I hgl hml uQ ?_)
 refine Bd ?_ (by rfl) (by rfl)
 refine Calls.spliced_cons ?_
 refine Call_ (xA I hg hm boot_range (Bd (jM (ha pos pins s σ H _ I h) fun us s1 ⟨vs,H1,I1,r1,q1⟩=>?_) (by rw [hs,hs2]) (by rw [hs2];rfl)))
 obtain ⟨i,j,e,q0,q1,q2,q⟩:=q1
 subst e
 cases r1 with
 | cons r rr =>
  cases rr with
  | cons r' rr =>
  cases rr
  obtain ⟨t,rfl⟩:=r
  obtain ⟨t',rfl⟩:=r'
  refine call_range_2 ?_
  refine Calls.spliced_nil ?_
  have I2:Inv X pins σ H1 { s1 with heap:=s1.heap.push { cls:=.type "range",data:=.fields #[.int i t,.int j t',.int 1 s1.toks] },toks:=s1.toks + 1 }:=I1.kept fun b o e=>Ac _ e
  obtain ⟨mm,hns,_⟩:=I2.loc
  have hf:=I2.hok.fresh (Ak _)
  refine list_rangeD (n:=(j - i).toNat) (news:=[]) (h₀:={ objs := #[] }) (m:=mm) (L:=X.env.locals) (I.ok.hd hcalm) ⟨hns,fun b o e=>by simp [Heap.get?] at e,AJ _⟩ (fun p hp=>by simp at hp) (IsRange.new ..) (small_one (by omega) (by omega) (by omega) (by omega)) (by rw [rangeSize_one];split <;> omega) (by omega) ?_
  intro h' tk ys _ _ kp _ hl hpl hc
  have hri:rangeInts i 1 (j - i).toNat=(List.range (j - i).toNat).map fun k:Nat=>i + (k:Int):=by unfold rangeInts;simp
  rw [hri] at hc
  have hv:=d5 hc
  rw [AF] at hv
  refine ⟨.ref _,_,I2.laid (o:=.lst ((List.range (j - i).toNat).map fun k:Nat=>V.int (i + (k:Int)))) (t':=tk) kp (Ak _) ?_,rfl,q _ _ hf (kI hf) qF⟩
  obtain ⟨c',e⟩:=hpl.1
  exact ⟨by rw [Aa,Ar];exact AH (Dm (show (j - i).toNat ≤ 1000000 by omega) (by decide)),ys,c',hv,e⟩
noncomputable def ipL:TIp:=fun x y H Q=>∃ l b xs zs,x = .ref l∧y = .ref b∧H l=some (.lst xs)∧H b=some (.lst zs)∧xs.length + zs.length ≤ sizeLine∧Q (.ref l) (upd H l (.lst (xs ++ zs)))
theorem a_ipL {x y:V}{H:Hp}{Q:VK}:ipL x y H Q = ∃ l b xs zs,x = .ref l∧y = .ref b∧H l=some (.lst xs)∧H b=some (.lst zs)∧xs.length + zs.length ≤ sizeLine∧Q (.ref l) (upd H l (.lst (xs ++ zs))):=rfl
theorem eM:typeLookup (.type "list") (dunderI "add")=pure (some (.builtin "list.__iadd__")):=by rw [typeLookup_type,builtinLookup_eq_fast];kernel_rfl
theorem ip_addL:PIp X .Add ipL:=by
 intro pins s σ H x y v u Q I r1 r2 h
 obtain ⟨l,b,xs,zs,rfl,rfl,hH,hB,hz,q⟩:=h
 cases r1
 cases r2
 obtain ⟨z,its,n,r,hl,e⟩:=I.lstM hH
 obtain ⟨z2,its2,n2,r2,hl2,e2⟩:=I.lstM hB
 have hsz:its.toArray.size + its2.toArray.size ≤ sizeLine:=by rw [As,As];omega
 have hlong:¬ (!its.toArray.isEmpty && Builtin.List.listTooLong (its.toArray.size + its2.toArray.size))=true:=by
  rw [pO hsz,Cg]
  exact A1
 have ta:s.TypeIs (.ref l) "list" := ⟨_,e,rfl⟩
 have tb:s.TypeIs (.ref b) "list" := ⟨_,e2,rfl⟩
 have look:∀ {β:Type} (f:Option Value→Sem β),(typeLookup (.type "list") (dunderI "add") >>= f)=f (some (.builtin "list.__iadd__")):=fun f=>by rw [eM,pure_bind]
 have noNum:fillsInplaceSlot (.type "list") "add" (Operator.Add == .Add)=pure false:=(look _).trans rfl
 have seqI:seqSlot? (.type "list") (dunderI "add")=pure (some (.builtin "list.__iadd__")):=(look _).trans rfl
 refine wpAny_holding (wpAny_bind (wpAny_typeOf ta (wpAny_bind (wpAny_of_eq noNum (wpAny_bind (wpAny_binaryOp1_none (nm := "add") ta tb noFill_list_add (wpAny_bind (wpAny_of_eq seqI (wpAny_bind (wpAny_rule ?_))))))))))
 refine call_meets F.slot_list_iadd ta F.entry_list_iadd (F.args_list_iadd_2 _ _)
  (AutoSeq1.list___iadd___list_list_0 l its.toArray n b its2.toArray n2 hlong (by rw [As];omega) (by omega)) ⟨e,e2,?_⟩
 refine ⟨.ref l,_,I.lset (its':=its ++ its2) hH e (by simp) (r.append r2) ?_,rfl,q⟩
 rw [Aj]
 omega
end
section
variable {X:Cx}
theorem sP {N:List Str}{fr:List (Option Nat)}{e tg iter:Expr}{ifs:List Expr}{gs:List Comprehension}{sc:Scope}{y:Str}{ip pos':Pos}{cl:List (Str × Addr)}{wi:TI}{D:It→Addr→St→Hp→Prop}{pins:List (Addr × Obj)}{σ:St}{H:Hp}{s:Shared}{Q:VK}{i:Nat}{x:Str}
  (hN:X.N.Nodup) (hix:X.N[i]? = some x) (hx:Loc X.env.scope x) (hf:X.fn x=true∨X.env.scope.names.lookup x=some .local)
  (he:clausesOf e=⟨tg,iter,ifs,0⟩ :: gs) (hi:PI X tg iter wi) (S:CScope1 X N fr sc y) (hcl:xC sc.names X.env.cells [] = some cl) (I:Inv X pins σ H s)
  (h:wi σ H fun J H1=>∀ p,H1 p=none→D J p (cH fr σ) (upd H1 p (.lst [])))
  (loop:∀ (it p:Addr) (fp:List Addr) (tn:Nat→Heap→Prop) (J:It) (s1 s2:Shared) (H1:Hp) (σ1:St),Turn X.prog X.w X.K tg J fp it tn→Inv (rN X N sc y cl s1 H1 fp) [] σ1 H1 s2→tn 0 s2.heap→(∀ b ∈ fp,yU (rN X N sc y cl s1 H1 fp) [] H1 b)→D J p σ1 H1 →
   codeAny (model X.prog X.w) X.A (.compStart e 0 (.ref it) (.ref p) (compEnvC sc ((y,s1.heap.objs.size + 1) :: cl) s1.heap.objs.size X.env)) (fun r s'=>r = .ok .next∧∃ σ' H',Inv (rN X N sc y cl s1 H1 fp) [] σ' H' s'∧Q (.ref p) H') s2)
  (hs:∀ x,foldedSetIterable iter X.env x=pure x) :
  wpAny (model X.prog X.w) X.A (comprehension e sc X.env ip (newList []) false (eval iter X.env) (some (assign (.Name x pos') X.env))) (fun _ s'=>∃ v H',Inv X pins (σ.set i (some v)) H' s'∧Q v H') X.xe s:=by
 refine wpAny_comprehension_free (use:=some (assign (.Name x pos') X.env)) he hs (zN hcl) S.kind S.loc ?_
 refine jM (hi pins s σ H _ I h) fun v s1 h1=>jM h1 fun itv s2 ⟨it,fp,tn,J,H2,e2,I2,T,st2,f2,q⟩=>?_
 subst e2
 refine wpAny_newObj_type ?_
 have hp:H2 s2.heap.objs.size=none:=I2.hok.fresh (Ak _)
 have I3:Inv X pins σ (upd H2 s2.heap.objs.size (.lst [])) { s2 with heap:=s2.heap.push { cls:=.type "list",data:=.seq ([] : List Value).toArray },toks:=s2.toks }:=I2.lnew (its:=[]) (ys:=[]) .nil (AJ _)
 have lt2:∀ b ∈ fp,b < s2.heap.objs.size:=fun b hb=>let ⟨o,e,_⟩:=T.obj 0 _ st2 b hb;Am e
 have f3:∀ b ∈ fp,yU X pins (upd H2 s2.heap.objs.size (.lst [])) b:=fun b hb=>⟨by rw [q9 (A0 (lt2 b hb))];exact (f2 b hb).1,(f2 b hb).2⟩
 have st3:tn 0 (s2.heap.push { cls:=.type "list",data:=.seq ([] : List Value).toArray }):=T.keep _ _ _ st2 fun b _ o e=>Ac _ e
 refine hU S.from1 S.push1 fun h₁ hns hce hk=>?_
 generalize hs3:({ s2 with heap:=s2.heap.push { cls:=.type "list",data:=.seq ([] : List Value).toArray } }:Shared)=s3 at hns hce hk ⊢
 have I3':Inv X pins σ (upd H2 s2.heap.objs.size (.lst [])) s3:=by rw [← hs3];exact I3
 have st3':tn 0 s3.heap:=by rw [← hs3];exact st3
 have lt3:∀ b ∈ fp,b < s3.heap.objs.size:=fun b hb=>let ⟨o,e,_⟩:=T.obj 0 _ st3' b hb;Am e
 have B:=I3'.block1 (N:=N) (fr:=fr) (sc:=sc) (y:=y) (cl:=cl) (ex:=fp) (h1:=h₁) (tk:=s3.toks) S hcl (fun b hb=>⟨f3 b hb,lt3 b hb⟩) hns hce hk
 have stB:tn 0 h₁:=T.keep _ _ _ st3' fun b _ o e=>hk b o e
 have fC:yU X pins (upd H2 s2.heap.objs.size (.lst [])) s3.heap.objs.size:=I3'.fpOk (Ak _) (I3'.hok.fresh (Ak _))
 refine codeAny_mono (loop it s2.heap.objs.size fp tn J s3 _ (upd H2 s2.heap.objs.size (.lst [])) (cH fr σ) T B stB (fun b hb=>?_) (q _ hp)) fun r s' hr=>?_
 ·obtain ⟨f0,f1,f2',f3',f4,f5⟩:=f3 b hb
  refine ⟨f0,A0 (lt3 b hb),fun z=>?_,.inl hb,fun x c e=>?_,fun p hp'=>absurd (show p ∈ ([] : List (Addr × Obj)) from hp') (by simp)⟩
  ·rcases A4.mp (I3'.stkSub b z) with e | e
   ·exact f1 e
   ·exact f2' e
  ·rcases hV e with ⟨_,c1⟩ | ⟨_,e1⟩
   ·rw [c1]
    exact fun z=>absurd (lt3 b hb) (by rw [← z];exact CQ.mpr (BN _))
   ·exact f4 x c (kP hcl e1)
 ·obtain ⟨rfl,σ',H',J',q'⟩:=hr
  have I5:Inv X pins σ H' s':=I3'.unblock1 (h':=s'.heap) J' f3 ⟨rfl,fun _ _=>rfl⟩
  show wpAny _ X.A (assign (.Name x pos') X.env (.ref s2.heap.objs.size)) _ X.xe s'
  refine wpAny_assign_Name (fE (v:=.ref s2.heap.objs.size) I5 hN hix hx rfl (fun s4 I6 ⟨a,sb,ha⟩=>?_) hf)
  obtain ⟨m,hn,_⟩:=J'.loc
  have free:H' s3.heap.objs.size=none:=J'.free
  obtain ⟨g0,g1,g2,g3,g4,g5⟩:=fC
  have aC:s3.heap.objs.size ≠ a:=by
   rcases ha with rfl | ha
   ·exact g1
   ·exact fun z=>g4 x a ha z.symm
  refine ⟨m,hn.sameBut sb aC,fun h' sb'=>⟨.ref s2.heap.objs.size,H',?_,q'⟩⟩
  refine I6.turnedN (fp:=[s3.heap.objs.size]) (fun b hb=>?_) fun c o hc e=>sb'.extBut _ _ (fun z=>hc (A5.mpr z)) e
  have eb:b=s3.heap.objs.size:=by simpa using hb
  subst eb
  exact ⟨free,g1,g2,g3,g4,g5⟩
theorem xS {N:List Str}{fr:List (Option Nat)}{tg iter elt:Expr}{ifs:List Expr}{sc:Scope}{pos pos' cpos:Pos}(y:Str){cl:List (Str × Addr)}{wi:TI}{g:TG}{tc:TT}{te:TE}{i:Nat}{x:Str}(hN:X.N.Nodup)(hix:X.N[i]? = some x)(hx:Loc X.env.scope x)
  (hc:X.calm=true) (hi:PI X tg iter wi) (S:CScope1 X N fr sc y) (hcl:xC sc.names X.env.cells [] = some cl)
  (hb:∀ s H ex,PG (rN X N sc y cl s H ex) tg g∧cJ (rN X N sc y cl s H ex) ifs tc∧PE (rN X N sc y cl s H ex) elt te) (swp:swapsWith (.ListComp elt [⟨tg,iter,ifs,0⟩] sc cpos) (some (.Name x pos')) pos.line X.env=pure true:=by rfl)
  (hs:∀ x,foldedSetIterable iter X.env x=pure x:=by intro _;rfl) (hf:X.fn x=true∨X.env.scope.names.lookup x=some .local:=by first | exact .inl rfl | exact .inr rfl | assumption) :
  PS X (.Assign [.Name x pos'] (.ListComp elt [⟨tg,iter,ifs,0⟩] sc cpos) pos) (lK (tLC fr wi g tc te) (jZ i)):=by
 intro pins s σ H D I h
 rw [exec_Assign_Name_used _ _ _ _ swp]
 refine wpAny_bind (wpAny_standAt ?_)
 refine wpAny_bind ?_
 show wpAny _ X.A (do let _ ← comprehension (.ListComp elt [⟨tg,iter,ifs,0⟩] sc cpos) sc X.env _ (newList []) false (eval iter X.env) (some (assign (.Name x pos') X.env))) _ _ s
 refine wpAny_bind (jM (sP (Q:=fun v H2=>D.nx (σ.set i (some v)) H2) (D:=fun J p σ1 H1=>m3 J g tc (y6 p te) (fun _ H2=>D.nx (σ.set i (some (.ref p))) H2) σ1 H1) hN hix hx hf rfl hi S hcl I h (fun it p fp tn J s1 s2 H1 σ1 T B st f d=>?_) hs) fun _ s' ⟨v,H',I',q'⟩=>wpAny_pure (wpAny_pure ⟨_,H',I',q'⟩))
 obtain ⟨hg,hifs,helt⟩:=hb s1 H1 fp
 have L:=yX (X:=rN X N sc y cl s1 H1 fp) (e:=.ListComp elt [⟨tg,iter,ifs,0⟩] sc cpos) (d:=0) (acc:=.ref p) (D:=fun _ H2=>D.nx (σ.set i (some (.ref p))) H2) (s:=s2) hc rfl (compTurn_list elt tg iter ifs sc cpos (.ref it) (.ref p) _) rfl rfl rfl T hg hifs (dW helt) B st f d
 exact codeAny_compStart_list L (T.self X.A 0 s2 _ _ st L)
end
section
variable {D:Ends}{σ:St}{H:Hp}{Q:VK}{QB:Bool→Hp→Prop}{QA:List V→Hp→Prop}{QG:St→Hp→Prop}
theorem vI {i:Nat}{v:V}(h:σ[i]? = some (some v)):j7 i σ H Q=Q v H:=propext ⟨fun ⟨_,e,q⟩=>by cases h.symm.trans e;exact q,fun q=>⟨v,h,q⟩⟩
theorem e_var0 {v:V}:j7 0 (some v :: σ) H Q=Q v H:=vI rfl
theorem e_var1 {v:V}{b0:Option V}:j7 1 (b0 :: some v :: σ) H Q=Q v H:=vI rfl
theorem e_var2 {v:V}{b0 b1:Option V}:j7 2 (b0 :: b1 :: some v :: σ) H Q=Q v H:=vI rfl
theorem e_var3 {v:V}{b0 b1 b2:Option V}:j7 3 (b0 :: b1 :: b2 :: some v :: σ) H Q=Q v H:=vI rfl
theorem e_var4 {v:V}{b0 b1 b2 b3:Option V}:j7 4 (b0 :: b1 :: b2 :: b3 :: some v :: σ) H Q=Q v H:=vI rfl
theorem e_var5 {v:V}{b0 b1 b2 b3 b4:Option V}:j7 5 (b0 :: b1 :: b2 :: b3 :: b4 :: some v :: σ) H Q=Q v H:=vI rfl
theorem e_var6 {v:V}{b0 b1 b2 b3 b4 b5:Option V}:j7 6 (b0 :: b1 :: b2 :: b3 :: b4 :: b5 :: some v :: σ) H Q=Q v H:=vI rfl
theorem e_var7 {v:V}{b0 b1 b2 b3 b4 b5 b6:Option V}:j7 7 (b0 :: b1 :: b2 :: b3 :: b4 :: b5 :: b6 :: some v :: σ) H Q=Q v H:=vI rfl
theorem e_var8 {v:V}{b0 b1 b2 b3 b4 b5 b6 b7:Option V}:j7 8 (b0 :: b1 :: b2 :: b3 :: b4 :: b5 :: b6 :: b7 :: some v :: σ) H Q=Q v H:=vI rfl
theorem e_var9 {v:V}{b0 b1 b2 b3 b4 b5 b6 b7 b8:Option V}:j7 9 (b0 :: b1 :: b2 :: b3 :: b4 :: b5 :: b6 :: b7 :: b8 :: some v :: σ) H Q=Q v H:=vI rfl
theorem e_var10 {v:V}{b0 b1 b2 b3 b4 b5 b6 b7 b8 b9:Option V}:j7 10 (b0 :: b1 :: b2 :: b3 :: b4 :: b5 :: b6 :: b7 :: b8 :: b9 :: some v :: σ) H Q=Q v H:=vI rfl
theorem e_var11 {v:V}{b0 b1 b2 b3 b4 b5 b6 b7 b8 b9 b10:Option V}:j7 11 (b0 :: b1 :: b2 :: b3 :: b4 :: b5 :: b6 :: b7 :: b8 :: b9 :: b10 :: some v :: σ) H Q=Q v H:=vI rfl
theorem e_nam0 {v:V}{b0:Option V}:jZ 0 v (b0 :: σ) H QG=QG (some v :: σ) H:=rfl
theorem e_nam1 {v:V}{b0 b1:Option V}:jZ 1 v (b0 :: b1 :: σ) H QG=QG (b0 :: some v :: σ) H:=rfl
theorem e_nam2 {v:V}{b0 b1 b2:Option V}:jZ 2 v (b0 :: b1 :: b2 :: σ) H QG=QG (b0 :: b1 :: some v :: σ) H:=rfl
theorem e_nam3 {v:V}{b0 b1 b2 b3:Option V}:jZ 3 v (b0 :: b1 :: b2 :: b3 :: σ) H QG=QG (b0 :: b1 :: b2 :: some v :: σ) H:=rfl
theorem e_nam4 {v:V}{b0 b1 b2 b3 b4:Option V}:jZ 4 v (b0 :: b1 :: b2 :: b3 :: b4 :: σ) H QG=QG (b0 :: b1 :: b2 :: b3 :: some v :: σ) H:=rfl
theorem e_nam5 {v:V}{b0 b1 b2 b3 b4 b5:Option V}:jZ 5 v (b0 :: b1 :: b2 :: b3 :: b4 :: b5 :: σ) H QG=QG (b0 :: b1 :: b2 :: b3 :: b4 :: some v :: σ) H:=rfl
theorem e_nam6 {v:V}{b0 b1 b2 b3 b4 b5 b6:Option V}:jZ 6 v (b0 :: b1 :: b2 :: b3 :: b4 :: b5 :: b6 :: σ) H QG=QG (b0 :: b1 :: b2 :: b3 :: b4 :: b5 :: some v :: σ) H:=rfl
theorem e_nam7 {v:V}{b0 b1 b2 b3 b4 b5 b6 b7:Option V}:jZ 7 v (b0 :: b1 :: b2 :: b3 :: b4 :: b5 :: b6 :: b7 :: σ) H QG=QG (b0 :: b1 :: b2 :: b3 :: b4 :: b5 :: b6 :: some v :: σ) H:=rfl
theorem e_nam8 {v:V}{b0 b1 b2 b3 b4 b5 b6 b7 b8:Option V}:jZ 8 v (b0 :: b1 :: b2 :: b3 :: b4 :: b5 :: b6 :: b7 :: b8 :: σ) H QG=QG (b0 :: b1 :: b2 :: b3 :: b4 :: b5 :: b6 :: b7 :: some v :: σ) H:=rfl
theorem e_nam9 {v:V}{b0 b1 b2 b3 b4 b5 b6 b7 b8 b9:Option V}:jZ 9 v (b0 :: b1 :: b2 :: b3 :: b4 :: b5 :: b6 :: b7 :: b8 :: b9 :: σ) H QG=QG (b0 :: b1 :: b2 :: b3 :: b4 :: b5 :: b6 :: b7 :: b8 :: some v :: σ) H:=rfl
theorem e_nam10 {v:V}{b0 b1 b2 b3 b4 b5 b6 b7 b8 b9 b10:Option V}:jZ 10 v (b0 :: b1 :: b2 :: b3 :: b4 :: b5 :: b6 :: b7 :: b8 :: b9 :: b10 :: σ) H QG=QG (b0 :: b1 :: b2 :: b3 :: b4 :: b5 :: b6 :: b7 :: b8 :: b9 :: some v :: σ) H:=rfl
theorem e_nam11 {v:V}{b0 b1 b2 b3 b4 b5 b6 b7 b8 b9 b10 b11:Option V}:jZ 11 v (b0 :: b1 :: b2 :: b3 :: b4 :: b5 :: b6 :: b7 :: b8 :: b9 :: b10 :: b11 :: σ) H QG=QG (b0 :: b1 :: b2 :: b3 :: b4 :: b5 :: b6 :: b7 :: b8 :: b9 :: b10 :: some v :: σ) H:=rfl
theorem e_par {i j:Nat}{ta:TA}:tPar i j ta D σ H=ta σ H fun vs H1=>∃ v w,vs=[v,w]∧jZ i v σ H1 fun σ1 H2=>jZ j w σ1 H2 D.nx:=rfl
theorem e_ex2 {x y:V}{P:V→V→Prop}:(∃ v w,[x,y] = [v,w]∧P v w)=P x y:=propext ⟨fun ⟨_,_,e,q⟩=>by cases e;exact q,fun q=>⟨_,_,rfl,q⟩⟩
theorem e_gN:gNil [] σ H QG=QG σ H:=propext ⟨fun h=>h.2,fun h=>⟨rfl,h⟩⟩
theorem e_gC {t:TG}{u:TGs}{v:V}{r:List V}:hZ t u (v :: r) σ H QG=t v σ H fun σ' H'=>u r σ' H' QG:=propext ⟨fun ⟨_,_,e,q⟩=>by cases e;exact q,fun q=>⟨_,_,rfl,q⟩⟩
theorem e_rI0 {g:Int→Int→V}{i j:Int}:iB g (.int i) (.int j) H Q=Q (g i j) H:=propext ⟨fun ⟨_,_,e,e',q⟩=>by cases e;cases e';exact q,fun q=>⟨_,_,rfl,rfl,q⟩⟩
theorem e_rI {C:Int→Int→Prop}{g:Int→Int→V}{i j:Int}:rI C g (.int i) (.int j) H Q=(C i j∧Q (g i j) H):=propext ⟨fun ⟨_,_,e,e',q⟩=>by cases e;cases e';exact q,fun q=>⟨_,_,rfl,rfl,q⟩⟩
theorem e_rU {g:Int→V}{i:Int}:rU g (.int i) H Q=Q (g i) H:=propext ⟨fun ⟨_,e,q⟩=>by cases e;exact q,fun q=>⟨_,rfl,q⟩⟩
theorem e_xB {b:Bool}{P:Bool→Prop}:(∃ k,V.bl b=V.bl k∧P k)=P b:=propext ⟨fun ⟨_,e,q⟩=>by cases e;exact q,fun q=>⟨_,rfl,q⟩⟩
theorem e_xI {b:Int}{P:Int→Prop}:(∃ k,V.int b=V.int k∧P k)=P b:=propext ⟨fun ⟨_,e,q⟩=>by cases e;exact q,fun q=>⟨_,rfl,q⟩⟩
theorem e_xJ {b:Int}{P:Int→Prop}:(∃ k,[V.int b] = [V.int k]∧P k)=P b:=propext ⟨fun ⟨_,e,q⟩=>by cases e;exact q,fun q=>⟨_,rfl,q⟩⟩
theorem e_xJ2 {a b:Int}{P:Int→Int→Prop}:(∃ j k,[V.int a,V.int b] = [V.int j,V.int k]∧P j k)=P a b:=propext ⟨fun ⟨_,_,e,q⟩=>by cases e;exact q,fun q=>⟨_,_,rfl,q⟩⟩
theorem e_rEq {a b:Int}:rEq (.int a) (.int b) H Q=Q (.bl (decide (a=b))) H:=by
 show (xM (.int a) (.int b)=true∧_)=_
 rw [show (decide (V.int a=V.int b))=decide (a=b) from decide_eq_decide.mpr ⟨fun e=>V.int.inj e,fun e=>by rw [e]⟩]
 exact propext ⟨fun h=>h.2,fun h=>⟨rfl,h⟩⟩
theorem e_rNe {a b:Int}:rNe (.int a) (.int b) H Q=Q (.bl (!decide (a=b))) H:=by
 show (xM (.int a) (.int b)=true∧_)=_
 rw [show (decide (V.int a=V.int b))=decide (a=b) from decide_eq_decide.mpr ⟨fun e=>V.int.inj e,fun e=>by rw [e]⟩]
 exact propext ⟨fun h=>h.2,fun h=>⟨rfl,h⟩⟩
theorem e_itT {a b:Prop}:(if true=true then a else b)=a:=rfl
theorem e_itF {a b:Prop}:(if false=true then a else b)=b:=rfl
theorem e_itD {p:Prop}[Decidable p]{a b:Prop}:(if decide p=true then a else b)=if p then a else b:=by by_cases h:p <;> simp [h]
end
class CtP (α:Type) where
 p:α→Prop
noncomputable def OS {α:Type}(o:Option α)[c:CtP α] : Prop:=∃ x,o=some x∧c.p x
noncomputable def OL (o:Option HO)[c:CtP (List V)] : Prop:=∃ x,o=some (.lst x)∧c.p x
noncomputable def OT (o:Option HO)[c:CtP (List V)] : Prop:=∃ x,o=some (.tup x)∧c.p x
theorem e_os {α:Type}{x:α}{P:α→Prop} : @OS α (some x) ⟨P⟩=P x:=propext ⟨fun ⟨_,e,q⟩=>by cases e;exact q,fun q=>⟨x,rfl,q⟩⟩
theorem e_ol {x:List V}{P:List V→Prop} : @OL (some (.lst x)) ⟨P⟩=P x:=propext ⟨fun ⟨_,e,q⟩=>by cases e;exact q,fun q=>⟨x,rfl,q⟩⟩
theorem e_ot {x:List V}{P:List V→Prop} : @OT (some (.tup x)) ⟨P⟩=P x:=propext ⟨fun ⟨_,e,q⟩=>by cases e;exact q,fun q=>⟨x,rfl,q⟩⟩
theorem u_os {α:Type}{o:Option α}{P:α→Prop} : @OS α o ⟨P⟩ = ∃ x,o=some x∧P x:=rfl
theorem u_ol {o:Option HO}{P:List V→Prop} : @OL o ⟨P⟩ = ∃ x,o=some (.lst x)∧P x:=rfl
theorem u_ot {o:Option HO}{P:List V→Prop} : @OT o ⟨P⟩ = ∃ x,o=some (.tup x)∧P x:=rfl
section
variable {D:Ends}{σ:St}{H:Hp}{Q:VK}{QG:St→Hp→Prop}{a:Addr}{n k:Int}
theorem e_ix:oE (.ref a) (.int n) H Q = @OS _ (sq H a) ⟨fun xs=>@OS _ (xH xs n) ⟨fun v=>Q v H⟩⟩:=propext ⟨fun ⟨_,xs,_,v,e,e',h,h',q⟩=>by cases e;cases e';exact ⟨xs,h,v,h',q⟩,fun ⟨xs,h,v,h',q⟩=>⟨_,xs,_,v,rfl,rfl,h,h',q⟩⟩
theorem e_emit {p:Addr}{te:TE}:y6 p te σ H QG=te σ H fun y H1=>@OL (H1 p) ⟨fun ys=>ys.length < sizeLine∧QG σ (upd H1 p (.lst (ys ++ [y])))⟩:=rfl
theorem e_f1 {α:Type}{f:Addr→Option α}{P:Addr→α→Prop}:(∃ p ys,[V.ref a] = [V.ref p]∧f p=some ys∧P p ys) = @OS _ (f a) ⟨fun ys=>P a ys⟩:=propext ⟨fun ⟨_,y,e,h,q⟩=>by cases e;exact ⟨y,h,q⟩,fun ⟨y,h,q⟩=>⟨_,y,rfl,h,q⟩⟩
theorem e_f2 {P:Addr→List V→Prop}:(∃ p ys,[V.ref a] = [V.ref p]∧H p=some (.lst ys)∧P p ys) = @OL (H a) ⟨fun ys=>P a ys⟩:=propext ⟨fun ⟨_,y,e,h,q⟩=>by cases e;exact ⟨y,h,q⟩,fun ⟨y,h,q⟩=>⟨_,y,rfl,h,q⟩⟩
theorem e_f3 {P:Addr→List V→Prop}:(∃ p ys,V.ref a=V.ref p∧H p=some (.lst ys)∧P p ys) = @OL (H a) ⟨fun ys=>P a ys⟩:=propext ⟨fun ⟨_,y,e,h,q⟩=>by cases e;exact ⟨y,h,q⟩,fun ⟨y,h,q⟩=>⟨_,y,rfl,h,q⟩⟩
theorem e_f4 {P:Addr→List V→Prop}:(∃ p ys,V.ref a=V.ref p∧H p=some (.tup ys)∧P p ys) = @OT (H a) ⟨fun ys=>P a ys⟩:=propext ⟨fun ⟨_,y,e,h,q⟩=>by cases e;exact ⟨y,h,q⟩,fun ⟨y,h,q⟩=>⟨_,y,rfl,h,q⟩⟩
theorem e_f5 {z:V}{P:List V→V→Prop}:(∃ ys y,[z] = [y]∧H a=some (.lst ys)∧P ys y) = @OL (H a) ⟨fun ys=>P ys z⟩:=propext ⟨fun ⟨y,_,e,h,q⟩=>by cases e;exact ⟨y,h,q⟩,fun ⟨y,h,q⟩=>⟨y,_,rfl,h,q⟩⟩
end
theorem e_g1 {a:Addr}{P:Addr→Prop}:(∃ p,[V.ref a] = [V.ref p]∧P p)=P a:=propext ⟨fun ⟨_,e,q⟩=>by cases e;exact q,fun q=>⟨_,rfl,q⟩⟩
theorem e_g2 {a:Addr}{P:Addr→Prop}:(∃ p,V.ref a=V.ref p∧P p)=P a:=propext ⟨fun ⟨_,e,q⟩=>by cases e;exact q,fun q=>⟨_,rfl,q⟩⟩
theorem e_g3 {H:Hp}{a:Addr}{P:List V→Prop}:(∃ x,sq H a=some x∧P x) = @OS _ (sq H a) ⟨P⟩:=rfl
theorem e_g4 {H:Hp}{a:Addr}{P:List V→Prop}:(∃ x,H a=some (.lst x)∧P x) = @OL (H a) ⟨P⟩:=rfl
theorem e_g5 {H:Hp}{a:Addr}{P:List V→Prop}:(∃ x,H a=some (.tup x)∧P x) = @OT (H a) ⟨P⟩:=rfl
theorem e_g7 {xs:List V}{n:Int}{P:V→Prop}:(∃ x,xH xs n=some x∧P x) = @OS _ (xH xs n) ⟨P⟩:=rfl
class CtS where
 f:St→Hp→Prop
noncomputable def LaterH [c:CtS] : St→Hp→Prop:=c.f
theorem qE {f:St→Hp→Prop}{σ:St}{H:Hp} : @LaterH ⟨f⟩ σ H=f σ H:=rfl
theorem e_seqL {t u:TS}{D:Ends}{σ:St}{H:Hp}:tSeqL t u D σ H=t { D with nx:=@LaterH ⟨u D⟩ } σ H:=rfl
theorem sc_ii {a b:Int}:xM (.int a) (.int b)=true:=rfl
theorem sc_bb {a b:Bool}:xM (.bl a) (.bl b)=true:=rfl
theorem sc_ss {a b:Str}:xM (.str a) (.str b)=true:=rfl
theorem sc_nn:xM .non .non=true:=rfl
theorem sc_in {a:Int}:xM (.int a) .non=true:=rfl
theorem sc_ni {a:Int}:xM .non (.int a)=true:=rfl
theorem sc_bn {a:Bool}:xM (.bl a) .non=true:=rfl
theorem sc_nb {a:Bool}:xM .non (.bl a)=true:=rfl
theorem sc_sn {a:Str}:xM (.str a) .non=true:=rfl
theorem sc_ns {a:Str}:xM .non (.str a)=true:=rfl
theorem sc_is {a:Int}{b:Str}:xM (.int a) (.str b)=true:=rfl
theorem sc_si {a:Int}{b:Str}:xM (.str b) (.int a)=true:=rfl
theorem sc_bs {a:Bool}{b:Str}:xM (.bl a) (.str b)=true:=rfl
theorem sc_sb {a:Bool}{b:Str}:xM (.str b) (.bl a)=true:=rfl
section
variable {D:Ends}{σ:St}{H:Hp}{Q:VK}{QG:St→Hp→Prop}{a:Addr}{n k:Int}
noncomputable def OD (o:Option HO)[c:CtP (List (Key × V))] : Prop:=∃ x,o=some (.dK x)∧c.p x
theorem e_od {x:List (Key × V)}{P:List (Key × V)→Prop} : @OD (some (.dK x)) ⟨P⟩=P x:=propext ⟨fun ⟨_,e,q⟩=>by cases e;exact q,fun q=>⟨x,rfl,q⟩⟩
theorem u_od {o:Option HO}{P:List (Key × V)→Prop} : @OD o ⟨P⟩ = ∃ x,o=some (.dK x)∧P x:=rfl
theorem e_getK {k:Str}:tR (.ref a) (.str k) H Q = @OD (H a) ⟨fun kvs=>@OS _ (y4 kvs (Sum.inr k)) ⟨fun v=>Q v H⟩⟩:=propext ⟨fun ⟨_,xs,_,v,e,e',h,h',q⟩=>by cases e;cases e';exact ⟨xs,h,v,h',q⟩,fun ⟨xs,h,v,h',q⟩=>⟨_,xs,_,v,rfl,rfl,h,h',q⟩⟩
theorem e_setK {k:Str}{v:V}{q:Hp→Prop}:oC (.ref a) (.str k) v H q = @OD (H a) ⟨fun kvs=>kvs.length < sizeLine∧q (upd H a (.dK (putK kvs (Sum.inr k) v)))⟩:=propext ⟨fun ⟨_,xs,_,e,e',h,q⟩=>by cases e;cases e';exact ⟨xs,h,q⟩,fun ⟨xs,h,q⟩=>⟨_,xs,_,rfl,rfl,h,q⟩⟩
theorem e_ipI {f:Int→Int→Int}{i j:Int}:ipI f (.int i) (.int j) H Q=Q (.int (f i j)) H:=propext ⟨fun ⟨_,_,e,e',q⟩=>by cases e;cases e';exact q,fun q=>⟨_,_,rfl,rfl,q⟩⟩
theorem e_aug {i:Nat}{te:TE}{ti:TIp}:tAug i te ti D σ H=j7 i σ H fun x H0=>te σ H fun y H1=>ti x y H1 fun z H2=>jZ i z σ H2 D.nx:=rfl
theorem e_g6 {H:Hp}{a:Addr}{P:List (Key × V)→Prop}:(∃ x,H a=some (.dK x)∧P x) = @OD (H a) ⟨P⟩:=rfl
theorem e_g8 {kvs:List (Key × V)}{k:Key}{P:V→Prop}:(∃ x,y4 kvs k=some x∧P x) = @OS _ (y4 kvs k) ⟨P⟩:=rfl
end
end L2
end
section
namespace L2
open PySem PySem.Spec
open PyProof.Rows hiding Fr News
namespace ST
noncomputable def Msk (M:Nat):Prop:=M=7∨M=31
theorem bits_lt (h:Int):SetTable.bits h < 2 ^ 64:=by
 unfold SetTable.bits
 have h1:=Int.emod_nonneg h (show (2 ^ 64:Int) ≠ 0 by decide)
 have h2:=Dh h (show (0:Int) < 2 ^ 64 by decide)
 omega
noncomputable def nx (M:Nat)(x:Nat × Nat):Nat × Nat:=((x.1 * 5 + 1 + x.2 / 32) % (M + 1),x.2 / 32)
noncomputable def st (M:Nat)(h:Int):Nat→Nat × Nat
 | 0=>(SetTable.bits h % (M + 1),SetTable.bits h)
 | n + 1=>nx M (st M h n)
theorem lN (M:Nat)(h:Int):∀ n,(st M h n).1 < M + 1
 | 0=>C1 _ (Nat.succ_pos M)
 | n + 1=>C1 _ (Nat.succ_pos M)
theorem pert (M:Nat)(h:Int):∀ n,(st M h n).2=SetTable.bits h / 32 ^ n
 | 0=>by show SetTable.bits h=_;rw [Nat.pow_zero,Nat.div_one]
 | n + 1=>by
  show (st M h n).2 / 32=_
  rw [pert M h n,Nat.div_div_eq_div_mul,Ds]
theorem pert0 (M:Nat)(h:Int){n:Nat}(hn:13 ≤ n):(st M h n).2=0:=by
 rw [pert]
 refine Nat.div_eq_of_lt (A8 (bits_lt h) (AX (show 2 ^ 64 ≤ 32 ^ 13 by decide) (CT (by decide) hn)))
noncomputable def cyc (M i:Nat):Nat→Nat
 | 0=>i
 | k + 1=>(cyc M i k * 5 + 1) % (M + 1)
theorem uN {M i j:Nat}(hM:Msk M)(hi:i < M + 1)(hj:j < M + 1):∃ k,k < M + 1∧cyc M i k=j:=by
 have k7:∀ (i j:_root_.Fin 8),∃ k:_root_.Fin 8,cyc 7 i.val k.val=j.val:=by decide +kernel
 have k31:∀ (i j:_root_.Fin 32),∃ k:_root_.Fin 32,cyc 31 i.val k.val=j.val:=by decide +kernel
 rcases hM with rfl | rfl
 ·obtain ⟨k,e⟩:=k7 ⟨i,hi⟩ ⟨j,hj⟩
  exact ⟨k.val,k.isLt,e⟩
 ·obtain ⟨k,e⟩:=k31 ⟨i,hi⟩ ⟨j,hj⟩
  exact ⟨k.val,k.isLt,e⟩
theorem rW (M:Nat)(h:Int):∀ k,(st M h (13 + k)).1=cyc M (st M h 13).1 k
 | 0=>rfl
 | k + 1=>by
  have e:=pert0 M h (n:=13 + k) (by omega)
  show (nx M (st M h (13 + k))).1=_
  unfold nx
  rw [e]
  show ((st M h (13 + k)).1 * 5 + 1 + 0 / 32) % (M + 1)=(cyc M (st M h 13).1 k * 5 + 1) % (M + 1)
  rw [← rW M h k]
noncomputable def uZ (M:Nat)(p:SetTable.Probe):SetTable.Probe :=
 if p.more > 0 then { p with j:=p.j + 1,more:=p.more - 1 }
 else ⟨(p.i * 5 + 1 + p.perturb / 32) % (M + 1),SetTable.runEnd M ((p.i * 5 + 1 + p.perturb / 32) % (M + 1)) - (p.i * 5 + 1 + p.perturb / 32) % (M + 1),(p.i * 5 + 1 + p.perturb / 32) % (M + 1),p.perturb / 32,p.dummy⟩
noncomputable def row (M:Nat)(x:Nat × Nat):SetTable.Probe:=⟨x.1,SetTable.runEnd M x.1 - x.1,x.1,x.2,none⟩
noncomputable def pr (M:Nat)(h:Int):Nat→SetTable.Probe
 | 0=>row M (st M h 0)
 | n + 1=>uZ M (pr M h n)
noncomputable def at' (M:Nat)(h:Int)(n:Nat):Nat:=(pr M h n).j
theorem nF {M i:Nat}(hi:i < M + 1):i ≤ SetTable.runEnd M i∧SetTable.runEnd M i < M + 1∧SetTable.runEnd M i - i ≤ 9:=by
 unfold SetTable.runEnd
 split <;> omega
theorem pr_in (M:Nat)(h:Int):∀ n,(pr M h n).j + (pr M h n).more < M + 1
 | 0=>by
  have:=nF (lN M h 0)
  show (st M h 0).1 + (SetTable.runEnd M (st M h 0).1 - (st M h 0).1) < M + 1
  omega
 | n + 1=>by
  have ih:=pr_in M h n
  show (uZ M (pr M h n)).j + (uZ M (pr M h n)).more < M + 1
  unfold uZ
  by_cases c:(pr M h n).more > 0
  ·rw [Ai c]
   show (pr M h n).j + 1 + ((pr M h n).more - 1) < M + 1
   omega
  ·rw [Ah c]
   have:=nF (M:=M) (i:=((pr M h n).i * 5 + 1 + (pr M h n).perturb / 32) % (M + 1)) (C1 _ (Nat.succ_pos M))
   dsimp only
   omega
theorem at_lt (M:Nat)(h:Int)(n:Nat):at' M h n < M + 1:=by
 have:=pr_in M h n
 unfold at'
 omega
theorem nJ {M:Nat}{h:Int}{n m:Nat}(e:pr M h n=row M (st M h m)):∀ k,k ≤ SetTable.runEnd M (st M h m).1 - (st M h m).1→pr M h (n + k)=⟨(st M h m).1 + k,SetTable.runEnd M (st M h m).1 - (st M h m).1 - k,(st M h m).1,(st M h m).2,none⟩
 | 0,_=>e
 | k + 1,hk=>by
  have ih:=nJ e k (by omega)
  show uZ M (pr M h (n + k))=_
  rw [ih]
  unfold uZ
  rw [Ai (by dsimp only;omega)]
  rfl
theorem oH (M:Nat)(h:Int):∀ m,∃ n,n ≤ 10 * m∧pr M h n=row M (st M h m)
 | 0=>⟨0,Ak _,rfl⟩
 | m + 1=>by
  obtain ⟨n,hn,e⟩:=oH M h m
  have r9:=nF (lN M h m)
  refine ⟨n + (SetTable.runEnd M (st M h m).1 - (st M h m).1) + 1,by omega,?_⟩
  show uZ M (pr M h (n + (SetTable.runEnd M (st M h m).1 - (st M h m).1)))=_
  rw [nJ e _ (Ak _)]
  unfold uZ
  rw [Ah (by dsimp only;omega)]
  rfl
theorem meets {M:Nat}(hM:Msk M)(h:Int){j:Nat}(hj:j < M + 1):∃ n,n < 10 * (M + 14)∧at' M h n=j:=by
 obtain ⟨k,k1,k2⟩:=uN hM (lN M h 13) hj
 obtain ⟨n,n1,n2⟩:=oH M h (13 + k)
 refine ⟨n,by omega,?_⟩
 unfold at'
 rw [n2]
 show (st M h (13 + k)).1=j
 rw [rW,k2]
noncomputable def Up (xs:Array Nat):Prop:=∀ i k,i < k→k < xs.size→xs.getD i 0 < xs.getD k 0
structure Cut (xs:Array Nat)(j k:Nat):Prop where
 le:k ≤ xs.size
 lo:∀ i,i < k→xs.getD i j < j
 hi:∀ i,k ≤ i→i < xs.size→j ≤ xs.getD i j
theorem xW {xs:Array Nat}{i a b:Nat}(h:i < xs.size):xs.getD i a=xs.getD i b:=by simp [Array.getD,h]
theorem cB {xs:Array Nat}{j:Nat}(up:Up xs):∀ (f lo hi:Nat),hi - lo ≤ f→lo ≤ hi→hi ≤ xs.size→(∀ i,i < lo→xs.getD i j < j)→(∀ i,hi ≤ i→i < xs.size→j ≤ xs.getD i j)→Cut xs j (SetTable.below.go xs j f lo hi)
 | 0,lo,hi,h1,h2,h3,h4,h5=>by
  have:lo=hi:=by omega
  subst this
  exact ⟨h3,h4,h5⟩
 | f + 1,lo,hi,h1,h2,h3,h4,h5=>by
  unfold SetTable.below.go
  by_cases c:lo < hi
  ·rw [Ai c]
   show Cut xs j (if xs.getD ((lo + hi) / 2) j < j then _ else _)
   have m1:(lo + hi) / 2 < hi:=by omega
   have m2:lo ≤ (lo + hi) / 2:=by omega
   by_cases d:xs.getD ((lo + hi) / 2) j < j
   ·rw [Ai d]
    refine cB up f _ _ (by omega) (by omega) h3 (fun i hi'=>?_) h5
    rcases Az i ((lo + hi) / 2) with z | z
    ·have u:=up i ((lo + hi) / 2) z (by omega)
     rw [xW (b:=j) (show i < xs.size by omega),xW (b:=j) (show (lo + hi) / 2 < xs.size by omega)] at u
     omega
    ·have:i=(lo + hi) / 2:=by omega
     subst this
     exact d
   ·rw [Ah d]
    refine cB up f _ _ (by omega) (by omega) (by omega) h4 (fun i hi' hs=>?_)
    rcases Az ((lo + hi) / 2) i with z | z
    ·have u:=up ((lo + hi) / 2) i z hs
     rw [xW (b:=j) (show i < xs.size by omega),xW (b:=j) (show (lo + hi) / 2 < xs.size by omega)] at u
     omega
    ·have:i=(lo + hi) / 2:=by omega
     subst this
     omega
  ·rw [Ah c]
   have:lo=hi:=by omega
   subst this
   exact ⟨h3,h4,h5⟩
theorem cA {xs:Array Nat}(up:Up xs)(j:Nat):Cut xs j (SetTable.below xs j) :=
 cB up xs.size 0 xs.size (by omega) (by omega) (by omega) (fun i h=>by omega) (fun i h h'=>by omega)
noncomputable abbrev Ent:=Nat × Int × Value
noncomputable def slots (E:List Ent):List Nat:=E.map (·.1)
structure Tab (t:SetTable)(es:Array (Int × Value))(E:List Ent):Prop where
 mask:Msk t.mask
 pl:t.place=(slots E).toArray
 en:es=(E.map (·.2)).toArray
 up:(slots E).Pairwise (· < ·)
 le:∀ e ∈ E,e.1 < t.mask + 1
 dm:t.dummies = #[]
 found:∀ e ∈ E,∃ n,at' t.mask e.2.1 n=e.1∧∀ k,k < n→at' t.mask e.2.1 k ∈ slots E
 plain:t.plain=true
section
variable {t:SetTable}{es:Array (Int × Value)}{E:List Ent}
theorem lI {l:List Nat}(h:l.Pairwise (· < ·)):Up l.toArray:=fun i k ik hk=>by
 have hk':k < l.length:=by simpa using hk
 have:=BU.mp h i k (by omega) hk' ik
 simpa [Array.getD,show i < l.length by omega,hk'] using this
theorem slot_of (T:Tab t es E){i:Nat}{e:Ent}(h:E[i]? = some e):t.slot e.1 = .live i:=by
 have hi:i < E.length:=(Ag.mp h).1
 have C:=cA (lI T.up) e.1
 have hs:(slots E)[i]? = some e.1:=by unfold slots;rw [Ad,h];rfl
 have sz:(slots E).toArray.size=E.length:=by unfold slots;simp
 have gi:(slots E).toArray.getD i e.1=e.1:=by
  obtain ⟨q,hq⟩:=Ag.mp hs
  simp [Array.getD,q,hq]
 have bi:SetTable.below (slots E).toArray e.1=i:=by
  rcases BC (SetTable.below (slots E).toArray e.1) i with z | z | z
  ·have a:=C.hi _ (Ak _) (by omega)
   have b:=lI T.up _ _ z (by omega)
   rw [xW (b:=e.1) (by omega),xW (a:=0) (b:=e.1) (i:=i) (by omega),gi] at b
   omega
  ·exact z
  ·have:=C.lo i z
   omega
 unfold SetTable.slot
 rw [T.pl,bi]
 simp only [BR,hs,C5,Cv]
theorem aI (T:Tab t es E){j:Nat}(h:j ∉ slots E):t.slot j = .empty:=by
 have n:∀ k,¬ (slots E)[k]? = some j:=fun k e=>h (An e)
 unfold SetTable.slot SetTable.has
 rw [T.pl,T.dm]
 simp [n]
theorem pr_0 (h:Int):t.probeStart h=pr t.mask h 0:=rfl
theorem pr_next (h:Int)(n:Nat):t.advance (pr t.mask h n)=pr t.mask h (n + 1):=by
 show _=uZ t.mask (pr t.mask h n)
 unfold SetTable.advance uZ SetTable.leap
 rfl
theorem tU (M:Nat)(h:Int):∀ n,(pr M h n).dummy=none
 | 0=>rfl
 | n + 1=>by
  have ih:=tU M h n
  show (uZ M (pr M h n)).dummy=none
  unfold uZ
  split
  ·exact ih
  ·exact ih
theorem hash_at (T:Tab t es E){i:Nat}{e:Ent}(h:E[i]? = some e):(es[i]?.map (·.1)).getD 0=e.2.1:=by
 rw [T.en,BR,Ad,h]
 rfl
inductive Met (M:Nat)(E:List Ent)(h:Int)(N n:Nat):Option SetTable.Met→Prop where
 | free:(∀ k,n ≤ k→k < N→∀ e ∈ E,e.1=at' M h k→e.2.1 ≠ h)→Met M E h N n (some (.empty (at' M h N) none))
 | cand {k i:Nat} {e:Ent}:n ≤ k→k < N→E[i]? = some e→e.1=at' M h k→e.2.1=h→(∀ k',n ≤ k'→k' < k→∀ e ∈ E,e.1=at' M h k'→e.2.1 ≠ h)→Met M E h N n (some (.candidate (at' M h k) i (pr M h (k + 1))))
theorem Met.more {M:Nat}{h:Int}{N n:Nat}{r:Option SetTable.Met}(at_n:∀ e ∈ E,e.1=at' M h n→e.2.1 ≠ h)(m:Met M E h N (n + 1) r):Met M E h N n r:=by
 cases m with
 | free g =>
  refine .free fun k a b=>?_
  rcases Cq a with y | y
  ·subst y;exact at_n
  ·exact g k y b
 | cand a b c1 c2 c3 g =>
  refine .cand (by omega) b c1 c2 c3 fun k' a' b'=>?_
  rcases Cq a' with y | y
  ·subst y;exact at_n
  ·exact g k' y b'
theorem sub_len:∀ (a b:List Nat),a.Nodup→(∀ x ∈ a,x ∈ b)→a.length ≤ b.length
 | [],_,_,_=>AJ _
 | x :: a,b,n,h=>by
  have nx:=BJ.mp n
  have ih:=sub_len a (b.erase x) nx.2 fun y hy=>(List.mem_erase_of_ne (fun (z:y=x)=>nx.1 (z ▸ hy))).mpr (h y (Ay _ hy))
  have:=List.length_erase_of_mem (h x A2)
  have pos:=List.length_pos_of_mem (h x A2)
  rw [A6]
  omega
theorem oO (T:Tab t es E){a b:Ent}(ha:a ∈ E)(hb:b ∈ E)(e:a.1=b.1):a=b:=by
 obtain ⟨i,hi⟩:=Bm.mp ha
 obtain ⟨k,hk⟩:=Bm.mp hb
 have h1:=slot_of T hi
 have h2:=slot_of T hk
 rw [e,h2] at h1
 cases h1
 exact A9 (hi.symm.trans hk)
theorem go_met (T:Tab t es E)(h:Int){N:Nat}(hN:at' t.mask h N ∉ slots E)(full:∀ k,k < N→at' t.mask h k ∈ slots E):∀ (f n:Nat),n ≤ N→N - n < f→Met t.mask E h N n (SetTable.probe.go t (fun i=>(es[i]?.map (·.1)).getD 0) h f (pr t.mask h n))
 | 0,n,_,z=>by omega
 | f + 1,n,hn,hf=>by
  unfold SetTable.probe.go
  rw [show (pr t.mask h n).dummy=none from tU _ _ _]
  show Met t.mask E h N n (match t.slot (at' t.mask h n) with | .empty=>_ | .dummy=>_ | .live i=>_)
  rcases Az n N with z | z
  ·obtain ⟨e,he,ee⟩:=Au.mp (full n z)
   obtain ⟨i,hi⟩:=Bm.mp he
   have sl:=slot_of T hi
   rw [ee] at sl
   rw [sl]
   simp only [hash_at T hi,pr_next]
   by_cases c:e.2.1=h
   ·rw [Ai (by simpa using c)]
    exact .cand (Ak _) z hi ee c fun k' a b=>by omega
   ·rw [Ah (by simpa using c)]
    have ih:=go_met T h hN full f (n + 1) z (by omega)
    have at_n:∀ e' ∈ E,e'.1=at' t.mask h n→e'.2.1 ≠ h:=fun e' he' q=>by rw [oO T he' he (q.trans ee.symm)];exact c
    exact ih.more at_n
  ·have:n=N:=by omega
   subst this
   rw [aI T hN]
   exact .free fun k a b=>by omega
theorem sU (T:Tab t es E)(few:E.length < t.mask + 1)(h:Int):∃ N,N < 10 * (t.mask + 14)∧at' t.mask h N ∉ slots E∧∀ k,k < N→at' t.mask h k ∈ slots E:=by
 have nd:(slots E).Nodup:=T.up.imp fun h=>A0 h
 have ex:∃ j,j < t.mask + 1∧j ∉ slots E:=by
  refine Ba fun z=>?_
  have:=sub_len (List.range (t.mask + 1)) (slots E) C4 fun j hj=>Ba fun y=>z ⟨j,AD.mp hj,y⟩
  have sl:(slots E).length=E.length:=by unfold slots;simp
  simp at this
  omega
 obtain ⟨j,j8,hj⟩:=ex
 obtain ⟨n,hn,en⟩:=meets T.mask h j8
 have key:∀ m,(∃ n,n < m∧at' t.mask h n ∉ slots E)→∃ N,N < m∧at' t.mask h N ∉ slots E∧∀ k,k < N→at' t.mask h k ∈ slots E:=by
  intro m
  induction m with
  | zero=>rintro ⟨n,z,_⟩;omega
  | succ m ih =>
   rintro ⟨n,z,q⟩
   by_cases c:∃ n,n < m∧at' t.mask h n ∉ slots E
   ·obtain ⟨N,a,b⟩:=ih c
    exact ⟨N,by omega,b⟩
   ·have nm:n=m:=by
     rcases Az n m with y | y
     ·exact absurd ⟨n,y,q⟩ c
     ·omega
    subst nm
    exact ⟨n,by omega,q,fun k hk=>Ba fun y=>c ⟨k,hk,y⟩⟩
 exact key _ ⟨n,hn,by rw [en];exact hj⟩
end
end ST
end L2
end
section
namespace L2
open PySem PySem.Spec
open PyProof.Rows hiding Fr News
namespace ST
section
variable {prog:Program}{w:World}{A:Around}{E:Value→Shared→Prop}{s:Shared}
noncomputable abbrev TK (prog:Program)(w:World)(h:Heap)(k:List Int)(a:Addr):Prop:=IsTupleKey (intKind prog w) h k a
theorem ofA_int (n:Nat){i:Int}{t:Tok}:ofAClassStatement n (.int i t)=pure false:=by
 cases n <;> rfl
theorem int_of {k:Int}{v:Value}(h:(intKind prog w).is k v=true):∃ t,v = .int k t:=by
 cases v <;> simp [intKind,Value.isInt] at h
 exact ⟨_,by rw [h]⟩
theorem items_int {ks:List Int}{vs:List Value}(h:ItemsAre (intKind prog w) ks vs):∀ v ∈ vs,∃ k t,v=Value.int k t:=by
 induction h with
 | nil=>intro v hv;cases hv
 | cons h1 _ ih =>
  intro v hv
  rcases A4.mp hv with z | z
  ·subst z
   obtain ⟨t,e⟩:=int_of h1
   exact ⟨_,t,e⟩
  ·exact ih v z
theorem iG {a:Addr}{k:List Int}{Q:Bool→Shared→Prop}(hk:TK prog w s.heap k a)(q:Q false s):wpAny (model prog w) A (ofAClassStatement 8 (.ref a)) Q E s:=by
 have hT:=hk.typeIs
 obtain ⟨o,items,n,ho,hc,hd,hi⟩:=hk
 unfold ofAClassStatement
 refine wpAny_bind (wpAny_typeOf hT ?_)
 dsimp only
 rw [Ai (by decide)]
 refine wpAny_bind (wpAny_pure ?_)
 rw [Ah (by decide)]
 refine wpAny_bind (wpAny_seqItems ho hd ?_)
 refine wpAny_bind ?_
 rw [← Array.forIn_toList]
 refine wpAny_forIn_list _ (fun rest (b:Option Bool × Unit) s'=>b.1=none∧s'=s∧∀ v ∈ rest,v ∈ items.toList) _ ?_ ?_ _ _ ⟨rfl,rfl,fun v hv=>hv⟩
 ·rintro x rest b s' ⟨_,rfl,m⟩
  obtain ⟨i,t,rfl⟩:=items_int hi x (m x A2)
  rw [ofA_int]
  refine wpAny_bind (wpAny_pure ?_)
  rw [Ah (by decide)]
  exact wpAny_pure ⟨rfl,rfl,fun v hv=>m v (Ay _ hv)⟩
 ·rintro b s' ⟨e,rfl,_⟩
  obtain ⟨b1,b2⟩:=b
  cases e
  exact wpAny_pure q
theorem wp_seen {a:Addr}{k:List Int}{Q:Bool→Shared→Prop}(hk:TK prog w s.heap k a):∀ (ys:List Value),(∀ y ∈ ys,∃ b k',y = .ref b∧TK prog w s.heap k' b)→Q false s→wpAny (model prog w) A (searchCouldBeSeen (.ref a) ys) Q E s:=by
 intro ys h q
 unfold searchCouldBeSeen
 refine wpAny_bind ?_
 refine wpAny_forIn_list _ (fun rest (b:Option Bool × Unit) s'=>b.1=none∧s'=s∧∀ v ∈ rest,v ∈ ys) _ ?_ ?_ _ _ ⟨rfl,rfl,fun v hv=>hv⟩
 ·rintro x rest b s' ⟨_,rfl,m⟩
  obtain ⟨c,k',rfl,hc⟩:=h x (m x A2)
  have m':∀ v ∈ rest,v ∈ ys:=fun v hv=>m v (Ay _ hv)
  dsimp only
  split
  ·exact wpAny_pure ⟨rfl,rfl,m'⟩
  ·refine wpAny_bind (wpAny_eqIsQuiet_tuple hk ?_)
   rw [Ah (by decide)]
   refine wpAny_bind (wpAny_eqIsQuiet_tuple hc ?_)
   rw [Ah (by decide)]
   refine wpAny_bind (iG hk ?_)
   rw [Ah (by decide)]
   refine wpAny_bind (iG hc ?_)
   rw [Ah (by decide)]
   exact wpAny_pure ⟨rfl,rfl,m'⟩
 ·rintro b s' ⟨e,rfl,_⟩
  dsimp only
  rw [e]
  exact wpAny_pure q
noncomputable def kO (prog:Program)(w:World)(k:List Int):Int:=tupleKeyHash (intKind prog w) k
noncomputable def Held (prog:Program)(w:World)(h:Heap)(E:List Ent):Prop:=∀ e ∈ E,∃ b k,e.2.2 = .ref b∧TK prog w h k b∧e.2.1=kO prog w k
noncomputable def Has (prog:Program)(w:World)(h:Heap)(E:List Ent)(k:List Int):Prop:=∃ e ∈ E,∃ b,e.2.2 = .ref b∧TK prog w h k b
theorem Held.hash {h:Heap}{En:List Ent}(H:Held prog w h En){e:Ent}(he:e ∈ En){b:Addr}{k:List Int}(eb:e.2.2 = .ref b)(hb:TK prog w h k b):e.2.1=kO prog w k:=by
 obtain ⟨b',k',e1,h1,h2⟩:=H e he
 obtain rfl:b'=b:=by rw [eb] at e1;injection e1 with e1;exact e1.symm
 rw [h2,IsTupleKey.inj h1 hb]
theorem cK {a a0:Addr}{k:List Int}{o:Obj}{es:Array (Int × Value)}{ep:Nat}{t:SetTable}{En:List Ent}{N:Nat}{Q:SetFound→Shared→Prop}(hu:A.units < cLine)
  (ho:s.heap.get? a=some o) (hd:o.data = .set es ep t) (hf:t.fits es.size=true) (T:Tab t es En) (hH:Held prog w s.heap En) (hk:TK prog w s.heap k a0)
  (hN:at' t.mask (kO prog w k) N ∉ slots En) (full:∀ i,i < N→at' t.mask (kO prog w k) i ∈ slots En) (N21:N < 10 * (t.mask + 14))
  (hit:Has prog w s.heap En k→Q (.there none) s) (miss:¬ Has prog w s.heap En k→Q (.free (at' t.mask (kO prog w k) N) false) s) :
  ∀ (f n:Nat) (stand:Option SetTable.Probe),n ≤ N→N - n < f→stand.getD (t.probeStart (kO prog w k))=pr t.mask (kO prog w k) n →
   (∀ i,i < n→∀ e ∈ En,e.1=at' t.mask (kO prog w k) i→∀ b,e.2.2 = .ref b→¬ TK prog w s.heap k b) →
   wpAny (model prog w) A (setSearchFrom a (.ref a0) (kO prog w k) true f stand) Q E s
 | 0,n,_,_,z,_,_=>by omega
 | f + 1,n,stand,hn,hf',hs,old=>by
  unfold setSearchFrom
  refine wpAny_bind (wpAny_setState_of ho hd hf ?_)
  dsimp only
  rw [show t.gaveWay=false by unfold SetTable.gaveWay;rcases T.mask with z | z <;> rw [z] <;> rfl]
  simp only [Bg,C2]
  refine wpAny_bind (wpAny_pure ?_)
  rw [hs]
  generalize hm:SetTable.probe _ _ _ _=m
  have M:Met t.mask En (kO prog w k) N n m:=by
   rw [← hm]
   exact go_met T _ hN full _ n hn (by unfold SetTable.turns;omega)
  cases M with
  | free g =>
   refine wpAny_pure (miss ?_)
   rintro ⟨e,he,b,eb,hb⟩
   have eh:=hH.hash he eb hb
   obtain ⟨n1,e1,e2⟩:=T.found e he
   rw [eh] at e1 e2
   have l1:n1 < N:=by
    rcases BC n1 N with z | z | z
    ·exact z
    ·exact absurd (Bp (f:=(·.1)) he) (by rw [← z,e1] at hN;exact hN)
    ·exact absurd (e2 N z) hN
   rcases Az n1 n with z | z
   ·exact old n1 z e he e1.symm b eb hb
   ·exact g n1 z l1 e he e1.symm eh
  | @cand i1 ix e a1 a2 a3 a4 a5 g =>
   have me:e ∈ En:=An a3
   have ei:es[ix]? = some e.2:=by rw [T.en,BR,Ad,a3];rfl
   have sl:t.slot (at' t.mask (kO prog w k) i1) = .live ix:=by rw [← a4];exact slot_of T a3
   obtain ⟨b,k',eb,hb,eh⟩:=hH e me
   have e2:e.2=(e.2.1,Value.ref b):=by rw [← eb]
   have seen:∀ y ∈ ((es.filter fun x=>x.1 == kO prog w k).toList.map fun x=>x.2),∃ b k',y = .ref b∧TK prog w s.heap k' b:=fun y hy=>by
    obtain ⟨x,hx,rfl⟩:=Au.mp hy
    have hx':x ∈ es.toList:=by
     rw [Array.toList_filter] at hx
     exact (Br.mp hx).1
    rw [T.en] at hx'
    obtain ⟨e',he',rfl⟩:=Au.mp (by simpa using hx':x ∈ En.map (·.2))
    obtain ⟨b',k'',q1,q2,_⟩:=hH e' he'
    exact ⟨b',k'',q1,q2⟩
   have go:k' ≠ k→wpAny (model prog w) A (setSearchFrom a (.ref a0) (kO prog w k) true f (some (pr t.mask (kO prog w k) (i1 + 1)))) Q E s:=fun ne =>
    cK hu ho hd hf T hH hk hN full N21 hit miss f (i1 + 1) _ (by omega) (by omega) rfl fun i hi e' he' q b' eb' hb'=>by
     rcases Az i n with z | z
     ·exact old i z e' he' q b' eb' hb'
     ·rcases Az i i1 with y | y
      ·exact g i z y e' he' q (hH.hash he' eb' hb')
      ·have:i=i1:=by omega
       subst this
       obtain rfl:=oO T he' me (q.trans a4.symm)
       rw [eb] at eb'
       injection eb' with eb'
       subst eb'
       exact ne (IsTupleKey.inj hb hb')
   have same:t.sameMemory t.moves t.mask=some true:=by unfold SetTable.sameMemory;simp
   dsimp only
   rcases Classical.em ((!t.led)=true) with led | led
   all_goals first
    | (rw [Ai led];refine wpAny_bind (wp_seen hk _ seen ?_);rw [Ah (by decide)])
    | rw [Ah led]
   all_goals
    rw [ei,e2]
    dsimp only
    refine wpAny_bind (wpAny_holding (wpAny_eqBool_tuple hu hb hk ?_))
    refine wpAny_bind (wpAny_setState_of ho hd hf ?_)
    dsimp only
    rcases Classical.em (k'=k) with c | c
    ·rw [Ai (by simpa using c)]
     exact wpAny_pure (hit ⟨e,me,b,eb,c ▸ hb⟩)
    ·rw [Ah (by simpa using c),same]
     dsimp only
     rw [Ai rfl,sl]
     dsimp only
     rw [ei,e2]
     dsimp only
     refine wpAny_bind (wpAny_isSame_ref_self ?_)
     refine wpAny_bind (wpAny_pure ?_)
     rw [Ai rfl]
     dsimp only
     rw [Ah (by simpa using c)]
     exact go c
end
end ST
end L2
end
section
namespace L2
open PySem PySem.Spec
open PyProof.Rows hiding Fr News
namespace ST
section
variable {prog:Program}{w:World}{A:Around}{E:Value→Shared→Prop}{s:Shared}
noncomputable def ins {α:Type}(l:List α)(p:Nat)(x:α):List α:=l.take p ++ x :: l.drop p
theorem ins_map {α β:Type}(f:α→β)(l:List α)(p:Nat)(x:α):(ins l p x).map f=ins (l.map f) p (f x):=by unfold ins;simp [CB,CS]
theorem wL {α:Type}{l:List α}{p:Nat}{x y:α}:y ∈ ins l p x ↔ y=x∨y ∈ l:=by
 unfold ins
 rw [A3,A4]
 constructor
 ·rintro (h | h | h)
  ·exact .inr (Bf h)
  ·exact .inl h
  ·exact .inr (B1 h)
 ·rintro (h | h)
  ·exact .inr (.inl h)
  ·rw [← BS p l,A3] at h
   exact h.elim .inl fun z=>.inr (.inr z)
theorem yF {α:Type}(l:List α)(p:Nat)(x:α):(ins l p x).Perm (x :: l):=by
 unfold ins
 refine CO.trans ?_
 rw [BS]
theorem mL {α:Type}(l:List α)(p:Nat)(x:α):SetTable.insertAt l.toArray p x=(ins l p x).toArray:=by
 unfold SetTable.insertAt ins
 apply Array.ext'
 simp [Bc]
theorem ins_up {l:List Nat}{p j:Nat}(up:l.Pairwise (· < ·))(C:Cut l.toArray j p)(nj:j ∉ l):(ins l p j).Pairwise (· < ·):=by
 unfold ins
 have gd:∀ i (h:i < l.length),l.toArray.getD i j=l[i]:=fun i h=>by simp [Array.getD,h]
 have lo:∀ x ∈ l.take p,x < j:=fun x hx=>by
  obtain ⟨i,hi,rfl⟩:=Cf hx
  rw [Aq] at hi
  have:=C.lo i (by omega)
  rw [gd i (by omega)] at this
  rw [List.getElem_take]
  exact this
 have hi:∀ x ∈ l.drop p,j < x:=fun x hx=>by
  have hx0:=B1 hx
  obtain ⟨i,hi,rfl⟩:=Cf hx
  rw [Bv] at hi
  have:=C.hi (p + i) (by omega) (by simpa using (show p + i < l.length by omega))
  rw [gd (p + i) (by omega)] at this
  rw [List.getElem_drop] at hx0 ⊢
  have ne:l[p + i] ≠ j:=fun z=>nj (z ▸ hx0)
  omega
 have up':=up
 rw [← BS p l,List.pairwise_append] at up'
 rw [List.pairwise_append]
 refine ⟨up'.1,Dl.mpr ⟨hi,up'.2.1⟩,fun a ha b hb=>?_⟩
 rcases A4.mp hb with z | z
 ·subst z;exact lo a ha
 ·exact up'.2.2 a ha b z
theorem Tab.put {t:SetTable}{es:Array (Int × Value)}{En:List Ent}(T:Tab t es En){h:Int}{N:Nat}{v:Value}(hN:at' t.mask h N ∉ slots En)(full:∀ i,i < N→at' t.mask h i ∈ slots En) :
  ∃ p,t.put (at' t.mask h N)=({ t with place:=(slots (ins En p (at' t.mask h N,h,v))).toArray },p)∧SetTable.insertAt es p (h,v)=((ins En p (at' t.mask h N,h,v)).map (·.2)).toArray ∧
   Tab { t with place:=(slots (ins En p (at' t.mask h N,h,v))).toArray } (SetTable.insertAt es p (h,v)) (ins En p (at' t.mask h N,h,v)):=by
 have C:=cA (lI T.up) (at' t.mask h N)
 have hs:slots (ins En (SetTable.below (slots En).toArray (at' t.mask h N)) (at' t.mask h N,h,v))=ins (slots En) (SetTable.below (slots En).toArray (at' t.mask h N)) (at' t.mask h N):=by unfold slots;rw [ins_map]
 have he:SetTable.insertAt es (SetTable.below (slots En).toArray (at' t.mask h N)) (h,v)=((ins En (SetTable.below (slots En).toArray (at' t.mask h N)) (at' t.mask h N,h,v)).map (·.2)).toArray:=by rw [T.en,mL,ins_map]
 have sub:∀ x ∈ slots En,x ∈ slots (ins En (SetTable.below (slots En).toArray (at' t.mask h N)) (at' t.mask h N,h,v)):=fun x hx=>by rw [hs];exact wL.mpr (.inr hx)
 refine ⟨SetTable.below (slots En).toArray (at' t.mask h N),?_,he,⟨T.mask,rfl,he,by rw [hs];exact ins_up T.up C hN,fun e hm=>?_,T.dm,fun e hm=>?_,T.plain⟩⟩
 ·unfold SetTable.put SetTable.has
  rw [T.pl,T.dm]
  dsimp only
  rw [mL,hs]
  simp
 ·rcases wL.mp hm with z | z
  ·subst z;exact at_lt _ h N
  ·exact T.le e z
 ·rcases wL.mp hm with z | z
  ·subst z;exact ⟨N,rfl,fun k hk=>sub _ (full k hk)⟩
  ·obtain ⟨n,n1,n2⟩:=T.found e z
   exact ⟨n,n1,fun k hk=>sub _ (n2 k hk)⟩
theorem uG {M:Nat}{h:Int}{owner:Array (Option Nat)}:∀ (f m n:Nat),pr M h n=row M (st M h m)→(∃ m',m ≤ m'∧m' < m + f∧(owner.getD (st M h m').1 (some 0)).isNone=true) →
  ∃ n',n ≤ n'∧SetTable.layClean.free M owner f (st M h m).1 (st M h m).2=some (at' M h n')∧(owner.getD (at' M h n') (some 0)).isNone=true∧∀ k,n ≤ k→k < n'→(owner.getD (at' M h k) (some 0)).isNone=false
 | 0,m,n,_,⟨m',a,b,_⟩=>by omega
 | f + 1,m,n,e,⟨m',a,b,c⟩=>by
  have r9:=nF (lN M h m)
  have in_row:∀ k,k ≤ SetTable.runEnd M (st M h m).1 - (st M h m).1→at' M h (n + k)=(st M h m).1 + k:=fun k hk=>by
   unfold at'
   rw [nJ e k hk]
  unfold SetTable.layClean.free
  cases hf:(List.range (SetTable.runEnd M (st M h m).1 + 1 - (st M h m).1)).find? fun k=>(owner.getD ((st M h m).1 + k) (some 0)).isNone with
  | some k =>
   obtain ⟨p1,p2,p3⟩:=List.find?_range_eq_some.mp hf
   have hk:=AD.mp p2
   refine ⟨n + k,Nat.le_add_right _ _,by rw [in_row k (by omega)],by rw [in_row k (by omega)];exact p1,fun i hi hk'=>?_⟩
   obtain ⟨d,rfl⟩:=Nat.exists_eq_add_of_le hi
   have:=p3 d (by omega)
   rw [in_row d (by omega)]
   simpa using this
  | none =>
   have p:=List.find?_range_eq_none.mp hf
   have e2:pr M h (n + (SetTable.runEnd M (st M h m).1 - (st M h m).1) + 1)=row M (st M h (m + 1)):=by
    show uZ M (pr M h (n + (SetTable.runEnd M (st M h m).1 - (st M h m).1)))=_
    rw [nJ e _ (Ak _)]
    unfold uZ
    rw [Ah (by dsimp only;omega)]
    rfl
   have m1:m + 1 ≤ m':=by
    rcases Cq a with z | z
    ·subst z
     have:=p 0 (by omega)
     rw [Nat.add_zero,c] at this
     cases this
    ·exact z
   obtain ⟨n',g1,g2,g3,g4⟩:=uG f (m + 1) _ e2 ⟨m',m1,by omega,c⟩
   refine ⟨n',by omega,g2,g3,fun k hk hk'=>?_⟩
   rcases Az k (n + (SetTable.runEnd M (st M h m).1 - (st M h m).1) + 1) with z | z
   ·obtain ⟨d,rfl⟩:=Nat.exists_eq_add_of_le hk
    have:=p d (by omega)
    rw [in_row d (by omega)]
    simpa using this
   ·exact g4 k z hk'
structure Own (M:Nat)(hs:List Int)(owner:Array (Option Nat))(S:List Nat):Prop where
 sz:owner.size=M + 1
 len:S.length=hs.length
 lt:∀ j ∈ S,j < M + 1
 at_:∀ j k,j < M + 1→(owner.getD j none=some k ↔ S[k]? = some j)
 found:∀ k h,hs[k]? = some h→∃ n,S[k]? = some (at' M h n)∧∀ i,i < n→at' M h i ∈ S.take k
theorem getD_none {owner:Array (Option Nat)}{j:Nat}(h:j < owner.size):owner.getD j (some 0)=owner.getD j none:=by simp [Array.getD,h]
theorem Own.some_of {M:Nat}{hs:List Int}{owner:Array (Option Nat)}{S:List Nat}(O:Own M hs owner S){j:Nat}(hj:j < M + 1):(owner.getD j (some 0)).isNone=false ↔ j ∈ S:=by
 rw [getD_none (by rw [O.sz];exact hj)]
 constructor
 ·intro h
  cases e:owner.getD j none with
  | none=>rw [e] at h;cases h
  | some k=>exact An ((O.at_ j k hj).mp e)
 ·intro h
  obtain ⟨k,hk⟩:=Bm.mp h
  rw [(O.at_ j k hj).mpr hk]
  rfl
noncomputable def wK (M:Nat)(acc:Option (Array (Option Nat) × Nat))(h:Int):Option (Array (Option Nat) × Nat):=do
 let (owner,k) ← acc
 let j ← SetTable.layClean.free M owner (SetTable.turns M) (SetTable.bits h % (M + 1)) (SetTable.bits h)
 pure (owner.setIfInBounds j (some k),k + 1)
theorem oN {M:Nat}(hM:Msk M){hs:List Int}{owner:Array (Option Nat)}{S:List Nat}(O:Own M hs owner S)(h:Int)(few:hs.length < M + 1):∃ owner' j,wK M (some (owner,hs.length)) h=some (owner',hs.length + 1)∧Own M (hs ++ [h]) owner' (S ++ [j]):=by
 have ex:∃ j,j < M + 1∧j ∉ S:=by
  refine Ba fun z=>?_
  have:=sub_len (List.range (M + 1)) S C4 fun j hj=>Ba fun y=>z ⟨j,AD.mp hj,y⟩
  rw [Ar,O.len] at this
  omega
 obtain ⟨j0,j1,j2⟩:=ex
 obtain ⟨k0,k1,k2⟩:=uN hM (lN M h 13) j1
 have n0:(owner.getD (st M h (13 + k0)).1 (some 0)).isNone=true:=by
  rw [rW,k2]
  cases e:(owner.getD j0 (some 0)).isNone with
  | true=>rfl
  | false=>exact absurd ((O.some_of j1).mp e) j2
 obtain ⟨n,_,f1,f2,f3⟩:=uG (M:=M) (h:=h) (owner:=owner) (SetTable.turns M) 0 0 rfl ⟨13 + k0,AJ _,by unfold SetTable.turns;omega,n0⟩
 have jl:=at_lt M h n
 have jS:at' M h n ∉ S:=fun z=>by
  rw [(O.some_of jl).mpr z] at f2
  cases f2
 have before:∀ i,i < n→at' M h i ∈ S:=fun i hi=>(O.some_of (at_lt M h i)).mp (f3 i (AJ _) hi)
 refine ⟨owner.setIfInBounds (at' M h n) (some hs.length),at' M h n,?_,?_,?_,?_,?_,?_⟩
 ·unfold wK
  show (SetTable.layClean.free M owner (SetTable.turns M) (st M h 0).1 (st M h 0).2).bind _=_
  rw [f1]
  rfl
 ·rw [Array.size_setIfInBounds,O.sz]
 ·rw [Aj,Aj,O.len]
  rfl
 ·intro j hj
  rcases A3.mp hj with z | z
  ·exact O.lt j z
  ·rw [A5.mp z];exact jl
 ·intro j k hj
  have sj:j < owner.size:=by rw [O.sz];exact hj
  by_cases c:at' M h n=j
  ·subst c
   have e:(owner.setIfInBounds (at' M h n) (some hs.length)).getD (at' M h n) none=some hs.length:=by simp [Array.getD,sj]
   rw [e]
   constructor
   ·intro z
    have:hs.length=k:=A9 z
    rw [← this,← O.len]
    simp
   ·intro z
    rcases BC k S.length with y | y | y
    ·rw [Av y] at z
     exact absurd (An z) jS
    ·rw [y,O.len]
    ·rw [AK (by rw [Aj,AL];omega)] at z
     cases z
  ·have e:(owner.setIfInBounds (at' M h n) (some hs.length)).getD j none=owner.getD j none:=by
    simp [Array.getD,sj,Array.getElem_setIfInBounds_ne,c]
   rw [e,O.at_ j k hj]
   rcases BC k S.length with y | y | y
   ·rw [Av y]
   ·subst y
    rw [AK (Ak _)]
    simp [c]
   ·rw [AK (by omega),AK (by rw [Aj,AL];omega)]
 ·intro k h' hk
  rcases BC k hs.length with y | y | y
  ·rw [Av y] at hk
   obtain ⟨n1,a,b⟩:=O.found k h' hk
   refine ⟨n1,by rw [Av (by rw [O.len];exact y),a],fun i hi=>?_⟩
   rw [List.take_append_of_le_length (by rw [O.len];omega)]
   exact b i hi
  ·subst y
   have:h=h':=by simpa using hk
   subst this
   refine ⟨n,by rw [← O.len];simp,fun i hi=>?_⟩
   rw [← O.len,List.take_append_of_le_length (Ak _),AG]
   exact before i hi
  ·rw [AK (by rw [Aj,AL];omega)] at hk
   cases hk
theorem tZ {M:Nat}(hM:Msk M):∀ (l hs:List Int) (owner:Array (Option Nat)) (S:List Nat),Own M hs owner S→hs.length + l.length ≤ M + 1→∃ owner' S',l.foldl (wK M) (some (owner,hs.length))=some (owner',hs.length + l.length)∧Own M (hs ++ l) owner' S'
 | [],hs,owner,S,O,_=>⟨owner,S,rfl,by rw [B2];exact O⟩
 | h :: l,hs,owner,S,O,few=>by
  rw [A6] at few
  obtain ⟨ow,j,e,O'⟩:=oN hM O h (by omega)
  obtain ⟨ow',S',e',O''⟩:=tZ hM l (hs ++ [h]) ow _ O' (by rw [Aj,AL];omega)
  rw [Aj,AL] at e'
  refine ⟨ow',S',?_,by rw [Dp] at O'';exact O''⟩
  rw [List.foldl_cons,e,e',A6]
  congr 2
  omega
theorem lay_own {M:Nat}(hM:Msk M)(hs:List Int)(few:hs.length ≤ M + 1):∃ owner S,SetTable.layClean M hs.toArray=some owner∧Own M hs owner S:=by
 have O0:Own M [] (Array.replicate (M + 1) none) []:=⟨by simp,rfl,(fun j hj=>by cases hj),fun j k hj=>by simp [Array.getD,hj],fun k h hk=>by simp at hk⟩
 obtain ⟨ow,S,e,O⟩:=tZ hM hs [] _ _ O0 (by simpa using few)
 refine ⟨ow,S,?_,by simpa using O⟩
 unfold SetTable.layClean
 rw [List.foldl_toArray]
 show (hs.foldl (wK M) (some (Array.replicate (M + 1) none,0))).map _=_
 rw [show (some (Array.replicate (M + 1) (none:Option Nat),0))=some (Array.replicate (M + 1) none,([] : List Int).length) from rfl,e]
 rfl
noncomputable def xV (M:Nat)(owner:Array (Option Nat)):List (Nat × Nat):=(List.range (M + 1)).filterMap fun j=>(owner.getD j none).map (j,·)
theorem y9 {M:Nat}{hs:List Int}{owner:Array (Option Nat)}{S:List Nat}(O:Own M hs owner S){x:Nat × Nat}:x ∈ xV M owner ↔ S[x.2]? = some x.1:=by
 unfold xV
 rw [Dk]
 constructor
 ·rintro ⟨j,hj,e⟩
  obtain ⟨k,hk,rfl⟩:=Al.mp e
  exact (O.at_ j k (AD.mp hj)).mp hk
 ·intro h
  have hj:=O.lt _ (An h)
  exact ⟨x.1,AD.mpr hj,by rw [(O.at_ x.1 x.2 hj).mpr h];rfl⟩
theorem t8 (M:Nat)(owner:Array (Option Nat)):(xV M owner).Pairwise fun x y=>x.1 < y.1:=by
 refine List.Pairwise.filterMap _ (R:=(· < ·)) (fun a b ab x hx y hy=>?_) List.pairwise_lt_range
 obtain ⟨_,_,rfl⟩:=Al.mp hx
 obtain ⟨_,_,rfl⟩:=Al.mp hy
 exact ab
theorem eC {M:Nat}{hs:List Int}{owner:Array (Option Nat)}{S:List Nat}(O:Own M hs owner S):((xV M owner).map (·.2)).Perm (List.range hs.length):=by
 refine (List.perm_ext_iff_of_nodup ?_ C4).mpr fun k=>?_
 ·rw [List.Nodup,BZ]
  refine (List.Pairwise.and_mem.mp (t8 M owner)).imp fun {x y} ⟨hx,hy,lt⟩ z=>?_
  have e1:=(y9 O).mp hx
  have e2:=(y9 O).mp hy
  rw [z,e2] at e1
  have:=A9 e1
  omega
 ·rw [Au,AD]
  constructor
  ·rintro ⟨x,hx,rfl⟩
   have:=(Ag.mp ((y9 O).mp hx)).1
   rw [O.len] at this
   exact this
  ·intro hk
   have hk':k < S.length:=by rw [O.len];exact hk
   exact ⟨(S[k],k),(y9 O).mpr (Af hk'),rfl⟩
theorem Tab.relay {t:SetTable}{es:Array (Int × Value)}{En:List Ent}(T:Tab t es En)(few:En.length ≤ 32):∃ (t':SetTable) (order:Array Nat) (En':List Ent) (idx:List Nat),t.relaid (es.map (·.1)) 20=some (t',order)∧order.filterMap (fun i=>es[i]?)=(En'.map (·.2)).toArray∧Tab t' (En'.map (·.2)).toArray En'∧t'.led=t.led∧t'.mask=31∧idx.Perm (List.range En.length)∧En'.map (·.2)=idx.map (fun i=>(En.map (·.2)).getD i (0,.none)):=by
 have M31:Msk 31:=.inr rfl
 obtain ⟨owner,S,e,O⟩:=lay_own M31 (En.map (·.2.1)) (by rw [Aa];exact few)
 have hh:es.map (·.1)=(En.map (·.2.1)).toArray:=by rw [T.en];simp
 have pm:=eC O
 rw [Aa] at pm
 have lt:∀ x ∈ xV 31 owner,x.2 < En.length:=fun x hx=>AD.mp (pm.mem_iff.mp (Bp hx))
 have gd:∀ i,i < En.length→(En.map (·.2))[i]? = some ((En.map (·.2)).getD i (0,.none)):=fun i hi=>by
  have hi':i < (En.map (·.2)).length:=by simpa using hi
  rw [Ab,Af hi']
  rfl
 have ee:((xV 31 owner).map fun x=>((x.1,(En.map (·.2)).getD x.2 (0,.none)):Ent)).map (·.2)=((xV 31 owner).map (·.2)).map fun i=>(En.map (·.2)).getD i (0,.none):=by rw [AF,AF];rfl
 have sl:slots ((xV 31 owner).map fun x=>((x.1,(En.map (·.2)).getD x.2 (0,.none)):Ent))=(xV 31 owner).map (·.1):=by unfold slots;rw [AF];rfl
 refine ⟨{ mask:=31,place:=((xV 31 owner).map (·.1)).toArray,dummies := #[],finger:=t.finger,led:=t.led,moves:=t.movedTo 31,plain:=t.plain },((xV 31 owner).map (·.2)).toArray,(xV 31 owner).map fun x=>(x.1,(En.map (·.2)).getD x.2 (0,.none)),(xV 31 owner).map (·.2),?_,?_,⟨M31,by rw [sl],rfl,?_,fun e' he=>?_,rfl,fun e' he=>?_,T.plain⟩,rfl,rfl,pm,ee⟩
 ·unfold SetTable.relaid
  rw [show SetTable.sizeAbove 20 - 1=31 by decide]
  unfold SetTable.laid
  rw [hh,e]
  rfl
 ·rw [ee,T.en]
  rw [List.filterMap_toArray]
  congr 1
  have:∀ l:List Nat,(∀ i ∈ l,i < En.length)→l.filterMap (fun i=>((En.map (·.2)).toArray)[i]?)=l.map fun i=>(En.map (·.2)).getD i (0,.none):=by
   intro l
   induction l with
   | nil=>exact fun _=>rfl
   | cons i l ih =>
    intro h
    rw [C7,BR,gd i (h i A2),AN,ih fun j hj=>h j (Ay _ hj)]
  exact this _ fun i hi=>by
   obtain ⟨x,hx,rfl⟩:=Au.mp hi
   exact lt x hx
 ·rw [sl,BZ]
  exact t8 31 owner
 ·obtain ⟨x,hx,rfl⟩:=Au.mp he
  exact O.lt _ (An ((y9 O).mp hx))
 ·obtain ⟨x,hx,rfl⟩:=Au.mp he
  have hS:=(y9 O).mp hx
  have g:=gd x.2 (lt x hx)
  have hk:(En.map (·.2.1))[x.2]? = some ((En.map (·.2)).getD x.2 (0,.none)).1:=by
   rw [show En.map (·.2.1)=(En.map (·.2)).map (·.1) by rw [AF];rfl,Ad,g]
   rfl
  obtain ⟨n,n1,n2⟩:=O.found _ _ hk
  rw [hS] at n1
  refine ⟨n,(A9 n1).symm,fun i hi=>?_⟩
  rw [sl]
  obtain ⟨k,hk⟩:=Bm.mp (Bf (n2 i hi))
  exact Au.mpr ⟨(at' 31 ((En.map (·.2)).getD x.2 (0,.none)).1 i,k),(y9 O).mpr hk,rfl⟩
theorem hbv_int (n:Nat){i:Int}{t:Tok}:hashByValue n (.int i t)=pure true:=by cases n <;> rfl
theorem wp_hbv {a:Addr}{k:List Int}{Q:Bool→Shared→Prop}(hk:TK prog w s.heap k a)(q:Q true s):wpAny (model prog w) A (hashByValue 8 (.ref a)) Q E s:=by
 have hT:=hk.typeIs
 obtain ⟨o,items,n,ho,hc,hd,hi⟩:=hk
 unfold hashByValue
 refine wpAny_bind (wpAny_specialOf hT F.slot_tuple_hash.lookup ?_)
 dsimp only
 refine wpAny_bind (wpAny_seqItems ho hd ?_)
 refine wpAny_bind ?_
 rw [Option.getD_some,← Array.forIn_toList]
 refine wpAny_forIn_list _ (fun rest (b:Option Bool × Unit) s'=>b.1=none∧s'=s∧∀ v ∈ rest,v ∈ items.toList) _ ?_ ?_ _ _ ⟨rfl,rfl,fun v hv=>hv⟩
 ·rintro x rest b s' ⟨_,rfl,m⟩
  obtain ⟨i,t,rfl⟩:=items_int hi x (m x A2)
  rw [hbv_int]
  refine wpAny_bind (wpAny_pure ?_)
  rw [Ah (by decide)]
  exact wpAny_pure ⟨rfl,rfl,fun v hv=>m v (Ay _ hv)⟩
 ·rintro b s' ⟨e,rfl,_⟩
  obtain ⟨b1,b2⟩:=b
  cases e
  exact wpAny_pure q
structure SetIs (prog:Program)(w:World)(h:Heap)(a:Addr)(led:Bool)(ps:List (Addr × List Int)):Prop where
 ex:∃ o es ep t En,h.get? a=some o∧o.ExactSet∧o.data = .set es ep t∧t.fits es.size=true∧t.led=led∧Tab t es En∧(t.mask=7→En.length ≤ 4)∧En.map (·.2)=ps.map fun p=>(kO prog w p.2,Value.ref p.1)
 tk:∀ p ∈ ps,TK prog w h p.2 p.1
 nd:(ps.map (·.2)).Nodup
theorem held_of {h:Heap}{En:List Ent}{ps:List (Addr × List Int)}(e:En.map (·.2)=ps.map fun p=>(kO prog w p.2,Value.ref p.1))(tk:∀ p ∈ ps,TK prog w h p.2 p.1):Held prog w h En:=fun x hx=>by
 have hm:x.2 ∈ ps.map fun p=>(kO prog w p.2,Value.ref p.1):=e ▸ Bp hx
 obtain ⟨p,hp,ep⟩:=Au.mp hm
 exact ⟨p.1,p.2,by rw [← ep],tk p hp,by rw [← ep]⟩
theorem uC {h:Heap}{En:List Ent}{ps:List (Addr × List Int)}(e:En.map (·.2)=ps.map fun p=>(kO prog w p.2,Value.ref p.1))(tk:∀ p ∈ ps,TK prog w h p.2 p.1){k:List Int}:Has prog w h En k ↔ k ∈ ps.map (·.2):=by
 constructor
 ·rintro ⟨x,hx,b,eb,hb⟩
  have hm:x.2 ∈ ps.map fun p=>(kO prog w p.2,Value.ref p.1):=e ▸ Bp hx
  obtain ⟨p,hp,ep⟩:=Au.mp hm
  have e1:p.1=b:=by rw [← ep] at eb;injection eb
  have hpb:=tk p hp
  rw [e1] at hpb
  exact Au.mpr ⟨p,hp,IsTupleKey.inj hpb hb⟩
 ·intro hk
  obtain ⟨p,hp,rfl⟩:=Au.mp hk
  have hm:(kO prog w p.2,Value.ref p.1) ∈ En.map (·.2):=e ▸ Bp (f:=fun p:Addr × List Int=>(kO prog w p.2,Value.ref p.1)) hp
  obtain ⟨x,hx,ex⟩:=Au.mp hm
  exact ⟨x,hx,p.1,by rw [ex],tk p hp⟩
theorem iF {a:Addr}{o:Obj}{es:Array (Int × Value)}{ep:Nat}{t:SetTable}{En:List Ent}{Q:Unit→Shared→Prop}(ho:s.heap.get? a=some o)(hd:o.data = .set es ep t)(hf:t.fits es.size=true)(T:Tab t es En)(few:En.length ≤ 31)
  (q:∀ (t':SetTable) (En':List Ent) (idx:List Nat),Tab t' (En'.map (·.2)).toArray En'→t'.led=t.led→t'.mask=31→idx.Perm (List.range En.length)→En'.map (·.2)=idx.map (fun i=>(En.map (·.2)).getD i (0,.none))→Q () { s with heap:=s.heap.update a (Obj.putSet (En'.map (·.2)).toArray t') }) :
  wpAny (model prog w) A (setRelay a 20) Q E s:=by
 obtain ⟨t',order,En',idx,r1,r2,r3,r4,r5,r6,r7⟩:=T.relay (by omega)
 have sz:es.size=En.length:=by rw [T.en];simp
 have l':En'.length=En.length:=by
  have:=AY List.length r7
  rw [Aa,Aa,r6.length_eq,Ar] at this
  exact this
 have hz:¬ ((order.filterMap fun i=>es[i]?).size != es.size)=true:=by rw [r2,As,Aa,l',sz];simp
 unfold setRelay
 refine wpAny_bind (wpAny_setState_of ho hd hf ?_)
 dsimp only
 rw [Ah (by rw [show SetTable.sizeAbove 20=32 by decide,sizeLine_eq];omega),r1]
 refine wpAny_bind (wpAny_of_eq (a:=(order.filterMap (fun i=>es[i]?),t')) (by
  show (if ((order.filterMap fun i=>es[i]?).size != es.size)=true then _ else _)=_
  rw [Ah hz]) ?_)
 dsimp only
 rw [r2]
 exact wpAny_storeSet_of ho hd (q t' En' idx r3 r4 r5 r6 r7) (by rw [As,Aa,l',sizeLine_eq];omega)
theorem wp_add {a a0:Addr}{k:List Int}{led:Bool}{ps:List (Addr × List Int)}{Q:Bool→Shared→Prop}(hu:A.units < cLine)(S:SetIs prog w s.heap a led ps)(hk:TK prog w s.heap k a0)
  (few:k ∉ ps.map (·.2)→ps.length ≤ 17)
  (q:∀ h' tk b ps',Heap.SameBut a s.heap h'→SetIs prog w h' a led ps'→(ps'=ps∧k ∈ ps.map (·.2)∨ps'.Perm ((a0,k) :: ps)∧k ∉ ps.map (·.2))→Q b { s with heap:=h',toks:=tk }) :
  wpAny (model prog w) A (setAdd a (.ref a0)) Q E s:=by
 unfold setAdd
 refine wpAny_holding (wpAny_bind (wpAny_pyHash_tuple hu hk ?_))
 unfold setAddHashed setAddHashedIn
 refine wpAny_holding ?_
 obtain ⟨o,es,ep,t,En,ho,hx,hd,hf,hl,T,m7,eq⟩:=S.ex
 have hH:=held_of eq S.tk
 have le:En.length=ps.length:=by have:=AY List.length eq;simpa using this
 have m31:t.mask ≤ 31:=by rcases T.mask with z | z <;> omega
 have ne:En.length < t.mask + 1:=by
  have f1:=(Cy.mp hf).2
  have f2:t.place.size + t.dummies.size ≤ t.mask:=AV f1
  rw [T.pl] at f2
  have:(slots En).toArray.size=En.length:=by unfold slots;simp
  omega
 refine wpAny_bind (wpAny_setState_of (s:={ s with toks:=s.toks + (k.length + 1) }) ho hd hf ?_)
 dsimp only
 rw [show byScan (.ref a0) es=false from rfl]
 simp only [Bg,C2]
 obtain ⟨N,n1,n2,n3⟩:=sU T ne (kO prog w k)
 refine wpAny_bind ?_
 unfold setSearch
 refine cK (s:={ s with toks:=s.toks + (k.length + 1) }) hu ho hd hf T hH hk n2 n3 n1 (fun yes=>?_) (fun no=>?_) 100000 0 none (AJ _) (by omega) (pr_0 _) (fun i hi=>absurd hi (by omega))
 ·exact wpAny_pure (q s.heap _ _ ps ⟨rfl,fun _ _=>rfl⟩ S (.inl ⟨rfl,(uC eq S.tk).mp yes⟩))
 ·have nk:k ∉ ps.map (·.2):=fun z=>no ((uC eq S.tk).mpr z)
  obtain ⟨p,p1,p2,p3⟩:=T.put (v:=Value.ref a0) n2 n3
  have l3:=few nk
  refine wpAny_bind (wpAny_setState_of (s:={ s with toks:=s.toks + (k.length + 1) }) ho hd hf ?_)
  dsimp only
  rw [p1]
  dsimp only
  rw [Ai T.plain]
  refine wpAny_bind (wp_hbv (s:={ s with toks:=s.toks + (k.length + 1) }) hk ?_)
  rw [Ai rfl]
  have sz:(SetTable.insertAt es p (kO prog w k,Value.ref a0)).size=ps.length + 1:=by
   rw [p2,As,Aa,(yF En p _).length_eq,A6,le]
  have sp:(slots (ins En p (at' t.mask (kO prog w k) N,kO prog w k,Value.ref a0))).toArray.size=ps.length + 1:=by
   unfold slots
   rw [As,Aa,(yF En p _).length_eq,A6,le]
  refine wpAny_bind (wpAny_storeSet_of (s:={ s with toks:=s.toks + (k.length + 1) }) ho hd ?_ (by show (SetTable.insertAt es p (kO prog w k,Value.ref a0)).size ≤ sizeLine;rw [sz,sizeLine_eq];omega))
  have pe:=putSet_of (SetTable.insertAt es p (kO prog w k,Value.ref a0)) { t with place:=(slots (ins En p (at' t.mask (kO prog w k) N,kO prog w k,Value.ref a0))).toArray } hd
  have fr:(Obj.putSet (SetTable.insertAt es p (kO prog w k,Value.ref a0)) { t with place:=(slots (ins En p (at' t.mask (kO prog w k) N,kO prog w k,Value.ref a0))).toArray } o).isFreed=false:=by rw [pe];rfl
  have sb:Heap.SameBut a s.heap (s.heap.update a (Obj.putSet (SetTable.insertAt es p (kO prog w k,Value.ref a0)) { t with place:=(slots (ins En p (at' t.mask (kO prog w k) N,kO prog w k,Value.ref a0))).toArray })):=BD ..
  have keep:∀ {h':Heap},Heap.SameBut a s.heap h'→∀ {b:Addr} {k':List Int},TK prog w s.heap k' b→TK prog w h' k' b:=fun {h'} sb {b k'} z=>by
   obtain ⟨o',it,n,g1,g2,g3,g4⟩:=z
   have nb:b ≠ a:=by
    rintro rfl
    obtain rfl:o'=o:=A9 (g1.symm.trans ho)
    rw [hd] at g3
    exact nomatch g3
   exact ⟨o',it,n,(sb.2 b nb).trans g1,g2,g3,g4⟩
  have tk1:∀ {h':Heap},Heap.SameBut a s.heap h'→∀ y ∈ ins ps p (a0,k),TK prog w h' y.2 y.1:=fun {h'} sb y hy=>by
   rcases wL.mp hy with z | z
   ·subst z;exact keep sb hk
   ·exact keep sb (S.tk y z)
  have nd1:((ins ps p (a0,k)).map (·.2)).Nodup:=by
   rw [ins_map,(yF _ _ _).nodup_iff]
   exact BJ.mpr ⟨nk,S.nd⟩
  have g1:=(BQ _ ho fr).trans (AY some pe)
  have m18:ps.length + 1 ≤ t.mask:=by
   rcases T.mask with z | z
   ·have:=m7 z
    omega
   ·omega
  have fit1:({ t with place:=(slots (ins En p (at' t.mask (kO prog w k) N,kO prog w k,Value.ref a0))).toArray }:SetTable).fits (SetTable.insertAt es p (kO prog w k,Value.ref a0)).size=true:=by
   unfold SetTable.fits SetTable.fill
   dsimp only
   rw [sp,sz,T.dm]
   simpa using m18
  have eq1:(ins En p (at' t.mask (kO prog w k) N,kO prog w k,Value.ref a0)).map (·.2)=(ins ps p (a0,k)).map fun p=>(kO prog w p.2,Value.ref p.1):=by rw [ins_map,eq,ins_map]
  have l1:(ins En p (at' t.mask (kO prog w k) N,kO prog w k,Value.ref a0)).length=ps.length + 1:=by rw [(yF En p _).length_eq,A6,le]
  have full:SetTable.tooFull { t with place:=(slots (ins En p (at' t.mask (kO prog w k) N,kO prog w k,Value.ref a0))).toArray } = decide ((ps.length + 1) * 5 ≥ t.mask * 3):=by
   unfold SetTable.tooFull SetTable.fill
   dsimp only
   rw [sp,T.dm]
   rfl
  by_cases c:(ps.length + 1) * 5 ≥ t.mask * 3
  ·have e7:t.mask=7∧ps.length=4:=by
    rcases T.mask with z | z
    ·have:=m7 z
     exact ⟨z,by omega⟩
    ·omega
   rw [Ai (by
    show (!false && SetTable.tooFull _)=true
    rw [full,Ax c]
    rfl)]
   have e5:es.size=4:=by rw [T.en,As,Aa,le,e7.2]
   rw [e5,show SetTable.grown (4 + 1)=20 by decide]
   refine wpAny_bind (iF (s:={ s with heap:=s.heap.update a (Obj.putSet (SetTable.insertAt es p (kO prog w k,Value.ref a0)) { t with place:=(slots (ins En p (at' t.mask (kO prog w k) N,kO prog w k,Value.ref a0))).toArray }),toks:=s.toks + (k.length + 1) }) g1 rfl fit1 p3 (by omega) fun t' En' idx T' tl' tm' pi' ei'=>?_)
   have pe2:=putSet_of (o:={ o with data:=.set (SetTable.insertAt es p (kO prog w k,Value.ref a0)) (ep + 1) { t with place:=(slots (ins En p (at' t.mask (kO prog w k) N,kO prog w k,Value.ref a0))).toArray } }) (En'.map (·.2)).toArray t' rfl
   have l':En'.length=ps.length + 1:=by
    have:=AY List.length ei'
    rw [Aa,Aa,pi'.length_eq,Ar,l1] at this
    exact this
   have il:∀ i ∈ idx,i < (ins ps p (a0,k)).length:=fun i hi=>by
    have:=AD.mp (pi'.mem_iff.mp hi)
    rw [l1] at this
    rw [(yF ps p _).length_eq,A6]
    exact this
   have pp:(idx.map fun i=>(ins ps p (a0,k)).getD i (0,[])).Perm (ins ps p (a0,k)):=by
    have h1:=pi'.map fun i=>(ins ps p (a0,k)).getD i (0,[])
    refine h1.trans ?_
    rw [l1,← show (ins ps p (a0,k)).length=ps.length + 1 by rw [(yF ps p _).length_eq,A6]]
    have:(List.range (ins ps p (a0,k)).length).map (fun i=>(ins ps p (a0,k)).getD i (0,[]))=ins ps p (a0,k):=by
     refine Ci (by simp) fun i h1 h2=>?_
     rw [BF,Dj,Ab,Af h2]
     rfl
    rw [this]
   have g2:=(BQ (Obj.putSet (En'.map (·.2)).toArray t') g1 (by rw [pe2];rfl)).trans (AY some pe2)
   have sb2:Heap.SameBut a s.heap ((s.heap.update a (Obj.putSet (SetTable.insertAt es p (kO prog w k,Value.ref a0)) { t with place:=(slots (ins En p (at' t.mask (kO prog w k) N,kO prog w k,Value.ref a0))).toArray })).update a (Obj.putSet (En'.map (·.2)).toArray t')):=sb.trans (BD ..)
   refine wpAny_pure (q _ _ true (idx.map fun i=>(ins ps p (a0,k)).getD i (0,[])) sb2 ⟨⟨_,_,ep + 1 + 1,t',En',g2,⟨hx.1,hx.2.1,hx.2.2⟩,rfl,?_,tl'.trans hl,T',fun z=>absurd (tm'.symm.trans z) (by decide),?_⟩,fun y hy=>tk1 sb2 y (pp.mem_iff.mp hy),((pp.map (·.2)).nodup_iff).mpr nd1⟩ (.inr ⟨pp.trans (yF ..),nk⟩))
   ·unfold SetTable.fits SetTable.fill
    rw [T'.pl,T'.dm,tm']
    unfold slots
    simp
    omega
   ·rw [ei',eq1,AF]
    refine Bj fun i hi=>?_
    have hl':=il i hi
    show ((ins ps p (a0,k)).map fun p=>(kO prog w p.2,Value.ref p.1)).getD i (0,.none)=(kO prog w ((ins ps p (a0,k)).getD i (0,[])).2,Value.ref ((ins ps p (a0,k)).getD i (0,[])).1)
    rw [Ab,Ab,Ad,Af hl']
    rfl
  ·rw [Ah (by
    show ¬ (!false && SetTable.tooFull _)=true
    rw [full,Aw c]
    decide)]
   exact wpAny_pure (q _ _ true (ins ps p (a0,k)) sb ⟨⟨_,_,ep + 1,_,_,g1,⟨hx.1,hx.2.1,hx.2.2⟩,rfl,fit1,hl,p3,fun z=>by
    have z':t.mask=7:=z
    have:=m7 z'
    rw [l1]
    omega,eq1⟩,tk1 sb,nd1⟩ (.inr ⟨yF ..,nk⟩))
end
end ST
end L2
end
section
namespace L2
open PySem PySem.Spec
open PyProof.Rows hiding Fr News
namespace ST
section
variable {prog:Program}{w:World}{A:Around}{E:Value→Shared→Prop}{s:Shared}
theorem sub_len' {α:Type}[BEq α][LawfulBEq α] : ∀ (a b:List α),a.Nodup→(∀ x ∈ a,x ∈ b)→a.length ≤ b.length
 | [],_,_,_=>AJ _
 | x :: a,b,n,h=>by
  have nx:=BJ.mp n
  have ih:=sub_len' a (b.erase x) nx.2 fun y hy=>(List.mem_erase_of_ne (fun (z:y=x)=>nx.1 (z ▸ hy))).mpr (h y (Ay _ hy))
  have:=List.length_erase_of_mem (h x A2)
  have pos:=List.length_pos_of_mem (h x A2)
  rw [A6]
  omega
theorem dF {h h':Heap}{k:List Int}{a:Addr}(z:TK prog w h k a)(f:∀ o,h.get? a=some o→h'.get? a=some o):TK prog w h' k a:=let ⟨o,it,n,g1,g2⟩:=z;⟨o,it,n,f o g1,g2⟩
theorem SetIs.keep {h h':Heap}{a:Addr}{led:Bool}{ps:List (Addr × List Int)}(S:SetIs prog w h a led ps)(f:∀ b o,h.get? b=some o→(b=a∨∃ p ∈ ps,b=p.1)→h'.get? b=some o):SetIs prog w h' a led ps:=by
 obtain ⟨o,es,ep,t,En,ho,r⟩:=S.ex
 exact ⟨⟨o,es,ep,t,En,f a o ho (.inl rfl),r⟩,fun p hp=>dF (S.tk p hp) fun o e=>f _ o e (.inr ⟨p,hp,rfl⟩),S.nd⟩
theorem i6 {I S:Addr}{n:Nat}{fp wr:List Addr}{P:Nat→Value→Prop}{St:Nat→Heap→Prop}{led:Bool}{R:Result→Shared→Prop}(W:Walks prog w A.in1 I fp wr n P St)(hS:S ∉ fp)(hu:A.in1.units < cLine)
  {xs:List (Addr × List Int)} (xl:xs.length=n) (val:∀ i v,P i v→∃ x,xs[i]? = some x∧v = .ref x.1) (nw:∀ x ∈ xs,x.1 ∉ wr∧x.1 ∉ fp∧x.1 ≠ S) {D:List (List Int)} (dl:D.length ≤ 18) (inD:∀ x ∈ xs,x.2 ∈ D) :
  ∀ (k i:Nat) (s:Shared) (ps:List (Addr × List Int)),n - i=k→i ≤ n→St i s.heap→SetIs prog w s.heap S led ps→(∀ p ∈ ps,p ∈ xs.take i)→(∀ x ∈ xs.take i,x.2 ∈ ps.map (·.2))→(∀ x ∈ xs,TK prog w s.heap x.2 x.1) →
   (∀ h' tk ps',(∀ b o,b ∉ wr→b ≠ S→s.heap.get? b=some o→h'.get? b=some o)→SetIs prog w h' S led ps'→(∀ p ∈ ps',p ∈ xs)→(∀ x ∈ xs,x.2 ∈ ps'.map (·.2))→R (.ok (.ret .none)) { s with heap:=h',toks:=tk }) →
   codeAny (model prog w) A (.builtin "set.update.loop" ⟨[.ref S,.ref I],[]⟩) R s:=by
 have Sw:S ∉ wr:=fun z=>hS (W.sub _ z)
 intro k
 induction k with
 | zero =>
  intro i s ps hk hi st SI sub all tk hR
  have e:i=n:=by omega
  subst e
  rw [← xl,AG] at sub all
  refine codeAny_builtin C9 (Cw BK _ ▸ ?_)
  refine wpAny_bind (m:=pyNext (.ref I)) (W.done s _ _ st fun h' tk' hk'=>?_)
  exact wpAny_pure (hR h' tk' ps (fun b o n1 _ e=>hk' b o n1 e) (SI.keep fun b o e z=>hk' b o (by
   rcases z with z | ⟨p,hp,z⟩
   ·rw [z];exact Sw
   ·rw [z];exact (nw p (sub p hp)).1) e) sub all)
 | succ k ih =>
  intro i s ps hk hi st SI sub all tk hR
  have lt:i < n:=by omega
  refine codeAny_builtin C9 (Cw BK _ ▸ ?_)
  refine wpAny_bind (m:=pyNext (.ref I)) (W.item i s _ _ lt st fun v h1 tk1 hv st1 hk1=>?_)
  obtain ⟨x,hx,rfl⟩:=val i v hv
  have mx:x ∈ xs:=An hx
  have kS:∀ b o,s.heap.get? b=some o→(b=S∨∃ p ∈ ps,b=p.1)→h1.get? b=some o:=fun b o e z=>hk1 b o (by
   rcases z with z | ⟨p,hp,z⟩
   ·rw [z];exact Sw
   ·rw [z];exact (nw p (Bf (sub p hp))).1) e
  have tk1':∀ y ∈ xs,TK prog w h1 y.2 y.1:=fun y hy=>dF (tk y hy) fun o e=>hk1 _ o (nw y hy).1 e
  have fw:x.2 ∉ ps.map (·.2)→ps.length ≤ 17:=fun nk=>by
   have:=sub_len' (x.2 :: ps.map (·.2)) D (BJ.mpr ⟨nk,SI.nd⟩) fun y hy=>by
    rcases A4.mp hy with z | z
    ·rw [z];exact inD x mx
    ·obtain ⟨p,hp,rfl⟩:=Au.mp z
     exact inD p (Bf (sub p hp))
   rw [A6,Aa] at this
   omega
  have tak:xs.take (i + 1)=xs.take i ++ [x]:=by rw [A7,hx];rfl
  show wpAny _ A.in1 (holding [Value.ref x.1] (setAdd S (.ref x.1)) >>= fun _=>again (.builtin "set.update.loop" ⟨[.ref S,.ref I],[]⟩)) _ _ _
  refine wpAny_bind (wpAny_holding (wp_add (s:={ s with heap:=h1,toks:=tk1 }) hu (SI.keep kS) (tk1' x mx) fw fun h2 tk2 b ps' sb SI2 how=>?_))
  have sub2:∀ p ∈ ps',p ∈ xs.take (i + 1):=fun p hp=>by
   rw [tak,A3]
   rcases how with ⟨e,_⟩ | ⟨e,_⟩
   ·rw [e] at hp;exact .inl (sub p hp)
   ·rcases A4.mp (e.mem_iff.mp hp) with z | z
    ·rw [z];exact .inr (A5.mpr rfl)
    ·exact .inl (sub p z)
  have all2:∀ y ∈ xs.take (i + 1),y.2 ∈ ps'.map (·.2):=fun y hy=>by
   rw [tak,A3] at hy
   rcases how with ⟨e,h3⟩ | ⟨e,_⟩
   ·rw [e]
    rcases hy with z | z
    ·exact all y z
    ·rw [A5.mp z];exact h3
   ·have hm:=(e.map (·.2)).mem_iff (a:=y.2)
    rw [hm,AN,A4]
    rcases hy with z | z
    ·exact .inr (all y z)
    ·rw [A5.mp z];exact .inl rfl
  have k2:∀ b o,b ≠ S→h1.get? b=some o→h2.get? b=some o:=fun b o n e=>(sb.2 b n).trans e
  refine wpAny_pure ⟨plainId_quiet BK _,ih (i + 1) _ ps' (by omega) lt (W.frame _ h1 h2 st1 fun b hb o e=>k2 b o (fun z=>hS (z ▸ hb)) e) SI2 sub2 all2 (fun y hy=>dF (tk1' y hy) fun o e=>k2 _ o (nw y hy).2.2 e) fun h' tk' ps'' k3 SI3 sub3 all3=>?_⟩
  exact hR h' tk' ps'' (fun b o n1 n2 e=>k3 b o n1 n2 (k2 b o n2 (hk1 b o n1 e))) SI3 sub3 all3
end
end ST
end L2
end
section
namespace L2
open PySem PySem.Spec
open PyProof.Rows hiding Fr News
namespace ST
section
variable {prog:Program}{w:World}{A:Around}{E:Value→Shared→Prop}{s:Shared}
noncomputable def yO (w:World):Bool:=!w.params.followText "set-order"
noncomputable def g7 (w:World):Obj:={ cls:=.type "set",dict:=none,data:=.set #[] 0 (.fresh 0 0 (yO w)) }
theorem new_led (v:Value){Q:Value→Shared→Prop}(q:Q (.ref s.heap.objs.size) { s with heap:=s.heap.push (g7 w) }):codeAny (model prog w) A (.call (.builtin "set.__new__") ⟨[.type "set",v],[]⟩) (wants Q E) s:=by
 refine codeAny_of_tree (show wpAny _ A.in1 (do checkBuiltinCall "set.__new__" ⟨[.type "set",v],[]⟩;again (.builtin "set.__new__" ⟨[.type "set",v],[]⟩)) _ _ s from wpAny_bind (wpAny_of_eq (PySem.F.newCall_set_1 v) (wpAny_pure ⟨plainId_quiet PySem.F.plain_set_new _,codeAny_builtin PySem.F.entry_set_new ?_⟩)))
 rw [Cw PySem.F.plain_set_new _]
 have sb:=sub_set_self
 obtain ⟨hp,g,d,tk,os⟩:=s
 unfold Builtin.«set.__new__» Builtin.Frozenset.newClass
 dsimp only
 wp_walk
 refine wpAny_askSetting (wpAny_pure ?_)
 simp only [newObj]
 exact wpAny_bind (wpAny_alloc (wpAny_pure (wpAny_pure q)))
theorem fresh_is:SetIs prog w (s.heap.push (g7 w)) s.heap.objs.size (yO w) []:=by
 refine ⟨⟨g7 w,#[],0,.fresh 0 0 (yO w),[],Ao _ rfl,⟨rfl,rfl,rfl⟩,rfl,rfl,rfl,⟨.inl rfl,rfl,rfl,List.Pairwise.nil,(fun e he=>by cases he),rfl,(fun e he=>by cases he),rfl⟩,fun _=>AJ _,rfl⟩,(fun p hp=>by cases hp),List.nodup_nil⟩
set_option maxHeartbeats 4000000 in
theorem call_set_tups {l:Addr}{items:Array Value}{xs:List (Addr × List Int)}{Q:Value→Shared→Prop}(hh:A.handled=none)(hu:A.units + 8 < cLine)(hl:s.heap.IsList l items)(hi:items.toList=xs.map fun x=>Value.ref x.1)
  (tk:∀ x ∈ xs,TK prog w s.heap x.2 x.1) {D:List (List Int)} (dl:D.length ≤ 18) (inD:∀ x ∈ xs,x.2 ∈ D)
  (q:∀ h' t ps,(∀ b o,s.heap.get? b=some o→h'.get? b=some o)→SetIs prog w h' s.heap.objs.size (yO w) ps→(∀ p ∈ ps,p ∈ xs)→(∀ x ∈ xs,x.2 ∈ ps.map (·.2))→Q (.ref s.heap.objs.size) { s with heap:=h',toks:=t }) :
  wpAny (model prog w) A (call (.type "set") [.ref l]) Q E s:=by
 have mk:=B9.made
 have su:=B9.sub
 have nt:=B9.notType
 have cc:=B9.canCreate
 have tc:=PySem.F.typeCall_set_1 (.ref l)
 obtain ⟨_,_,mro⟩:=B9.mro
 refine wpAny_call (codeAny_of_tree (show wpAny _ _ (callAny (.type "set") _) _ _ _ from wpAny_pure ⟨Code.quiet_builtin _ (by decide +kernel),codeAny_builtin PySem.F.entry_type_call ?_⟩))
 rw [Around.under_plain (weight_type_call_type "set" [.ref l] []) rfl]
 repeat (any_goals (first | assumption | wp_step))
 refine codeAny_mono (new_led (.ref l) (E:=E) (Q:=fun v s1=>v = .ref s.heap.objs.size∧s1={ s with heap:=s.heap.push (g7 w) }) ⟨rfl,rfl⟩) fun r s1 hr=>?_
 cases r with
 | error e=>exact hr
 | ok fl =>
  cases fl with
  | ret v =>
   obtain ⟨rfl,rfl⟩:=hr
   have at0:(s.heap.push (g7 w)).get? s.heap.objs.size=some (g7 w):=Ao _ rfl
   have ty:Shared.TypeIs { s with heap:=s.heap.push (g7 w) } (.ref s.heap.objs.size) "set" := ⟨_,at0,rfl⟩
   have il:=B9.init.lookup
   have ib:=B9.init.bind (.ref s.heap.objs.size)
   repeat (any_goals (first | assumption | wp_step))
   refine codeAny_mono (codeAny_call_builtin (R:=wants (fun r s2=>r = .none∧∃ h' t ps,s2={ s with heap:=h',toks:=t }∧(∀ b o,s.heap.get? b=some o→h'.get? b=some o)∧SetIs prog w h' s.heap.objs.size (yO w) ps∧(∀ p ∈ ps,p ∈ xs)∧∀ x ∈ xs,x.2 ∈ ps.map (·.2)) E) B9.init.plain PySem.F.entry_set_init (check_set_init_1 ty ?_)) fun r2 s2 hr2=>?_
   ·obtain ⟨⟨c1,c2,c3,c4⟩,hol,hcl,nl,hdl⟩:=id hl
    simp only at hcl hdl
    subst hcl hdl
    have at1:(s.heap.push (g7 w)).get? l=some { cls:=.type "list",dict:=c2,data:=.seq items nl,slots:=c4 }:=Ac _ hol
    have s1:=PySem.F.sub_list_set
    have s2:=PySem.F.sub_list_frozenset
    have nd:(Value.type "list" == Value.type "dict")=false:=by decide
    have l1:(s.heap.push (g7 w)).IsList l items:=⟨_,at1,rfl,nl,rfl⟩
    unfold Builtin.«set.__init__» noKeywords Builtin.Frozenset.updateFrom
    generalize hPI:pyIter=PI
    unfold g7 at *
    wp_walk
    subst hPI
    refine wpAny_pyIter_list l1 (wpAny_bind (wpAny_runValue ?_))
    have lS:l < s.heap.objs.size:=Am hol
    have nI:l ≠ (s.heap.push (g7 w)).objs.size:=by rw [Bh];exact A0 (Cb lS)
    have SI0:SetIs prog w ((s.heap.push (g7 w)).push { cls:=.type "list_iterator",data:=.fields #[.ref l,.int 0 0] }) s.heap.objs.size (yO w) []:=fresh_is.keep fun b o e _=>Ac _ e
    have up:∀ b o,s.heap.get? b=some o→((s.heap.push (g7 w)).push { cls:=.type "list_iterator",data:=.fields #[.ref l,.int 0 0] }).get? b=some o:=fun b o e=>Ac _ (Ac _ e)
    have xl:xs.length=items.size:=by have:=AY List.length hi;simpa using this.symm
    have lt:∀ b o,s.heap.get? b=some o→b ≠ (s.heap.push (g7 w)).objs.size∧b ≠ s.heap.objs.size:=fun b o e=>by
     rw [Bh]
     exact ⟨A0 (Cb (Am e)),A0 (Am e)⟩
    refine i6 (A:=A.in1.in1) (Walks.list (A:=A.in1.in1.in1) (show A.in1.in1.in1.handled=none from hh) (s.heap.push (g7 w)).objs.size l nI items) ?_ (by show A.units + 1 + 1 + 1 < cLine;omega) xl (fun i v hv=>?_) (fun x hx=>?_) dl inD items.size 0 _ [] (by omega) (AJ _) ⟨⟨_,Ao _ rfl,rfl,rfl⟩,l1.push _⟩ SI0 (fun p hp=>by cases hp) (fun x hx=>by simp at hx) (fun x hx=>dF (tk x hx) fun o e=>up _ o e) fun h' t' ps k1 k2 k3 k4=>?_
    ·intro hm
     rcases A4.mp hm with z | z
     ·rw [Bh] at z
      exact Nat.succ_ne_self _ z.symm
     ·exact Dc lS (A5.mp z)
    ·have e:items.toList[i]? = some v:=by rw [CM];exact hv
     rw [hi,Ad] at e
     obtain ⟨x,x1,x2⟩:=Al.mp e
     exact ⟨x,x1,x2.symm⟩
    ·obtain ⟨o,_,_,g1,g2,_⟩:=tk x hx
     have n1:=lt _ o g1
     have n2:x.1 ≠ l:=fun z=>by
      rw [z,hol] at g1
      cases A9 g1
      exact absurd g2 (by simp)
     exact ⟨fun z=>n1.1 (A5.mp z),fun z=>(A4.mp z).elim n1.1 fun y=>n2 (A5.mp y),n1.2⟩
    ·exact wpAny_pure (wpAny_pure ⟨rfl,h',t',ps,rfl,fun b o e=>k1 b o (fun z=>(lt b o e).1 (A5.mp z)) (lt b o e).2 (up b o e),k2,k3,k4⟩)
   ·cases r2 with
    | error e=>exact hr2
    | ok f2 =>
     cases f2 with
     | ret r =>
      obtain ⟨rfl,h',t,ps,rfl,k1,k2,k3,k4⟩:=hr2
      repeat (any_goals (first | assumption | wp_step))
      exact q _ _ _ k1 k2 k3 k4
     | _=>exact hr2.elim
  | _=>exact hr.elim
end
end ST
end L2
end
section
namespace L2
open PySem PySem.Spec
open PyProof.Rows hiding Fr News
namespace ST
theorem gC:Slot "set_iterator" "__next__" "set_iterator.__next__" := .of (owner := "set_iterator") (n := "__next__") (by rw [typeLookup_type,builtinLookup_eq_fast];kernel_rfl) (by decide +kernel) (by decide +kernel) (by decide +kernel) (.inl (by decide +kernel)) (by rw [isSubtype_type];kernel_rfl)
theorem uJ:entryFor table "set_iterator.__next__" = some Builtin.«set_iterator.__next__» := entryFor_of_tree (by kernel_rfl)
theorem en_iter:entryFor table "set.__iter__" = some Builtin.«frozenset.__iter__» := entryFor_alias (id' := "frozenset.__iter__") (by kernel_rfl) rfl (by decide +kernel) (by kernel_rfl)
theorem uY (a:Value):argsOk "set_iterator.__next__" ⟨[a],[]⟩:=by
 unfold argsOk
 rw [signature?_of (id := "set_iterator.__next__") (n:=['_','_','t','x','e','n','_','_']) (o:=['r','o','t','a','r','e','t','i','_','t','e','s']) (by kernel_rfl) (show _=some Manifest.sig_set_iterator by kernel_rfl)]
 kernel_rfl
section
variable {prog:Program}{w:World}{A:Around}{E:Value→Shared→Prop}{s:Shared}
structure SRaw (w:World)(h:Heap)(a:Addr)(es:Array (Int × Value))(ep:Nat)(t:SetTable)(En:List Ent):Prop where
 ex:∃ o,h.get? a=some o∧o.ExactSet∧o.data = .set es ep t
 fits:t.fits es.size=true
 led:t.led=yO w
 tab:Tab t es En
theorem SRaw.keep {h h':Heap}{a:Addr}{es:Array (Int × Value)}{ep:Nat}{t:SetTable}{En:List Ent}(x:SRaw w h a es ep t En)(f:∀ o,h.get? a=some o→h'.get? a=some o):SRaw w h' a es ep t En:=⟨let ⟨o,e,r⟩:=x.ex;⟨o,f o e,r⟩,x.fits,x.led,x.tab⟩
theorem SRaw.ty {a:Addr}{es:Array (Int × Value)}{ep:Nat}{t:SetTable}{En:List Ent}(x:SRaw w s.heap a es ep t En):s.TypeIs (.ref a) "set" := let ⟨o,e,r,_⟩:=x.ex;⟨o,e,r.1⟩
noncomputable def zQ (w:World)(a:Addr)(ep:Nat)(es:Array (Int × Value)):Array (Int × Value):=if yO w=true then es else pickOrder (w.params.setOrder a ep) es
noncomputable def zS (w:World)(En:List Ent)(i:Nat):Nat:=if yO w=true∧0 < i then ((En.map (·.1)).getD (i - 1) 0) + 1 else 0
theorem txt_led:w.params.followText "set-order" = !yO w:=by unfold yO;simp
theorem cut_slot {t:SetTable}{es:Array (Int × Value)}{En:List Ent}(T:Tab t es En){i:Nat}(hi:i ≤ En.length)(L:yO w=true):SetTable.below t.place (zS w En i)=i:=by
 rw [T.pl]
 have C:=cA (lI T.up) (zS w En i)
 have sz:(slots En).toArray.size=En.length:=by unfold slots;simp
 have gd:∀ (k d:Nat) (h:k < En.length),(slots En).toArray.getD k d=(slots En).getD k 0:=fun k d h=>by
  have:k < (slots En).length:=by unfold slots;simpa using h
  simp [Array.getD,this]
 unfold zS at *
 generalize hb:SetTable.below _ _=k at *
 rcases BP i with z | z
 ·subst z
  rw [Ah (by omega)] at C
  rcases BP k with y | y
  ·exact y
  ·have:=C.lo 0 y
   omega
 ·rw [Ai ⟨L,z⟩] at C
  have hp:(slots En).getD (i - 1) 0=(En.map (·.1)).getD (i - 1) 0:=rfl
  rcases BC k i with y | y | y
  ·have:=C.hi (i - 1) (by omega) (by omega)
   rw [gd _ _ (by omega),hp] at this
   omega
  ·exact y
  ·have c1:=C.lo i y
   have kl:=C.le
   have u:=lI T.up (i - 1) i (by omega) (by omega)
   rw [gd _ _ (by omega),gd _ _ (by omega),hp] at u
   rw [gd _ _ (by omega)] at c1
   omega
end
end ST
end L2
end
section
namespace L2
open PySem PySem.Spec
open PyProof.Rows hiding Fr News
namespace ST
section
variable {prog:Program}{w:World}{A:Around}{E:Value→Shared→Prop}{s:Shared}{a it:Addr}{es:Array (Int × Value)}{ep:Nat}{t:SetTable}{En:List Ent}
noncomputable def hW (w:World)(En:List Ent)(a:Addr)(n ep i:Nat):Obj:={ cls:=.type "set_iterator",data:=.fields #[.int (zS w En i:Nat) 0,.int i 0,.ref a,.int n 0,.int ep 0] }
theorem d7 {Q:Bool→Shared→Prop}(q:Q (!yO w) s):wpAny (model prog w) A setsByText Q E s:=by
 unfold setsByText
 refine wpAny_bind (wpAny_askSetting (wpAny_pure ?_))
 show Q (w.params.followText "set-order") s
 rw [txt_led]
 exact q
theorem iH {Q:Bool→Shared→Prop}(x:SRaw w s.heap a es ep t En)(q:Q false s):wpAny (model prog w) A (setDrawn a) Q E s:=by
 obtain ⟨o,h1,_,h3⟩:=x.ex
 unfold setDrawn
 refine wpAny_bind (wpAny_setState_of h1 h3 x.fits (wpAny_bind (d7 (wpAny_pure ?_))))
 show Q (!(!yO w) && (!t.plain && decide (es.size > 1))) s
 rw [x.tab.plain]
 simpa using q
theorem s_iter {Q:Value→Shared→Prop}(x:SRaw w s.heap a es ep t En)(q:Q (.ref s.heap.objs.size) { s with heap:=s.heap.push (hW w En a es.size ep 0) }):wpAny (model prog w) A (pyIter (.ref a)) Q E s:=by
 obtain ⟨o,h1,_,h3⟩:=x.ex
 refine wpAny_pyIter_slot x.ty PySem.F.slot_set_iter (wpAny_call_entry PySem.F.slot_set_iter x.ty en_iter (show wpAny _ _ (Builtin.«frozenset.__iter__» ⟨[.ref a],[]⟩) _ _ s from ?_) (PySem.F.args_set_iter_1 _))
 unfold Builtin.«frozenset.__iter__» Builtin.Frozenset.slot0 slotArgs
 simp only [List.isEmpty_nil,Bool.not_true,Bg,↓reduceIte,bind_assoc,Bq,bne_self_eq_false]
 refine wpAny_bind (wpAny_pure ?_)
 unfold Builtin.Frozenset.addrOf Builtin.Frozenset.sizeOf
 refine wpAny_bind (wpAny_pure (wpAny_bind (wpAny_bind (wpAny_setEntries_of h1 h3 x.fits (wpAny_pure (wpAny_bind (iH x ?_)))))))
 rw [Ah (by decide)]
 refine wpAny_bind (wpAny_pure (wpAny_bind (wpAny_setEpoch_of h1 h3 x.fits ?_)))
 unfold newFields
 refine wpAny_bind (wpAny_newObj_type (wpAny_pure ⟨_,rfl, "set_iterator",_,⟨_,Ao _ rfl,rfl⟩,gC.lookup,?_⟩))
 have e0:zS w En 0=0:=Ah fun z=>absurd z.2 (by omega)
 unfold hW at q
 rw [e0] at q
 exact q
theorem bP {i:Nat}(hi:s.heap.get? it=some (hW w En a es.size ep i)):s.TypeIs (.ref it) "set_iterator" := ⟨_,hi,rfl⟩
theorem wO {i:Nat}{Q:Option (Value × Nat)→Shared→Prop}(x:SRaw w s.heap a es ep t En)(le:i ≤ es.size)(q:Q (((zQ w a ep es)[i]?).map fun e=>(e.2,zS w En (i + 1))) s):wpAny (model prog w) A (setNext a (zS w En i) i ep) Q E s:=by
 obtain ⟨o,h1,_,h3⟩:=x.ex
 have T:=x.tab
 have sz:es.size=En.length:=by rw [T.en];simp
 unfold setNext
 refine wpAny_bind (wpAny_setState_of h1 h3 x.fits ?_)
 dsimp only
 refine wpAny_bind (d7 ?_)
 cases L:yO w with
 | false =>
  rw [Ai (show (!false)=true from rfl),Ah (by simp)]
  unfold setWalk
  refine wpAny_bind (wpAny_bind (wpAny_setState_of h1 h3 x.fits (wpAny_bind (d7 ?_))))
  rw [L,Ai (show (!false)=true from rfl)]
  refine wpAny_bind (wpAny_askSetting (wpAny_pure (wpAny_pure ?_)))
  unfold zQ at q
  rw [L,Ah (by decide)] at q
  have e1:zS w En (i + 1)=zS w En i:=by unfold zS;rw [L,Ah (by simp),Ah (by simp)]
  rw [e1] at q
  exact q
 | true =>
  rw [Ah (by decide)]
  refine wpAny_ite_split (fun z=>absurd (show (!t.plain && decide (es.size > 1))=true from z) (by rw [T.plain];simp)) (fun _=>?_)
  refine wpAny_bind (show wpAny _ _ (if (!t.led && !es.isEmpty)=true then unsupported "set:maker-not-led" else pure ()) _ _ _ from ?_)
  rw [x.led,L,Ah (by simp)]
  refine wpAny_pure (wpAny_pure ?_)
  rw [cut_slot T (by omega) L]
  unfold zQ at q
  rw [Ai L] at q
  rcases Az i es.size with z | z
  ·have p1:t.place[i]? = some ((En.map (·.1)).getD i 0):=by
    rw [T.pl,BR]
    unfold slots
    have hl:i < (En.map (·.1)).length:=by simp;omega
    rw [Af hl,Ab,Af hl]
    rfl
   have e1:zS w En (i + 1)=(En.map (·.1)).getD i 0 + 1:=by unfold zS;rw [Ai ⟨L,by omega⟩];rfl
   rw [e1,B6 z] at q
   rw [p1,B6 z]
   exact q
  ·rw [Cn z] at q ⊢
   exact q
theorem s_next {Q:Option Value→Shared→Prop}{i:Nat}{e:Int × Value}(hi:s.heap.get? it=some (hW w En a es.size ep i))(x:SRaw w s.heap a es ep t En)(hv:(zQ w a ep es)[i]? = some e)(lt:i < es.size)
  (q:∀ h',h'.get? it=some (hW w En a es.size ep (i + 1))→Heap.SameBut it s.heap h'→Q (some e.2) { s with heap:=h' }):wpAny (model prog w) A (pyNext (.ref it)) Q E s:=by
 obtain ⟨o,h1,_,h3⟩:=x.ex
 unfold pyNext
 refine wpAny_bind (wpAny_attempt (wpAny_callSpecial?_slot (name:=Str.ofString "__next__") (bP hi) gC (wpAny_call_entry gC (bP hi) uJ (show wpAny _ _ (Builtin.«set_iterator.__next__» ⟨[.ref it],[]⟩) _ _ s from ?_) (uY _))))
 unfold Builtin.«set_iterator.__next__»
 refine wpAny_bind (wpAny_pure (wpAny_bind (wpAny_fieldsOf hi rfl ?_)))
 dsimp only
 refine wpAny_bind (wpAny_setEntries_of h1 h3 x.fits ?_)
 rw [Ah (by simp)]
 simp only [Ap]
 refine wpAny_bind (wO x (AH lt) ?_)
 rw [hv]
 dsimp only [Option.map_some]
 refine wpAny_bind (wpAny_setField hi rfl (by simp) ?_)
 have g1:(s.heap.update it (Obj.mapFields fun x=>x.setIfInBounds 0 (rawInt (zS w En (i + 1):Nat)))).get? it=some { cls:=.type "set_iterator",data:=.fields #[.int (zS w En (i + 1):Nat) 0,.int i 0,.ref a,.int es.size 0,.int ep 0] }:=by
  rw [BQ _ hi (by rfl)]
  rfl
 refine wpAny_bind (wpAny_setField (s:={ s with heap:=s.heap.update it (Obj.mapFields fun x=>x.setIfInBounds 0 (rawInt (zS w En (i + 1):Nat))) }) g1 rfl (by simp) (wpAny_pure ⟨_,rfl,wpAny_pure (q _ ?_ ?_)⟩))
 ·rw [BQ _ g1 (by rfl)]
  rfl
 ·exact (BD ..).trans (BD ..)
theorem sV {α:Type}{l:List α}{i:Nat}(h:i < l.length):(l[i] :: l.eraseIdx i).Perm l:=by
 rw [List.eraseIdx_eq_take_drop_succ]
 refine CO.symm.trans ?_
 rw [← List.drop_eq_getElem_cons h,BS]
theorem tX {α:Type}(nx:Nat→Nat):∀ (f k:Nat) (left:List α) (out:Array α),left.length=f→∃ p:List α,p.Perm left∧(pickOrder.go nx f k left out).toList=out.toList ++ p
 | 0,k,left,out,e=>⟨[],by rw [Cm e],by unfold pickOrder.go;simp⟩
 | f + 1,k,left,out,e=>by
  have lt:nx k % left.length < left.length:=C1 _ (by omega)
  unfold pickOrder.go
  rw [Af lt]
  dsimp only
  obtain ⟨p,p1,p2⟩:=tX nx f (k + 1) (left.eraseIdx (nx k % left.length)) (out.push left[nx k % left.length]) (by rw [List.length_eraseIdx,Ai lt];omega)
  refine ⟨left[nx k % left.length] :: p,(p1.cons _).trans (sV lt),?_⟩
  rw [p2]
  simp
theorem cM:(zQ w a ep es).toList.Perm es.toList:=by
 unfold zQ
 split
 ·exact .refl _
 ·obtain ⟨p,p1,p2⟩:=tX (w.params.setOrder a ep) es.size 0 es.toList #[] (by simp)
  unfold pickOrder
  rw [p2]
  simpa using p1
theorem d8:(zQ w a ep es).size=es.size:=by
 have:=(cM (w:=w) (a:=a) (ep:=ep) (es:=es)).length_eq
 simpa using this
theorem s_end {Q:Option Value→Shared→Prop}(hh:A.handled=none)(hi:s.heap.get? it=some (hW w En a es.size ep es.size))(x:SRaw w s.heap a es ep t En)
  (q:∀ h',Heap.ExtBut it s.heap h'→Q none { s with heap:=h' }):wpAny (model prog w) A (pyNext (.ref it)) Q E s:=by
 obtain ⟨o,h1,_,h3⟩:=x.ex
 unfold pyNext
 refine wpAny_bind (wpAny_attempt (wpAny_callSpecial?_slot (name:=Str.ofString "__next__") (bP hi) gC (wpAny_call_entry gC (bP hi) uJ (show wpAny _ _ (Builtin.«set_iterator.__next__» ⟨[.ref it],[]⟩) _ _ s from ?_) (uY _))))
 unfold Builtin.«set_iterator.__next__»
 refine wpAny_bind (wpAny_pure (wpAny_bind (wpAny_fieldsOf hi rfl ?_)))
 dsimp only
 refine wpAny_bind (wpAny_setEntries_of h1 h3 x.fits ?_)
 rw [Ah (by simp)]
 simp only [Ap]
 refine wpAny_bind (wO x (Ak _) ?_)
 rw [Cn (by rw [d8];exact Ak _)]
 dsimp only [Option.map_none]
 refine wpAny_bind (wpAny_setField hi rfl (by simp) (wpAny_bind ?_))
 unfold newExc newTuple
 refine wpAny_bind (wpAny_newObj_type (wpAny_bind (m:=firstArgMember _ _) (wpAny_of_eq (a:=Value.none) rfl (wpAny_newObj_type (show wpAny _ _ (raiseNew _) _ _ _ from ?_) (by size_fits)))) (by size_fits))
 unfold raiseNew
 refine wpAny_bind (wpAny_handled ?_)
 rw [show A.in1.handled=none from hh]
 refine wpAny_bind (wpAny_pure (wpAny_throw ?_))
 exact wpAny_bind (wpAny_isInstance (T := "StopIteration") (b:=true) ⟨_,Ao _ rfl,rfl⟩ isSubtype_stop (wpAny_pure (q _ (((BD ..).extBut.push _).push _))))
theorem tN:Slot "set_iterator" "__iter__" "set_iterator.__iter__" := .of (owner := "set_iterator") (n := "__iter__") (by rw [typeLookup_type,builtinLookup_eq_fast];kernel_rfl) (by decide +kernel) (by decide +kernel) (by decide +kernel) (.inl (by decide +kernel)) (by rw [isSubtype_type];kernel_rfl)
theorem en_self:entryFor table "set_iterator.__iter__" = some Builtin.«dict_keyiterator.__iter__» := entryFor_alias (id' := "dict_keyiterator.__iter__") (by kernel_rfl) rfl (by decide +kernel) (by kernel_rfl)
theorem ar_self (a:Value):argsOk "set_iterator.__iter__" ⟨[a],[]⟩:=by
 unfold argsOk
 rw [signature?_of (id := "set_iterator.__iter__") (n:=['_','_','r','e','t','i','_','_']) (o:=['r','o','t','a','r','e','t','i','_','t','e','s']) (by kernel_rfl) (show _=some Manifest.sig_set_iterator by kernel_rfl)]
 kernel_rfl
theorem s_self {Q:Value→Shared→Prop}{i:Nat}(hi:s.heap.get? it=some (hW w En a es.size ep i))(q:Q (.ref it) s):wpAny (model prog w) A (pyIter (.ref it)) Q E s:=by
 refine wpAny_pyIter_slot (bP hi) tN (wpAny_call_entry tN (bP hi) en_self (show wpAny _ _ (ret (.ref it)) _ _ s from ?_) (ar_self _))
 exact wpAny_pure ⟨_,rfl, "set_iterator",_,bP hi,gC.lookup,q⟩
theorem s_walk (hh:A.handled=none)(I a:Addr)(ne:a ≠ I)(es:Array (Int × Value))(ep:Nat)(t:SetTable)(En:List Ent):Walks prog w A I [I,a] [I] es.size (fun i v=>∃ e,(zQ w a ep es)[i]? = some e∧v=e.2) (fun i h=>h.get? I=some (hW w En a es.size ep i)∧SRaw w h a es ep t En) where
 sub:=fun b hb=>by simp at hb;simp [hb]
 frame:=fun _ _ _ st hk=>⟨hk I (by simp) _ st.1,st.2.keep fun o e=>hk a (by simp) o e⟩
 item:=fun i s Q E hi st hQ=>by
  have lt:i < (zQ w a ep es).size:=by rw [d8];exact hi
  exact s_next st.1 st.2 (B6 lt) hi fun h' h1 h2=>hQ _ h' s.toks ⟨_,B6 lt,rfl⟩ ⟨h1,st.2.keep fun o e=>h2.extBut a o ne e⟩ fun b o hb e=>h2.extBut b o (fun z=>hb (by simp [z])) e
 done:=fun s Q E st hQ=>s_end hh st.1 st.2 fun h' he=>hQ h' s.toks fun b o hb e=>he b o (fun z=>hb (by simp [z])) e
 self:=fun _ _ _ _ st hQ=>s_self st.1 hQ
theorem s_hint {Q:Bool→Shared→Prop}(hT:s.TypeIs (.ref a) "set") (q:Q false s):wpAny (model prog w) A (Builtin.List.listLengthHint (.ref a)) Q E s:=by
 unfold Builtin.List.listLengthHint
 refine wpAny_bind (wpAny_specialOf hT PySem.F.slot_set_len.lookup ?_)
 generalize hid:("set.__len__" : String)=i0
 wp_delta
 rw [show splitId i0=some ("set", "__len__") from by subst hid;decide +kernel]
 subst hid
 refine wpAny_bind (wpAny_isInstance (T := "set") (b:=true) hT sub_set_self ?_)
 refine wpAny_ite_split (fun z=>absurd z (by decide)) fun _=>wpAny_ite_split (fun _=>wpAny_bind (wpAny_typeOf hT (wpAny_pure q))) fun z=>absurd (by decide +kernel) z
theorem s_src {a:Addr}{es:Array (Int × Value)}{ep:Nat}{t:SetTable}{En:List Ent}:PySem.W.KdlSrc prog w "set" a a es.size (fun i v=>∃ e,(zQ w a ep es)[i]? = some e∧v=e.2) (fun h=>SRaw w h a es ep t En) where
 type:=fun s x=>x.ty
 there:=fun h x=>let ⟨_,e,_⟩:=x.ex;⟨Am e,Am e⟩
 keep:=fun h h' x k=>x.keep (k a (.inl rfl))
 notList:=rfl
 notTuple:=rfl
 hint:=fun A E s Q x q=>s_hint x.ty q
 iter:=fun A s hh x=>⟨_,_,fun E Q q=>s_iter x q,s_walk hh _ a (let ⟨_,e,_⟩:=x.ex;A0 (Am e)) es ep t En,Ao _ rfl,x.keep fun o e=>Ac _ e⟩
theorem vals_of {acc:Array Value}(itm:ItemsOf (fun i v=>∃ e,(zQ w a ep es)[i]? = some e∧v=e.2) acc es.size):acc.toList=(zQ w a ep es).toList.map (·.2):=by
 refine BX fun i=>?_
 rw [CM,Ad,CM]
 by_cases lt:i < es.size
 ·have la:i < acc.size:=by rw [itm.1];exact lt
  obtain ⟨e,e1,e2⟩:=itm.2 i acc[i] (B6 la)
  rw [B6 la,e1,e2,Option.map_some]
 ·rw [Cn (by rw [itm.1];omega),Cn (by rw [d8];omega),Option.map_none]
theorem rB {Q:List Value→Shared→Prop}(hh:A.handled=none)(x:SRaw w s.heap a es ep t En)(few:es.size ≤ sizeLine)
  (q:∀ h' tk,(∀ b o,s.heap.get? b=some o→h'.get? b=some o)→s.heap.objs.size < h'.objs.size→Q ((zQ w a ep es).toList.map (·.2)) { s with heap:=h',toks:=tk }):wpAny (model prog w) A (collect (.ref a)) Q E s:=by
 have ia:∀ {R:Result→Shared→Prop} {s':Shared} {S:Addr},SRaw w s'.heap a es ep t En→S ≠ a→s'.heap.get? S=some (seqObj "list" #[] 0)→(∀ h' tk acc c,(∀ b o,b ≠ S→s'.heap.get? b=some o→h'.get? b=some o)→h'.get? S=some (seqObj "list" acc c)→acc.toList=(zQ w a ep es).toList.map (·.2)→R (.ok (.ret (.ref S))) { s' with heap:=h',toks:=tk })→codeAny (model prog w) A (.builtin "list.__iadd__" ⟨[.ref S,.ref a],[]⟩) R s':=fun {R s' S} x' nl at0 q'=>by
  refine codeAny_builtin entry_list_iadd' (show wpAny _ _ (Builtin.List.listExtendWith (.ref S) (.ref a) (.ref S)) _ _ s' from ?_)
  rw [Cw (show plainId "list.__iadd__" = true by decide +kernel) _]
  exact PySem.W.kdl_extend s_src hh x' S nl nl _ 0 at0 (fun h' tk acc c k1 k2 itm=>q' h' tk acc c k1 k2 (vals_of itm)) few
 unfold collect
 refine wpAny_bind (wpAny_runValue (codeAny_builtin entry_proto_collect' (show wpAny _ _ (do again (.builtin "list.__iadd__" ⟨[← newList [],.ref a],[]⟩)) _ _ s from ?_)))
 refine wpAny_bind (wpAny_newList (wpAny_pure ⟨Code.quiet_builtin _ (by decide +kernel),ia (s':={ s with heap:=s.heap.push (seqObj "list" #[] 0) }) (x.keep fun o e=>Ac _ e) (let ⟨_,e,_⟩:=x.ex;Dc (Am e)) (Ao _ rfl) fun h' tk acc c k1 k2 k3=>?_⟩))
 show wpAny (model prog w) A (do { let o ← load s.heap.objs.size;match o.data with | .seq xs _=>pure xs.toList | _=>unsupported "internal:collect" }) Q E { s with heap:=h',toks:=tk }
 refine wpAny_bind (wpAny_load k2 (show wpAny _ _ (pure acc.toList) Q E _ from wpAny_pure ?_))
 rw [k3]
 exact q h' tk (fun b o e=>k1 b o (A0 (Am e)) (Ac _ e)) (Am k2)
end
end ST
end L2
end
section
namespace L2
open PySem PySem.Spec
open PyProof.Rows hiding Fr News
noncomputable def ev {α:Type}(lt:Nat→Nat→Bool):PySem.W.KasT α→α
 | .ret a=>a
 | .ask i j k=>ev lt (k (lt i j))
theorem Asks.ev {n:Nat}{α:Type}{P:α→Prop}{lt:Nat→Nat→Bool}:∀ {t:PySem.W.KasT α},Asks n P t→P (ev lt t)
 | .ret _,h=>h
 | .ask _ _ _,h=>(h.2 _).ev
theorem Asks.by {n:Nat}{α:Type}{P:α→Prop}{lt:Nat→Nat→Bool}{cmp:Nat→Nat→(Bool→Shared→Prop)→Shared→Prop}{s:Shared}(hc:∀ i j C,i < n→j < n→C (lt i j) s→cmp i j C s){Q:α→Shared→Prop}:∀ {t:PySem.W.KasT α},Asks n P t→Q (L2.ev lt t) s→t.kasWp cmp Q s
 | .ret _,_,q=>q
 | .ask i j k,h,q=>hc i j _ h.1.1 h.1.2 ((h.2 _).by hc q)
theorem gL {α β:Type}{lt:Nat→Nat→Bool}{f:α→PySem.W.KasT β}:∀ t:PySem.W.KasT α,ev lt (t.bind f)=ev lt (f (ev lt t))
 | .ret _=>rfl
 | .ask i j k=>gL (k (lt i j))
structure Ord (n:Nat)(lt:Nat→Nat→Bool):Prop where
 tr:∀ i j k,i < n→j < n→k < n→lt i j=true→lt j k=true→lt i k=true
 tot:∀ i j,i < n→j < n→i ≠ j→lt j i = !lt i j
noncomputable def pg (p:Array Nat)(i:Nat):Nat:=p.getD i 0
noncomputable def Asc (lt:Nat→Nat→Bool)(p:Array Nat)(m:Nat):Prop:=∀ i j,i < j→j < m→lt (pg p i) (pg p j)=true
noncomputable def Dsc (lt:Nat→Nat→Bool)(p:Array Nat)(m:Nat):Prop:=∀ i j,i < j→j < m→lt (pg p j) (pg p i)=true
section
variable {n:Nat}{lt:Nat→Nat→Bool}{p:Array Nat}
theorem Pn.ne (h:Pn n p){i j:Nat}(hi:i < n)(hj:j < n)(ne:i ≠ j):pg p i ≠ pg p j:=fun e=>by
 have nd:p.toList.Nodup:=(By.mp h).nodup_iff.mpr (by simpa using C4)
 have sz:=h.size
 have i':i < p.toList.length:=by simp [sz,hi]
 have j':j < p.toList.length:=by simp [sz,hj]
 refine ne ((List.getElem_inj (h₀:=i') (h₁:=j') nd).mp ?_)
 unfold pg at e
 simpa [Array.getD,sz,hi,hj] using e
theorem fL (O:Ord n lt)(h:Pn n p){i j:Nat}(hi:i < n)(hj:j < n)(ne:i ≠ j)(f:lt (pg p i) (pg p j)=false):lt (pg p j) (pg p i)=true:=by
 rw [O.tot (pg p i) (pg p j) (h.lt hi) (h.lt hj) (h.ne hi hj ne),f]
 rfl
theorem Asc.more (O:Ord n lt)(h:Pn n p){m:Nat}(hm:m < n)(m1:1 ≤ m)(A:Asc lt p m)(l:lt (pg p (m - 1)) (pg p m)=true):Asc lt p (m + 1):=fun i j ij jm=>by
 rcases Az j m with z | z
 ·exact A i j ij z
 ·have:j=m:=by omega
  subst this
  rcases Az i (j - 1) with y | y
  ·exact O.tr _ _ _ (h.lt (by omega)) (h.lt (by omega)) (h.lt hm) (A i (j - 1) y (by omega)) l
  ·rw [show i=j - 1 by omega];exact l
theorem Dsc.more (O:Ord n lt)(h:Pn n p){m:Nat}(hm:m < n)(m1:1 ≤ m)(A:Dsc lt p m)(l:lt (pg p m) (pg p (m - 1))=true):Dsc lt p (m + 1):=fun i j ij jm=>by
 rcases Az j m with z | z
 ·exact A i j ij z
 ·have:j=m:=by omega
  subst this
  rcases Az i (j - 1) with y | y
  ·exact O.tr _ _ _ (h.lt hm) (h.lt (by omega)) (h.lt (by omega)) l (A i (j - 1) y (by omega))
  ·rw [show i=j - 1 by omega];exact l
theorem rO (O:Ord n lt)(h:Pn n p):∀ f m,1 ≤ m→m + f ≤ n→Asc lt p m→∃ r,ev lt (PySem.W.kas_asc p f m)=r∧m ≤ r∧r ≤ m + f∧Asc lt p r∧(r < m + f→lt (pg p r) (pg p (r - 1))=true)
 | 0,m,_,_,A=>⟨m,rfl,Ak _,Ak _,A,fun z=>absurd z (BA _)⟩
 | f + 1,m,m1,l,A=>by
  show ∃ r,ev lt (if lt (pg p m) (pg p (m - 1))=true then .ret m else PySem.W.kas_asc p f (m + 1))=r∧_
  cases c:lt (pg p m) (pg p (m - 1)) with
  | true =>
   rw [Ai rfl]
   exact ⟨m,rfl,Ak _,by omega,A,fun _=>c⟩
  | false =>
   rw [Ah (by decide)]
   obtain ⟨r,e,a,b,B,s⟩:=rO O h f (m + 1) (by omega) (by omega) (A.more O h (by omega) m1 (fL O h (by omega) (by omega) (by omega) c))
   exact ⟨r,e,by omega,by omega,B,fun z=>s (by omega)⟩
theorem down (O:Ord n lt)(h:Pn n p):∀ f m,2 ≤ m→m + f ≤ n→Dsc lt p m→∃ r,ev lt (PySem.W.kas_desc f p m 0)=(p,r,0)∧m ≤ r∧r ≤ m + f∧Dsc lt p r
 | 0,m,_,_,A=>⟨m,rfl,Ak _,Ak _,A⟩
 | f + 1,m,m1,l,A=>by
  show ∃ r,ev lt (if lt (pg p m) (pg p (m - 1))=true then (if 0 > 0 then _ else PySem.W.kas_desc f p (m + 1) 0) else .ask (pg p (m - 1)) (pg p m) fun d=>if d=true then .ret (p,m,0) else PySem.W.kas_desc f p (m + 1) (0 + 1))=(p,r,0)∧_
  cases c:lt (pg p m) (pg p (m - 1)) with
  | true =>
   rw [Ai rfl,Ah (by decide)]
   obtain ⟨r,e,a,b,B⟩:=down O h f (m + 1) (by omega) (by omega) (A.more O h (by omega) (by omega) c)
   exact ⟨r,e,by omega,by omega,B⟩
  | false =>
   rw [Ah (by decide)]
   show ∃ r,ev lt (if lt (pg p (m - 1)) (pg p m)=true then PySem.W.KasT.ret (p,m,0) else _)=(p,r,0)∧_
   rw [Ai (fL O h (by omega) (by omega) (by omega) c)]
   exact ⟨m,rfl,Ak _,by omega,A⟩
theorem tY {q:Array Nat}{i j:Nat}(h:q[i]? = p[j]?):pg q i=pg p j:=by
 unfold pg
 rw [Array.getD_eq_getD_getElem?,Array.getD_eq_getD_getElem?,h]
theorem rev_up (h:Pn n p){m:Nat}(hm:m ≤ n)(D:Dsc lt p m):Asc lt (PySem.W.kas_rev p 0 m) m:=fun i j ij jm=>by
 have at':∀ i,i < m→pg (PySem.W.kas_rev p 0 m) i=pg p (m - 1 - i):=fun i hi=>tY (by
  unfold PySem.W.kas_rev
  rw [getElem?_mirror_all (by rw [h.size];exact hm),Ai ⟨AJ _,hi⟩,Nat.zero_add])
 rw [at' i (by omega),at' j jm]
 exact D _ _ (by omega) (by omega)
theorem count_up (O:Ord n lt)(h:Pn n p)(n1:1 ≤ n):∃ r q,ev lt (PySem.W.kas_count n p)=(r,q)∧1 ≤ r∧r ≤ n∧Pn n q∧Asc lt q r:=by
 unfold PySem.W.kas_count
 rw [gL]
 obtain ⟨r,e,r1,r2,A,s⟩:=rO O h (n - 1) 1 (Ak _) (by omega) (fun i j ij j1=>by omega)
 rw [e]
 by_cases c:r=n
 ·rw [Ai (by simpa using c)]
  exact ⟨r,p,rfl,r1,by omega,h,A⟩
 ·rw [Ah (by simpa using c)]
  by_cases d:r > 1
  ·rw [Ai d]
   show ∃ r' q,ev lt (if lt (pg p 0) (pg p (r - 1))=true then PySem.W.KasT.ret (r,p) else _)=(r',q)∧_
   rw [Ai (A 0 (r - 1) (by omega) (by omega))]
   exact ⟨r,p,rfl,r1,by omega,h,A⟩
  ·rw [Ah d]
   have:r=1:=by omega
   subst this
   have s':=s (by omega)
   unfold PySem.W.kas_descPart
   rw [gL]
   have D2:Dsc lt p 2:=fun i j ij j2=>by
    have:i=0∧j=1:=by omega
    rw [this.1,this.2]
    exact s'
   obtain ⟨m,e,m1,m2,D⟩:=down O h (n - (1 + 1)) (1 + 1) (Ak _) (by omega) D2
   rw [e]
   show ∃ r' q,ev lt (if 0 > 0 then _ else PySem.W.kas_tail3 m n p)=(r',q)∧_
   rw [Ah (by decide)]
   unfold PySem.W.kas_tail3
   rw [gL]
   obtain ⟨r,e,r1,r2,A,_⟩:=rO O (h.rev 0 m) (n - m) m (by omega) (by omega) (rev_up h (by omega) D)
   rw [e]
   exact ⟨r,_,rfl,by omega,by omega,h.rev 0 m,A⟩
theorem bD (O:Ord n lt)(h:Pn n p){k:Nat}(hk:k < n)(A:Asc lt p k):∀ f l r,r - l ≤ f→l ≤ r→r ≤ k→(∀ i,i < l→lt (pg p i) (pg p k)=true)→(∀ i,r ≤ i→i < k→lt (pg p k) (pg p i)=true) →
  ∃ x,ev lt (PySem.W.kas_place p k f l r)=x∧x ≤ k∧(∀ i,i < x→lt (pg p i) (pg p k)=true)∧∀ i,x ≤ i→i < k→lt (pg p k) (pg p i)=true
 | 0,l,r,h1,h2,h3,lo,hi=>⟨l,rfl,by omega,lo,fun i a b=>hi i (by omega) b⟩
 | f + 1,l,r,h1,h2,h3,lo,hi=>by
  show ∃ x,ev lt (if l ≥ r then PySem.W.KasT.ret l else _)=x∧_
  by_cases c:l ≥ r
  ·rw [Ai c]
   exact ⟨l,rfl,by omega,lo,fun i a b=>hi i (by omega) b⟩
  ·rw [Ah c]
   show ∃ x,ev lt (if lt (pg p k) (pg p ((l + r) / 2))=true then PySem.W.kas_place p k f l ((l + r) / 2) else PySem.W.kas_place p k f ((l + r) / 2 + 1) r)=x∧_
   have m1:(l + r) / 2 < r:=by omega
   have m2:l ≤ (l + r) / 2:=by omega
   generalize (l + r) / 2=m at m1 m2
   cases d:lt (pg p k) (pg p m) with
   | true =>
    rw [Ai rfl]
    refine bD O h hk A f l m (by omega) m2 (by omega) lo fun i a b=>?_
    rcases Cq a with z | z
    ·rw [← z];exact d
    ·exact O.tr _ _ _ (h.lt hk) (h.lt (by omega)) (h.lt (by omega)) d (A m i z b)
   | false =>
    rw [Ah (by decide)]
    have d':=fL O h hk (show m < n by omega) (by omega) d
    refine bD O h hk A f (m + 1) r (by omega) (by omega) h3 (fun i a=>?_) hi
    rcases Cq (show i ≤ m by omega) with z | z
    ·rw [z];exact d'
    ·exact O.tr _ _ _ (h.lt (by omega)) (h.lt (by omega)) (h.lt hk) (A i m z (by omega)) d'
theorem bub_up (O:Ord n lt)(h:Pn n p){k x:Nat}(hk:k < n)(A:Asc lt p k)(xk:x ≤ k)(lo:∀ i,i < x→lt (pg p i) (pg p k)=true)(hi:∀ i,x ≤ i→i < k→lt (pg p k) (pg p i)=true):Asc lt (bubble p k (k - x)) (k + 1):=fun i j ij jk=>by
 have g:∀ i,pg (bubble p k (k - x)) i=if i=x then pg p k else if x < i∧i ≤ k then pg p (i - 1) else pg p i:=fun i=>by
  have:=getElem?_bubble (xs:=p) (src:=k) (by rw [h.size];exact hk) (k - x) (by omega) i
  rw [show k - (k - x)=x by omega] at this
  by_cases c:i=x
  ·rw [Ai c] at this ⊢
   exact tY this
  ·rw [Ah c] at this ⊢
   by_cases d:x < i∧i ≤ k
   ·rw [Ai d] at this ⊢
    exact tY this
   ·rw [Ah d] at this ⊢
    exact tY this
 rw [g i,g j]
 by_cases c:i=x
 ·rw [Ai c,Ah (by omega),Ai (by omega)]
  exact hi _ (by omega) (by omega)
 ·rw [Ah c]
  by_cases d:j=x
  ·rw [Ai d,Ah (by omega)]
   exact lo i (by omega)
  ·rw [Ah d]
   by_cases e:x < i∧i ≤ k
   ·rw [Ai e,Ai (by omega)]
    exact A _ _ (by omega) (by omega)
   ·rw [Ah e]
    by_cases f:x < j∧j ≤ k
    ·rw [Ai f]
     exact A _ _ (by omega) (by omega)
    ·rw [Ah f]
     exact A _ _ ij (by omega)
theorem bin_up (O:Ord n lt):∀ f (p:Array Nat) k,Pn n p→k + f=n→Asc lt p k→∃ q,ev lt (PySem.W.kas_bin f p k)=q∧Pn n q∧Asc lt q n
 | 0,p,k,h,l,A=>⟨p,rfl,h,by rw [← l];exact A⟩
 | f + 1,p,k,h,l,A=>by
  unfold PySem.W.kas_bin
  rw [gL]
  obtain ⟨x,e,x1,lo,hi⟩:=bD O h (show k < n by omega) A k 0 k (by omega) (AJ _) (Ak _) (fun i z=>by omega) (fun i a b=>by omega)
  rw [e]
  exact bin_up O f _ (k + 1) (h.bub _ _) (by omega) (bub_up O h (by omega) A x1 lo hi)
theorem sort_up (O:Ord n lt)(n1:1 ≤ n):Asc lt (ev lt (PySem.W.kas_sort n)) n:=by
 unfold PySem.W.kas_sort
 rw [gL]
 obtain ⟨r,q,e,r1,r2,h,A⟩:=count_up O (BV _) n1
 rw [e]
 show Asc lt (ev lt (if r < n then PySem.W.kas_bin (n - max r 1) q (max r 1) else .ret q)) n
 by_cases c:r < n
 ·rw [Ai c,show max r 1=r by omega]
  obtain ⟨q',e',_,A'⟩:=bin_up O (n - r) q r h (by omega) A
  rw [e']
  exact A'
 ·rw [Ah c,show n=r by omega]
  exact A
end
noncomputable def zJ:List Int→List Int→Bool
 | n :: ns,m :: ms=>if n=m then zJ ns ms else decide (n < m)
 | _,_=>false
noncomputable def lexF (f:Bool):List Int→List Int→Bool
 | n :: ns,m :: ms=>if n=m then lexF f ns ms else decide (n < m)
 | _,_=>f
theorem t9:∀ {ns ms:List Int},ns.length=ms.length→lexF false ns ms=zJ ns ms
 | [],[],_=>rfl
 | n :: ns,m :: ms,e=>by
  show (if n=m then lexF false ns ms else _)=if n=m then zJ ns ms else _
  rw [t9 (by simpa using e)]
section
variable {prog:Program}{w:World}{s:Shared}
theorem mP {A:Around}{fin:Bool}{Q:Bool→Shared→Prop}:∀ {xs ys:List Value} {ns ms:List Int} (i:Nat),IntsAre xs ns→IntsAre ys ms→Q (lexF fin ns ms) s→PySem.W.KatLex prog w A true fin Q (xs.zip ys) i s
 | _,_,_,_,_,.nil,_,q=>CW (by cases ‹List Int› <;> exact q)
 | _,_,_,_,_,.cons _ _ _,.nil,q=>CW q
 | _,_,_,_,i,.cons n t hx,.cons m u hy,q=>by
  unfold lexF at q
  refine PySem.W.kat_cons (wpAny_eqBool_int (PySem.W.kat_go (fun c=>PySem.W.kat_yes (mP (i + 1) hx hy ?_)) fun c=>PySem.W.kat_no ?_))
  ·rw [Ai (AV c)] at q
   exact q
  ·rw [Ah (of_decide_eq_false c)] at q
   cases z:(true && i == 0) with
   | true=>exact oneLt_int q
   | false=>exact PySem.W.kat_one _ _ (int_lt (n:=n) (m:=m) ⟨t,rfl⟩ ⟨u,rfl⟩ prog w _ _ q)
noncomputable def orderOf (ks:List (List Int)):Array Nat:=ev (fun i j=>zJ (ks.getD i []) (ks.getD j [])) (PySem.W.kas_sort ks.length)
structure Keys (h:Heap)(vs:List Value)(ks:List (List Int)):Prop where
 len:ks.length=vs.length
 at_:∀ i,i < vs.length→∃ t its,vs.getD i .none = .ref t∧IsTup h t its.toArray∧IntsAre its (ks.getD i [])
 two:∀ i j,i < vs.length→j < vs.length→(ks.getD i []).length=(ks.getD j []).length
theorem Keys.keep {h h':Heap}{vs:List Value}{ks:List (List Int)}(D:Keys h vs ks)(k:∀ b o,(∃ v ∈ vs,v = .ref b)→h.get? b=some o→h'.get? b=some o):Keys h' vs ks :=
 ⟨D.len,fun i hi=>by
  obtain ⟨t,its,e,⟨o,ho,r⟩,I⟩:=D.at_ i hi
  exact ⟨t,its,e,⟨o,k t o ⟨_,AE hi,by simpa [Ab,hi] using e⟩ ho,r⟩,I⟩,D.two⟩
theorem Keys.pn {h:Heap}{vs:List Value}{ks:List (List Int)}(D:Keys h vs ks):Pn vs.length (orderOf ks):=by
 unfold orderOf
 rw [← D.len]
 rcases BP ks.length with z | z
 ·rw [z]
  exact BV _
 ·exact Asks.ev (wN z)
theorem w4 {A:Around}{E:Value→Shared→Prop}{a:Addr}{vs:List Value}{n:Nat}{P:Fin→Shared→Prop}(ho:s.heap.get? a=some (seqObj "list" vs.toArray n)) (T:∀ v ∈ vs,TupI s.heap v) (few:vs.length < 64) {ks:List (List Int)} (D:Keys s.heap vs ks)
  (out:P (.done (.ret .none)) { s with heap:=sortedHeap s.heap a vs ((orderOf ks).toList.map fun i=>vs.getD i .none).toArray }):wpAny (model prog w) A (Builtin.«list.sort» ⟨[.ref a],[]⟩) P E s:=by
 have small:∀ k,k < 64→k ≤ sizeLine:=fun k hk=>by rw [sizeLine_eq];omega
 have la:=Am ho
 obtain ⟨e,he⟩:∃ e,(s.heap.update a (Obj.mapSeq fun _=>(#[] : Array Value))).get? a=some (seqObj "list" #[] e):=⟨_,get?_update_seq ho _⟩
 let mid:Heap:=((s.heap.update a (Obj.mapSeq fun _=>(#[] : Array Value))).push (seqObj "tuple" vs.toArray 0)).push (seqObj "list" #[] 0)
 have amid:mid.get? a=some (seqObj "list" #[] e):=Ac _ (Ac _ he)
 have Tm:∀ v ∈ vs,TupI mid v:=fun v hv=>(T v hv).keep fun b o eb q=>by
  have nb:b ≠ a:=fun z=>by
   obtain ⟨t,its,n',ns,e1,⟨o',h1,h2,_⟩,_⟩:=T v hv
   rw [eb] at e1
   cases e1
   rw [z,ho] at h1
   cases h1
   exact nomatch (show Value.type "list" = Value.type "tuple" from h2)
  exact Ac _ (Ac _ ((Ce _ _ _ _ nb).trans q))
 rw [list_sort_plain]
 refine wpAny_bind (listItems_at ho rfl (wpAny_bind (listUpdate_at ho rfl (wpAny_bind (seqEpoch_at he rfl (wpAny_bind (wpAny_newTuple (wpAny_bind (wpAny_newList (wpAny_holding (show wpAny (model prog w) A _ P E { s with heap:=mid } from ?_)) (AJ _))) (small _ few))))) (small _ (by simpa using few)) (AJ _))))
 have told:∀ (st:SortSt) (p:Array Nat),arrOf st=p.map (PySem.W.kas_item (vs.toArray.zip vs.toArray))→(arrOf st).map (·.2)=(p.toList.map fun i=>vs.getD i .none).toArray:=fun st p har=>PySem.W.kat_snds rfl har
 have fits:∀ p:Array Nat,Pn vs.length p→((p.toList.map fun i=>vs.getD i .none).toArray).size ≤ sizeLine + 1:=fun p hp=>Nat.le_succ_of_le (small _ (by simp [hp.size];exact few))
 have same:(e != e)=false:=by simp
 by_cases two:vs.toArray.size < 2
 ·have two':vs.length < 2:=by simpa using two
  rw [Ai two,Ai two]
  have one:vs.toArray.zip vs.toArray=(List.range vs.length).toArray.map (PySem.W.kas_item (vs.toArray.zip vs.toArray)):=by
   match vs,two' with
   | [],_=>simp
   | [v],_=>simp [PySem.W.kas_item]
  refine wpAny_bind (wpAny_pure (show wpAny _ _ (((pure ():StateT SortSt Sem Unit).run _) >>= _) P E _ from ?_))
  rw [StateT.run_pure]
  refine wpAny_bind (wpAny_pure (wpAny_bind (seqEpoch_at amid rfl (wpAny_bind ?_))))
  rw [same,told (SortSt.mk' general' (vs.toArray.zip vs.toArray) #[] 7 none) _ one]
  have o1:(List.range vs.length).toArray=orderOf ks:=by
   unfold orderOf
   rw [D.len]
   match vs,two' with
   | [],_=>rfl
   | [v],_=>rfl
  exact listUpdate_at amid rfl (wpAny_pure (by rw [o1];exact out)) (AJ _) (fits _ (BV _))
 ·rw [Ah two,Ah two]
  have two':2 ≤ vs.length:=by simpa using two
  obtain ⟨fs,f1,f2,f3⟩:=dB Tm
  refine wpAny_bind (PySem.W.kat_kind (T:=Value.type "int") f1 (by omega) (fun v hv=>by obtain ⟨_,_,rfl⟩:=f3 v hv;exact PySem.W.Looks.of_pure rfl) rfl ?_)
  refine wpAny_bind (wpAny_mono (PySem.W.kat_run (ks:=vs) (Q:=fun st s'=>s'={ s with heap:=mid }∧∃ p,arrOf st=p.map (PySem.W.kas_item (vs.toArray.zip vs.toArray))∧failedOf st=none∧p=orderOf ks) (G:=fun p s'=>s'={ s with heap:=mid }∧p=orderOf ks)
   rfl two' few (fun p st s' _ b c d=>⟨d.1,p,b,c,d.2⟩) (Asks.by (n:=vs.length) (P:=Pn vs.length) (lt:=fun i j=>zJ (ks.getD i []) (ks.getD j [])) (fun i j C hi hj q=>?_) (wN (by omega)) ⟨rfl,by unfold orderOf;rw [D.len]⟩)) (fun r s' h=>?_) fun _ _ x=>x)
  ·have D1:Keys mid vs ks:=D.keep fun b o eb e=>by
    obtain ⟨v,hv,eb⟩:=eb
    have nb:b ≠ a:=fun z=>by
     obtain ⟨t,its,n',ns,e1,⟨o',h1,h2,_⟩,_⟩:=T v hv
     rw [eb] at e1
     cases e1
     rw [z,ho] at h1
     cases h1
     exact nomatch (show Value.type "list" = Value.type "tuple" from h2)
    exact Ac _ (Ac _ ((Ce _ _ _ _ nb).trans e))
   obtain ⟨t,xs,t1,⟨o,t2,_,c,t3⟩,t4⟩:=D1.at_ i hi
   obtain ⟨u,ys,u1,⟨o',u2,_,d,u3⟩,u4⟩:=D1.at_ j hj
   show wpAny (model prog w) A (keyLt' (tuples' true) (vs.getD i .none) (vs.getD j .none)) C (fun _ _=>False) { s with heap:=mid }
   rw [t1,u1]
   have sl:=D.two i j hi hj
   have l1:=t4.length
   have l2:=u4.length
   refine PySem.W.kat_lt t2 t3 u2 u3 (mP 0 t4 u4 ?_)
   rw [show (decide ((xs.toArray).size < (ys.toArray).size))=false from Aw (by simp;omega),t9 sl]
   exact q
  ·obtain ⟨⟨⟩,st⟩:=r
   obtain ⟨rfl,p,h1,h2,h3⟩:=h
   refine wpAny_bind (seqEpoch_at amid rfl (wpAny_bind ?_))
   rw [same,told st p h1,h2]
   exact listUpdate_at amid rfl (wpAny_pure (by rw [h3];exact out)) (AJ _) (fits p (by rw [h3];exact D.pn))
end
end L2
end
section
namespace L2
open PySem PySem.Spec
open PyProof.Rows hiding Fr News
theorem gI:∀ x:List Int,zJ x x=false
 | []=>rfl
 | n :: ns=>by show (if n=n then zJ ns ns else _)=false;rw [Ai rfl];exact gI ns
theorem mF:∀ {x y:List Int},x.length=y.length→x ≠ y→zJ y x = !zJ x y
 | [],[],_,n=>absurd rfl n
 | a :: x,b :: y,e,n=>by
  show (if b=a then zJ y x else decide (b < a)) = !(if a=b then zJ x y else decide (a < b))
  by_cases c:a=b
  ·subst c
   rw [Ai rfl,Ai rfl]
   exact mF (by simpa using e) fun z=>n (by rw [z])
  ·rw [Ah c,Ah (fun z=>c z.symm)]
   by_cases d:a < b
   ·rw [Ax d,Aw (by omega)];rfl
   ·rw [Aw d,Ax (by omega)];rfl
theorem vB:∀ {x y z:List Int},x.length=y.length→y.length=z.length→zJ x y=true→zJ y z=true→zJ x z=true
 | [],_,_,_,_,h,_=>by cases ‹List Int› <;> exact absurd h (by simp [zJ])
 | a :: x,[],_,e,_,_,_=>by simp at e
 | a :: x,b :: y,[],_,e,_,_=>by simp at e
 | a :: x,b :: y,c :: z,e1,e2,h1,h2=>by
  have h1':(if a=b then zJ x y else decide (a < b))=true:=h1
  have h2':(if b=c then zJ y z else decide (b < c))=true:=h2
  show (if a=c then zJ x z else decide (a < c))=true
  by_cases p:a=b
  ·subst p
   rw [Ai rfl] at h1'
   by_cases q:a=c
   ·subst q
    rw [Ai rfl] at h2' ⊢
    exact vB (by simpa using e1) (by simpa using e2) h1' h2'
   ·rw [Ah q] at h2' ⊢
    exact h2'
  ·rw [Ah p] at h1'
   have l1:=AV h1'
   by_cases q:b=c
   ·subst q
    rw [Ah p]
    exact h1'
   ·rw [Ah q] at h2'
    have l2:=AV h2'
    rw [Ah (by omega)]
    exact Ax (by omega)
theorem hJ {ks:List (List Int)}{m:Nat}(one:∀ k ∈ ks,k.length=m)(nd:ks.Nodup):((orderOf ks).toList.map fun i=>ks.getD i []).Pairwise fun x y=>zJ x y=true:=by
 have at1:∀ i,i < ks.length→(ks.getD i []).length=m:=fun i hi=>one _ (by rw [Ab,Af hi];exact AE hi)
 have ne:∀ i j,i < ks.length→j < ks.length→i ≠ j→ks.getD i [] ≠ ks.getD j []:=fun i j hi hj z e=>by
  rw [Ab,Ab,Af hi,Af hj] at e
  exact z ((List.getElem_inj nd).mp e)
 have O:Ord ks.length fun i j=>zJ (ks.getD i []) (ks.getD j []):=⟨fun i j k hi hj hk a b=>vB (by rw [at1 i hi,at1 j hj]) (by rw [at1 j hj,at1 k hk]) a b,fun i j hi hj z=>mF (by rw [at1 i hi,at1 j hj]) (ne i j hi hj z)⟩
 rw [BZ,BU]
 intro i j hi hj ij
 have pn:Pn ks.length (orderOf ks):=by
  unfold orderOf
  rcases BP ks.length with z | z
  ·rw [z];exact BV _
  ·exact Asks.ev (wN z)
 have sz:=pn.size
 have hj':j < ks.length:=by simpa [sz] using hj
 have A:=sort_up O (by omega) i j ij hj'
 have g:∀ i (h:i < (orderOf ks).toList.length),(orderOf ks).toList[i] = pg (orderOf ks) i:=fun i h=>by
  have h':i < (orderOf ks).size:=by simpa using h
  unfold pg
  simp [Array.getD,h']
 rw [g i hi,g j hj]
 exact A
theorem pI {α β:Type}{f:α→β}:∀ {l:List β} {ps:List α},l.Perm (ps.map f)→∃ rs:List α,rs.Perm ps∧l=rs.map f
 | [],ps,h=>by
  have:=h.length_eq
  rw [Aa] at this
  rw [Cm this.symm]
  exact ⟨[],.refl _,rfl⟩
 | b :: l,ps,h=>by
  have hb:b ∈ ps.map f:=h.mem_iff.mp A2
  obtain ⟨x,hx,rfl⟩:=Au.mp hb
  obtain ⟨u,v,rfl⟩:=List.append_of_mem hx
  have h2:l.Perm ((u ++ v).map f):=by
   have:(f x :: l).Perm (f x :: (u ++ v).map f):=h.trans (by
    rw [Ae,Ae,AN]
    exact CO)
   exact this.cons_inv
  obtain ⟨rs,r1,r2⟩:=pI h2
  exact ⟨x :: rs,(r1.cons x).trans CO.symm,by rw [r2];rfl⟩
namespace ST
section
variable {prog:Program}{w:World}{A:Around}{E:Value→Shared→Prop}{s:Shared}{a:Addr}
theorem ints_of {k:List Int}{vs:List Value}(h:ItemsAre (intKind prog w) k vs):IntsAre vs k:=by
 induction h with
 | nil=>exact .nil
 | cons h1 _ ih =>
  obtain ⟨t,e⟩:=int_of h1
  rw [e]
  exact .cons _ t ih
theorem iM {h:Heap}{k:List Int}{b:Addr}(z:TK prog w h k b):∃ its:List Value,IsTup h b its.toArray∧IntsAre its k:=by
 obtain ⟨o,items,n,g1,g2,g3,g4⟩:=z
 exact ⟨items.toList,⟨o,g1,g2,n,by simpa using g3⟩,ints_of g4⟩
theorem sorted_set {Q:Value→Shared→Prop}{ps:List (Addr × List Int)}{m:Nat}(hh:A.handled=none)(S:SetIs prog w s.heap a (yO w) ps)(l4:ps.length ≤ 18)(m1:1 ≤ m)(one:∀ p ∈ ps,p.2.length=m)
  (q:∀ (l:Addr) h' tk n (qs:List (Addr × List Int)),s.heap.objs.size ≤ l→(∀ b o,s.heap.get? b=some o→h'.get? b=some o)→qs.Perm ps→(qs.map (·.2)).Pairwise (fun x y=>zJ x y=true)→h'.get? l=some (seqObj "list" (qs.map fun x=>Value.ref x.1).toArray n)→Q (.ref l) { s with heap:=h',toks:=tk }) :
  wpAny (model prog w) A (call (.builtin "sorted") [.ref a]) Q E s:=by
 obtain ⟨o,es,ep,t,En,ho,hx,hd,hf,hl,T,_,eq⟩:=S.ex
 have x:SRaw w s.heap a es ep t En:=⟨⟨o,ho,hx,hd⟩,hf,hl,T⟩
 have ee:es.toList=ps.map fun p=>(kO prog w p.2,Value.ref p.1):=by rw [T.en];simpa using eq
 obtain ⟨rs,r1,r2⟩:=pI (ee ▸ cM (w:=w) (a:=a) (ep:=ep) (es:=es))
 have vals:(zQ w a ep es).toList.map (·.2)=rs.map fun p=>Value.ref p.1:=by rw [r2,AF];rfl
 have rl:rs.length ≤ 18:=by rw [r1.length_eq];exact l4
 have z:es.size ≤ sizeLine:=by
  have:=AY List.length ee
  rw [sizeLine_eq]
  simp at this
  omega
 refine C6 kind_sorted plain_sorted entry_sorted (args_sorted1 _) (show wpAny _ _ (Builtin.«sorted» ⟨[.ref a],[]⟩) _ _ s from ?_)
 unfold Builtin.«sorted»
 refine wpAny_bind (m:=checkCount "sorted" 1 1 _) (wpAny_pure (wpAny_bind (rB (A:=A.in1) hh x z fun h1 tk k1 g1=>?_)))
 rw [vals]
 refine wpAny_bind (wpAny_newList (show wpAny _ _ _ _ _ { s with heap:=h1.push (seqObj "list" (rs.map fun p=>Value.ref p.1).toArray 0),toks:=tk } from ?_) (by rw [Aa,sizeLine_eq];omega))
 have n1:(h1.push (seqObj "list" (rs.map fun p=>Value.ref p.1).toArray 0)).get? h1.objs.size=some (seqObj "list" (rs.map fun p=>Value.ref p.1).toArray 0):=Ao _ rfl
 have tk1:∀ p ∈ rs,TK prog w (h1.push (seqObj "list" (rs.map fun p=>Value.ref p.1).toArray 0)) p.2 p.1:=fun p hp=>dF (S.tk p (r1.mem_iff.mp hp)) fun o e=>Ac _ (k1 _ o e)
 have T1:∀ v ∈ rs.map (fun p=>Value.ref p.1),TupI (h1.push (seqObj "list" (rs.map fun p=>Value.ref p.1).toArray 0)) v:=fun v hv=>by
  obtain ⟨p,hp,rfl⟩:=Au.mp hv
  obtain ⟨its,i1,i2⟩:=iM (tk1 p hp)
  cases e:p.2 with
  | nil=>have:=one p (r1.mem_iff.mp hp);rw [e] at this;simp at this;omega
  | cons n ns=>exact ⟨p.1,its,n,ns,rfl,i1,e ▸ i2⟩
 have KS:Keys (h1.push (seqObj "list" (rs.map fun p=>Value.ref p.1).toArray 0)) (rs.map fun p=>Value.ref p.1) (rs.map (·.2)):=by
  have kl:∀ i,i < rs.length→((rs.map (·.2)).getD i []).length=m:=fun i hi=>by
   rw [Ab,Ad,Af hi]
   exact one _ (r1.mem_iff.mp (AE hi))
  refine ⟨by rw [Aa,Aa],fun i hi=>?_,fun i j hi hj=>by rw [Aa] at hi hj;rw [kl i hi,kl j hj]⟩
  rw [Aa] at hi
  obtain ⟨its,i1,i2⟩:=iM (tk1 rs[i] (AE hi))
  refine ⟨rs[i].1,its,?_,i1,?_⟩
  ·rw [Ab,Ad,Af hi];rfl
  ·rw [Ab,Ad,Af hi];exact i2
 refine wpAny_bind (wpAny_holding (wpAny_call_entry slot_list_sort ⟨_,n1,rfl⟩ entry_list_sort (w4 n1 T1 (by rw [Aa];omega) KS ⟨_,rfl,wpAny_pure ⟨_,rfl,?_⟩⟩) (args_list_sort _)))
 obtain ⟨n,hn⟩:=sortedHeap_at (out:=((orderOf (rs.map (·.2))).toList.map fun i=>(rs.map fun p=>Value.ref p.1).getD i .none).toArray) n1
 have pn:=KS.pn
 rw [Aa] at pn
 have lt:∀ i ∈ (orderOf (rs.map (·.2))).toList,i < rs.length:=fun i hi=>by simpa using (By.mp pn).mem_iff.mp hi
 have out:((orderOf (rs.map (·.2))).toList.map fun i=>(rs.map fun p=>Value.ref p.1).getD i .none)=((orderOf (rs.map (·.2))).toList.map fun i=>rs.getD i (0,[])).map fun x=>Value.ref x.1:=by
  rw [AF]
  refine Bj fun i hi=>?_
  have h:=lt i hi
  show (rs.map fun p=>Value.ref p.1).getD i .none=Value.ref (rs.getD i (0,[])).1
  rw [Ab,Ad,Ab,Af h]
  rfl
 have keys:(((orderOf (rs.map (·.2))).toList.map fun i=>rs.getD i (0,[])).map (·.2))=(orderOf (rs.map (·.2))).toList.map fun i=>(rs.map (·.2)).getD i []:=by
  rw [AF]
  refine Bj fun i hi=>?_
  have h:=lt i hi
  show (rs.getD i (0,[])).2=(rs.map (·.2)).getD i []
  rw [Ab,Ab,Ad,Af h]
  rfl
 refine q h1.objs.size _ tk n ((orderOf (rs.map (·.2))).toList.map fun i=>rs.getD i (0,[])) (AH g1) (fun b o e=>?_) ((fK rs (0,[]) pn).trans r1) ?_ (by rw [← out];exact hn)
 ·have lb:=Am (k1 b o e)
  exact (sortedHeap_old (A0 lb) (by rw [size_push'];exact Cb lb)).trans (Ac _ (k1 b o e))
 ·rw [keys]
  exact hJ (m:=m) (fun k hk=>by obtain ⟨p,hp,rfl⟩:=Au.mp hk;exact one p (r1.mem_iff.mp hp)) ((r1.map (·.2)).nodup_iff.mpr S.nd)
end
end ST
end L2
end
section
namespace L2
open PySem PySem.Spec
open PyProof.Rows hiding Fr News
section
variable {X:Cx}
theorem bt_set:bootBuiltins "set" = some (.type "set"):=by decide +kernel
noncomputable def tSSet (ta:TA):TE:=fun σ H Q=>ta σ H fun vs H1=>∃ (p:Addr) (xs:List (Addr × List Int)) (D:List (List Int)) (m:Nat),vs=[.ref p]∧H1 p=some (.lst (xs.map fun x=>V.ref x.1))∧(∀ x ∈ xs,H1 x.1=some (.tup (x.2.map V.int))∧x.2.length=m)∧1 ≤ m∧D.length ≤ 18∧(∀ x ∈ xs,x.2 ∈ D) ∧
 ∀ (l:Addr) (qs:List (Addr × List Int)) (H2:Hp),H1 l=none→Same H1 H2→(∀ x ∈ qs,x ∈ xs)→(∀ x ∈ xs,x.2 ∈ qs.map (·.2))→(qs.map (·.2)).Pairwise (fun x y=>zJ x y=true)→H2 l=some (.lst (qs.map fun x=>V.ref x.1))→Q (.ref l) H2
theorem a_tSSet {ta:TA}{σ:St}{H:Hp}{Q:VK}:tSSet ta σ H Q=ta σ H fun vs H1=>∃ (p:Addr) (xs:List (Addr × List Int)) (D:List (List Int)) (m:Nat),vs=[.ref p]∧H1 p=some (.lst (xs.map fun x=>V.ref x.1))∧(∀ x ∈ xs,H1 x.1=some (.tup (x.2.map V.int))∧x.2.length=m)∧1 ≤ m∧D.length ≤ 18∧(∀ x ∈ xs,x.2 ∈ D) ∧
 ∀ (l:Addr) (qs:List (Addr × List Int)) (H2:Hp),H1 l=none→Same H1 H2→(∀ x ∈ qs,x ∈ xs)→(∀ x ∈ xs,x.2 ∈ qs.map (·.2))→(qs.map (·.2)).Pairwise (fun x y=>zJ x y=true)→H2 l=some (.lst (qs.map fun x=>V.ref x.1))→Q (.ref l) H2:=rfl
theorem items_of {k:List Int}{vs:List Value}(h:IntsAre vs k){prog:Program}{w:World}:ItemsAre (intKind prog w) k vs:=by
 induction h with
 | nil=>exact .nil
 | cons n t _ ih=>exact .cons (by simp [intKind,Value.isInt]) ih
theorem pe_sset {a:Expr}{ta:TA}{p1 p pos pos2:Pos}(hgs:Gl X "sorted") (hms:X.mg "sorted" = none) (hg:Gl X "set") (hm:X.mg "set" = none) (hu:X.A.units + 8 < cLine) (ha:PA X [a] ta) (hs:starEach [a] X.env=[(false,eval a X.env)]:=by rfl) (hcalm:X.calm=true:=by rfl) :
  PE X (.Call (.Name "sorted" p1) [.Call (.Name "set" p) [a] [] pos] [] pos2) (tSSet ta):=by
 intro pins s σ H Q I h
 refine wpAny_Call_Name_kw (xA I hgs hms fT ?_)
 refine PyProof.Rows.callWith_builtin1 ?_ (by rfl) (by rfl)
 refine Calls.spliced_cons ?_
 refine Call_ (xA I hg hm bt_set (Bd (jM (ha pos pins s σ H _ I h) fun us s1 ⟨vs,H1,I1,r1,q1⟩=>?_) hs rfl))
 obtain ⟨l0,xs,D,m,e,hl,ht,m1,dl,inD,q⟩:=q1
 subst e
 obtain ⟨u,rfl,ru⟩:=r1.one
 cases ru
 obtain ⟨its,vi,pl,_⟩:=I1.list (SqL.of hl)
 have hi:its=xs.map fun x=>Value.ref x.1:=by
  have hlen:xs.length=its.length:=by simpa using vi.length
  refine Ci (by simpa using hlen.symm) fun i h1 h2=>?_
  obtain ⟨u,hu',ru⟩:=vi.get (i:=i) (x:=V.ref (xs[i]'(by omega)).1) (by simp [show i < xs.length by omega])
  rw [Af h1] at hu'
  rw [A9 hu',BF]
  exact ru
 have tk:∀ x ∈ xs,ST.TK X.prog X.w s1.heap x.2 x.1:=fun x hx=>by
  obtain ⟨ts,r1,⟨o,g1,g2,n,g3⟩,_⟩:=I1.tuple (SqT.of (ht x hx).1)
  exact ⟨o,ts.toArray,n,g1,g2,g3,by simpa using items_of (intsAre_of r1)⟩
 refine ST.call_set_tups (D:=D) (I.ok.hd hcalm) hu pl.isList (by simpa using hi) tk dl inD fun h2 t2 ps k2 S2 sub all=>?_
 refine Calls.spliced_nil ?_
 have I2:Inv X pins σ H1 { s1 with heap:=h2,toks:=t2 }:=I1.kept k2
 have pl4:ps.length ≤ 18:=by
  have:=ST.sub_len' (ps.map (·.2)) D S2.nd fun k hk=>by
   obtain ⟨y,hy,rfl⟩:=Au.mp hk
   exact inD y (sub y hy)
  rw [Aa] at this
  omega
 refine ST.sorted_set (s:={ s1 with heap:=h2,toks:=t2 }) (m:=m) (I.ok.hd hcalm) S2 pl4 m1 (fun y hy=>(ht y (sub y hy)).2) fun l h3 t3 n qs g3 k3 pm ri e3=>?_
 have fr:H1 l=none:=I2.hok.fresh g3
 have rel:∀ k:List (Addr × List Int),Vals (k.map fun x=>V.ref x.1) (k.map fun x=>Value.ref x.1):=fun k=>by
  induction k with
  | nil=>exact .nil
  | cons x k ih=>exact .cons rfl ih
 refine ⟨.ref l,_,I2.laid (o:=.lst (qs.map fun x=>V.ref x.1)) (t':=t3) k3 g3 ⟨?_,_,n,rel qs,e3⟩,rfl,q l qs _ fr (kI fr) (fun y hy=>sub y (pm.mem_iff.mp hy)) (fun y hy=>(pm.map (·.2)).mem_iff.mpr (all y hy)) ri qF⟩
 rw [Aa,pm.length_eq,sizeLine_eq]
 omega
end
end L2
end
section
namespace L2
open PySem PySem.Spec
open PyProof.Rows hiding Fr News
section
variable {X:Cx}
noncomputable def rEqLT:R2:=fun x y H Q=>∃ (a b:Addr) (xs ys:List (Addr × List Int)),x = .ref a∧y = .ref b∧H a=some (.lst (xs.map fun x=>V.ref x.1))∧H b=some (.lst (ys.map fun x=>V.ref x.1))∧(∀ x ∈ xs,H x.1=some (.tup (x.2.map V.int)))∧(∀ x ∈ ys,H x.1=some (.tup (x.2.map V.int)))∧Q (.bl (decide (xs.map (·.2)=ys.map (·.2)))) H
theorem a_rEqLT {x y:V}{H:Hp}{Q:VK}:rEqLT x y H Q = ∃ (a b:Addr) (xs ys:List (Addr × List Int)),x = .ref a∧y = .ref b∧H a=some (.lst (xs.map fun x=>V.ref x.1))∧H b=some (.lst (ys.map fun x=>V.ref x.1))∧(∀ x ∈ xs,H x.1=some (.tup (x.2.map V.int)))∧(∀ x ∈ ys,H x.1=some (.tup (x.2.map V.int)))∧Q (.bl (decide (xs.map (·.2)=ys.map (·.2)))) H:=rfl
theorem tP {xs:List (Addr × List Int)}{its:List Value}(vi:Vals (xs.map fun x=>V.ref x.1) its):its=xs.map fun x=>Value.ref x.1:=by
 have hlen:xs.length=its.length:=by simpa using vi.length
 refine Ci (by simpa using hlen.symm) fun i h1 h2=>?_
 obtain ⟨u,hu,ru⟩:=vi.get (i:=i) (x:=V.ref (xs[i]'(by omega)).1) (by simp [show i < xs.length by omega])
 rw [Af h1] at hu
 rw [A9 hu,BF]
 exact ru
theorem eqLT0 (hu:X.A.units + 64 < cLine):xZ X (compareOp .Eq) rEqLT:=by
 intro pins s σ H x y v u Q I rx ry h
 obtain ⟨a,b,xs,ys,rfl,rfl,ha,hb,tx,ty,q⟩:=h
 cases rx
 cases ry
 obtain ⟨its,r1,p1,_⟩:=I.list (SqL.of ha)
 obtain ⟨its2,r2,p2,_⟩:=I.list (SqL.of hb)
 have e1:=tP r1
 have e2:=tP r2
 subst e1 e2
 by_cases c:xs.length=ys.length
 ·refine SeqAt.eq_listAt (e:=fun j=>decide ((xs.map (·.2)).getD j [] = (ys.map (·.2)).getD j [])) p1.isList p2.isList (by simpa using c) (by omega) (fun j h1 h2=>?_) ⟨.bl _,H,I,rfl,?_⟩
  ·have j1:j < xs.length:=by simpa using h1
   have j2:j < ys.length:=by simpa using h2
   have g1:(xs.map (·.2)).getD j [] = xs[j].2:=by rw [Ab,Ad,Af j1];rfl
   have g2:(ys.map (·.2)).getD j [] = ys[j].2:=by rw [Ab,Ad,Af j2];rfl
   rw [g1,g2]
   simp only [List.getElem_toArray,BF]
   exact eqAt_tup I (tx _ (AE j1)) (ty _ (AE j2)) (by show X.A.units + 1 < cLine;omega)
  ·have e:((List.range (xs.map fun x=>Value.ref x.1).toArray.size).all fun j=>decide ((xs.map (·.2)).getD j [] = (ys.map (·.2)).getD j []))=decide (xs.map (·.2)=ys.map (·.2)):=by
    rw [BI,AR,AU]
    simp only [As,Aa,AD,AU]
    constructor
    ·intro h
     refine Ci (by simpa using c) fun i h1 h2=>?_
     have:=h i (by simpa using h1)
     rwa [Ab,Ab,Af h1,Af h2] at this
    ·intro h j _
     rw [h]
   rw [e]
   exact q
 ·refine SeqAt.eq_list_lengthsAt p1.isList p2.isList (by simpa using c) (by omega) ⟨.bl false,H,I,rfl,?_⟩
  rw [Aw (fun z=>c (by have:=AY List.length z;simpa using this))] at q
  exact q
end
end L2
end
section
namespace L2
open PySem PySem.Spec
open PyProof.Rows hiding Fr News
section
variable {X:Cx}
end
section
variable {X:Cx}
end
section
variable {X:Cx}{tg:Expr}
end
section
variable {X:Cx}
end
end L2
end
section
namespace L2
open PySem PySem.Spec PyProof.Rows ST
section
variable {prog:Program}{w:World}{s:Shared}
theorem nC {A:Around}{E:Value→Shared→Prop}{l:Addr}{vs:List Value}{Q:Value→Shared→Prop}{ks:List (List Int)}(hl:s.heap.IsList l vs.toArray)(T:∀ v ∈ vs,TupI s.heap v)(few:vs.length < 64)(D:Keys s.heap vs ks)
  (out:Q (.ref (s.heap.objs.size + 1)) { s with heap:=sortedAll s.heap vs ((orderOf ks).toList.map fun i=>vs.getD i .none).toArray }):wpAny (model prog w) A (call (.builtin "sorted") [.ref l]) Q E s:=by
 have z:vs.length ≤ sizeLine:=by rw [sizeLine_eq];omega
 obtain ⟨h1,e1⟩:∃ h:Heap,h=(s.heap.push (seqObj "list" #[] 0)).update s.heap.objs.size (Obj.mapSeq (· ++ vs.toArray)):=⟨_,rfl⟩
 have z1:h1.objs.size=s.heap.objs.size + 1:=by rw [e1];exact (Heap.size_update ..).trans (size_push' ..)
 have n1:(h1.push (seqObj "list" vs.toArray 0)).get? (s.heap.objs.size + 1)=some (seqObj "list" vs.toArray 0):=z1 ▸ Ao _ rfl
 have old:∀ b o,s.heap.get? b=some o→(h1.push (seqObj "list" vs.toArray 0)).get? b=some o:=fun b o q=>by
  rw [e1]
  exact Ac _ ((Ce _ _ _ _ (A0 (Am q))).trans (Ac _ q))
 refine C6 kind_sorted plain_sorted entry_sorted (args_sorted1 _) (show wpAny _ _ (Builtin.«sorted» ⟨[.ref l],[]⟩) _ _ s from ?_)
 unfold Builtin.«sorted»
 refine wpAny_bind (m:=checkCount "sorted" 1 1 _) (wpAny_pure (wpAny_bind (collect_list hl (wpAny_bind (wpAny_newList (show wpAny _ _ _ _ _ { s with heap:=((s.heap.push (seqObj "list" #[] 0)).update s.heap.objs.size (Obj.mapSeq (· ++ vs.toArray))).push (seqObj "list" vs.toArray 0) } from ?_) z)) z)))
 rw [← e1,z1]
 have out':Q (.ref (s.heap.objs.size + 1)) { s with heap:=sortedHeap (h1.push (seqObj "list" vs.toArray 0)) (s.heap.objs.size + 1) vs ((orderOf ks).toList.map fun i=>vs.getD i .none).toArray }:=by
  rw [e1]
  exact out
 exact wpAny_bind (wpAny_holding (wpAny_call_entry slot_list_sort ⟨_,n1,rfl⟩ entry_list_sort (w4 n1 (fun v hv=>(T v hv).keep fun b o _ q=>old b o q) few (D.keep fun b o _ q=>old b o q) ⟨_,rfl,wpAny_pure ⟨_,rfl,out'⟩⟩) (args_list_sort _)))
end
section
variable {X:Cx}
theorem iZ:yP X (.builtin "sorted") (fun xs H Q=>∃ (p:Addr) (ps:List (Addr × List Int)) (m:Nat),xs=[.ref p]∧H p=some (.lst (ps.map fun x=>V.ref x.1))∧ps.length < 64∧1 ≤ m∧(∀ x ∈ ps,H x.1=some (.tup (x.2.map V.int))∧x.2.length=m)∧(ps.map (·.2)).Nodup∧∀ (l:Addr) (qs:List (Addr × List Int)) (H':Hp),H l=none→Same H H'→qs.Perm ps→(qs.map (·.2)).Pairwise (fun x y=>zJ x y=true)→H' l=some (.lst (qs.map fun x=>V.ref x.1))→Q (.ref l) H'):=by
 intro pins s σ H xs us Q I r h
 obtain ⟨p,ps,m,rfl,hq,h64,m1,ht,nd,q⟩:=h
 obtain ⟨u,rfl,ru⟩:=r.one
 cases ru
 obtain ⟨its,vi,pl,_⟩:=I.list (SqL.of hq)
 have hlen:ps.length=its.length:=by simpa using vi.length
 have at':∀ i,i < ps.length→its.getD i Value.none = .ref (ps.getD i (0,[])).1:=fun i hi=>by
  obtain ⟨u,hu,ru⟩:=vi.get (i:=i) (x:=V.ref (ps[i]).1) (by simp [hi])
  rw [Ab,hu,Ab,Af hi]
  exact ru
 have each:∀ i,(hi:i < ps.length)→∃ ts:List Value,its.getD i Value.none = .ref ps[i].1∧IsTup s.heap ps[i].1 ts.toArray∧IntsAre ts ps[i].2∧ps[i].2.length=m:=fun i hi=>by
  obtain ⟨t1,t2⟩:=ht ps[i] (AE hi)
  obtain ⟨ts,r1,r2,_⟩:=I.tuple (SqT.of t1)
  have a:=at' i hi
  rw [show ps.getD i (0,[])=ps[i] by simp [Ab,hi]] at a
  exact ⟨ts,a,r2,intsAre_of r1,t2⟩
 have kat:∀ i,(hi:i < ps.length)→(ps.map (·.2)).getD i [] = ps[i].2:=fun i hi=>by
  rw [Ab,Ad,Af hi]
  rfl
 have T:∀ v ∈ its,TupI s.heap v:=fun v hv=>by
  obtain ⟨i,hi,rfl⟩:=Cf hv
  have hi':i < ps.length:=by omega
  obtain ⟨ts,a,r2,r3,r4⟩:=each i hi'
  rw [show its.getD i Value.none=its[i] by simp [Ab,hi]] at a
  cases e:(ps[i]).2 with
  | nil=>rw [e] at r4;simp at r4;omega
  | cons n ns=>exact ⟨_,ts,n,ns,a,r2,e ▸ r3⟩
 have D:Keys s.heap its (ps.map (·.2)):=⟨by rw [Aa];exact hlen,fun i hi=>by
  have hi':i < ps.length:=by omega
  obtain ⟨ts,a,r2,r3,_⟩:=each i hi'
  exact ⟨_,ts,a,r2,by rw [kat i hi'];exact r3⟩,fun i j hi hj=>by
  have hi':i < ps.length:=by omega
  have hj':j < ps.length:=by omega
  obtain ⟨_,_,_,_,r4⟩:=each i hi'
  obtain ⟨_,_,_,_,r5⟩:=each j hj'
  rw [kat i hi',kat j hj',r4,r5]⟩
 refine nC pl.isList T (by omega) D ?_
 have ho':Pn ps.length (orderOf (ps.map (·.2))):=hlen ▸ D.pn
 obtain ⟨e',he'⟩:=sortedAll_at s.heap its ((orderOf (ps.map (·.2))).toList.map fun i=>its.getD i Value.none).toArray
 have fr:H (s.heap.objs.size + 1)=none:=I.hok.fresh (BN _)
 have lt:∀ i ∈ (orderOf (ps.map (·.2))).toList,i < ps.length:=fun i hi=>by simpa using (By.mp ho').mem_iff.mp hi
 have rel:∀ k:List Nat,(∀ i ∈ k,i < ps.length)→Vals ((k.map fun i=>ps.getD i (0,[])).map fun x=>V.ref x.1) (k.map fun i=>its.getD i Value.none):=fun k=>by
  induction k with
  | nil=>exact fun _=>.nil
  | cons i k ih=>exact fun hk=>.cons (show RelV (V.ref (ps.getD i (0,[])).1) (its.getD i Value.none) from at' i (hk i (.head k)) ▸ rfl) (ih fun j hj=>hk j (.tail i hj))
 refine ⟨.ref (s.heap.objs.size + 1),_,I.laid (o:=.lst (((orderOf (ps.map (·.2))).toList.map fun i=>ps.getD i (0,[])).map fun x=>V.ref x.1)) (t':=s.toks) (fun b u e=>sortedAll_old e) (BN _) ⟨?_,_,e',rel _ lt,he'⟩,rfl,q _ _ _ fr (kI fr) (fK ps (0,[]) ho') ?_ qF⟩
 ·have:=ho'.size
  simp only [Aa,Cd]
  rw [sizeLine_eq]
  omega
 ·have keys:(((orderOf (ps.map (·.2))).toList.map fun i=>ps.getD i (0,[])).map (·.2))=(orderOf (ps.map (·.2))).toList.map fun i=>(ps.map (·.2)).getD i []:=by
   rw [AF]
   refine Bj fun i hi=>?_
   have h:=lt i hi
   rw [kat i h]
   show (ps.getD i (0,[])).2=_
   rw [Ab,Af h]
   rfl
  rw [keys]
  exact hJ (m:=m) (fun k hk=>by obtain ⟨x,hx,rfl⟩:=Au.mp hk;exact (ht x hx).2) nd
end
section
variable {X:Cx}
end
section
variable {X:Cx}
noncomputable def rEqTN:R2:=fun x y H Q=>∃ (a b:Addr) (xs:List V),x = .ref a∧y = .ref b∧H a=some (.tup xs)∧H b=some (.tup [])∧Q (.bl xs.isEmpty) H
theorem eqTN0 (hu:X.A.units < cLine):xZ X (compareOp .Eq) rEqTN:=by
 intro pins s σ H x y v u Q I rx ry h
 obtain ⟨a,b,xs,rfl,rfl,ha,hb,q⟩:=h
 cases rx
 cases ry
 obtain ⟨its,r1,p1,_⟩:=I.tuple (SqT.of ha)
 obtain ⟨its2,r2,p2,_⟩:=I.tuple (SqT.of hb)
 have l1:=r1.length
 have l2:=r2.length
 have e2:its2=[]:=Bx.mp (by simpa using l2.symm)
 subst e2
 refine SeqAt.eq_tupleAt (e:=fun _=>true) (show s.heap.IsTuple a its.toArray from p1) (show s.heap.IsTuple b ([] : List Value).toArray from p2) hu (fun j _ h2=>absurd h2 (by simp)) ?_
 refine ⟨.bl xs.isEmpty,H,I,?_,q⟩
 cases xs with
 | nil =>
  have e1:its=[]:=Bx.mp (by simpa using l1.symm)
  subst e1
  rfl
 | cons z zs =>
  have:its.length ≠ 0:=by rw [← l1];simp
  have h1:(its.length == 0)=false:=by simpa using this
  simp [h1]
  rfl
theorem a_rEqTN {x y:V}{H:Hp}{Q:VK}:rEqTN x y H Q = ∃ (a b:Addr) (xs:List V),x = .ref a∧y = .ref b∧H a=some (.tup xs)∧H b=some (.tup [])∧Q (.bl xs.isEmpty) H:=rfl
end
section
variable {prog:Program}{w:World}{s:Shared}
theorem nB {A:Around}{E:Value→Shared→Prop}{l:Addr}{vs:List Value}{Q:Value→Shared→Prop}(hl:IsTup s.heap l vs.toArray)(T:∀ v ∈ vs,TupI s.heap v)(few:vs.length < 64)
  (out:∀ p:Array Nat,Pn vs.length p→Q (.ref (s.heap.objs.size + 1)) { s with heap:=sortedAll s.heap vs (p.toList.map fun i=>vs.getD i .none).toArray }):wpAny (model prog w) A (call (.builtin "sorted") [.ref l]) Q E s:=by
 have z:vs.length ≤ sizeLine:=by rw [sizeLine_eq];omega
 let h1:Heap:=(s.heap.push (seqObj "list" #[] 0)).update s.heap.objs.size (Obj.mapSeq (· ++ vs.toArray))
 have z1:h1.objs.size=s.heap.objs.size + 1:=(Heap.size_update ..).trans (size_push' ..)
 have n1:(h1.push (seqObj "list" vs.toArray 0)).get? (s.heap.objs.size + 1)=some (seqObj "list" vs.toArray 0):=z1 ▸ Ao _ rfl
 have T1:∀ v ∈ vs,TupI (h1.push (seqObj "list" vs.toArray 0)) v:=fun v hv=>(T v hv).keep fun b o _ q =>
  Ac _ ((Ce _ _ _ _ (A0 (Am q))).trans (Ac _ q))
 refine C6 kind_sorted plain_sorted entry_sorted (args_sorted1 _) (show wpAny _ _ (Builtin.«sorted» ⟨[.ref l],[]⟩) _ _ s from ?_)
 unfold Builtin.«sorted»
 refine wpAny_bind (m:=checkCount "sorted" 1 1 _) (wpAny_pure (wpAny_bind (rA hl z (wpAny_bind (wpAny_newList (show wpAny _ _ _ _ _ { s with heap:=h1.push (seqObj "list" vs.toArray 0) } from ?_) z)))))
 rw [show ((s.heap.push (seqObj "list" #[] 0)).update s.heap.objs.size (Obj.mapSeq (· ++ vs.toArray))).objs.size=s.heap.objs.size + 1 from z1]
 exact wpAny_bind (wpAny_holding (wpAny_call_entry slot_list_sort ⟨_,n1,rfl⟩ entry_list_sort (aF n1 T1 few fun p hp=>⟨_,rfl,wpAny_pure ⟨_,rfl,out p hp⟩⟩) (args_list_sort _)))
end
section
variable {X:Cx}
theorem iY:yP X (.builtin "sorted") (fun xs H Q=>∃ (p:Addr) (ps:List (Addr × List Int)),xs=[.ref p]∧H p=some (.tup (ps.map fun x=>V.ref x.1))∧ps.length < 64∧(∀ x ∈ ps,H x.1=some (.tup (x.2.map V.int))∧x.2 ≠ [])∧∀ (l:Addr) (qs:List (Addr × List Int)) (H':Hp),H l=none→Same H H'→qs.Perm ps→H' l=some (.lst (qs.map fun x=>V.ref x.1))→Q (.ref l) H'):=by
 intro pins s σ H xs us Q I r h
 obtain ⟨p,ps,rfl,hq,h64,ht,q⟩:=h
 obtain ⟨u,rfl,ru⟩:=r.one
 cases ru
 obtain ⟨its,vi,pl,_⟩:=I.tuple (SqT.of hq)
 have hlen:ps.length=its.length:=by simpa using vi.length
 have at':∀ i,i < ps.length→its.getD i Value.none = .ref (ps.getD i (0,[])).1:=fun i hi=>by
  obtain ⟨u,hu,ru⟩:=vi.get (i:=i) (x:=V.ref (ps[i]).1) (by simp [hi])
  rw [Ab,hu,Ab,Af hi]
  exact ru
 have T:∀ v ∈ its,TupI s.heap v:=fun v hv=>by
  obtain ⟨i,hi,rfl⟩:=Cf hv
  have hi':i < ps.length:=by omega
  obtain ⟨t1,t2⟩:=ht ps[i] (AE hi')
  obtain ⟨ts,r1,r2,_⟩:=I.tuple (SqT.of t1)
  have a:=at' i hi'
  rw [show its.getD i Value.none=its[i] by simp [Ab,hi],show ps.getD i (0,[])=ps[i] by simp [Ab,hi']] at a
  cases e:(ps[i]).2 with
  | nil=>exact absurd e t2
  | cons n ns=>exact ⟨_,ts,n,ns,a,r2,e ▸ intsAre_of r1⟩
 refine nB pl T (by omega) fun o ho=>?_
 have ho':Pn ps.length o:=hlen ▸ ho
 obtain ⟨e',he'⟩:=sortedAll_at s.heap its (o.toList.map fun i=>its.getD i Value.none).toArray
 have fr:H (s.heap.objs.size + 1)=none:=I.hok.fresh (BN _)
 have lt:∀ i ∈ o.toList,i < ps.length:=fun i hi=>by simpa using (By.mp ho').mem_iff.mp hi
 have rel:∀ k:List Nat,(∀ i ∈ k,i < ps.length)→Vals ((k.map fun i=>ps.getD i (0,[])).map fun x=>V.ref x.1) (k.map fun i=>its.getD i Value.none):=fun k=>by
  induction k with
  | nil=>exact fun _=>.nil
  | cons i k ih=>exact fun hk=>.cons (show RelV (V.ref (ps.getD i (0,[])).1) (its.getD i Value.none) from at' i (hk i (.head k)) ▸ rfl) (ih fun j hj=>hk j (.tail i hj))
 refine ⟨.ref (s.heap.objs.size + 1),_,I.laid (o:=.lst ((o.toList.map fun i=>ps.getD i (0,[])).map fun x=>V.ref x.1)) (t':=s.toks) (fun b u e=>sortedAll_old e) (BN _) ⟨?_,_,e',rel _ lt,he'⟩,rfl,q _ _ _ fr (kI fr) (fK ps (0,[]) ho') qF⟩
 have:=ho'.size
 simp only [Aa,Cd]
 rw [sizeLine_eq]
 omega
end
end L2
end
section
set_option maxRecDepth 1000000
set_option maxHeartbeats 8000000
section
open PySem L2
set_option hygiene false in
local macro_rules | `(tactic| push_cast [$as,*]) => `(tactic| (try simp only [↓a_tSSet, ↓a_rEqLT, ↓e_var0, ↓e_var1, ↓e_var2, ↓e_var3, ↓e_var4, ↓e_var5, ↓e_var6, ↓e_var7, ↓e_var8, ↓e_var9, ↓e_var10, ↓e_var11, ↓e_nam0, ↓e_nam1, ↓e_nam2, ↓e_nam3, ↓e_nam4, ↓e_nam5, ↓e_nam6, ↓e_nam7, ↓e_nam8, ↓e_nam9, ↓e_nam10, ↓e_nam11, ↓e_par, ↓e_ex2, ↓e_gN, ↓e_gC, ↓e_rI0, ↓e_rI, ↓e_rU, ↓e_xB, ↓e_xI, ↓e_xJ, ↓e_xJ2, ↓e_rEq, ↓e_rNe, ↓e_itT, ↓e_itF, ↓e_itD, ↓e_ix, ↓e_getK, ↓e_setK, ↓e_ipI, ↓e_aug, ↓e_emit, ↓e_f1, ↓e_f2, ↓e_f3, ↓e_f4, ↓e_f5, ↓e_seqL, ↓e_g1, ↓e_g2, e_os, e_ol, e_ot, e_od, HO.dT.injEq, ↓eZ, ↓a_ipL, V.str.injEq, HO.dK.injEq, a_tAug, ↓a_tDisp, ↓a_prs0, ↓a_prs, a_rGetK, a_rSetK, ↓a_tAugS, a_ipI, ↓a_iS0, ↓a_rRepL, ↓a_iEnum, ↓a_rNeNil, ↓a_tChain, ↓a_tLstA, ↓a_tLC2, ↓a_tInner, ↓a_rSlA, ↓a_rCatA, ↓a_rCatL, ↓a_tSeq, ↓a_tFor, ↓a_rIxL, ↓a_iZip, ↓a_tSl, ↓a_rSlL0, ↓eY, ↓a_tPart, ↓a_tApp, ↓a_tRet, ↓a_tNext, ↓a_tDrop, ↓a_tAsg, ↓a_gSub, a_gName, a_gNil, a_gCons, ↓a_gTup0, ↓a_tIfS, ↓a_tAnd, ↓a_tOr, ↓a_tNot, ↓a_tTest, ↓a_tB, ↓a_tTrue, ↓a_tIf, ↓a_tAndV, ↓a_tOrV, ↓a_tNotV, ↓a_tOp, ↓a_tUn, a_rU, a_tVar, ↓a_tC, a_rI0, a_rI, a_rEq, a_rNe, a_rIx0, ↓a_tCB, ↓a_tCal, ↓a_tCons, ↓a_tNil, ↓a_tTupA, ↓a_tLst, a_tPar, ↓a_tLC, ↓a_iRng1, ↓a_iRng2, ↓a_iT0, ↓a_iL0, a_tEmit, cH, sc_ii, sc_bb, sc_ss, sc_nn, sc_in, sc_ni, sc_bn, sc_nb, sc_sn, sc_ns, sc_is, sc_si, sc_bs, sc_sb, V.ty.injEq, wW, subN, String.reduceEq, String.reduceBEq, Bool.true_or, Bool.false_or, Bool.or_false, Bool.true_and, Bool.false_and, Bool.and_false, or_true, true_or, beq_self_eq_true, decide_true, decide_false, List.map_cons, List.map_nil, List.length_cons, List.length_nil, List.getElem?_cons_zero, List.getElem?_cons_succ, List.getElem?_nil, List.set_cons_zero, List.set_cons_succ, Option.some.injEq, Option.bind_some, Option.bind_none, id, exists_eq_left', exists_eq_left, exists_and_left, exists_eq_right, V.int.injEq, V.bl.injEq, V.ref.injEq, List.cons.injEq, and_true, true_and, and_assoc, exists_const, atI0, atI1, atI2, ixN30, ixN31, ixN32, qF, upd_upd, sq_updL, sq_updT, Nat.zero_add, Nat.reduceAdd, reduceCtorEq, false_and, and_false, exists_false, false_or, or_false, List.length_map, HO.lst.injEq, HO.tup.injEq, Bool.false_eq_true, if_false, if_true, decide_eq_true_eq, ite_true, ite_false, reduceIte, Int.reduceLT, Int.reduceLE, Nat.reduceLT, Int.zero_add, Bool.not_true, Bool.not_false, $as,*]))
set_option hygiene false in
local macro_rules | `(tactic| push_cast only [$as,*]) => `(tactic| ((push_cast [↓e_g3, ↓e_g4, ↓e_g5, ↓e_g6, ↓e_g7, ↓e_g8, $as,*]); (push_cast [u_os, u_ol, u_ot, u_od, $as,*])))
set_option hygiene false in
local macro_rules | `(tactic| omega) => `(tactic| first | (with_reducible first | assumption | (refine Nat.lt_of_lt_of_le ?_ (show 2 ^ _ ≤ 32 from p32); assumption) | (refine Nat.lt_of_lt_of_le ?_ p32.1; assumption) | (refine Nat.lt_of_lt_of_le ?_ m5; assumption) | (refine Nat.lt_of_lt_of_le ?_ p5; assumption)) | lia)
section
namespace K50
open PySem L2
noncomputable def top (i:Nat):Stmt:=PySem.Challenge.pw_wantprices_k50_shares_judged.main.body.getD i (.Pass ⟨0,0,0,0⟩)
noncomputable abbrev s_has:Stmt:=top 1
noncomputable abbrev s_is_whole:Stmt:=top 3
noncomputable abbrev s_is_whole_from:Stmt:=top 4
noncomputable abbrev s_are_wholes:Stmt:=top 5
noncomputable abbrev s_are_wholes_from:Stmt:=top 6
noncomputable abbrev s_costs:Stmt:=top 8
noncomputable abbrev s_gains:Stmt:=top 9
noncomputable abbrev s_greatest_gain:Stmt:=top 10
noncomputable abbrev s_in_parts:Stmt:=top 12
noncomputable abbrev s_shows_shares:Stmt:=top 14
noncomputable abbrev s_are_shares:Stmt:=top 15
noncomputable abbrev s_is_share:Stmt:=top 16
noncomputable abbrev s_rise_by_place:Stmt:=top 17
noncomputable abbrev s_keep_bounds:Stmt:=top 18
noncomputable abbrev s_shares_worth:Stmt:=top 19
noncomputable abbrev s_solved:Stmt:=top 21
noncomputable abbrev s_entering:Stmt:=top 22
noncomputable abbrev s_leaving:Stmt:=top 23
noncomputable abbrev s_bounds_more:Stmt:=top 24
noncomputable abbrev s_pivoted:Stmt:=top 25
noncomputable abbrev s_shares:Stmt:=top 27
noncomputable abbrev s_share_places:Stmt:=top 28
noncomputable abbrev s_share_table:Stmt:=top 29
noncomputable abbrev s__law_spool:Stmt:=top 31
noncomputable abbrev s__law_wound:Stmt:=top 32
noncomputable abbrev s__law_draw:Stmt:=top 33
noncomputable abbrev s__law_want:Stmt:=top 34
noncomputable abbrev s__law_town:Stmt:=top 35
noncomputable abbrev s__law_knot:Stmt:=top 36
noncomputable abbrev s__law_any_town:Stmt:=top 37
noncomputable abbrev s__law_cost:Stmt:=top 38
noncomputable abbrev s__law_are_shares:Stmt:=top 39
noncomputable abbrev s__law_worth:Stmt:=top 40
noncomputable abbrev s__law_enough:Stmt:=top 41
noncomputable abbrev s__law_right:Stmt:=top 42
noncomputable abbrev s__law_truth:Stmt:=top 43
noncomputable abbrev s__law_bent:Stmt:=top 44
noncomputable abbrev s__law_otherwise:Stmt:=top 45
noncomputable abbrev s_law:Stmt:=top 46
structure Txt (mg:Str→Option Value):Prop where
 len_:mg "len" = none
 sum_:mg "sum" = none
 max_:mg "max" = none
 range_:mg "range" = none
 tuple_:mg "tuple" = none
 list_:mg "list" = none
 int_:mg "int" = none
 bool_:mg "bool" = none
 zip_:mg "zip" = none
 enumerate_:mg "enumerate" = none
 isinstance_:mg "isinstance" = none
 all_:mg "all" = none
 set_:mg "set" = none
 sorted_:mg "sorted" = none
section
variable {P:Program}{w:World}{K:PySem.W.Frag}{mg:Str→Option Value}{base:Heap}{f:Addr}{fd:FuncData}
theorem vY {ns:List Int}{n:Nat}(h:n < ns.length):xH (ns.map V.int) (n:Int)=some (V.int (ns.getD n 0)):=zO (by simp [h,Ab])
noncomputable def wF (l:Addr)(a g f m x:Int):List (Key × V):=[(Sum.inr "cells",.ref l),(Sum.inr "at",.int a),(Sum.inr "great",.int g),(Sum.inr "left",.int f),(Sum.inr "many",.int m),(Sum.inr "mixed",.int x)]
section
variable {l:Addr}{a g f m x:Int}
theorem qQ:y4 (wF l a g f m x) (Sum.inr "cells")=some (.ref l):=by rfl
theorem kM:y4 (wF l a g f m x) (Sum.inr "at")=some (.int a):=by rfl
theorem qP:y4 (wF l a g f m x) (Sum.inr "great")=some (.int g):=by rfl
theorem qW:y4 (wF l a g f m x) (Sum.inr "left")=some (.int f):=by rfl
theorem qV:y4 (wF l a g f m x) (Sum.inr "many")=some (.int m):=by rfl
theorem qO:y4 (wF l a g f m x) (Sum.inr "mixed")=some (.int x):=by rfl
theorem kN {v:Int}:putK (wF l a g f m x) (Sum.inr "at") (.int v)=wF l v g f m x:=by rfl
theorem qS {v:Int}:putK (wF l a g f m x) (Sum.inr "great") (.int v)=wF l a v f m x:=by rfl
theorem qZ {v:Int}:putK (wF l a g f m x) (Sum.inr "left") (.int v)=wF l a g v m x:=by rfl
theorem qY {v:Int}:putK (wF l a g f m x) (Sum.inr "many") (.int v)=wF l a g f v x:=by rfl
theorem qR {v:Int}:putK (wF l a g f m x) (Sum.inr "mixed") (.int v)=wF l a g f m v:=by rfl
theorem qX:((wF l a g f m x).length < sizeLine)=True:=eq_true (by show 6 < sizeLine;decide)
end
noncomputable def Spool (H:Hp)(p l:Addr):Prop:=∃ (ns:List Int) (a g f m x:Int),H p=some (.dK (wF l a g f m x))∧H l=some (.lst (ns.map V.int))∧l ≠ p∧0 ≤ a
theorem Spool.same {H H':Hp}{p l:Addr}(s:Same H H')(h:Spool H p l):Spool H' p l:=by
 obtain ⟨ns,a,g,f,m,x,e,el,n,a0⟩:=h
 exact ⟨ns,a,g,f,m,x,s _ _ e,s _ _ el,n,a0⟩
theorem Spool.nep {H:Hp}{p l c:Addr}(h:Spool H p l)(n:H c=none):p ≠ c:=by
 obtain ⟨ns,a,g,f,m,x,e,el,_,a0⟩:=h
 exact qC e n
theorem Spool.nel {H:Hp}{p l c:Addr}(h:Spool H p l)(n:H c=none):l ≠ c:=by
 obtain ⟨ns,a,g,f,m,x,e,el,_,a0⟩:=h
 exact qC el n
theorem Spool.upd {H:Hp}{p l c:Addr}{o:HO}(h:Spool H p l)(n:p ≠ c)(k:l ≠ c):Spool (upd H c o) p l:=by
 obtain ⟨ns,a,g,f,m,x,e,el,z,a0⟩:=h
 exact ⟨ns,a,g,f,m,x,by rw [q9 n];exact e,by rw [q9 k];exact el,z,a0⟩
theorem gH {l:Addr}{H H1:Hp}(s:Same H H1)(n:H1 l=none):H l=none:=by
 cases e:H l with
 | none=>rfl
 | some o=>rw [s _ _ e] at n;cases n
noncomputable def MadeS (p l c:Addr)(Pd:Int→Prop)(τ:List (Option V))(G:Hp)(i:Nat)(σ:St)(H:Hp):Prop:=∃ (v:Option V) (ws:List Int),σ=v :: τ∧ws.length=i∧(∀ x ∈ ws,Pd x)∧Spool H p l∧(∀ b o,b ≠ p→b ≠ c→G b=some o→H b=some o)∧H c=some (.lst (ws.map V.int))
theorem MadeS.zero {p l c:Addr}{Pd:Int→Prop}{τ:List (Option V)}{G:Hp}(sp:Spool G p l)(nc:G c=none):MadeS p l c Pd τ G 0 (none :: τ) (upd G c (.lst [])) :=
 ⟨none,[],rfl,rfl,fun _ h=>absurd h (by simp),sp.upd (sp.nep nc) (sp.nel nc),fun b o _ n e=>by rw [q9 n];exact e,qF⟩
theorem MadeS.more {p l c:Addr}{Pd:Int→Prop}{τ:List (Option V)}{G H H2:Hp}{ws:List Int}{v:Option V}{r:Int}(np:p ≠ c)(nl:l ≠ c)(hbd:∀ x ∈ ws,Pd x)(k:∀ b o,b ≠ p→b ≠ c→G b=some o→H b=some o)(s:SameX p H H2)(sp:Spool H2 p l)(hr:Pd r) :
  MadeS p l c Pd τ G (ws.length + 1) (v :: τ) (upd H2 c (.lst (ws.map V.int ++ [V.int r]))) :=
 ⟨v,ws ++ [r],rfl,by simp,fun x hx=>by
  rcases A3.mp hx with z | z
  ·exact hbd x z
  ·rw [A5.mp z];exact hr,sp.upd np nl,fun b o n1 n2 e=>by rw [q9 n2];exact s _ _ n1 (k b o n1 n2 e),by rw [qF];simp⟩
noncomputable def lO:Sp:=fun vs H Q _=>∃ n t:Int,vs=[.int n,.int t]∧∀ r:Int,0 ≤ r→r < 2147483563→Q (.int r) H
theorem gO:FnScope ["_law_number", "_law_turn", "_law_one"] ["_law_number", "_law_turn"] (qI s__law_wound):=⟨rfl,rfl,rfl,by decide +kernel,rfl,by decide +kernel,by decide +kernel⟩
theorem oP (F:Fun K "_law_wound" "_law_wound" s__law_wound f fd) (hm:mg "_law_wound" = some (.ref f)) (hb:Binds K fd ["_law_number", "_law_turn"] []) (T:Txt mg):j4 P w K mg base "_law_wound" ["_law_number", "_law_turn"] 1 lO:=by
 refine kU F hm hb gO (fun vs H Q E h=>?_) (fun cdv A outer s H vs Q E hr h=>?_)
 ·obtain ⟨_,_,rfl,_⟩:=h;rfl
 ·obtain ⟨n,t,rfl,q⟩:=h
  have sc:=gO
  refine ⟨_,jI (kQ (i:=2) sc.nd rfl (Or.inl rfl) (qN x9 (qN jU (qN x9 (qN jD (qN jD (pv 0) (qN jU qD (pv 1))) qD) qD) qD) qD)) (qM (q8 (qN x9 (qN jD (qN jU (pv 2) (qN jD (qN x9 (pv 2) qD) qD)) (qN jU qD (pv 1))) qD))),?_⟩
  rw [show L2.start ["_law_number", "_law_turn", "_law_one"] [.int n,.int t] = [some (.int n),some (.int t),none] from rfl]
  (push_cast only [])
  refine ⟨.inl ⟨by decide,by decide⟩,.inr ⟨by decide,by decide⟩,.inr ⟨by omega,by omega⟩,.inl ⟨by decide,by decide⟩,?_⟩
  exact q _ (Int.emod_nonneg _ (by decide)) (Dh _ (by decide))
noncomputable def vO:Sp:=fun vs H Q _=>∃ (p l:Addr) (many:Int),vs=[.ref p,.int many]∧Spool H p l∧0 < many∧many < 1073741824∧∀ (r:Int) (H':Hp),0 ≤ r→r < many→Spool H' p l→SameX p H H'→Q (.int r) H'
theorem dN:FnScope ["_law_spool_here", "_law_many", "_law_cell", "_law_drawn"] ["_law_spool_here", "_law_many"] (qI s__law_draw):=⟨rfl,rfl,rfl,by decide +kernel,rfl,by decide +kernel,by decide +kernel⟩
theorem ok_draw (F:Fun K "_law_draw" "_law_draw" s__law_draw f fd) (hm:mg "_law_draw" = some (.ref f)) (hb:Binds K fd ["_law_spool_here", "_law_many"] []) (T:Txt mg) (c__law_wound:j4 P w K mg base "_law_wound" ["_law_number", "_law_turn"] 1 lO):j4 P w K mg base "_law_draw" ["_law_spool_here", "_law_many"] 2 vO:=by
 refine kU F hm hb dN (fun vs H Q E h=>?_) (fun cdv A outer s H vs Q E hr h=>?_)
 ·obtain ⟨_,_,_,rfl,_⟩:=h;rfl
 ·obtain ⟨p,l,many,rfl,⟨ns,a,g,f',m,x,hp,hl,nlp,a0⟩,h1,h2,q⟩:=h
  have sc:=dN
  refine ⟨_,qG (nH (pv 0) jG (nV (j9 hr)) qD ip_add (yS (j9 hr))) (qG (jV (PW.pt (nG (kD jR (zE (j9 hr) (pv 0) jG (fun _ _=>rfl)) qD (kA _)) (wG (kD xU (zE (j9 hr) (pv 0) jG (fun _ _=>rfl)) (qK len0 rfl T.len_ kY (qA (zE (j9 hr) (pv 0) jG (fun _ _=>rfl)) qB)) (kA _))))) (qG (kQ (i:=2) sc.nd rfl (Or.inl rfl) (kL z6 (zE (j9 hr) (pv 0) jG (fun _ _=>rfl)) (zE (j9 hr) (pv 0) jG (fun _ _=>rfl)) (fun _ _=>rfl))) (qG (nH (pv 0) jG (nV (j9 hr)) qD ip_add (yS (j9 hr))) (qG (zG (qU c__law_wound hr (qA (qN jD (zE (j9 hr) (pv 0) jG (fun _ _=>rfl)) (qN x9 (pv 2) qD)) (qA (zE (j9 hr) (pv 0) jG (fun _ _=>rfl)) qB))) (fJ (pv 0) jG (yS (j9 hr)))) (qM (jV (kD pL (pv 2) (qN sF qD qD) (kA _)) (qM (zG (jB (qA (qN x9 (pv 2) (qN op_mulB (qN sF qD qD) (qN sF qD qD))) (qA qD qB))) (kK (n:=2) rfl (qJ (fJ (pv 0) jG (yS (j9 hr))) (qJ (fJ (pv 0) jG (yS (j9 hr))) kJ))))) kW))))) kW) (qG (jV (PW.pt (nG (kD mD (zE (j9 hr) (pv 0) jG (fun _ _=>rfl)) qD (kA _)) (wG (kD mD (zE (j9 hr) (pv 0) jG (fun _ _=>rfl)) qD (kA _))))) (qG (kQ (i:=3) sc.nd rfl (Or.inl rfl) (qN x9 (zE (j9 hr) (pv 0) jG (fun _ _=>rfl)) (pv 1))) (qG (zG (qN wI (zE (j9 hr) (pv 0) jG (fun _ _=>rfl)) (pv 1)) (fJ (pv 0) jG (yS (j9 hr)))) (qG (nH (pv 0) jG (nV (j9 hr)) qD ip_sub (yS (j9 hr))) (qM (q8 (pv 3)))))) kW) (qG (zG qD (fJ (pv 0) jG (yS (j9 hr)))) (qG (zG (qU c__law_wound hr (qA (zE (j9 hr) (pv 0) jG (fun _ _=>rfl)) (qA (zE (j9 hr) (pv 0) jG (fun _ _=>rfl)) qB))) (fJ (pv 0) jG (yS (j9 hr)))) (qM (q8 (qN x9 (qN wI (qU c__law_wound hr (qA (zE (j9 hr) (pv 0) jG (fun _ _=>rfl)) (qA qD qB))) qD) (pv 1)))))))),?_⟩
  rw [show L2.start ["_law_spool_here", "_law_many", "_law_cell", "_law_drawn"] [.ref p,.int many] = [some (.ref p),some (.int many),none,none] from rfl]
  (push_cast only [hp,qQ,kM,qP,qW,qV,qO,kN,qS,qZ,qY,qR,qX])
  have VK:True:=trivial
  (simp only [qE])
  have hl1:upd H p (HO.dK (wF l a g f' (m + 1) x)) l=some (.lst (ns.map V.int)):=by rw [q9 nlp];exact hl
  have hs1:=kF hl1
  (push_cast only [hs1,qQ,kM,qP,qW,qV,qO,kN,qS,qZ,qY,qR,qX])
  have fin:∀ (G:Hp) (z a' g' f'' m' x':Int),SameX p H G→G l=some (.lst (ns.map V.int))→0 ≤ a'→Q (V.int (z % many)) (upd G p (HO.dK (wF l a' g' f'' m' x'))):=fun G z a' g' f'' m' x' sx hg ha=>q _ _ (Int.emod_nonneg _ (by omega)) (Dh _ h1) ⟨ns,a',g',f'',m',x',qF,by rw [q9 nlp];exact hg,nlp,ha⟩ (sx.trans SameX.upd)
  have SX0:SameX p H H:=SameX.refl
  by_cases c1:f'=0
  ·rw [Ai c1]
   by_cases c2:a < (ns.length:Int)
   ·rw [Ai c2]
    obtain ⟨an,rfl⟩:=AA a0
    refine ⟨_,vY (ns:=ns) (n:=an) (by omega),?_⟩
    (simp only [qE])
    (push_cast only [qQ,kM,qP,qW,qV,qO,kN,qS,qZ,qY,qR,qX])
    (simp only [qE])
    (push_cast only [qQ,kM,qP,qW,qV,qO,kN,qS,qZ,qY,qR,qX])
    refine ⟨_,_,rfl,fun r r0 r1=>?_⟩
    (push_cast only [qQ,kM,qP,qW,qV,qO,kN,qS,qZ,qY,qR,qX])
    (simp only [qE])
    (push_cast only [qQ,kM,qP,qW,qV,qO,kN,qS,qZ,qY,qR,qX])
    refine ⟨⟨by decide,by decide,by decide⟩,?_⟩
    split
    ·refine ⟨⟨by decide,by decide,by decide⟩,⟨by decide,by decide,by decide⟩,by unfold IntMulOk;decide +kernel,by decide +kernel,by decide,fun tt G nt st et=>?_⟩
     have ep:G p=some (.dK (wF l ((an:Int) + 1) g f' (m + 1) r)):=st _ _ qF
     have sxG:SameX p H G:=SameX.upd.trans st.x
     have hlG:G l=some (.lst (ns.map V.int)):=st _ _ (by rw [q9 nlp];exact hl)
     (push_cast only [et,ep,qQ,kM,qP,qW,qV,qO,kN,qS,qZ,qY,qR,qX])
     (simp only [qE])
     (push_cast only [qQ,kM,qP,qW,qV,qO,kN,qS,qZ,qY,qR,qX])
     split
     ·refine ⟨h1,?_⟩
      (simp only [qE])
      (push_cast only [qQ,kM,qP,qW,qV,qO,kN,qS,qZ,qY,qR,qX])
      refine ⟨⟨h1,h2⟩,?_⟩
      (simp only [qE])
      (push_cast only [qQ,kM,qP,qW,qV,qO,kN,qS,qZ,qY,qR,qX])
      (simp only [qE])
      (push_cast only [qQ,kM,qP,qW,qV,qO,kN,qS,qZ,qY,qR,qX])
      exact fin _ _ _ _ _ _ _ sxG hlG (by omega)
     ·(simp only [qE])
      (push_cast only [qQ,kM,qP,qW,qV,qO,kN,qS,qZ,qY,qR,qX])
      (simp only [qE])
      (push_cast only [qQ,kM,qP,qW,qV,qO,kN,qS,qZ,qY,qR,qX])
      refine ⟨_,_,rfl,fun y0 u0 u1=>?_⟩
      (push_cast only [qQ,kM,qP,qW,qV,qO,kN,qS,qZ,qY,qR,qX])
      (simp only [qE])
      (push_cast only [qQ,kM,qP,qW,qV,qO,kN,qS,qZ,qY,qR,qX])
      refine ⟨_,_,rfl,fun y1 u2 u3=>?_⟩
      (push_cast only [qQ,kM,qP,qW,qV,qO,kN,qS,qZ,qY,qR,qX])
      exact ⟨⟨by decide,by decide⟩,h1,fin _ _ _ _ _ _ _ sxG hlG (by omega)⟩
    ·have sxG:=SX0
     have hlG:=hl
     (simp only [qE])
     (push_cast only [qQ,kM,qP,qW,qV,qO,kN,qS,qZ,qY,qR,qX])
     split
     ·split
      ·refine ⟨h1,?_⟩
       (simp only [qE])
       (push_cast only [qQ,kM,qP,qW,qV,qO,kN,qS,qZ,qY,qR,qX])
       refine ⟨⟨h1,h2⟩,?_⟩
       (simp only [qE])
       (push_cast only [qQ,kM,qP,qW,qV,qO,kN,qS,qZ,qY,qR,qX])
       (simp only [qE])
       (push_cast only [qQ,kM,qP,qW,qV,qO,kN,qS,qZ,qY,qR,qX])
       exact fin _ _ _ _ _ _ _ sxG hlG (by omega)
      ·(simp only [qE])
       (push_cast only [qQ,kM,qP,qW,qV,qO,kN,qS,qZ,qY,qR,qX])
       (simp only [qE])
       (push_cast only [qQ,kM,qP,qW,qV,qO,kN,qS,qZ,qY,qR,qX])
       refine ⟨_,_,rfl,fun y0 u0 u1=>?_⟩
       (push_cast only [qQ,kM,qP,qW,qV,qO,kN,qS,qZ,qY,qR,qX])
       (simp only [qE])
       (push_cast only [qQ,kM,qP,qW,qV,qO,kN,qS,qZ,qY,qR,qX])
       refine ⟨_,_,rfl,fun y1 u2 u3=>?_⟩
       (push_cast only [qQ,kM,qP,qW,qV,qO,kN,qS,qZ,qY,qR,qX])
       exact ⟨⟨by decide,by decide⟩,h1,fin _ _ _ _ _ _ _ sxG hlG (by omega)⟩
     ·(simp only [qE])
      (push_cast only [qQ,kM,qP,qW,qV,qO,kN,qS,qZ,qY,qR,qX])
      (simp only [qE])
      (push_cast only [qQ,kM,qP,qW,qV,qO,kN,qS,qZ,qY,qR,qX])
      refine ⟨_,_,rfl,fun y0 u0 u1=>?_⟩
      (push_cast only [qQ,kM,qP,qW,qV,qO,kN,qS,qZ,qY,qR,qX])
      (simp only [qE])
      (push_cast only [qQ,kM,qP,qW,qV,qO,kN,qS,qZ,qY,qR,qX])
      refine ⟨_,_,rfl,fun y1 u2 u3=>?_⟩
      (push_cast only [qQ,kM,qP,qW,qV,qO,kN,qS,qZ,qY,qR,qX])
      exact ⟨⟨by decide,by decide⟩,h1,fin _ _ _ _ _ _ _ sxG hlG (by omega)⟩
   ·rw [Ah c2]
    have sxG:=SX0
    have hlG:=hl
    (simp only [qE])
    (push_cast only [qQ,kM,qP,qW,qV,qO,kN,qS,qZ,qY,qR,qX])
    split
    ·split
     ·refine ⟨h1,?_⟩
      (simp only [qE])
      (push_cast only [qQ,kM,qP,qW,qV,qO,kN,qS,qZ,qY,qR,qX])
      refine ⟨⟨h1,h2⟩,?_⟩
      (simp only [qE])
      (push_cast only [qQ,kM,qP,qW,qV,qO,kN,qS,qZ,qY,qR,qX])
      (simp only [qE])
      (push_cast only [qQ,kM,qP,qW,qV,qO,kN,qS,qZ,qY,qR,qX])
      exact fin _ _ _ _ _ _ _ sxG hlG (by omega)
     ·(simp only [qE])
      (push_cast only [qQ,kM,qP,qW,qV,qO,kN,qS,qZ,qY,qR,qX])
      (simp only [qE])
      (push_cast only [qQ,kM,qP,qW,qV,qO,kN,qS,qZ,qY,qR,qX])
      refine ⟨_,_,rfl,fun y0 u0 u1=>?_⟩
      (push_cast only [qQ,kM,qP,qW,qV,qO,kN,qS,qZ,qY,qR,qX])
      (simp only [qE])
      (push_cast only [qQ,kM,qP,qW,qV,qO,kN,qS,qZ,qY,qR,qX])
      refine ⟨_,_,rfl,fun y1 u2 u3=>?_⟩
      (push_cast only [qQ,kM,qP,qW,qV,qO,kN,qS,qZ,qY,qR,qX])
      exact ⟨⟨by decide,by decide⟩,h1,fin _ _ _ _ _ _ _ sxG hlG (by omega)⟩
    ·(simp only [qE])
     (push_cast only [qQ,kM,qP,qW,qV,qO,kN,qS,qZ,qY,qR,qX])
     (simp only [qE])
     (push_cast only [qQ,kM,qP,qW,qV,qO,kN,qS,qZ,qY,qR,qX])
     refine ⟨_,_,rfl,fun y0 u0 u1=>?_⟩
     (push_cast only [qQ,kM,qP,qW,qV,qO,kN,qS,qZ,qY,qR,qX])
     (simp only [qE])
     (push_cast only [qQ,kM,qP,qW,qV,qO,kN,qS,qZ,qY,qR,qX])
     refine ⟨_,_,rfl,fun y1 u2 u3=>?_⟩
     (push_cast only [qQ,kM,qP,qW,qV,qO,kN,qS,qZ,qY,qR,qX])
     exact ⟨⟨by decide,by decide⟩,h1,fin _ _ _ _ _ _ _ sxG hlG (by omega)⟩
  ·rw [Ah c1]
   have sxG:=SX0
   have hlG:=hl
   (simp only [qE])
   (push_cast only [qQ,kM,qP,qW,qV,qO,kN,qS,qZ,qY,qR,qX])
   split
   ·split
    ·refine ⟨h1,?_⟩
     (simp only [qE])
     (push_cast only [qQ,kM,qP,qW,qV,qO,kN,qS,qZ,qY,qR,qX])
     refine ⟨⟨h1,h2⟩,?_⟩
     (simp only [qE])
     (push_cast only [qQ,kM,qP,qW,qV,qO,kN,qS,qZ,qY,qR,qX])
     (simp only [qE])
     (push_cast only [qQ,kM,qP,qW,qV,qO,kN,qS,qZ,qY,qR,qX])
     exact fin _ _ _ _ _ _ _ sxG hlG (by omega)
    ·(simp only [qE])
     (push_cast only [qQ,kM,qP,qW,qV,qO,kN,qS,qZ,qY,qR,qX])
     (simp only [qE])
     (push_cast only [qQ,kM,qP,qW,qV,qO,kN,qS,qZ,qY,qR,qX])
     refine ⟨_,_,rfl,fun y0 u0 u1=>?_⟩
     (push_cast only [qQ,kM,qP,qW,qV,qO,kN,qS,qZ,qY,qR,qX])
     (simp only [qE])
     (push_cast only [qQ,kM,qP,qW,qV,qO,kN,qS,qZ,qY,qR,qX])
     refine ⟨_,_,rfl,fun y1 u2 u3=>?_⟩
     (push_cast only [qQ,kM,qP,qW,qV,qO,kN,qS,qZ,qY,qR,qX])
     exact ⟨⟨by decide,by decide⟩,h1,fin _ _ _ _ _ _ _ sxG hlG (by omega)⟩
   ·(simp only [qE])
    (push_cast only [qQ,kM,qP,qW,qV,qO,kN,qS,qZ,qY,qR,qX])
    (simp only [qE])
    (push_cast only [qQ,kM,qP,qW,qV,qO,kN,qS,qZ,qY,qR,qX])
    refine ⟨_,_,rfl,fun y0 u0 u1=>?_⟩
    (push_cast only [qQ,kM,qP,qW,qV,qO,kN,qS,qZ,qY,qR,qX])
    (simp only [qE])
    (push_cast only [qQ,kM,qP,qW,qV,qO,kN,qS,qZ,qY,qR,qX])
    refine ⟨_,_,rfl,fun y1 u2 u3=>?_⟩
    (push_cast only [qQ,kM,qP,qW,qV,qO,kN,qS,qZ,qY,qR,qX])
    exact ⟨⟨by decide,by decide⟩,h1,fin _ _ _ _ _ _ _ sxG hlG (by omega)⟩
noncomputable def lR (K:PySem.W.Frag):Sp:=fun vs H Q _=>∃ (a:Addr) (ns:List Int),vs=[.ref a]∧Scr K a ns H∧∀ (p l:Addr) (H':Hp),H p=none→H l=none→Same H H'→Spool H' p l→Q (.ref p) H'
theorem gR:FnScope ["_law_script"] ["_law_script"] (qI s__law_spool):=⟨rfl,rfl,rfl,by decide +kernel,rfl,by decide +kernel,by decide +kernel⟩
theorem oT (F:Fun K "_law_spool" "_law_spool" s__law_spool f fd) (hm:mg "_law_spool" = some (.ref f)) (hb:Binds K fd ["_law_script"] []) (T:Txt mg):j4 P w K mg base "_law_spool" ["_law_script"] 1 (lR K):=by
 refine kU F hm hb gR (fun vs H Q E h=>?_) (fun cdv A outer s H vs Q E hr h=>?_)
 ·obtain ⟨_,_,rfl,_⟩:=h;rfl
 ·obtain ⟨a,ns,rfl,hq,q⟩:=h
  have sc:=gR
  refine ⟨_,qM (q8 (pe_disp (xT jG (kZ listS0 rfl T.list_ uQ (nN (pv 0) qB)) (xT jG qD (xT jG qD (xT jG qD (xT jG qD (xT jG qD pps_nil)))))) rfl rfl (by decide) (by decide))),?_⟩
  rw [show L2.start ["_law_script"] [.ref a] = [some (.ref a)] from rfl]
  (push_cast only [])
  intro p np
  have sx:SameX p H (upd H p (HO.dK [])):=SameX.upd
  refine ⟨_,hq.keep np sx,fun l H2 nl s2 e2=>?_⟩
  have ep:=s2 p _ qF
  have nlp:l ≠ p:=fun z=>by rw [z,qF] at nl;cases nl
  refine ⟨ep,wF l 0 0 0 0 53,rfl,by show 6 ≤ 15;decide,?_⟩
  rw [show g8 [] (wF l 0 0 0 0 53)=wF l 0 0 0 0 53 from rfl]
  refine q p l _ np (by rw [q9 nlp] at nl;exact nl) (fun b o e=>?_) ⟨ns,0,0,0,0,53,qF,by rw [q9 nlp];exact e2,nlp,by decide⟩
  have nb:b ≠ p:=fun z=>by rw [z,np] at e;cases e
  rw [q9 nb]
  exact s2 _ _ (by rw [q9 nb];exact e)
end
noncomputable def jP:Nat→(Nat→Int)→Int
 | 0,_=>0
 | n + 1,f=>jP n f + f n
theorem jC {n:Nat}{f g:Nat→Int}(h:∀ i,i < n→f i=g i):jP n f=jP n g:=by
 induction n with
 | zero=>rfl
 | succ n ih=>show jP n f + f n=jP n g + g n;rw [ih fun i hi=>h i (by omega),h n (by omega)]
theorem gD (n:Nat)(f g:Nat→Int):jP n (fun i=>f i + g i)=jP n f + jP n g:=by
 induction n with
 | zero=>rfl
 | succ n ih=>show jP n (fun i=>f i + g i) + (f n + g n)=jP n f + f n + (jP n g + g n);rw [ih];omega
theorem zX (n:Nat)(k:Int)(f:Nat→Int):jP n (fun i=>k * f i)=k * jP n f:=by
 induction n with
 | zero=>show (0:Int)=k * 0;omega
 | succ n ih=>show jP n _ + _=k * (jP n f + f n);rw [ih,Int.mul_add]
theorem dH {n:Nat}{f:Nat→Int}(h:∀ i,i < n→f i=0):jP n f=0:=by
 induction n with
 | zero=>rfl
 | succ n ih=>show jP n f + f n=0;rw [ih fun i hi=>h i (by omega),h n (by omega)];rfl
theorem yR {n:Nat}{f:Nat→Int}{r:Nat}(hr:r < n)(h:∀ i,i < n→i ≠ r→f i=0):jP n f=f r:=by
 induction n with
 | zero=>omega
 | succ n ih =>
  show jP n f + f n=f r
  by_cases e:r=n
  ·subst e
   rw [dH fun i hi=>h i (by omega) (by omega)]
   omega
  ·rw [ih (by omega) fun i hi ne=>h i (by omega) ne,h n (by omega) (by omega)]
   omega
theorem tO {n:Nat}{f:Nat→Int}{r s:Nat}(hr:r < n)(hs:s < n)(ne:r ≠ s)(h:∀ i,i < n→i ≠ r→i ≠ s→f i=0):jP n f=f r + f s:=by
 have e:∀ i,i < n→f i=(if i=r then f r else 0) + (if i=s then f s else 0):=fun i hi=>by
  by_cases a:i=r
  ·subst a;rw [Ai rfl,Ah ne];omega
  ·by_cases b:i=s
   ·subst b;rw [Ah a,Ai rfl];omega
   ·rw [Ah a,Ah b,h i hi a b];rfl
 rw [jC e,gD,yR hr (fun i _ z=>Ah z),yR hs (fun i _ z=>Ah z),Ai rfl,Ai rfl]
noncomputable def sgn (i:Nat):Int:=if i % 2=0 then 1 else -1
theorem i4 (i:Nat):sgn (i + 1) = - sgn i:=by
 unfold sgn
 by_cases h:i % 2=0
 ·rw [Ai h,Ah (by omega)]
 ·rw [Ah h,Ai (by omega)];rfl
noncomputable def up (i a:Nat):Nat:=if a < i then a else a + 1
noncomputable def lE (M:Nat→Nat→Int)(i:Nat):Nat→Nat→Int:=fun a b=>M (up i a) (b + 1)
noncomputable def zK:Nat→(Nat→Nat→Int)→Int
 | 0,_=>1
 | n + 1,M=>jP (n + 1) fun i=>sgn i * M i 0 * zK n (lE M i)
noncomputable def qT {α:Type}(M:Nat→α)(r:Nat)(v:α):Nat→α:=fun a=>if a=r then v else M a
theorem jJ {α:Type}(M:Nat→α)(r:Nat)(v:α):qT M r v r=v:=Ai rfl
theorem jE {α:Type}(M:Nat→α){r a:Nat}(v:α)(h:a ≠ r):qT M r v a=M a:=Ah h
theorem zV {α:Type}(M:Nat→α){r s:Nat}(u v:α)(h:r ≠ s):qT (qT M r u) s v=qT (qT M s v) r u:=by
 funext a
 unfold qT
 by_cases x:a=r
 ·subst x;rw [Ah h,Ai rfl,Ai rfl]
 ·by_cases y:a=s
  ·subst y
   simp [x]
  ·simp [x,y]
theorem sC {α:Type}(M:Nat→α)(r:Nat)(u v:α):qT (qT M r u) r v=qT M r v:=by
 funext a
 unfold qT
 by_cases x:a=r
 ·rw [Ai x,Ai x]
 ·rw [Ah x,Ah x,Ah x]
theorem gE {α:Type}(M:Nat→α)(r:Nat):qT M r (M r)=M:=by
 funext a
 unfold qT
 by_cases x:a=r
 ·rw [Ai x,x]
 ·rw [Ah x]
theorem xJ:∀ (n:Nat) {M N:Nat→Nat→Int},(∀ i,i < n→∀ j,j < n→M i j=N i j)→zK n M=zK n N
 | 0,_,_,_=>rfl
 | n + 1,M,N,h=>by
  show jP (n + 1) _=jP (n + 1) _
  refine jC fun i hi=>?_
  rw [h i hi 0 (by omega),xJ n (M:=lE M i) (N:=lE N i) fun a ha j hj=>h (up i a) (by unfold up;split <;> omega) (j + 1) (by omega)]
theorem bM (M:Nat→Nat→Int)(r:Nat)(v:Nat→Int):lE (qT M r v) r=lE M r:=by
 funext a b
 show qT M r v (up r a) (b + 1)=M (up r a) (b + 1)
 rw [jE]
 unfold up
 split <;> omega
noncomputable def dn (i r:Nat):Nat:=if r < i then r else r - 1
theorem iI {i r a:Nat}(h:r ≠ i):up i a=r ↔ a=dn i r:=by
 unfold up dn
 split <;> split <;> omega
theorem nR (M:Nat→Nat→Int){i r:Nat}(h:r ≠ i)(v:Nat→Int):lE (qT M r v) i=qT (lE M i) (dn i r) fun b=>v (b + 1):=by
 funext a b
 show qT M r v (up i a) (b + 1)=_
 unfold qT
 by_cases x:a=dn i r
 ·rw [Ai x,Ai ((iI h).mpr x)]
 ·rw [Ah x,Ah (fun y=>x ((iI h).mp y))]
  rfl
theorem dn_lt {n i r:Nat}(hi:i < n + 1)(hr:r < n + 1)(h:r ≠ i):dn i r < n:=by
 unfold dn
 split <;> omega
theorem yQ:∀ (n:Nat) (M:Nat→Nat→Int) {r:Nat},r < n→∀ (x y:Int) (u v:Nat→Int),zK n (qT M r fun c=>x * u c + y * v c)=x * zK n (qT M r u) + y * zK n (qT M r v)
 | 0,_,_,h,_,_,_,_=>by omega
 | n + 1,M,r,hr,x,y,u,v=>by
  show jP (n + 1) _=x * jP (n + 1) _ + y * jP (n + 1) _
  rw [← zX,← zX,← gD]
  refine jC fun i hi=>?_
  by_cases e:r=i
  ·subst e
   rw [bM,bM,bM,jJ,jJ,jJ]
   generalize zK n (lE M r)=d
   show sgn r * (x * u 0 + y * v 0) * d=x * (sgn r * u 0 * d) + y * (sgn r * v 0 * d)
   generalize sgn r=s
   rw [Int.mul_add,Int.add_mul]
   congr 1
   ·rw [← Bl,← Bl,← Bl,Bn x s]
   ·rw [← Bl,← Bl,← Bl,Bn y s]
  ·rw [nR M e,nR M e,nR M e,jE M _ (fun z=>e z.symm),jE M _ (fun z=>e z.symm),jE M _ (fun z=>e z.symm)]
   rw [yQ n (lE M i) (dn_lt hi hr e) x y (fun b=>u (b + 1)) (fun b=>v (b + 1))]
   generalize zK n (qT (lE M i) (dn i r) fun b=>u (b + 1))=d1
   generalize zK n (qT (lE M i) (dn i r) fun b=>v (b + 1))=d2
   generalize sgn i * M i 0=s
   rw [Int.mul_add]
   congr 1
   ·rw [← Bl,← Bl,Bn s x]
   ·rw [← Bl,← Bl,Bn s y]
theorem m6:∀ (n:Nat) (M:Nat→Nat→Int) {r:Nat},r + 1 < n→M r=M (r + 1)→zK n M=0
 | 0,_,_,h,_=>by omega
 | n + 1,M,r,hr,he=>by
  show jP (n + 1) _=0
  rw [tO (r:=r) (s:=r + 1) (by omega) (by omega) (by omega) fun i hi h1 h2=>?_]
  ·have em:lE M r=lE M (r + 1):=by
    funext a b
    show M (up r a) (b + 1)=M (up (r + 1) a) (b + 1)
    unfold up
    by_cases x:a < r
    ·rw [Ai x,Ai (by omega)]
    ·rw [Ah x]
     by_cases y:a=r
     ·subst y
      rw [Ai (by omega),he]
     ·rw [Ah (by omega)]
   rw [em,← he,i4]
   generalize zK n (lE M (r + 1))=d
   generalize M r 0=m
   generalize sgn r=s
   rw [CH,CH]
   omega
  ·have:zK n (lE M i)=0:=by
    refine m6 n (lE M i) (r:=dn i r) ?_ ?_
    ·unfold dn
     split <;> omega
    ·funext b
     show M (up i (dn i r)) (b + 1)=M (up i (dn i r + 1)) (b + 1)
     rw [(iI h1.symm).mpr rfl,show up i (dn i r + 1)=r + 1 by unfold up dn;split <;> split <;> omega,he]
   rw [this,Bo]
theorem iT {n:Nat}(M:Nat→Nat→Int){r:Nat}(hr:r + 1 < n):zK n (qT (qT M r (M (r + 1))) (r + 1) (M r)) = - zK n M:=by
 have key:∀ u v:Nat→Int,zK n (qT (qT M r u) (r + 1) v) = - zK n (qT (qT M r v) (r + 1) u):=fun u v=>by
  have same:∀ w:Nat→Int,zK n (qT (qT M r w) (r + 1) w)=0:=fun w=>by
   refine m6 n _ hr ?_
   rw [jJ,jE _ _ (by omega),jJ]
  have lin1:∀ a b c:Nat→Int,zK n (qT (qT M r fun k=>a k + b k) (r + 1) c)=zK n (qT (qT M r a) (r + 1) c) + zK n (qT (qT M r b) (r + 1) c):=fun a b c=>by
   have h:=yQ n (qT M (r + 1) c) (r:=r) (by omega) 1 1 a b
   have nr:r + 1 ≠ r:=by omega
   rw [zV _ _ _ nr,zV _ _ _ nr,zV _ _ _ nr] at h
   simpa using h
  have lin2:∀ a b c:Nat→Int,zK n (qT (qT M r c) (r + 1) fun k=>a k + b k)=zK n (qT (qT M r c) (r + 1) a) + zK n (qT (qT M r c) (r + 1) b):=fun a b c=>by
   have h:=yQ n (qT M r c) (r:=r + 1) (by omega) 1 1 a b
   simpa using h
  have h:=same fun k=>u k + v k
  rw [lin1,lin2,lin2,same,same] at h
  omega
 rw [key]
 congr 2
 funext a
 unfold qT
 by_cases x:a=r + 1
 ·subst x
  simp
 ·by_cases y:a=r
  ·subst y
   simp
  ·simp [x,y]
theorem rV {n:Nat}:∀ (d:Nat) (M:Nat→Nat→Int) {p:Nat},p + d + 1 < n→M p=M (p + d + 1)→zK n M=0
 | 0,M,p,h,e=>m6 n M h e
 | d + 1,M,p,h,e=>by
  have s:=iT (n:=n) M (r:=p + d + 1) (by omega)
  have z:zK n (qT (qT M (p + d + 1) (M (p + d + 1 + 1))) (p + d + 1 + 1) (M (p + d + 1)))=0:=by
   refine rV d _ (p:=p) (by omega) ?_
   rw [jE _ _ (by omega),jE _ _ (by omega),jE _ _ (by omega),jJ,e]
   rfl
  omega
theorem xK {n:Nat}(M:Nat→Nat→Int){p q:Nat}(hp:p < n)(hq:q < n)(ne:p ≠ q)(e:M p=M q):zK n M=0:=by
 rcases Az p q with h | h
 ·have:=rV (n:=n) (q - p - 1) M (p:=p) (by omega) (by rw [show p + (q - p - 1) + 1=q by omega];exact e)
  exact this
 ·exact rV (n:=n) (p - q - 1) M (p:=q) (by omega) (by rw [show q + (p - q - 1) + 1=p by omega];exact e.symm)
theorem sxD_two {n:Nat}(M:Nat→Nat→Int){p q:Nat}(hp:p < n)(hq:q < n)(ne:p ≠ q)(u v:Nat→Int):zK n (qT (qT M p u) q v) = - zK n (qT (qT M p v) q u):=by
 have same:∀ w:Nat→Int,zK n (qT (qT M p w) q w)=0:=fun w=>by
  refine xK _ hp hq ne ?_
  rw [jJ,jE _ _ ne,jJ]
 have lin1:∀ a b c:Nat→Int,zK n (qT (qT M p fun k=>a k + b k) q c)=zK n (qT (qT M p a) q c) + zK n (qT (qT M p b) q c):=fun a b c=>by
  have h:=yQ n (qT M q c) (r:=p) hp 1 1 a b
  rw [zV _ _ _ ne.symm,zV _ _ _ ne.symm,zV _ _ _ ne.symm] at h
  simpa using h
 have lin2:∀ a b c:Nat→Int,zK n (qT (qT M p c) q fun k=>a k + b k)=zK n (qT (qT M p c) q a) + zK n (qT (qT M p c) q b):=fun a b c=>by
  have h:=yQ n (qT M p c) (r:=q) hq 1 1 a b
  simpa using h
 have h:=same fun k=>u k + v k
 rw [lin1,lin2,lin2,same,same] at h
 omega
theorem m4 {n:Nat}(M:Nat→Nat→Int){r:Nat}(hr:r < n)(k:Nat)(x:Nat→Int)(u:Nat→Nat→Int):zK n (qT M r fun c=>jP k fun i=>x i * u i c)=jP k fun i=>x i * zK n (qT M r (u i)):=by
 induction k with
 | zero =>
  show zK n (qT M r fun _=>0)=0
  have h:=yQ n M hr 0 0 (fun _=>0) (fun _=>0)
  simpa using h
 | succ k ih =>
  show zK n (qT M r fun c=>(jP k fun i=>x i * u i c) + x k * u k c)=(jP k fun i=>x i * zK n (qT M r (u i))) + x k * zK n (qT M r (u k))
  have h:=yQ n M hr 1 (x k) (fun c=>jP k fun i=>x i * u i c) (u k)
  rw [ih] at h
  simpa using h
theorem lL:∀ n:Nat,zK n (fun i j=>if i=j then 1 else 0)=1
 | 0=>rfl
 | n + 1=>by
  show jP (n + 1) _=1
  rw [yR (r:=0) (by omega) fun i _ ne=>by show sgn i * (if i=0 then 1 else 0) * _=0;rw [Ah ne,Bo,Co]]
  have:lE (fun i j=>if i=j then (1:Int) else 0) 0=fun i j=>if i=j then (1:Int) else 0:=by
   funext a b
   show (if up 0 a=b + 1 then (1:Int) else 0)=_
   unfold up
   rw [Ah (Nat.not_lt_zero a)]
   by_cases e:a=b
   ·rw [Ai e,Ai (by omega)]
   ·rw [Ah e,Ah (by omega)]
  rw [this,lL n]
  decide
structure Tab (m:Nat)(col:Nat→Nat→Int)(bs:Nat→Nat)(y:Int)(T:Nat→Nat→Int):Prop where
 pos:0 < y
 dt:zK m (fun i=>col (bs i))=y
 ent:∀ i j,i < m→zK m (qT (fun i=>col (bs i)) i (col j))=T i j
 span:∀ j k,k < m→y * col j k=jP m fun i=>T i j * col (bs i) k
theorem tW {m r c:Nat}{y:Int}{T T':Nat→Nat→Int}(hr:r < m)(h1:∀ j,T' r j=T r j)(h2:∀ i j,i < m→i ≠ r→y * T' i j=T i j * T r c - T i c * T r j)(f:Nat→Int)(fc:Int)(j:Nat) :
  y * jP m (fun i=>T' i j * qT f r fc i)=T r c * jP m (fun i=>T i j * f i) - T r j * jP m (fun i=>T i c * f i) + y * T r j * fc:=by
 have e:∀ i,i < m→y * (T' i j * qT f r fc i)=(T r c * (T i j * f i) + (- T r j) * (T i c * f i)) + (if i=r then y * T r j * fc else 0):=fun i hi=>by
  by_cases x:i=r
  ·subst x
   rw [jJ,Ai rfl,h1,← Bl]
   have:T i c * (T i j * f i) + -T i j * (T i c * f i)=0:=by
    rw [CH,BB (T i j) (T i c) (f i)]
    omega
   omega
  ·rw [jE _ _ x,Ah x,← Bl,h2 i j hi x,Int.sub_mul,CH]
   have a:T i j * T r c * f i=T r c * (T i j * f i):=by rw [Bn (T i j) (T r c),Bl]
   have b:T i c * T r j * f i=T r j * (T i c * f i):=by rw [Bn (T i c) (T r j),Bl]
   omega
 rw [← zX,jC e,gD,gD,zX,zX,yR hr (fun i _ x=>Ah x),Ai rfl,CH]
 omega
theorem Tab.piv {m:Nat}{col:Nat→Nat→Int}{bs:Nat→Nat}{y:Int}{T:Nat→Nat→Int}(h:Tab m col bs y T){r c:Nat}(hr:r < m)(p:0 < T r c) :
  ∃ T',Tab m col (qT bs r c) (T r c) T'∧(∀ j,T' r j=T r j)∧∀ i j,i < m→i ≠ r→y * T' i j=T i j * T r c - T i c * T r j:=by
 have eB:(fun i=>col (qT bs r c i))=qT (fun i=>col (bs i)) r (col c):=by
  funext i
  unfold qT
  by_cases x:i=r
  ·rw [Ai x,Ai x]
  ·rw [Ah x,Ah x]
 have t1:∀ j,zK m (qT (fun i=>col (qT bs r c i)) r (col j))=T r j:=fun j=>by
  rw [eB,sC,h.ent r j hr]
 have t2:∀ i j,i < m→i ≠ r→y * zK m (qT (fun i=>col (qT bs r c i)) i (col j))=T i j * T r c - T i c * T r j:=fun i j hi ne=>by
  rw [eB,zV _ _ _ (Cr ne)]
  generalize hB:(fun i=>col (bs i))=B
  have ent:∀ i j,i < m→zK m (qT B i (col j))=T i j:=by rw [← hB];exact h.ent
  have l1:y * zK m (qT (qT B i (col j)) r (col c))=zK m (qT (qT B i (col j)) r fun k=>y * col c k + 0 * col c k):=by
   rw [yQ m _ hr y 0 (col c) (col c)]
   omega
  have l2:zK m (qT (qT B i (col j)) r fun k=>y * col c k + 0 * col c k)=zK m (qT (qT B i (col j)) r fun k=>jP m fun a=>T a c * B a k):=by
   refine xJ m fun a ha k hk=>?_
   by_cases x:a=r
   ·subst x
    rw [jJ,jJ]
    have:=h.span c k hk
    rw [← hB]
    show y * col c k + 0 * col c k=jP m fun a=>T a c * col (bs a) k
    rw [← this]
    omega
   ·rw [jE _ _ x,jE _ _ x]
  rw [l1,l2,m4 _ hr m (fun a=>T a c) B,tO hr hi (Cr ne) fun a ha n1 n2=>?_]
  ·have e1:qT (qT B i (col j)) r (B r)=qT B i (col j):=by
    rw [zV _ _ _ ne,gE]
   have e2:zK m (qT (qT B i (col j)) r (B i)) = - T r j:=by
    rw [sxD_two B hi hr ne,gE,ent r j hr]
   rw [e1,e2,ent i j hi,Bn (T i j) (T r c),Int.mul_neg]
   omega
  ·have:zK m (qT (qT B i (col j)) r (B a))=0:=by
    refine xK _ hr ha (Cr n1) ?_
    rw [jJ,jE _ _ n1,jE _ _ n2]
   rw [this,Bo]
 refine ⟨fun i j=>zK m (qT (fun i=>col (qT bs r c i)) i (col j)),⟨p,?_,fun i j _=>rfl,fun j k hk=>?_⟩,t1,t2⟩
 ·rw [eB,h.ent r c hr]
 ·have s:=tW (m:=m) (y:=y) (T:=T) (T':=fun i j=>zK m (qT (fun i=>col (qT bs r c i)) i (col j))) (c:=c) hr t1 t2 (fun i=>col (bs i) k) (col c k) j
  have ek:(fun i=>zK m (qT (fun i=>col (qT bs r c i)) i (col j)) * qT (fun i=>col (bs i) k) r (col c k) i)=fun i=>zK m (qT (fun i=>col (qT bs r c i)) i (col j)) * col (qT bs r c i) k:=by
   funext i
   unfold qT
   by_cases x:i=r
   ·rw [Ai x,Ai x]
   ·rw [Ah x,Ah x]
  rw [ek,← h.span j k hk,← h.span c k hk] at s
  have y0:=h.pos
  refine Int.eq_of_mul_eq_mul_left (show y ≠ 0 by omega) ?_
  show y * (T r c * col j k)=y * jP m fun i=>zK m (qT (fun i=>col (qT bs r c i)) i (col j)) * col (qT bs r c i) k
  rw [s,BB (T r c) y,BB (T r j) y,Bl y (T r j)]
  omega
noncomputable def Yb (m:Nat)(col:Nat→Nat→Int)(bs:Nat→Nat):Int:=zK m (fun i=>col (bs i))
noncomputable def Tb (m:Nat)(col:Nat→Nat→Int)(bs:Nat→Nat)(i j:Nat):Int:=zK m (qT (fun i=>col (bs i)) i (col j))
noncomputable def Zb (m:Nat)(col:Nat→Nat→Int)(w:Nat→Int)(bs:Nat→Nat)(j:Nat):Int:=jP m (fun i=>w (bs i) * Tb m col bs i j) - Yb m col bs * w j
structure Gd (m n:Nat)(col:Nat→Nat→Int)(bs:Nat→Nat):Prop where
 tab:Tab m col bs (Yb m col bs) (Tb m col bs)
 fe:∀ i,i < m→0 ≤ Tb m col bs i n
 inn:∀ i,i < m→bs i < n
section
variable {m n:Nat}{col:Nat→Nat→Int}{w:Nat→Int}
theorem Gd.y {bs:Nat→Nat}(g:Gd m n col bs):0 < Yb m col bs:=g.tab.pos
theorem Gd.inj {bs:Nat→Nat}(g:Gd m n col bs){a b:Nat}(ha:a < m)(hb:b < m)(e:bs a=bs b):a=b:=by
 refine Decidable.byContradiction fun ne=>?_
 have:Yb m col bs=0:=xK _ ha hb ne (by show col (bs a)=col (bs b);rw [e])
 have:=g.y
 omega
theorem Tb_own (bs:Nat→Nat){a:Nat}:Tb m col bs a (bs a)=Yb m col bs:=by
 unfold Tb Yb
 rw [gE (fun i=>col (bs i)) a]
theorem Tb_other {bs:Nat→Nat}{a b:Nat}(ha:a < m)(hb:b < m)(ne:a ≠ b):Tb m col bs a (bs b)=0:=by
 refine xK _ ha hb ne ?_
 rw [jJ,jE _ _ (Cr ne)]
theorem Zb_own {bs:Nat→Nat}{a:Nat}(ha:a < m):Zb m col w bs (bs a)=0:=by
 unfold Zb
 rw [yR ha fun i hi ne=>by rw [Tb_other hi ha ne,Bo],Tb_own,Bn]
 omega
theorem yV {bs:Nat→Nat}(g:Gd m n col bs){r c:Nat}(hr:r < m)(p:0 < Tb m col bs r c) :
  Tab m col (qT bs r c) (Yb m col (qT bs r c)) (Tb m col (qT bs r c))∧Yb m col (qT bs r c)=Tb m col bs r c∧(∀ j,Tb m col (qT bs r c) r j=Tb m col bs r j) ∧
  ∀ i j,i < m→i ≠ r→Yb m col bs * Tb m col (qT bs r c) i j=Tb m col bs i j * Tb m col bs r c - Tb m col bs i c * Tb m col bs r j:=by
 obtain ⟨T',h1,h2,h3⟩:=g.tab.piv hr p
 have e:∀ i j,i < m→Tb m col (qT bs r c) i j=T' i j:=fun i j hi=>h1.ent i j hi
 have ey:Yb m col (qT bs r c)=Tb m col bs r c:=h1.dt
 refine ⟨⟨by rw [ey];exact p,rfl,fun i j _=>rfl,fun j k hk=>?_⟩,ey,fun j=>by rw [e r j hr,h2],fun i j hi ne=>by rw [e i j hi,h3 i j hi ne]⟩
 rw [ey,h1.span j k hk]
 exact jC fun i hi=>by rw [e i j hi]
theorem piv_z {bs:Nat→Nat}(g:Gd m n col bs){r c:Nat}(hr:r < m)(p:0 < Tb m col bs r c)(j:Nat) :
  Yb m col bs * Zb m col w (qT bs r c) j=Zb m col w bs j * Tb m col bs r c - Zb m col w bs c * Tb m col bs r j:=by
 obtain ⟨_,h1,h2,h3⟩:=yV g hr p
 have s:=tW (m:=m) (y:=Yb m col bs) (T:=Tb m col bs) (T':=Tb m col (qT bs r c)) (c:=c) hr h2 h3 (fun i=>w (bs i)) (w c) j
 have e1:jP m (fun i=>w (qT bs r c i) * Tb m col (qT bs r c) i j)=jP m (fun i=>Tb m col (qT bs r c) i j * qT (fun i=>w (bs i)) r (w c) i):=jC fun i _=>by
  rw [Bn]
  congr 1
  unfold qT
  by_cases x:i=r
  ·rw [Ai x,Ai x]
  ·rw [Ah x,Ah x]
 have e2:∀ k,jP m (fun i=>w (bs i) * Tb m col bs i k)=jP m (fun i=>Tb m col bs i k * w (bs i)):=fun k=>jC fun i _=>Bn _ _
 unfold Zb
 rw [Int.mul_sub,e1,s,h1,e2,e2,Int.sub_mul,Int.sub_mul]
 generalize jP m (fun i=>Tb m col bs i j * w (bs i))=A
 generalize jP m (fun i=>Tb m col bs i c * w (bs i))=B
 generalize Tb m col bs r c=p
 generalize Tb m col bs r j=q
 generalize Yb m col bs=y
 rw [Bn p A,Bn q B]
 have a:y * (p * w j)=y * w j * p:=by rw [Bn p,Bl]
 have b:y * q * w c=y * w c * q:=by rw [CC]
 omega
structure Stp (m n:Nat)(col:Nat→Nat→Int)(w:Nat→Int)(bs:Nat→Nat)(r c:Nat):Prop where
 cn:c < n
 neg:Zb m col w bs c < 0
 low:∀ j,j < c→0 ≤ Zb m col w bs j
 rm:r < m
 pos:0 < Tb m col bs r c
 near:∀ i,i < m→0 < Tb m col bs i c→Tb m col bs r n * Tb m col bs i c ≤ Tb m col bs i n * Tb m col bs r c
 tie:∀ i,i < m→0 < Tb m col bs i c→Tb m col bs r n * Tb m col bs i c=Tb m col bs i n * Tb m col bs r c→bs r ≤ bs i
theorem Stp.gd {bs:Nat→Nat}{r c:Nat}(s:Stp m n col w bs r c)(g:Gd m n col bs):Gd m n col (qT bs r c):=by
 obtain ⟨h0,h1,h2,h3⟩:=yV g s.rm s.pos
 refine ⟨h0,fun i hi=>?_,fun i hi=>?_⟩
 ·by_cases e:i=r
  ·subst e
   rw [h2]
   exact g.fe i hi
  ·have h:=h3 i n hi e
   have y0:=g.y
   have nn:0 ≤ Tb m col bs i n * Tb m col bs r c - Tb m col bs i c * Tb m col bs r n:=by
    rcases Dq 0 (Tb m col bs i c) with z | z
    ·have:=s.near i hi z
     rw [Bn (Tb m col bs r n)] at this
     omega
    ·have a:0 ≤ Tb m col bs i n * Tb m col bs r c:=Di (g.fe i hi) (CY s.pos)
     have b:Tb m col bs i c * Tb m col bs r n ≤ 0:=B8 z (g.fe r s.rm)
     omega
   rw [← h] at nn
   exact Int.nonneg_of_mul_nonneg_right nn y0
 ·unfold qT
  split
  ·exact s.cn
  ·exact g.inn i hi
theorem Stp.one {bs:Nat→Nat}{r c r' c':Nat}(g:Gd m n col bs)(s:Stp m n col w bs r c)(s':Stp m n col w bs r' c'):r=r'∧c=c':=by
 have ec:c=c':=by
  rcases BC c c' with z | z | z
  ·have:=s'.low c z;have:=s.neg;omega
  ·exact z
  ·have:=s.low c' z;have:=s'.neg;omega
 subst ec
 refine ⟨g.inj s.rm s'.rm ?_,rfl⟩
 have a:=s.near r' s'.rm s'.pos
 have b:=s'.near r s.rm s.pos
 have e:Tb m col bs r n * Tb m col bs r' c=Tb m col bs r' n * Tb m col bs r c:=by omega
 have x:=s.tie r' s'.rm s'.pos e
 have y:=s'.tie r s.rm s.pos e.symm
 omega
theorem Stp.out {bs:Nat→Nat}{r c:Nat}(s:Stp m n col w bs r c):∀ i,i < m→bs i ≠ c:=fun i hi e=>by
 have h:=s.neg
 rw [← e,Zb_own hi] at h
 omega
theorem Stp.up {bs:Nat→Nat}{r c:Nat}(g:Gd m n col bs)(s:Stp m n col w bs r c) :
  Zb m col w bs n * Yb m col (qT bs r c) ≤ Zb m col w (qT bs r c) n * Yb m col bs∧(Zb m col w bs n * Yb m col (qT bs r c)=Zb m col w (qT bs r c) n * Yb m col bs→Tb m col bs r n=0):=by
 obtain ⟨_,h1,_,_⟩:=yV g s.rm s.pos
 have h:=piv_z (w:=w) g s.rm s.pos n
 have z:Zb m col w bs c * Tb m col bs r n ≤ 0:=B8 (CY s.neg) (g.fe r s.rm)
 rw [h1,Bn (Zb m col w (qT bs r c) n)]
 refine ⟨by omega,fun e=>?_⟩
 have z0:Zb m col w bs c * Tb m col bs r n=0:=by omega
 rcases Int.mul_eq_zero.mp z0 with k | k
 ·have:=s.neg;omega
 ·exact k
end
theorem pC (m k:Nat)(f:Nat→Nat→Int):jP m (fun i=>jP k fun j=>f i j)=jP k fun j=>jP m fun i=>f i j:=by
 induction m with
 | zero=>exact (dH fun _ _=>rfl).symm
 | succ m ih =>
  show jP m (fun i=>jP k fun j=>f i j) + jP k (fun j=>f m j)=_
  rw [ih,← gD]
  rfl
theorem sgm_pos {m:Nat}{f:Nat→Int}(h:0 < jP m f):∃ i,i < m∧0 < f i:=by
 induction m with
 | zero=>exact absurd h (by show ¬ (0:Int) < 0;omega)
 | succ m ih =>
  by_cases z:0 < f m
  ·exact ⟨m,by omega,z⟩
  ·obtain ⟨i,hi,hf⟩:=ih (by have h':0 < jP m f + f m:=h;omega)
   exact ⟨i,by omega,hf⟩
theorem oJ:∀ (N:Nat) (f:Nat→Nat),(∀ k,k ≤ N→f k < N)→∃ p q,p < q∧q ≤ N∧f p=f q
 | 0,f,h=>absurd (h 0 (by omega)) (by omega)
 | N + 1,f,h=>by
  by_cases e:∃ k,k ≤ N∧f k=f (N + 1)
  ·obtain ⟨k,hk,ek⟩:=e
   exact ⟨k,N + 1,by omega,by omega,ek⟩
  ·have ne:∀ k,k ≤ N→f k ≠ f (N + 1):=fun k hk z=>e ⟨k,hk,z⟩
   obtain ⟨p,q,pq,qn,g⟩:=oJ N (fun k=>if f k=N then f (N + 1) else f k) fun k hk=>by
    show (if f k=N then f (N + 1) else f k) < N
    have a:=h k (by omega)
    have b:=h (N + 1) (by omega)
    have c:=ne k hk
    split <;> omega
   have g':(if f p=N then f (N + 1) else f p)=if f q=N then f (N + 1) else f q:=g
   have np:=ne p (by omega)
   have nq:=ne q qn
   refine ⟨p,q,pq,by omega,?_⟩
   split at g' <;> split at g' <;> omega
noncomputable def code (n:Nat):Nat→(Nat→Nat)→Nat
 | 0,_=>0
 | m + 1,f=>f m + n * code n m f
theorem uO {n:Nat}{f:Nat→Nat}:∀ m,(∀ i,i < m→f i < n)→code n m f < n ^ m
 | 0,_=>by show 0 < 1;omega
 | m + 1,h=>by
  have ih:=uO m fun i hi=>h i (by omega)
  have a:=h m (by omega)
  show f m + n * code n m f < n ^ (m + 1)
  have:n * (code n m f + 1) ≤ n * n ^ m:=Nat.mul_le_mul_left n ih
  rw [Ds,B4 (n ^ m) n]
  rw [Nat.mul_add] at this
  omega
theorem code_inj {n:Nat}{f g:Nat→Nat}:∀ m,(∀ i,i < m→f i < n)→(∀ i,i < m→g i < n)→code n m f=code n m g→∀ i,i < m→f i=g i
 | 0,_,_,_,i,hi=>by omega
 | m + 1,hf,hg,e,i,hi=>by
  have e':f m + n * code n m f=g m + n * code n m g:=e
  have a:=hf m (by omega)
  have b:=hg m (by omega)
  have e1:=AY (· % n) e'
  simp only [Nat.add_mul_mod_self_left,CP a,CP b] at e1
  by_cases x:i=m
  ·rw [x];exact e1
  ·refine code_inj m (fun i hi=>hf i (by omega)) (fun i hi=>hg i (by omega)) ?_ i (by omega)
   have:n * code n m f=n * code n m g:=by omega
   exact Nat.eq_of_mul_eq_mul_left (by omega) this
theorem vD {a b c d e f:Int}(hb:0 < b)(hd:0 < d)(hf:0 < f)(h1:a * d ≤ c * b)(h2:c * f ≤ e * d):a * f ≤ e * b:=by
 have x:a * d * f ≤ c * b * f:=Bu h1 (CY hf)
 have y:c * f * b ≤ e * d * b:=Bu h2 (CY hb)
 have z:a * f * d ≤ e * b * d:=by
  rw [CC a f d,CC e b d]
  rw [CC c f b] at y
  omega
 exact Int.le_of_mul_le_mul_right z hd
theorem a_max (C:Nat→Nat):∀ d,0 < d→∃ k1,k1 < d∧∀ k,k < d→C k ≤ C k1
 | 0,h=>by omega
 | 1,_=>⟨0,by omega,fun k hk=>by rw [show k=0 by omega];exact Ak _⟩
 | d + 2,_=>by
  obtain ⟨k1,h1,h2⟩:=a_max C (d + 1) (by omega)
  rcases Az (C k1) (C (d + 1)) with z | z
  ·refine ⟨d + 1,by omega,fun k hk=>?_⟩
   rcases Az k (d + 1) with y | y
   ·have:=h2 k y;omega
   ·rw [show k=d + 1 by omega];exact Ak _
  ·refine ⟨k1,by omega,fun k hk=>?_⟩
   rcases Az k (d + 1) with y | y
   ·exact h2 k y
   ·rw [show k=d + 1 by omega];exact z
section
variable {m n:Nat}{col:Nat→Nat→Int}{w:Nat→Int}
theorem cross_T {bs:Nat→Nat}(g:Gd m n col bs)(bs':Nat→Nat){a:Nat}(ha:a < m)(s:Nat):Yb m col bs * Tb m col bs' a s=jP m fun i=>Tb m col bs i s * Tb m col bs' a (bs i):=by
 unfold Tb
 generalize (fun i=>col (bs' i))=X
 have l1:Yb m col bs * zK m (qT X a (col s))=zK m (qT X a fun k=>Yb m col bs * col s k + 0 * col s k):=by
  rw [yQ m X ha _ 0 (col s) (col s)]
  omega
 have l2:zK m (qT X a fun k=>Yb m col bs * col s k + 0 * col s k)=zK m (qT X a fun k=>jP m fun i=>Tb m col bs i s * col (bs i) k):=by
  refine xJ m fun b hb k hk=>?_
  by_cases x:b=a
  ·subst x
   rw [jJ,jJ]
   have:=g.tab.span s k hk
   omega
  ·rw [jE _ _ x,jE _ _ x]
 rw [l1,l2,m4 X ha m (fun i=>Tb m col bs i s) (fun i=>col (bs i))]
 rfl
theorem cross_Z {bs:Nat→Nat}(g:Gd m n col bs)(bs':Nat→Nat)(s:Nat):Yb m col bs * Zb m col w bs' s - jP m (fun i=>Tb m col bs i s * Zb m col w bs' (bs i))=Yb m col bs' * Zb m col w bs s:=by
 have e1:Yb m col bs * jP m (fun a=>w (bs' a) * Tb m col bs' a s)=jP m fun i=>Tb m col bs i s * jP m fun a=>w (bs' a) * Tb m col bs' a (bs i):=by
  rw [← zX]
  have x:∀ a,a < m→Yb m col bs * (w (bs' a) * Tb m col bs' a s)=jP m fun i=>w (bs' a) * (Tb m col bs i s * Tb m col bs' a (bs i)):=fun a ha=>by
   rw [BB,cross_T g bs' ha s,zX]
  rw [jC x,pC]
  refine jC fun i _=>?_
  rw [← zX]
  refine jC fun a _=>?_
  rw [BB]
 have e2:jP m (fun i=>Tb m col bs i s * Zb m col w bs' (bs i))=(jP m fun i=>Tb m col bs i s * jP m fun a=>w (bs' a) * Tb m col bs' a (bs i)) + (- Yb m col bs') * jP m fun i=>w (bs i) * Tb m col bs i s:=by
  rw [← zX,← gD]
  refine jC fun i _=>?_
  unfold Zb
  rw [Int.mul_sub,CH,BB,Bn (w (bs i)) (Tb m col bs i s)]
  omega
 rw [e2]
 show Yb m col bs * (jP m (fun a=>w (bs' a) * Tb m col bs' a s) - Yb m col bs' * w s) - _=Yb m col bs' * (jP m (fun i=>w (bs i) * Tb m col bs i s) - Yb m col bs * w s)
 rw [Int.mul_sub,Int.mul_sub,e1,CH,BB (Yb m col bs) (Yb m col bs') (w s)]
 omega
theorem bland {b:Nat→Nat→Nat}{rr cc:Nat→Nat}(g:∀ k,Gd m n col (b k))(s:∀ k,Stp m n col w (b k) (rr k) (cc k))(nx:∀ k,b (k + 1)=qT (b k) (rr k) (cc k)):False:=by
 have far:∀ k a,m ≤ a→b k a=b 0 a:=fun k=>by
  induction k with
  | zero=>intro a _;rfl
  | succ k ih =>
   intro a ha
   rw [nx k,jE _ _ (by have:=(s k).rm;omega),ih a ha]
 obtain ⟨p,q,pq,_,e0⟩:=oJ (n ^ m) (fun k=>code n m (b k)) fun k _=>uO m (g k).inn
 have epq:b p=b q:=by
  funext a
  rcases Az a m with h | h
  ·exact code_inj m (g p).inn (g q).inn e0 a h
  ·rw [far p a h,far q a h]
 obtain ⟨d,hd,rfl⟩:∃ d,0 < d∧q=p + d:=⟨q - p,by omega,by omega⟩
 have per:∀ k,b (p + d + k)=b (p + k):=fun k=>by
  induction k with
  | zero=>exact epq.symm
  | succ k ih =>
   have s1:=s (p + d + k)
   rw [ih] at s1
   obtain ⟨x,y⟩:=Stp.one (g (p + k)) s1 (s (p + k))
   show b (p + d + k + 1)=b (p + k + 1)
   rw [nx,nx,ih,x,y]
 obtain ⟨a,ha⟩:∃ a:Nat→Nat→Nat,a=fun k=>b (p + k):=⟨_,rfl⟩
 obtain ⟨R,hR⟩:∃ R:Nat→Nat,R=fun k=>rr (p + k):=⟨_,rfl⟩
 obtain ⟨C,hC⟩:∃ C:Nat→Nat,C=fun k=>cc (p + k):=⟨_,rfl⟩
 have G:∀ k,Gd m n col (a k):=fun k=>by rw [ha];exact g (p + k)
 have S:∀ k,Stp m n col w (a k) (R k) (C k):=fun k=>by rw [ha,hR,hC];exact s (p + k)
 have N:∀ k,a (k + 1)=qT (a k) (R k) (C k):=fun k=>by rw [ha,hR,hC];exact nx (p + k)
 have P:∀ k,a (k + d)=a k:=fun k=>by
  rw [ha]
  show b (p + (k + d))=b (p + k)
  rw [← per k]
  congr 1
  omega
 have PN:∀ e k,a (k + e * d)=a k:=fun e=>by
  induction e with
  | zero=>intro k;rw [Nat.zero_mul];rfl
  | succ e ih=>intro k;rw [Nat.succ_mul,← Nat.add_assoc,P,ih]
 have PC:∀ k,C (k + d)=C k:=fun k=>by
  have h:=S (k + d)
  rw [P] at h
  exact (Stp.one (G k) h (S k)).2
 have mono:∀ k e,Zb m col w (a k) n * Yb m col (a (k + e)) ≤ Zb m col w (a (k + e)) n * Yb m col (a k):=fun k e=>by
  induction e with
  | zero=>exact BM _
  | succ e ih =>
   have u:=(Stp.up (G (k + e)) (S (k + e))).1
   rw [← N] at u
   exact vD (G k).y (G (k + e)).y (G (k + e + 1)).y ih u
 have deg:∀ k,Tb m col (a k) (R k) n=0:=fun k=>by
  obtain ⟨u1,u2⟩:=Stp.up (G k) (S k)
  rw [← N] at u1 u2
  have h:=mono (k + 1) (d - 1)
  rw [show k + 1 + (d - 1)=k + d by omega,P] at h
  exact u2 (by omega)
 obtain ⟨k1,hk1,mx⟩:=a_max C d hd
 have mxAll:∀ k,C k ≤ C k1:=fun k=>by
  have key:∀ e k,C (k + e * d)=C k:=fun e=>by
   induction e with
   | zero=>intro k;rw [Nat.zero_mul];rfl
   | succ e ih=>intro k;rw [Nat.succ_mul,← Nat.add_assoc,PC,ih]
  have:=mx (k % d) (C1 _ hd)
  rw [← key (k / d) (k % d),B4,Nat.mod_add_div] at this
  exact this
 have stay:∀ {j k:Nat},(∃ i,i < m∧a k i=j)→a k (R k) ≠ j→∃ i,i < m∧a (k + 1) i=j:=fun {j k} ⟨i,hi,e⟩ ne=>by
  refine ⟨i,hi,?_⟩
  rw [N,jE _ _ (fun z=>ne (by rw [← z];exact e)),e]
 obtain ⟨k2,hk2⟩:∃ k2,a k2 (R k2)=C k1:=by
  refine Ba fun no=>?_
  have nev:∀ k,a k (R k) ≠ C k1:=fun k z=>no ⟨k,z⟩
  have on:∀ e,∃ i,i < m∧a (k1 + 1 + e) i=C k1:=fun e=>by
   induction e with
   | zero=>exact ⟨R k1,(S k1).rm,by show a (k1 + 1) (R k1)=_;rw [N,jJ]⟩
   | succ e ih=>exact stay ih (nev _)
  obtain ⟨i,hi,e⟩:=on (d - 1)
  rw [show k1 + 1 + (d - 1)=k1 + d by omega,P] at e
  exact (S k1).out i hi e
 have s2:=S k2
 have lt2:C k2 < C k1:=by
  have h1:=mxAll k2
  have h2:C k2 ≠ C k1:=fun z=>s2.out (R k2) s2.rm (by rw [hk2,z])
  omega
 have cz:=cross_Z (w:=w) (G k2) (a k1) (C k2)
 have z1:0 ≤ Zb m col w (a k1) (C k2):=(S k1).low _ lt2
 have z2:Yb m col (a k1) * Zb m col w (a k2) (C k2) < 0:=Int.mul_neg_of_pos_of_neg (G k1).y s2.neg
 have z3:0 ≤ Yb m col (a k2) * Zb m col w (a k1) (C k2):=Di (CY (G k2).y) z1
 obtain ⟨i,hi,pi⟩:=sgm_pos (m:=m) (f:=fun i=>Tb m col (a k2) i (C k2) * Zb m col w (a k1) (a k2 i)) (by omega)
 have out1:∀ i',i' < m→a k1 i' ≠ a k2 i:=fun i' hi' z=>by
  have pi':0 < Tb m col (a k2) i (C k2) * Zb m col w (a k1) (a k2 i):=pi
  rw [← z,Zb_own hi',Bo] at pi'
  omega
 have ent:∃ k,C k=a k2 i:=by
  refine Ba fun no=>?_
  have nev:∀ k,C k ≠ a k2 i:=fun k z=>no ⟨k,z⟩
  have off:∀ e i',i' < m→a (k1 + e) i' ≠ a k2 i:=fun e=>by
   induction e with
   | zero=>exact out1
   | succ e ih =>
    intro i' hi'
    show a (k1 + e + 1) i' ≠ _
    rw [N]
    unfold qT
    split
    ·exact nev _
    ·exact ih i' hi'
  have h:=off (k2 + k1 * d - k1) i hi
  have le:k1 ≤ k2 + k1 * d:=AX (Nat.le_mul_of_pos_right k1 hd) (Nat.le_add_left _ _)
  rw [show k1 + (k2 + k1 * d - k1)=k2 + k1 * d by omega,PN] at h
  exact h rfl
 obtain ⟨k3,hk3⟩:=ent
 have le3:a k2 i ≤ C k1:=by rw [← hk3];exact mxAll k3
 have pi':0 < Tb m col (a k2) i (C k2) * Zb m col w (a k1) (a k2 i):=pi
 have ne3:a k2 i ≠ C k1:=fun z=>by
  have ei:i=R k2:=(G k2).inj hi s2.rm (by rw [z,hk2])
  rw [z,ei] at pi'
  have:=Int.mul_neg_of_pos_of_neg s2.pos (S k1).neg
  omega
 have z4:0 ≤ Zb m col w (a k1) (a k2 i):=(S k1).low _ (by omega)
 have tp:0 < Tb m col (a k2) i (C k2):=by
  refine Int.not_le.mp fun z=>?_
  have:=B8 z z4
  omega
 have zer:∀ e i',i' < m→a (k1 + e) i'=a k2 i→Tb m col (a (k1 + e)) i' n=0:=fun e=>by
  induction e with
  | zero=>intro i' hi' z;exact absurd z (out1 i' hi')
  | succ e ih =>
   intro i' hi' z
   have z':a (k1 + e + 1) i'=a k2 i:=z
   show Tb m col (a (k1 + e + 1)) i' n=0
   obtain ⟨_,_,f2,f3⟩:=yV (G (k1 + e)) (S (k1 + e)).rm (S (k1 + e)).pos
   rw [N] at z' ⊢
   by_cases x:i'=R (k1 + e)
   ·rw [x,f2,deg]
   ·rw [jE _ _ x] at z'
    have f:=f3 i' n hi' x
    rw [ih i' hi' z',deg,Co,Bo] at f
    have y0:=(G (k1 + e)).y
    rcases Int.mul_eq_zero.mp (show Yb m col (a (k1 + e)) * Tb m col (qT (a (k1 + e)) (R (k1 + e)) (C (k1 + e))) i' n=0 by omega) with k | k
    ·omega
    ·exact k
 have le:k1 ≤ k2 + k1 * d:=AX (Nat.le_mul_of_pos_right k1 hd) (Nat.le_add_left _ _)
 have t0:Tb m col (a k2) i n=0:=by
  have h:=zer (k2 + k1 * d - k1) i hi
  rw [show k1 + (k2 + k1 * d - k1)=k2 + k1 * d by omega,PN] at h
  exact h rfl
 have ti:=s2.tie i hi tp (by rw [deg,t0,Co,Co])
 rw [hk2] at ti
 omega
end
section
variable {m n:Nat}{col:Nat→Nat→Int}{w:Nat→Int}
noncomputable def rL (m n:Nat)(col:Nat→Nat→Int):Prop:=∀ j,j < n→(∀ k,k < m→0 ≤ col j k)∧∃ k,k < m∧0 < col j k
theorem sA {k:Nat}{f:Nat→Int}(h:∀ i,i < k→f i ≤ 0):jP k f ≤ 0:=by
 induction k with
 | zero=>exact BM _
 | succ k ih =>
  have a:=ih fun i hi=>h i (by omega)
  have b:=h k (by omega)
  show jP k f + f k ≤ 0
  omega
theorem pA {bs:Nat→Nat}(g:Gd m n col bs)(ok:rL m n col){c:Nat}(hc:c < n):∃ r,r < m∧0 < Tb m col bs r c:=by
 refine Ba fun no=>?_
 have le:∀ i,i < m→Tb m col bs i c ≤ 0:=fun i hi=>Int.not_lt.mp fun z=>no ⟨i,hi,z⟩
 obtain ⟨k,hk,pk⟩:=(ok c hc).2
 have h:=g.tab.span c k hk
 have a:jP m (fun i=>Tb m col bs i c * col (bs i) k) ≤ 0:=sA fun i hi=>B8 (le i hi) ((ok (bs i) (g.inn i hi)).1 k hk)
 have b:0 < Yb m col bs * col c k:=Int.mul_pos g.y pk
 omega
structure Low (T:Nat→Nat→Int)(bs:Nat→Nat)(n c i r:Nat):Prop where
 lt:r < i
 pos:0 < T r c
 near:∀ k,k < i→0 < T k c→T r n * T k c ≤ T k n * T r c
 tie:∀ k,k < i→0 < T k c→T r n * T k c=T k n * T r c→bs r ≤ bs k
theorem Low.more {T:Nat→Nat→Int}{bs:Nat→Nat}{n c i r:Nat}(h:Low T bs n c i r)(x:0 < T i c→T r n * T i c ≤ T i n * T r c∧(T r n * T i c=T i n * T r c→bs r ≤ bs i)):Low T bs n c (i + 1) r :=
 ⟨by have:=h.lt;omega,h.pos,fun k hk p=>by
  rcases Az k i with z | z
  ·exact h.near k z p
  ·have:k=i:=by omega
   subst this
   exact (x p).1,fun k hk p e=>by
  rcases Az k i with z | z
  ·exact h.tie k z p e
  ·have:k=i:=by omega
   subst this
   exact (x p).2 e⟩
theorem Low.first {T:Nat→Nat→Int}{bs:Nat→Nat}{n c i:Nat}(h:∀ k,k < i→T k c ≤ 0)(p:0 < T i c):Low T bs n c (i + 1) i :=
 ⟨by omega,p,fun k hk q=>by
  rcases Az k i with z | z
  ·have:=h k z;omega
  ·rw [show k=i by omega];exact BM _,fun k hk q _=>by
  rcases Az k i with z | z
  ·have:=h k z;omega
  ·rw [show k=i by omega];exact Ak _⟩
theorem Low.next {T:Nat→Nat→Int}{bs:Nat→Nat}{n c i r:Nat}(h:Low T bs n c i r)(p:0 < T i c)(x:T i n * T r c < T r n * T i c∨(T i n * T r c=T r n * T i c∧bs i < bs r)):Low T bs n c (i + 1) i:=by
 have le:T i n * T r c ≤ T r n * T i c:=by omega
 have tr:∀ k,k < i→0 < T k c→T i n * T k c ≤ T k n * T i c:=fun k hk q=>vD p h.pos q le (h.near k hk q)
 refine ⟨by omega,p,fun k hk q=>?_,fun k hk q e=>?_⟩
 ·rcases Az k i with z | z
  ·exact tr k z q
  ·rw [show k=i by omega];exact BM _
 ·rcases Az k i with z | z
  ·have nk:=h.near k z q
   have back:T r n * T i c ≤ T i n * T r c:=vD h.pos q p nk (by omega)
   have e1:T i n * T r c=T r n * T i c:=by omega
   have back2:T k n * T r c ≤ T r n * T k c:=vD q p h.pos (by omega) le
   have l1:bs r ≤ bs k:=h.tie k z q (by omega)
   rcases x with y | y
   ·omega
   ·omega
  ·rw [show k=i by omega];exact Ak _
theorem o9 {T:Nat→Nat→Int}{bs:Nat→Nat}{n c:Nat}:∀ i,(∀ k,k < i→T k c ≤ 0)∨∃ r,Low T bs n c i r
 | 0=>.inl fun k hk=>by omega
 | i + 1=>by
  rcases o9 (T:=T) (bs:=bs) (n:=n) (c:=c) i with h | ⟨r,h⟩
  ·rcases Dq 0 (T i c) with z | z
   ·exact .inr ⟨i,.first h z⟩
   ·refine .inl fun k hk=>?_
    rcases Az k i with y | y
    ·exact h k y
    ·rw [show k=i by omega];exact z
  ·rcases Dq 0 (T i c) with z | z
   ·by_cases x:T i n * T r c < T r n * T i c∨(T i n * T r c=T r n * T i c∧bs i < bs r)
    ·exact .inr ⟨i,h.next z x⟩
    ·exact .inr ⟨r,h.more fun _=>⟨by omega,fun e=>by omega⟩⟩
   ·exact .inr ⟨r,h.more fun y=>by omega⟩
inductive Run (m n:Nat)(col:Nat→Nat→Int)(w:Nat→Int):Nat→(Nat→Nat)→Prop
 | fin {bs:Nat→Nat}:(∀ j,j < n→0 ≤ Zb m col w bs j)→Run m n col w 0 bs
 | step {k:Nat} {bs:Nat→Nat} {r c:Nat}:Stp m n col w bs r c→Run m n col w k (qT bs r c)→Run m n col w (k + 1) bs
theorem mG {f:Nat→Int}:∀ n,(∀ j,j < n→0 ≤ f j)∨∃ c,c < n∧f c < 0∧∀ j,j < c→0 ≤ f j
 | 0=>.inl fun j hj=>by omega
 | n + 1=>by
  rcases mG (f:=f) n with h | ⟨c,h1,h2,h3⟩
  ·rcases Dq (f n) 0 with z | z
   ·exact .inr ⟨n,by omega,z,h⟩
   ·refine .inl fun j hj=>?_
    rcases Az j n with y | y
    ·exact h j y
    ·rw [show j=n by omega];exact z
  ·exact .inr ⟨c,by omega,h2,h3⟩
theorem Low.stp {bs:Nat→Nat}{r c:Nat}(hc:c < n)(z:Zb m col w bs c < 0)(lo:∀ j,j < c→0 ≤ Zb m col w bs j)(h:Low (Tb m col bs) bs n c m r):Stp m n col w bs r c:=⟨hc,z,lo,h.lt,h.pos,h.near,h.tie⟩
theorem run_or {bs:Nat→Nat}(g:Gd m n col bs)(ok:rL m n col):Run m n col w 0 bs∨∃ r c,Stp m n col w bs r c:=by
 rcases mG (f:=Zb m col w bs) n with h | ⟨c,h1,h2,h3⟩
 ·exact .inl (.fin h)
 ·refine .inr ?_
  rcases o9 (T:=Tb m col bs) (bs:=bs) (n:=n) (c:=c) m with h | ⟨r,h⟩
  ·obtain ⟨r,hr,p⟩:=pA g ok h1
   have:=h r hr
   omega
  ·exact ⟨r,c,h.stp h1 h2 h3⟩
theorem i9 {bs:Nat→Nat}(g:Gd m n col bs)(ok:rL m n col):∃ k,Run m n col w k bs:=by
 refine Ba fun no=>?_
 have nxt:∀ x:{ bs:Nat→Nat // Gd m n col bs∧¬ ∃ k,Run m n col w k bs },∃ (y:{ bs:Nat→Nat // Gd m n col bs∧¬ ∃ k,Run m n col w k bs }) (r c:Nat),Stp m n col w x.1 r c∧y.1=qT x.1 r c:=fun ⟨b,gb,nb⟩=>by
  rcases run_or (w:=w) gb ok with h | ⟨r,c,s⟩
  ·exact absurd ⟨0,h⟩ nb
  ·exact ⟨⟨qT b r c,s.gd gb,fun ⟨k,hk⟩=>nb ⟨k + 1,.step s hk⟩⟩,r,c,s,rfl⟩
 obtain ⟨F,hF⟩:=CG nxt
 obtain ⟨R,hR⟩:=CG hF
 obtain ⟨C,hC⟩:=CG hR
 let q:Nat→{ bs:Nat→Nat // Gd m n col bs∧¬ ∃ k,Run m n col w k bs }:=fun k=>Nat.rec ⟨bs,g,no⟩ (fun _ x=>F x) k
 exact bland (b:=fun k=>(q k).1) (rr:=fun k=>R (q k)) (cc:=fun k=>C (q k)) (fun k=>(q k).2.1) (fun k=>(hC (q k)).1) (fun k=>(hC (q k)).2)
theorem Run.pos {k:Nat}{bs:Nat→Nat}{c:Nat}(h:Run m n col w k bs)(hc:c < n)(z:Zb m col w bs c < 0):∃ k' r c',k=k' + 1∧Stp m n col w bs r c'∧Run m n col w k' (qT bs r c'):=by
 cases h with
 | fin f=>have:=f c hc;omega
 | step s r=>exact ⟨_,_,_,rfl,s,r⟩
end
section
variable {m n P:Nat}{col:Nat→Nat→Int}{w:Nat→Int}
noncomputable def Unit' (m P:Nat)(col:Nat→Nat→Int):Prop:=∀ k,k < m→∀ i,i < m→col (P + k) i=if k=i then 1 else 0
theorem rE (u:Unit' m P col)(X:Nat→Nat→Int){a:Nat}(ha:a < m)(j:Nat):zK m (qT X a (col j))=jP m fun k=>col j k * zK m (qT X a (col (P + k))):=by
 rw [← m4 X ha m (fun k=>col j k) (fun k=>col (P + k))]
 refine xJ m fun b hb i hi=>?_
 by_cases x:b=a
 ·subst x
  rw [jJ,jJ,yR hi fun k hk ne=>by rw [u k hk i hi,Ah ne,Bo],u i hi i hi,Ai rfl,Cz]
 ·rw [jE _ _ x,jE _ _ x]
theorem vZ (u:Unit' m P col):Yb m col (fun i=>P + i)=1:=by
 rw [← lL m]
 exact xJ m fun i hi j hj=>u i hi j hj
theorem cD (u:Unit' m P col){i:Nat}(hi:i < m)(j:Nat):Tb m col (fun i=>P + i) i j=col j i:=by
 unfold Tb
 rw [rE u _ hi j,yR hi fun k hk ne=>?_]
 ·have:=vZ u
  unfold Yb at this
  rw [gE (fun i=>col (P + i)) i,this,Cz]
 ·rw [xK _ hi hk (Cr ne) (by rw [jJ,jE _ _ ne]),Bo]
theorem first_gd (u:Unit' m P col)(hn:n=P + m)(nn:∀ k,k < m→0 ≤ col n k):Gd m n col (fun i=>P + i):=by
 refine ⟨⟨by rw [vZ u];decide,rfl,fun i j _=>rfl,fun j k hk=>?_⟩,fun i hi=>by rw [cD u hi];exact nn i hi,fun i hi=>by omega⟩
 rw [vZ u,C0,yR hk fun i hi ne=>by rw [u i hi k hk,Ah ne,Bo],cD u hk,u k hk k hk,Ai rfl,Cz]
theorem Zb_first (u:Unit' m P col)(w0:∀ k,k < m→w (P + k)=0)(j:Nat):Zb m col w (fun i=>P + i) j = - w j:=by
 unfold Zb
 rw [vZ u,dH fun i hi=>by rw [w0 i hi,Co]]
 omega
theorem rG (u:Unit' m P col)(w0:∀ k,k < m→w (P + k)=0)(bs:Nat→Nat)(j:Nat):Zb m col w bs j=jP m (fun k=>col j k * Zb m col w bs (P + k)) - Yb m col bs * w j:=by
 have e:jP m (fun k=>col j k * Zb m col w bs (P + k))=jP m (fun i=>w (bs i) * Tb m col bs i j):=by
  have a:∀ k,k < m→col j k * Zb m col w bs (P + k)=jP m fun i=>w (bs i) * (col j k * Tb m col bs i (P + k)):=fun k hk=>by
   unfold Zb
   rw [w0 k hk,Bo,Dr,← zX]
   exact jC fun i _=>BB _ _ _
  rw [jC a,pC]
  refine jC fun i hi=>?_
  rw [zX]
  congr 1
  exact (rE u _ hi j).symm
 rw [e]
 rfl
end
section
variable {P:Program}{w:World}{K:PySem.W.Frag}{mg:Str→Option Value}{base:Heap}{f:Addr}{fd:FuncData}
noncomputable def z9 (n:Nat)(f:Nat→Int):List V:=(List.range (n + 1)).map fun j=>V.int (f j)
theorem xR (n:Nat)(f:Nat→Int):(z9 n f).length=n + 1:=by unfold z9;rw [Aa,Ar]
theorem dQ {n:Nat}(f:Nat→Int){j:Nat}(h:j ≤ n):(z9 n f)[j]? = some (V.int (f j)):=by
 unfold z9
 rw [Ad,AM (by omega)]
 rfl
theorem gF {n:Nat}(f:Nat→Int){j:Nat}(h:j ≤ n):xH (z9 n f) (j:Int)=some (V.int (f j)):=zO (dQ f h)
theorem fH (n:Nat)(f:Nat→Int):xH (z9 n f) (-1)=some (V.int (f n)):=by
 unfold z9
 rw [AO,Ae]
 exact L2.atI_last _ _
theorem x8 {n:Nat}{f g:Nat→Int}(h:∀ j,j ≤ n→f j=g j):z9 n f=z9 n g:=by
 unfold z9
 exact Bj fun j hj=>by rw [h j (by have:=AD.mp hj;omega)]
theorem p0 (xs:List V):zI xs none (some (-1))=xs.dropLast:=by
 unfold zI
 have h1:HT.sIx xs.length xs.length (some (-1))=xs.length - 1:=by
  unfold HT.sIx
  simp only [show ((-1:Int) < 0)=True by decide,Cv]
  omega
 rw [HT.sIx_none,h1,CL,Dd,List.dropLast_eq_take]
theorem oA (n:Nat)(f:Nat→Int):(z9 n f).dropLast=(List.range n).map fun j=>V.int (f j):=by
 unfold z9
 rw [AO,Ae]
 exact List.dropLast_concat
structure IsTab (m n:Nat)(F:Nat→Nat→Int)(H:Hp)(t:Addr)(as:List Addr):Prop where
 len:as.length=m + 1
 tab:H t=some (.lst (as.map V.ref))
 row:∀ (i:Nat) (a:Addr),as[i]? = some a→H a=some (.lst (z9 n (F i)))
theorem IsTab.same {m n:Nat}{F:Nat→Nat→Int}{H H':Hp}{t:Addr}{as:List Addr}(h:IsTab m n F H t as)(s:Same H H'):IsTab m n F H' t as:=⟨h.len,s _ _ h.tab,fun i a e=>s _ _ (h.row i a e)⟩
theorem IsTab.at {m n:Nat}{F:Nat→Nat→Int}{H:Hp}{t:Addr}{as:List Addr}(h:IsTab m n F H t as){i:Nat}(hi:i ≤ m):∃ a,as[i]? = some a∧xH (as.map V.ref) (i:Int)=some (V.ref a)∧sq H a=some (z9 n (F i))∧H a=some (.lst (z9 n (F i))):=by
 have hl:=h.len
 have e:as[i]? = some (as[i]'(by omega)):=Af (by omega)
 exact ⟨_,e,zO (by rw [Ad,e];rfl),kF (h.row i _ e),h.row i _ e⟩
theorem IsTab.last {m n:Nat}{F:Nat→Nat→Int}{H:Hp}{t:Addr}{as:List Addr}(h:IsTab m n F H t as):∃ a,as[m]? = some a∧xH (as.map V.ref) (-1)=some (V.ref a)∧sq H a=some (z9 n (F m))∧H a=some (.lst (z9 n (F m))):=by
 obtain ⟨a,e,_,e2,e3⟩:=h.at (Ak m)
 refine ⟨a,e,?_,e2,e3⟩
 have hl:=h.len
 have:as.map V.ref=(as.take m).map V.ref ++ [V.ref a]:=by
  have z:as=as.take m ++ [a]:=by
   have d:as.drop m=[a]:=by
    rw [List.drop_eq_getElem_cons (by omega)]
    rw [Af (by omega)] at e
    injection e with e
    rw [e,List.drop_of_length_le (by omega)]
   rw [← d,BS]
  have:=AY (List.map V.ref) z
  rw [Ae] at this
  exact this
 rw [this]
 exact L2.atI_last _ _
noncomputable def vN:Sp:=fun vs H Q _=>∃ (t:Addr) (m n:Nat) (F:Nat→Nat→Int) (as:List Addr),vs=[.ref t]∧IsTab m n F H t as∧∀ H',Same H H'→((∀ j,j < n→0 ≤ F m j)→Q .non H')∧∀ c:Nat,c < n→F m c < 0→(∀ j,j < c→0 ≤ F m j)→Q (.int (c:Int)) H'
noncomputable def EI (l t:Addr)(xs:List V)(F:Nat→Nat→Int)(m:Nat)(G:Hp)(i:Nat)(σ:St)(H:Hp):Prop:=∃ v1 v2:Option V,σ=[some (.ref t),v1,v2]∧Same G H∧H l=some (.lst xs)∧∀ j,j < i→0 ≤ F m j
theorem fZ:FnScope ["table", "column", "number"] ["table"] (qI s_entering):=⟨rfl,rfl,rfl,by decide +kernel,rfl,by decide +kernel,by decide +kernel⟩
theorem pM (F:Fun K "entering" "entering" s_entering f fd) (hm:mg "entering" = some (.ref f)) (hb:Binds K fd ["table"] []) (T:Txt mg):j4 P w K mg base "entering" ["table"] 1 vN:=by
 refine kU F hm hb fZ (fun vs H Q E h=>?_) (fun cdv A outer s H vs Q E hr h=>?_)
 ·obtain ⟨_,_,_,_,_,rfl,_⟩:=h;rfl
 ·obtain ⟨t,m,n,F',as,rfl,ht,q⟩:=h
  have sc:=fZ
  obtain ⟨a,_,e2,e3,e4⟩:=ht.last
  have hs:=kF ht.tab
  refine ⟨_,jI (yK Bs rfl (dU rfl T.enumerate_ (qA (jH rZ (kL z6 (pv 0) (vH yG qD) (fun _ _=>rfl)) jT (jN (vH yG qD))) qB)) (kK (n:=2) rfl (qJ (qH (i:=1) sc.nd rfl (Or.inl rfl)) (qJ (qH (i:=2) sc.nd rfl (Or.inl rfl)) kJ))) (qM (jV (kD xU (pv 2) qD (kA _)) (qM (q8 (pv 1))) kW))) (qM (q8 nK)),?_⟩
  rw [show L2.start ["table", "column", "number"] [.ref t] = [some (.ref t),none,none] from rfl]
  (push_cast only [hs,e2,e4])
  intro l nl
  rw [p0,oA]
  refine ⟨_,_,.inl ⟨rfl,qF⟩,uI (EI l t ((List.range n).map fun j=>V.int (F' m j)) F' m H) ⟨none,none,rfl,kI nl,qF,fun j hj=>by omega⟩ (fun i σ H2 ⟨_,_,_,_,s,_⟩=>.inl ⟨rfl,s⟩) ?_ ?_⟩
  ·rintro i v T' σ H1 H2 hv ⟨v1,v2,rfl,s1,e1,lo⟩ nT s2 eT
   rw [Ad] at hv
   obtain ⟨x,hx,rfl⟩:=Al.mp hv
   obtain ⟨hi,hx⟩:=Ag.mp hx
   rw [Dj] at hx
   subst hx
   rw [Ar] at hi
   (push_cast only [eT])
   by_cases z:F' m i < 0
   ·rw [Ai z]
    exact (q H2 (s1.trans s2)).2 i hi z lo
   ·rw [Ah z]
    exact ⟨_,_,rfl,s1.trans s2,s2 _ _ e1,fun j hj=>by
     rcases Az j i with y | y
     ·exact lo j y
     ·rw [show j=i by omega];omega⟩
  ·rintro σ H1 ⟨v1,v2,rfl,s1,e1,lo⟩
   rw [Aa,Ar] at lo
   (push_cast only [])
   exact (q H1 s1).1 lo
noncomputable def Chs (m:Nat)(bs:Nat→Nat)(H:Hp)(c:Addr):Prop:=H c=some (.lst ((List.range m).map fun i=>V.int (bs i:Int)))
theorem chs_at {m:Nat}(bs:Nat→Nat){i:Nat}(h:i < m):xH ((List.range m).map fun i=>V.int (bs i:Int)) (i:Int)=some (V.int (bs i:Int)):=zO (by rw [Ad,AM h];rfl)
noncomputable def Bnd (m n:Nat)(F:Nat→Nat→Int):Prop:=∀ i j,i < m→j ≤ n→-3628800 ≤ F i j∧F i j ≤ 3628800
noncomputable def o6 (F:Nat→Nat→Int)(bs:Nat→Nat)(n c one other:Nat):Bool:=decide (F one n * F other c < F other n * F one c∨(F one n * F other c=F other n * F one c∧bs one < bs other))
noncomputable def tJ:Sp:=fun vs H Q _=>∃ (t ch:Addr) (m n:Nat) (F:Nat→Nat→Int) (as:List Addr) (bs:Nat→Nat) (c one other:Nat),vs=[.ref t,.ref ch,.int (c:Int),.int (one:Int),.int (other:Int)]∧IsTab m n F H t as∧Chs m bs H ch∧Bnd m n F∧c < n∧one < m∧other < m∧Q (.bl (o6 F bs n c one other)) H
theorem vR:FnScope ["table", "chosen", "column", "one", "other", "mine", "others"] ["table", "chosen", "column", "one", "other"] (qI s_bounds_more):=⟨rfl,rfl,rfl,by decide +kernel,rfl,by decide +kernel,by decide +kernel⟩
theorem ok_more (F:Fun K "bounds_more" "bounds_more" s_bounds_more f fd) (hm:mg "bounds_more" = some (.ref f)) (hb:Binds K fd ["table", "chosen", "column", "one", "other"] []) (T:Txt mg):j4 P w K mg base "bounds_more" ["table", "chosen", "column", "one", "other"] 1 tJ:=by
 refine kU F hm hb vR (fun vs H Q E h=>?_) (fun cdv A outer s H vs Q E hr h=>?_)
 ·obtain ⟨_,_,_,_,_,_,_,_,_,_,rfl,_⟩:=h;rfl
 ·obtain ⟨t,ch,m,n,F',as,bs,c,one,other,rfl,ht,hc,bd,cn,om,tm,q⟩:=h
  have sc:=vR
  obtain ⟨a,_,a2,a3,a4⟩:=ht.at (i:=one) (by omega)
  obtain ⟨b,_,b2,b3,b4⟩:=ht.at (i:=other) (by omega)
  have hs:=kF ht.tab
  have hs2:=kF hc
  have ro:=fH n (F' one)
  have rt:=fH n (F' other)
  have co:=gF (F' one) (show c ≤ n by omega)
  have ct:=gF (F' other) (show c ≤ n by omega)
  have c1:=chs_at bs om
  have c2:=chs_at bs tm
  have z1:=bd one n om (Ak n)
  have z2:=bd other n tm (Ak n)
  refine ⟨_,jI (kQ (i:=5) sc.nd rfl (Or.inl rfl) (qN jU (kL z6 (kL z6 (pv 0) (pv 3) (fun _ _=>rfl)) (vH yG qD) (fun _ _=>rfl)) (kL z6 (kL z6 (pv 0) (pv 4) (fun _ _=>rfl)) (pv 2) (fun _ _=>rfl)))) (jI (kQ (i:=6) sc.nd rfl (Or.inl rfl) (qN jU (kL z6 (kL z6 (pv 0) (pv 4) (fun _ _=>rfl)) (vH yG qD) (fun _ _=>rfl)) (kL z6 (kL z6 (pv 0) (pv 3) (fun _ _=>rfl)) (pv 2) (fun _ _=>rfl)))) (qM (q8 (pe_or (jK xU (pv 5) (pv 6) (kA _)) (yL (zY (jK jR (pv 5) (pv 6) (kA _)) (yL (jK xU (kL z6 (pv 1) (pv 3) (fun _ _=>rfl)) (kL z6 (pv 1) (pv 4) (fun _ _=>rfl)) (kA _))))))))),?_⟩
  rw [show L2.start ["table", "chosen", "column", "one", "other", "mine", "others"] [.ref t,.ref ch,.int (c:Int),.int (one:Int),.int (other:Int)] = [some (.ref t),some (.ref ch),some (.int (c:Int)),some (.int (one:Int)),some (.int (other:Int)),none,none] from rfl]
  (push_cast only [hs,hs2,a2,a3,b2,b3,ro,rt,co,ct,c1,c2])
  have z3:=bd one c om (by omega)
  have z4:=bd other c tm (by omega)
  refine ⟨.inl ⟨by omega,by omega⟩,.inl ⟨by omega,by omega⟩,?_⟩
  unfold o6 at q
  by_cases x:F' one n * F' other c < F' other n * F' one c
  ·rw [Ai x]
   rw [Ax (.inl x)] at q
   exact q
  ·rw [Ah x]
   by_cases y:F' one n * F' other c=F' other n * F' one c
   ·rw [Ai y]
    have e:decide (F' one n * F' other c < F' other n * F' one c∨F' one n * F' other c=F' other n * F' one c∧bs one < bs other)=decide ((bs one:Int) < (bs other:Int)):=by
     rw [decide_eq_decide]
     constructor
     ·rintro (k | k)
      ·exact absurd k x
      ·omega
     ·intro k
      exact .inr ⟨y,by omega⟩
    rw [← e]
    exact q
   ·rw [Ah y]
    rw [Aw (fun k=>by rcases k with k | k;exact x k;exact y k.1)] at q
    exact q
noncomputable def gY:Sp:=fun vs H Q _=>∃ (t ch:Addr) (m n:Nat) (F:Nat→Nat→Int) (as:List Addr) (bs:Nat→Nat) (c:Nat),vs=[.ref t,.ref ch,.int (c:Int)]∧IsTab m n F H t as∧Chs m bs H ch∧Bnd m n F∧c < n∧(∃ k,k < m∧0 < F k c)∧∀ (r:Nat) (H':Hp),Same H H'→Low F bs n c m r→Q (.int (r:Int)) H'
noncomputable def bestV:Option Nat→V
 | none=>.non
 | some r=>.int (r:Int)
noncomputable def LI (l t ch:Addr)(xs:List V)(F:Nat→Nat→Int)(bs:Nat→Nat)(n c:Nat)(G:Hp)(i:Nat)(σ:St)(H:Hp):Prop:=∃ (v1 v2:Option V) (o:Option Nat),σ=[some (.ref t),some (.ref ch),some (.int (c:Int)),some (bestV o),v1,v2]∧Same G H∧H l=some (.lst xs)∧(match o with | none=>∀ k,k < i→F k c ≤ 0 | some r=>Low F bs n c i r)
theorem bA:FnScope ["table", "chosen", "column", "best", "at", "row"] ["table", "chosen", "column"] (qI s_leaving):=⟨rfl,rfl,rfl,by decide +kernel,rfl,by decide +kernel,by decide +kernel⟩
theorem sH (F:Fun K "leaving" "leaving" s_leaving f fd) (hm:mg "leaving" = some (.ref f)) (hb:Binds K fd ["table", "chosen", "column"] []) (T:Txt mg) (c_bounds_more:j4 P w K mg base "bounds_more" ["table", "chosen", "column", "one", "other"] 1 tJ):j4 P w K mg base "leaving" ["table", "chosen", "column"] 2 gY:=by
 refine kU F hm hb bA (fun vs H Q E h=>?_) (fun cdv A outer s H vs Q E hr h=>?_)
 ·obtain ⟨_,_,_,_,_,_,_,_,rfl,_⟩:=h;rfl
 ·obtain ⟨t,ch,m,n,F',as,bs,c,rfl,ht,hc,bd,cn,ex,q⟩:=h
  have sc:=bA
  have htb:=ht.tab
  refine ⟨_,jI (kQ (i:=3) sc.nd rfl (Or.inl rfl) nK) (jI (yK Bs rfl (dU rfl T.enumerate_ (qA (jH rZ (pv 0) jT (jN (vH yG qD))) qB)) (kK (n:=2) rfl (qJ (qH (i:=4) sc.nd rfl (Or.inl rfl)) (qJ (qH (i:=5) sc.nd rfl (Or.inl rfl)) kJ))) (qM (jV (PW.pt (nG (kD mD (kL z6 (pv 5) (pv 2) (fun _ _=>rfl)) qD (kA _)) (wG (PW.pt (yA (kD op_isN (pv 3) nK (kA _)) (yJ (jQ (qU c_bounds_more hr (qA (pv 0) (qA (pv 1) (qA (pv 2) (qA (pv 4) (qA (pv 3) qB))))))))))))) (qM (kQ (i:=3) sc.nd rfl (Or.inl rfl) (pv 4))) kW))) (qM (q8 (pv 3)))),?_⟩
  rw [show L2.start ["table", "chosen", "column", "best", "at", "row"] [.ref t,.ref ch,.int (c:Int)] = [some (.ref t),some (.ref ch),some (.int (c:Int)),none,none,none] from rfl]
  (push_cast only [htb])
  intro l nl
  have hl:=ht.len
  rw [p0]
  have ed:(as.map V.ref).dropLast=(as.take m).map V.ref:=by rw [List.dropLast_eq_take,Aa,hl,CB];rfl
  rw [ed]
  refine ⟨_,_,.inl ⟨rfl,qF⟩,uI (LI l t ch ((as.take m).map V.ref) F' bs n c H) ⟨none,none,none,rfl,kI nl,qF,fun k hk=>by omega⟩ (fun i σ H2 ⟨_,_,_,_,_,s,_⟩=>.inl ⟨rfl,s⟩) ?_ ?_⟩
  ·rintro i v T' σ H1 H2 hv ⟨v1,v2,o,rfl,s1,e1,lo⟩ nT s2 eT
   rw [Ad] at hv
   obtain ⟨a,hx,rfl⟩:=Al.mp hv
   have hi:i < m:=by
    have:=(Ag.mp hx).1
    rw [Aq] at this
    omega
   rw [CD,Ai hi] at hx
   have S2:=s1.trans s2
   have ht2:=ht.same S2
   have ra:=kF (ht2.row i a hx)
   have rc:=gF (F' i) (show c ≤ n by omega)
   (push_cast only [eT,ra,rc])
   by_cases z:0 < F' i c
   ·rw [Ai z]
    cases o with
    | none =>
     rw [Ai (show bestV none=V.non from rfl)]
     exact ⟨_,_,some i,rfl,S2,s2 _ _ e1,.first lo z⟩
    | some r =>
     rw [Ah (by show ¬ (V.int (r:Int)=V.non);exact fun k=>nomatch k)]
     have lo':Low F' bs n c i r:=lo
     have rl:=lo'.lt
     refine ⟨t,ch,m,n,F',as,bs,c,i,r,rfl,ht2,S2 _ _ hc,bd,cn,hi,by omega,_,rfl,?_⟩
     unfold o6
     by_cases x:F' i n * F' r c < F' r n * F' i c∨F' i n * F' r c=F' r n * F' i c∧bs i < bs r
     ·rw [Ax x,Ai rfl]
      exact ⟨_,_,some i,rfl,S2,s2 _ _ e1,lo'.next z x⟩
     ·rw [Aw x,Ah (by simp)]
      exact ⟨_,_,some r,rfl,S2,s2 _ _ e1,lo'.more fun _=>⟨by omega,fun e=>by omega⟩⟩
   ·rw [Ah z]
    refine ⟨_,_,o,rfl,S2,s2 _ _ e1,?_⟩
    cases o with
    | none =>
     intro k hk
     rcases Az k i with y | y
     ·exact lo k y
     ·rw [show k=i by omega];omega
    | some r=>exact Low.more lo fun y=>absurd y z
  ·rintro σ H1 ⟨v1,v2,o,rfl,s1,e1,lo⟩
   rw [Aa,Aq,hl,show min m (m + 1)=m by omega] at lo
   (push_cast only [])
   cases o with
   | none =>
    obtain ⟨k,k1,k2⟩:=ex
    have:=lo k k1
    omega
   | some r=>exact q r H1 s1 lo
structure PivF (m n r c:Nat)(y:Int)(F F':Nat→Nat→Int):Prop where
 own:∀ j,j ≤ n→F' r j=F r j
 oth:∀ i j,i ≤ m→j ≤ n→i ≠ r→y * F' i j=F i j * F r c - F i c * F r j
noncomputable def PVI (t l:Addr)(n r c:Nat)(y p:Int)(F':Nat→Nat→Int)(G:Hp)(i:Nat)(σ:St)(H:Hp):Prop:=∃ (v1 v2:Option V) (bl:List Addr),σ=[v1,v2,some (.int (r:Int)),some (.ref t),some (.int p),some (.int (c:Int)),some (.int y)]∧SameX l G H∧bl.length=i∧H l=some (.lst (bl.map V.ref))∧∀ (k:Nat) (a:Addr),bl[k]? = some a→a ≠ l∧H a=some (.lst (z9 n (F' k)))
noncomputable def PVJ (l c2 a:Addr)(c:Nat)(y p:Int)(f:Nat→Int)(G:Hp)(j:Nat)(σ:St)(H:Hp):Prop:=∃ (v1 v2:Option V),σ=[v1,v2,some (.int p),some (.ref a),some (.int (c:Int)),some (.int y)]∧SameX c2 G H∧H c2=some (.lst ((List.range j).map fun k=>V.int (f k)))
theorem cZ {n:Nat}{F':Nat→Nat→Int}{bl:List Addr}{l a:Addr}{H:Hp}(h:∀ (k:Nat) (a:Addr),bl[k]? = some a→a ≠ l∧H a=some (.lst (z9 n (F' k))))(na:a ≠ l)(ha:H a=some (.lst (z9 n (F' bl.length))))(xs:List V) :
  ∀ (k:Nat) (x:Addr),(bl ++ [a])[k]? = some x→x ≠ l∧(upd H l (.lst xs)) x=some (.lst (z9 n (F' k))):=fun k x e=>by
 rcases Az k bl.length with z | z
 ·rw [Av z] at e
  obtain ⟨u1,u2⟩:=h k x e
  exact ⟨u1,by rw [q9 u1];exact u2⟩
 ·rw [AB z] at e
  have hk:k - bl.length=0:=by
   have:=(Ag.mp e).1
   simp at this
   omega
  rw [hk] at e
  have:a=x:=by simpa using e
  subst this
  have hk':k=bl.length:=by omega
  subst hk'
  exact ⟨na,by rw [q9 na];exact ha⟩
noncomputable def gX:Sp:=fun vs H Q _=>∃ (t:Addr) (m n:Nat) (F F':Nat→Nat→Int) (as:List Addr) (r c:Nat) (y:Int),vs=[.ref t,.int (r:Int),.int (c:Int),.int y]∧IsTab m n F H t as∧Bnd m n F∧r < m∧c < n∧m ≤ 10∧n ≤ 200∧0 < y∧y ≤ 3628800∧PivF m n r c y F F'∧∀ (t':Addr) (as':List Addr) (H':Hp),Same H H'→IsTab m n F' H' t' as'→Q (.ref t') H'
theorem w8:FnScope ["table", "at", "column", "by", "pivot"] ["table", "at", "column", "by"] (qI s_pivoted):=⟨rfl,rfl,rfl,by decide +kernel,rfl,by decide +kernel,by decide +kernel⟩
theorem sG (F:Fun K "pivoted" "pivoted" s_pivoted f fd) (hm:mg "pivoted" = some (.ref f)) (hb:Binds K fd ["table", "at", "column", "by"] []) (T:Txt mg):j4 P w K mg base "pivoted" ["table", "at", "column", "by"] 1 gX:=by
 refine kU F hm hb w8 (fun vs H Q E h=>?_) (fun cdv A outer s H vs Q E hr h=>?_)
 ·obtain ⟨_,_,_,_,_,_,_,_,_,rfl,_⟩:=h;rfl
 ·obtain ⟨t,m,n,F',F2,as,r,c,y,rfl,ht,bd,rm,cn,m10,n200,y0,y1,pf,q⟩:=h
  have sc:=w8
  have htb:=ht.tab
  have hs:=kF htb
  obtain ⟨b,b1,b2,b3,b4⟩:=ht.at (i:=r) (by omega)
  have rc:=gF (F' r) (show c ≤ n by omega)
  refine ⟨_,jI (kQ (i:=4) sc.nd rfl (Or.inr rfl) (kL z6 (kL z6 (pv 0) (pv 1) (fun _ _=>rfl)) (pv 2) (fun _ _=>rfl))) (qM (q8 (sE (N:=["here", "row", "at", "table", "pivot", "column", "by"]) (fr:=[none,none,some 1,some 0,some 4,some 2,some 3]) "row" rfl (dU rfl T.enumerate_ (qA (pv 0) qB)) (CScope1.of rfl rfl rfl rfl (fun _ _=>rfl) (fun _=>rfl)) rfl (fun _ _ _=>⟨kK (n:=2) rfl (qJ (qH (i:=0) (show List.Nodup (α:=Str) ["here", "row", "at", "table", "pivot", "column", "by"] by decide +kernel) rfl (Or.inl rfl)) (qJ (qH (i:=1) (show List.Nodup (α:=Str) ["here", "row", "at", "table", "pivot", "column", "by"] by decide +kernel) rfl (Or.inr rfl)) kJ)),kH,vU (kD jR (pv 0) (pv 2) (kA _)) (pv 1) (jO (N:=["number", "other", "pivot", "row", "column", "by"]) (fr:=[none,none,some 4,some 1,some 5,some 6]) rfl (gZ rfl T.zip_ (qA (pv 1) (qA (kL z6 (pv 3) (pv 2) (fun _ _=>rfl)) qB))) (CScope.of rfl rfl rfl) rfl (fun _ _ _=>⟨kK (n:=2) rfl (qJ (qH (i:=0) (show List.Nodup (α:=Str) ["number", "other", "pivot", "row", "column", "by"] by decide +kernel) rfl (Or.inl rfl)) (qJ (qH (i:=1) (show List.Nodup (α:=Str) ["number", "other", "pivot", "row", "column", "by"] by decide +kernel) rfl (Or.inl rfl)) kJ)),kH,qN wI (qN fM (qN jU (pv 0) (pv 2)) (qN jU (kL z6 (pv 3) (pv 4) (fun _ _=>rfl)) (pv 1))) (pv 5)⟩))⟩)))),?_⟩
  rw [show L2.start ["table", "at", "column", "by", "pivot"] [.ref t,.int (r:Int),.int (c:Int),.int y] = [some (.ref t),some (.int (r:Int)),some (.int (c:Int)),some (.int y),none] from rfl]
  (push_cast only [hs,b2,b3,rc])
  refine ⟨_,_,.inl ⟨rfl,htb⟩,fun l nl=>?_⟩
  have ntl:t ≠ l:=qC htb nl
  have hlen:=ht.len
  refine nY (PVI t l n r c y (F' r c) F2 H) ⟨none,none,[],rfl,SameX.upd,rfl,qF,fun k a e=>by simp at e⟩ (fun i σ H2 ⟨_,_,_,_,s,_⟩=>.inl ⟨rfl,s _ _ ntl htb⟩) ?_ ?_
  ·rintro i v T' σ H1 H2 hv ⟨v1,v2,bl,rfl,s1,bll,e1,hrow⟩ nT s2 eT
   rw [Ad] at hv
   obtain ⟨a,hx,rfl⟩:=Al.mp hv
   have hi:i ≤ m:=by have:=(Ag.mp hx).1;omega
   have aH:=ht.row i a hx
   have nal:a ≠ l:=qC aH nl
   have aH2:=s2 _ _ (s1 _ _ nal aH)
   have tH2:=s2 _ _ (s1 _ _ ntl htb)
   have nbl:b ≠ l:=qC b4 nl
   have bH2:=s2 _ _ (s1 _ _ nbl b4)
   have e2:=s2 _ _ e1
   have sx:SameX l H H2:=s1.trans s2.x
   have hrow2:∀ (k:Nat) (a:Addr),bl[k]? = some a→a ≠ l∧H2 a=some (.lst (z9 n (F2 k))):=fun k a e=>⟨(hrow k a e).1,s2 _ _ (hrow k a e).2⟩
   (push_cast only [eT])
   by_cases z:(i:Int)=(r:Int)
   ·rw [Ai z]
    have zi:i=r:=by omega
    subst zi
    refine ⟨_,e2,qL (by rw [Aa];omega),_,_,bl ++ [a],rfl,sx.trans SameX.upd,by rw [Aj,bll];rfl,by rw [qF,Ae];rfl,?_⟩
    refine cZ hrow2 nal ?_ _
    rw [bll,x8 (f:=F2 i) (g:=F' i) (fun j hj=>pf.own j hj)]
    exact aH2
   ·rw [Ah z]
    have zi:i ≠ r:=fun k=>z (by rw [k])
    have hsT:=kF tH2
    (push_cast only [hsT,b2])
    refine ⟨_,_,_,.inl ⟨rfl,aH2⟩,_,.inl ⟨rfl,bH2⟩,fun c2 nc2=>?_⟩
    have na2:a ≠ c2:=qC aH2 nc2
    have nb2:b ≠ c2:=qC bH2 nc2
    refine fQ (PVJ l c2 a c y (F' r c) (F2 i) H2) ⟨none,none,rfl,SameX.upd,qF⟩ (fun i σ H3 ⟨_,_,_,s,_⟩=>⟨.inl ⟨rfl,s _ _ na2 aH2⟩,.inl ⟨rfl,s _ _ nb2 bH2⟩⟩) ?_ ?_
    ·rintro j u v T2 σ H3 H4 hu hv ⟨w1,w2,rfl,s3,e3⟩ nT2 s4 eT2
     have hj:j ≤ n:=by have:=(Ag.mp hu).1;rw [xR] at this;omega
     rw [dQ _ hj] at hu hv
     cases hu
     cases hv
     have aH4:=kF (s4 _ _ (s3 _ _ na2 aH2))
     have ac:=gF (F' i) (show c ≤ n by omega)
     have e4:=s4 _ _ e3
     have p1:=bd r c rm (by omega)
     have p2:=bd r j rm hj
     (push_cast only [eT2,aH4,ac,e4])
     refine ⟨.inr ⟨by omega,by omega⟩,.inr ⟨by omega,by omega⟩,⟨y0,by omega⟩,qL (by rw [Ar];omega),_,_,rfl,(s3.trans s4.x).trans SameX.upd,?_⟩
     rw [qF,AO,Ae]
     have:=pf.oth i j hi hj zi
     rw [← this,Int.mul_ediv_cancel_left _ (by omega)]
     rfl
    ·rintro σ H3 ⟨w1,w2,rfl,s3,e3⟩
     rw [xR,xR,Nat.min_self] at e3
     have S3:=s3.same nc2
     have ncl:c2 ≠ l:=fun k=>by rw [k,e2] at nc2;cases nc2
     refine ⟨_,S3 _ _ e2,qL (by rw [Aa];omega),_,_,bl ++ [c2],rfl,(sx.trans S3.x).trans SameX.upd,by rw [Aj,bll];rfl,by rw [qF,Ae];rfl,?_⟩
     refine cZ (fun k a e=>⟨(hrow2 k a e).1,S3 _ _ (hrow2 k a e).2⟩) ncl ?_ _
     rw [bll]
     exact e3
  ·rintro σ H1 ⟨v1,v2,bl,rfl,s1,bll,e1,hrow⟩
   rw [Aa] at bll
   exact q l bl H1 (s1.same nl) ⟨by omega,e1,fun k a e=>(hrow k a e).2⟩
noncomputable def fct:Nat→Int
 | 0=>1
 | n + 1=>((n:Int) + 1) * fct n
theorem nE {b:Int}:∀ {n:Nat} {f:Nat→Int},(∀ i,i < n→-b ≤ f i∧f i ≤ b)→-((n:Int) * b) ≤ jP n f∧jP n f ≤ (n:Int) * b
 | 0,f,_=>by
  show -((0:Int) * b) ≤ 0∧(0:Int) ≤ 0 * b
  omega
 | n + 1,f,h=>by
  have ih:=nE (n:=n) (f:=f) fun i hi=>h i (by omega)
  have x:=h n (by omega)
  have e:((n + 1:Nat):Int) * b=(n:Int) * b + b:=by
   rw [show ((n + 1:Nat):Int)=(n:Int) + 1 by omega,Int.add_mul,C0]
  rw [e]
  show -((n:Int) * b + b) ≤ jP n f + f n∧jP n f + f n ≤ (n:Int) * b + b
  omega
theorem fB:∀ (n:Nat) (M:Nat→Nat→Int),(∀ i,i < n→∀ j,j < n→0 ≤ M i j∧M i j ≤ 1)→-(fct n) ≤ zK n M∧zK n M ≤ fct n
 | 0,M,_=>by
  show -(1:Int) ≤ 1∧(1:Int) ≤ 1
  omega
 | n + 1,M,h=>by
  have e:fct (n + 1)=((n + 1:Nat):Int) * fct n:=by show ((n:Int) + 1) * fct n=_;rw [show ((n + 1:Nat):Int)=(n:Int) + 1 by omega]
  rw [e]
  refine nE fun i hi=>?_
  have ih:=fB n (lE M i) fun a ha j hj=>h (up i a) (by unfold up;split <;> omega) (j + 1) (by omega)
  have x:=h i hi 0 (by omega)
  have s:sgn i=1∨sgn i = -1:=by unfold sgn;split <;> simp
  have y:M i 0=0∨M i 0=1:=by omega
  rcases s with s | s <;> rcases y with y | y <;> rw [s,y] <;> omega
theorem fct_le {m:Nat}(h:m ≤ 10):fct m ≤ 3628800:=by
 have key:∀ a:_root_.Fin 11,fct a.val ≤ 3628800:=by decide +kernel
 exact key ⟨m,by omega⟩
noncomputable def rM (m n:Nat)(col:Nat→Nat→Int):Prop:=∀ j,j ≤ n→∀ k,k < m→0 ≤ col j k∧col j k ≤ 1
theorem rK {m n:Nat}{col:Nat→Nat→Int}{bs:Nat→Nat}(h:rM m n col)(m10:m ≤ 10)(g:Gd m n col bs){i j:Nat}(hj:j ≤ n) : -3628800 ≤ Tb m col bs i j∧Tb m col bs i j ≤ 3628800:=by
 have a:=fB m (qT (fun i=>col (bs i)) i (col j)) fun a ha k hk=>by
  by_cases x:a=i
  ·subst x
   rw [jJ]
   exact h j hj k hk
  ·rw [jE _ _ x]
   exact h _ (AH (g.inn a ha)) k hk
 have b:=fct_le m10
 unfold Tb
 omega
theorem rJ {m n:Nat}{col:Nat→Nat→Int}{bs:Nat→Nat}(h:rM m n col)(m10:m ≤ 10)(g:Gd m n col bs):Yb m col bs ≤ 3628800:=by
 have a:=fB m (fun i=>col (bs i)) fun a ha k hk=>h _ (AH (g.inn a ha)) k hk
 have b:=fct_le m10
 unfold Yb
 omega
noncomputable def j6 (m:Nat)(col:Nat→Nat→Int)(w:Nat→Int)(bs:Nat→Nat):Nat→Nat→Int:=fun i j=>if i < m then Tb m col bs i j else Zb m col w bs j
theorem j5 {m:Nat}{col:Nat→Nat→Int}{w:Nat→Int}{bs:Nat→Nat}{i j:Nat}(h:i < m):j6 m col w bs i j=Tb m col bs i j:=Ai h
theorem yH {m:Nat}{col:Nat→Nat→Int}{w:Nat→Int}{bs:Nat→Nat}{j:Nat}:j6 m col w bs m j=Zb m col w bs j:=Ah (BA m)
theorem mY {m n:Nat}{col:Nat→Nat→Int}{w:Nat→Int}{bs:Nat→Nat}(h:rM m n col)(m10:m ≤ 10)(g:Gd m n col bs):Bnd m n (j6 m col w bs):=fun i j hi hj=>by
 rw [j5 hi]
 exact rK h m10 g hj
theorem low_tab {m n:Nat}{col:Nat→Nat→Int}{w:Nat→Int}{bs:Nat→Nat}{c r:Nat}(h:Low (j6 m col w bs) bs n c m r):Low (Tb m col bs) bs n c m r:=by
 have e:∀ k j,k < m→j6 m col w bs k j=Tb m col bs k j:=fun k j hk=>j5 hk
 have rl:=h.lt
 refine ⟨rl,?_,fun k hk p=>?_,fun k hk p z=>?_⟩
 ·have:=h.pos;rwa [e r c rl] at this
 ·have:=h.near k hk (by rw [e k c hk];exact p)
  rwa [e r n rl,e k c hk,e k n hk,e r c rl] at this
 ·exact h.tie k hk (by rw [e k c hk];exact p) (by rw [e r n rl,e k c hk,e k n hk,e r c rl];exact z)
theorem piv_tab {m n:Nat}{col:Nat→Nat→Int}{w:Nat→Int}{bs:Nat→Nat}(g:Gd m n col bs){r c:Nat}(hr:r < m)(p:0 < Tb m col bs r c):PivF m n r c (Yb m col bs) (j6 m col w bs) (j6 m col w (qT bs r c)):=by
 obtain ⟨_,_,f2,f3⟩:=yV g hr p
 refine ⟨fun j _=>by rw [j5 hr,j5 hr,f2],fun i j hi hj ne=>?_⟩
 rw [j5 hr,j5 hr]
 by_cases x:i < m
 ·rw [j5 x,j5 x,j5 x]
  exact f3 i j x ne
 ·have:i=m:=by omega
  subst this
  rw [yH,yH,yH]
  exact piv_z g hr p j
noncomputable def cQ:Sp:=fun vs H Q _=>∃ (t ch:Addr) (m n:Nat) (col:Nat→Nat→Int) (w:Nat→Int) (as:List Addr) (bs:Nat→Nat),vs=[.ref t,.ref ch]∧IsTab m n (j6 m col w bs) H t as∧Chs m bs H ch∧Gd m n col bs∧rL m n col∧rM m n col∧Yb m col bs=1∧m ≤ 10∧n ≤ 200 ∧
 ∀ (bs':Nat→Nat) (t' ch' o:Addr) (as':List Addr) (H':Hp),Same H H'→Gd m n col bs'→(∀ j,j < n→0 ≤ Zb m col w bs' j)→IsTab m n (j6 m col w bs') H' t' as'→Chs m bs' H' ch'→H' o=some (.tup [.int (Yb m col bs'),.ref t',.ref ch'])→Q (.ref o) H'
noncomputable def colV (m n:Nat)(col:Nat→Nat→Int)(w:Nat→Int)(bs:Nat→Nat)(v:V):Prop:=(v = .non∧∀ j,j < n→0 ≤ Zb m col w bs j)∨∃ c:Nat,v = .int (c:Int)∧c < n∧Zb m col w bs c < 0∧∀ j,j < c→0 ≤ Zb m col w bs j
noncomputable def SVI (m n:Nat)(col:Nat→Nat→Int)(w:Nat→Int)(G:Hp)(k:Nat)(σ:St)(H:Hp):Prop:=∃ (t ch:Addr) (as:List Addr) (bs:Nat→Nat) (v:V) (v1:Option V),σ=[some (.ref t),some (.ref ch),some (.int (Yb m col bs)),some v,v1]∧Same G H∧IsTab m n (j6 m col w bs) H t as∧Chs m bs H ch∧Gd m n col bs∧Run m n col w k bs∧colV m n col w bs v
theorem chs_cut {m:Nat}{bs:Nat→Nat}{r c:Nat}(h:r < m):zI ((List.range m).map fun i=>V.int (bs i:Int)) none (some (r:Int)) ++ [V.int (c:Int)] ++ zI ((List.range m).map fun i=>V.int (bs i:Int)) (some ((r:Int) + 1)) none=(List.range m).map fun i=>V.int ((qT bs r c i:Nat):Int):=by
 have e1:zI ((List.range m).map fun i=>V.int (bs i:Int)) none (some (r:Int))=((List.range m).map fun i=>V.int (bs i:Int)).take r:=by
  unfold zI
  rw [HT.sIx_none,HT.sIx_nat,CL,BW (by rw [Aa,Ar];omega),Dd]
 have e2:zI ((List.range m).map fun i=>V.int (bs i:Int)) (some ((r:Int) + 1)) none=((List.range m).map fun i=>V.int (bs i:Int)).drop (r + 1):=by
  unfold zI
  rw [HT.sIx_none,show ((r:Int) + 1)=((r + 1:Nat):Int) by omega,HT.sIx_nat,BW (by rw [Aa,Ar];omega),Bc (by simp)]
 rw [e1,e2]
 refine BX fun i=>?_
 rcases Az i m with y | y
 ·rw [Ad,AM y]
  rcases BC i r with z | z | z
  ·rw [Av (by simp;omega),Av (by simp;omega),CD,Ai z,Ad,AM y]
   show some (V.int (bs i:Int))=some (V.int ((qT bs r c i:Nat):Int))
   rw [jE _ _ (by omega)]
  ·subst z
   rw [Av (by simp;omega),AB (by simp;omega)]
   rw [show i - (List.take i (List.map (fun i=>V.int (bs i:Int)) (List.range m))).length=0 by simp;omega]
   show some (V.int (c:Int))=some (V.int ((qT bs i c i:Nat):Int))
   rw [jJ]
  ·rw [AB (by simp;omega)]
   rw [show i - (List.take r (List.map (fun i=>V.int (bs i:Int)) (List.range m)) ++ [V.int (c:Int)]).length=i - (r + 1) by simp;omega]
   rw [Cp,show r + 1 + (i - (r + 1))=i by omega,Ad,AM y]
   show some (V.int (bs i:Int))=some (V.int ((qT bs r c i:Nat):Int))
   rw [jE _ _ (by omega)]
 ·rw [AK (by simp;omega),AK (by simp;omega)]
theorem cX:FnScope ["table", "chosen", "by", "column", "at"] ["table", "chosen"] (qI s_solved):=⟨rfl,rfl,rfl,by decide +kernel,rfl,by decide +kernel,by decide +kernel⟩
theorem aQ (F:Fun K "solved" "solved" s_solved f fd) (hm:mg "solved" = some (.ref f)) (hb:Binds K fd ["table", "chosen"] []) (T:Txt mg) (c_entering:j4 P w K mg base "entering" ["table"] 1 vN) (c_leaving:j4 P w K mg base "leaving" ["table", "chosen", "column"] 2 gY) (c_pivoted:j4 P w K mg base "pivoted" ["table", "at", "column", "by"] 1 gX):j4 P w K mg base "solved" ["table", "chosen"] 3 cQ:=by
 refine kU F hm hb cX (fun vs H Q E h=>?_) (fun cdv A outer s H vs Q E hr h=>?_)
 ·obtain ⟨_,_,_,_,_,_,_,_,rfl,_⟩:=h;rfl
 ·obtain ⟨t,ch,m,n,col,w',as,bs,rfl,ht,hc,g,ok,c01,y1,m10,n200,q⟩:=h
  have sc:=cX
  refine ⟨_,jI (kQ (i:=2) sc.nd rfl (Or.inl rfl) qD) (jI (kQ (i:=3) sc.nd rfl (Or.inl rfl) (qU c_entering hr (qA (pv 0) qB))) (jI (oF Bs (kD op_notN (pv 3) nK (kA _)) (jI (kQ (i:=4) sc.nd rfl (Or.inl rfl) (qU c_leaving hr (qA (pv 0) (qA (pv 1) (qA (pv 3) qB))))) (jI (oG (i:=0) (j:=2) rfl sc.nd rfl rfl (by decide) rfl rfl (qA (qU c_pivoted hr (qA (pv 0) (qA (pv 4) (qA (pv 3) (qA (pv 2) qB))))) (qA (kL z6 (kL z6 (pv 0) (pv 4) (fun _ _=>rfl)) (pv 3) (fun _ _=>rfl)) qB)) rfl) (jI (kQ (i:=1) sc.nd rfl (Or.inl rfl) (qN vJ (qN vJ (jH rZ (pv 1) jT (jN (pv 4))) (jW (qA (pv 3) qB))) (jH rZ (pv 1) (jN (qN jD (pv 4) qD)) jT))) (qM (kQ (i:=3) sc.nd rfl (Or.inl rfl) (qU c_entering hr (qA (pv 0) qB)))))))) (qM (q8 (jB (qA (pv 2) (qA (pv 0) (qA (pv 1) qB)))))))),?_⟩
  rw [show L2.start ["table", "chosen", "by", "column", "at"] [.ref t,.ref ch] = [some (.ref t),some (.ref ch),none,none,none] from rfl]
  (push_cast only [])
  refine ⟨t,m,n,_,as,rfl,ht,fun H1 s1=>?_⟩
  have go:∀ v:V,colV m n col w' bs v→iQ (tE (tG (fun x y H Q=>y=V.non∧Q (V.bl !decide (x=V.non)) H) (j7 3) (tC V.non)))
    (aD (lK (iS gY (zU (j7 0) (zU (j7 1) (zU (j7 3) mZ)))) (jZ 4))
     (aD
      (tPar 0 2
       (zU (iS gX (zU (j7 0) (zU (j7 4) (zU (j7 3) (zU (j7 2) mZ)))))
        (zU (tG oE (tG oE (j7 0) (j7 4)) (j7 3)) mZ)))
      (aD
       (lK
        (tG tS (tG tS (tSl tQ (j7 1) wB (tF (j7 4))) (iR (zU (j7 3) mZ)))
         (tSl tQ (j7 1) (tF (tG (iB fun i j=>V.int (i + j)) (j7 4) (tC (V.int 1)))) wB))
        (jZ 1))
       (lK (iS vN (zU (j7 0) mZ)) (jZ 3)))))
    { nx:=tRet (tD (zU (j7 2) (zU (j7 0) (zU (j7 1) mZ)))) { nx:=fun x H'=>Q V.non H',rt:=Q },rt:=Q }
    [some (V.ref t),some (V.ref ch),some (V.int 1),some v,none] H1:=fun v hv=>by
   obtain ⟨k0,r0⟩:=i9 (w:=w') g ok
   refine ⟨SVI m n col w' H,⟨k0,t,ch,as,bs,v,none,by rw [y1],s1,ht.same s1,s1 _ _ hc,g,r0,hv⟩,?_⟩
   rintro k σ H2 ⟨t2,ch2,as2,b2,v2,v3,rfl,s2,ht2,hc2,g2,r2,hv2⟩
   rcases hv2 with ⟨rfl,fin⟩ | ⟨c,rfl,cn,cz,clo⟩
   ·(push_cast only [])
    refine ⟨by decide,fun o H3 no s3 e3=>?_⟩
    exact q b2 t2 ch2 o as2 H3 (s2.trans s3) g2 fin (ht2.same s3) (s3 _ _ hc2) e3
   ·obtain ⟨k',r',c',rfl,st',run'⟩:=r2.pos cn cz
    (push_cast only [])
    refine ⟨fun σ' H'=>SVI m n col w' H k' σ' H',fun σ' H' h'=>⟨k',by omega,h'⟩,?_⟩
    refine ⟨t2,ch2,m,n,_,as2,b2,c,rfl,ht2,hc2,mY c01 m10 g2,cn,?_,fun r H3 s3 lo=>?_⟩
    ·obtain ⟨r,rm,rp⟩:=pA g2 ok cn
     exact ⟨r,rm,by rw [j5 rm];exact rp⟩
    have lo':=low_tab lo
    have st:=lo'.stp cn cz clo
    obtain ⟨er,ec⟩:=Stp.one g2 st st'
    subst er ec
    have ht3:=ht2.same s3
    have hc3:=s3 _ _ hc2
    have yy:=rJ c01 m10 g2
    refine ⟨t2,m,n,_,j6 m col w' (qT b2 r c),as2,r,c,_,rfl,ht3,mY c01 m10 g2,st.rm,cn,m10,n200,g2.y,yy,piv_tab g2 st.rm st.pos,fun t4 as4 H4 s4 ht4=>?_⟩
    have ht3':=ht3.same s4
    have hs4:=kF ht3'.tab
    obtain ⟨a,_,a2,a3,a4⟩:=ht3'.at (i:=r) (AH st.rm)
    have rc:=gF (j6 m col w' b2 r) (AH cn)
    have hc4:=s4 _ _ hc3
    (push_cast only [hs4,a2,a3,rc,hc4])
    intro p1 np1
    have cl1:=xF ((List.range m).map fun i=>V.int (b2 i:Int)) none (some (r:Int))
    have cl2:=xF ((List.range m).map fun i=>V.int (b2 i:Int)) (some ((r:Int) + 1)) none
    rw [Aa,Ar] at cl1 cl2
    refine ⟨by decide,fun p2 H5 np2 s5 e5=>⟨_,s5 _ _ qF,_,e5,AH (qL (by simp only [A6,Bq];omega)),fun p3 H6 np3 s6 e6=>?_⟩⟩
    have S6:Same H4 H6:=((kI np1).trans s5).trans s6
    refine ⟨_,S6 _ _ hc4,fun p4 np4=>⟨_,by rw [q9 (qC e6 np4)];exact e6,AH (qL (by rw [Aj];simp only [A6,Bq];omega)),fun p5 H7 np5 s7 e7=>?_⟩⟩
    have S7:Same H4 H7:=(S6.trans (kI np4)).trans s7
    rw [chs_cut st.rm] at e7
    have ht7:=ht4.same S7
    obtain ⟨_,yb,_,_⟩:=yV g2 st.rm st.pos
    refine ⟨t4,m,n,_,as4,rfl,ht7,fun H8 s8=>?_⟩
    have fin:∀ v,colV m n col w' (qT b2 r c) v→SVI m n col w' H k' [some (V.ref t4),some (V.ref p5),some (V.int (j6 m col w' b2 r c)),some v,some (V.int (r:Int))] H8:=fun v hv =>
     ⟨t4,p5,as4,qT b2 r c,v,_,by rw [j5 st.rm,yb],(((s2.trans s3).trans s4).trans S7).trans s8,ht7.same s8,s8 _ _ e7,st.gd g2,run',hv⟩
    exact ⟨fun z=>fin _ (.inl ⟨rfl,fun j hj=>by have:=z j hj;rwa [yH] at this⟩),fun c cn cz clo=>fin _ (.inr ⟨c,rfl,cn,by rwa [yH] at cz,fun j hj=>by have:=clo j hj;rwa [yH] at this⟩)⟩
  refine ⟨fun z=>go _ (.inl ⟨rfl,fun j hj=>by have:=z j hj;rwa [yH] at this⟩),fun c cn cz clo=>go _ (.inr ⟨c,rfl,cn,by rwa [yH] at cz,fun j hj=>by have:=clo j hj;rwa [yH] at this⟩)⟩
theorem yN {m:Nat}(h:m ≤ 5):2 ^ m ≤ 32∧0 < 2 ^ m:=⟨AX (CT (by decide) h) (by decide),Nat.two_pow_pos m⟩
theorem sR (m:Nat):(1:Int) * 2 ^ (m:Int).toNat=((2 ^ m:Nat):Int):=by rw [C0,Ap];norm_cast
noncomputable def hos (ds:List Int)(s:Int):Nat→Nat
 | 0=>0
 | k + 1=>hos ds s k + if ds.getD k 0=s then 2 ^ k else 0
structure TownW (H:Hp)(t sd wt:Addr)(m:Nat)(ss:List Int)(ts:List (Addr × List Int)):Prop where
 at':H t=some (.tup [.ref sd,.ref wt])
 sd:H sd=some (.tup (ss.map V.int))
 wt:H wt=some (.tup (ts.map fun t=>V.ref t.1))
 m5:m ≤ 5
 slen:ss.length=m
 t5:ts.length ≤ 5
 row:∀ t ∈ ts,H t.1=some (.tup (t.2.map V.int))∧t.2.length=2 ^ m
theorem atI_last {xs:List Int}(h:0 < xs.length):xH (xs.map V.int) (-1)=some (V.int (xs.getD (xs.length - 1) 0)):=by
 have hne:xs ≠ []:=by rintro rfl;simp at h
 obtain ⟨ys,y,rfl⟩:∃ ys y,xs=ys ++ [y]:=⟨xs.dropLast,xs.getLast hne,(List.dropLast_concat_getLast hne).symm⟩
 unfold xH iC
 rw [Ah (by decide),Ai (by simp;omega)]
 have e:(-1 + ((List.map V.int (ys ++ [y])).length:Int)).toNat=ys.length:=by simp;omega
 rw [e]
 simp
noncomputable def fO (h t:Int):Bool:=decide (Builtin.bitAnd (h / 2 ^ t.toNat) 1=1)
noncomputable def rY:Sp:=fun vs H Q _=>∃ h t:Int,vs=[.int h,.int t]∧0 ≤ t∧Q (.bl (fO h t)) H
theorem i8:FnScope ["heap", "thing"] ["heap", "thing"] (qI s_has):=⟨rfl,rfl,rfl,by decide +kernel,rfl,by decide +kernel,by decide +kernel⟩
theorem ok_has (F:Fun K "has" "has" s_has f fd) (hm:mg "has" = some (.ref f)) (hb:Binds K fd ["heap", "thing"] []) (T:Txt mg):j4 P w K mg base "has" ["heap", "thing"] 1 rY:=by
 refine kU F hm hb i8 (fun vs H Q E h=>?_) (fun cdv A outer s H vs Q E hr h=>?_)
 ·obtain ⟨_,_,rfl,_⟩:=h;rfl
 ·obtain ⟨h,t,rfl,ht,q⟩:=h
  have sc:=i8
  refine ⟨_,qM (q8 (jK jR (qN g6 (qN bH (pv 0) (pv 1)) qD) qD (kA _))),?_⟩
  rw [show L2.start ["heap", "thing"] [.int h,.int t] = [some (.int h),some (.int t)] from rfl]
  (push_cast only [])
  exact ⟨ht,q⟩
noncomputable def PlAt (h q:Nat)(H:Hp)(l:Addr)(as:List Addr):Prop:=as.length=h * q∧H l=some (.lst (as.map V.ref))∧∀ (j:Nat) (a:Addr),as[j]? = some a→H a=some (.tup [.int ((j / q:Nat):Int),.int ((j % q + 1:Nat):Int)])
theorem PlAt.same {h q:Nat}{H H':Hp}{l:Addr}{as:List Addr}(p:PlAt h q H l as)(s:Same H H'):PlAt h q H' l as:=⟨p.1,s _ _ p.2.1,fun j a e=>s _ _ (p.2.2 j a e)⟩
noncomputable def cS:Sp:=fun vs H Q _=>∃ (t sd wt:Addr) (m:Nat) (ss:List Int) (ts:List (Addr × List Int)),vs=[.ref t]∧TownW H t sd wt m ss ts∧∀ (l:Addr) (as:List Addr) (H':Hp),Same H H'→PlAt ts.length (2 ^ m - 1) H' l as→Q (.ref l) H'
noncomputable def PLI (sd l:Addr)(q:Nat)(G:Hp)(j:Nat)(σ:St)(H:Hp):Prop:=∃ (v1 v2:Option V) (as:List Addr),σ=[v1,v2,some (.ref sd)]∧SameX l G H∧as.length=j∧H l=some (.lst (as.map V.ref))∧∀ (j:Nat) (a:Addr),as[j]? = some a→a ≠ l∧H a=some (.tup [.int ((j / q:Nat):Int),.int ((j % q + 1:Nat):Int)])
noncomputable def PLJ (sd l:Addr)(q i:Nat)(G:Hp)(j:Nat)(σ:St)(H:Hp):Prop:=(∃ v,σ[0]? = some v∧v=some (.int (i:Int)))∧PLI sd l q G (i * q + j) σ H
theorem tV {α:Type}{as:List Addr}{l a:Addr}{H:Hp}{f:Nat→HO}(h:∀ (j:Nat) (a:Addr),as[j]? = some a→a ≠ l∧H a=some (f j))(na:a ≠ l)(ha:H a=some (f as.length))(xs:List V) :
  ∀ (k:Nat) (x:Addr),(as ++ [a])[k]? = some x→x ≠ l∧(upd H l (.lst xs)) x=some (f k):=fun k x e=>by
 rcases Az k as.length with z | z
 ·rw [Av z] at e
  obtain ⟨u1,u2⟩:=h k x e
  exact ⟨u1,by rw [q9 u1];exact u2⟩
 ·rw [AB z] at e
  have hk:k - as.length=0:=by
   have:=(Ag.mp e).1
   simp at this
   omega
  rw [hk] at e
  have:a=x:=by simpa using e
  subst this
  have hk':k=as.length:=by omega
  subst hk'
  exact ⟨na,by rw [q9 na];exact ha⟩
theorem vG:FnScope ["town", "sides", "wants"] ["town"] (qI s_share_places):=⟨rfl,rfl,rfl,by decide +kernel,rfl,by decide +kernel,by decide +kernel⟩
theorem aS (F:Fun K "share_places" "share_places" s_share_places f fd) (hm:mg "share_places" = some (.ref f)) (hb:Binds K fd ["town"] []) (T:Txt mg):j4 P w K mg base "share_places" ["town"] 1 cS:=by
 refine kU F hm hb vG (fun vs H Q E h=>?_) (fun cdv A outer s H vs Q E hr h=>?_)
 ·obtain ⟨_,_,_,_,_,_,rfl,_⟩:=h;rfl
 ·obtain ⟨t,sd,wt,m,ss,ts,rfl,W,q⟩:=h
  have sc:=vG
  refine ⟨_,jI (zG (pv 0) (kK (n:=2) rfl (qJ (qH (i:=1) sc.nd rfl (Or.inr rfl)) (qJ (qH (i:=2) sc.nd rfl (Or.inl rfl)) kJ)))) (qM (q8 (pe_lc2 (N:=["hand", "heap", "sides"]) (fr:=[none,none,some 1]) rfl (kT rfl T.range_ (qA (qK len0 rfl T.len_ kY (qA (pv 2) qB)) qB)) (CScope.of rfl rfl rfl) rfl (fun _ _ _=>⟨qH (i:=0) (show List.Nodup (α:=Str) ["hand", "heap", "sides"] by decide +kernel) rfl (Or.inl rfl),kH,mC rfl T.range_ (qA qD (qA (qN vV qD (qK len0 rfl T.len_ kY (qA (pv 2) qB))) qB)),qH (i:=1) (show List.Nodup (α:=Str) ["hand", "heap", "sides"] by decide +kernel) rfl (Or.inl rfl),kH,jB (qA (pv 0) (qA (pv 1) qB))⟩)))),?_⟩
  rw [show L2.start ["town", "sides", "wants"] [.ref t] = [some (.ref t),none,none] from rfl]
  have ht:=W.at'
  have hsd:=kC W.sd
  have hwt:=kC W.wt
  have sl:=W.slen
  (push_cast only [ht,hsd,hwt])
  have t5:=W.t5
  have m5:=W.m5
  have p32:=yN W.m5
  refine ⟨by omega,by omega,fun l nl=>?_⟩
  have q0:0 < 2 ^ m - 1∨2 ^ m - 1=0:=by omega
  have nsl:sd ≠ l:=qC W.sd nl
  refine jL (fun i=>PLI sd l (2 ^ m - 1) H (i * (2 ^ m - 1))) ⟨none,none,[],rfl,SameX.upd,by simp,qF,fun j a e=>by simp at e⟩ ?_ ?_
  ·rintro i σ H1 hi ⟨v1,v2,as,rfl,s1,al,e1,row⟩
   have hs1:=kC (s1 _ _ nsl W.sd)
   (push_cast only [hs1])
   rw [sl]
   have pw:(1:Int) * 2 ^ ((m:Int)).toNat=((2 ^ m:Nat):Int):=by rw [C0,Ap];norm_cast
   rw [pw]
   refine ⟨⟨by omega,by omega,by decide⟩,by decide,by decide,by omega,by omega,?_⟩
   have hp1:(((2 ^ m:Nat):Int) - 1).toNat=2 ^ m - 1:=by omega
   rw [hp1]
   refine jL (PLJ sd l (2 ^ m - 1) i H) ⟨⟨_,rfl,rfl⟩,_,_,as,rfl,s1,by rw [al];rfl,e1,row⟩ ?_ ?_
   ·rintro j σ H2 hj ⟨⟨v,hv,rfl⟩,w1,w2,bl,rfl,s2,bll,e2,row2⟩
    have hv':w1=some (V.int (i:Int)):=by simpa using hv
    subst hv'
    (push_cast only [])
    refine ⟨by decide,fun p H3 np s3 e3=>⟨_,s3 _ _ e2,qL (by rw [Aa,bll];exact AX (Nat.add_le_add (Nat.mul_le_mul (show i ≤ 5 by omega) (show 2 ^ m - 1 ≤ 31 by omega)) (show j ≤ 31 by omega)) (by decide)),⟨_,rfl,rfl⟩,?_⟩⟩
    have npl:p ≠ l:=fun k=>by rw [k,e2] at np;cases np
    refine ⟨_,_,bl ++ [p],rfl,(s2.trans s3.x).trans SameX.upd,by rw [Aj,bll];rfl,by rw [qF,Ae];rfl,?_⟩
    refine tV (α:=Unit) (f:=fun j=>.tup [.int ((j / (2 ^ m - 1):Nat):Int),.int ((j % (2 ^ m - 1) + 1:Nat):Int)]) (fun k a e=>⟨(row2 k a e).1,s3 _ _ (row2 k a e).2⟩) npl ?_ _
    rw [bll]
    have d1:(i * (2 ^ m - 1) + j) / (2 ^ m - 1)=i:=by
     rw [B4,Nat.mul_add_div (by omega),Nat.div_eq_of_lt hj,Nat.add_zero]
    have d2:(i * (2 ^ m - 1) + j) % (2 ^ m - 1)=j:=by
     rw [B4,Nat.mul_add_mod,CP hj]
    rw [d1,d2,show ((j + 1:Nat):Int)=1 + (j:Int) by omega]
    exact e3
   ·rintro σ H2 ⟨_,w1,w2,bl,rfl,s2,bll,e2,row2⟩
    exact ⟨_,_,bl,rfl,s2,by rw [bll,Nat.add_mul,Nat.one_mul],e2,row2⟩
  ·rintro σ H1 ⟨v1,v2,as,rfl,s1,al,e1,row⟩
   exact q l as H1 (s1.same nl) ⟨by rw [al];congr 1,e1,fun j a e=>(row j a e).2⟩
theorem has_tb {h t:Nat}(hh:h < 32)(ht:t < 5):fO (h:Int) (t:Int)=Nat.testBit h t:=by
 have key:∀ (a:_root_.Fin 32) (b:_root_.Fin 5),fO (a.val:Int) (b.val:Int)=Nat.testBit a.val b.val:=by decide +kernel
 exact key ⟨h,hh⟩ ⟨t,ht⟩
noncomputable def jA (h m j a:Nat):Int :=
 if j < h * (2 ^ m - 1) then (if a < h then (if j / (2 ^ m - 1)=a then 1 else 0) else (if Nat.testBit (j % (2 ^ m - 1) + 1) (a - h)=true then 1 else 0))
 else if j < h * (2 ^ m - 1) + (h + m) then (if j=h * (2 ^ m - 1) + a then 1 else 0) else 1
noncomputable def wS (wss:List (List Int))(m j:Nat):Int:=if j < wss.length * (2 ^ m - 1) then (wss.getD (j / (2 ^ m - 1)) []).getD (j % (2 ^ m - 1) + 1) 0 else 0
noncomputable def bR (wss:List (List Int))(m i j:Nat):Int:=if i < wss.length + m then jA wss.length m j i else - wS wss m j
noncomputable def lQ:Sp:=fun vs H Q _=>∃ (t sd wt l:Addr) (m:Nat) (ss:List Int) (ts:List (Addr × List Int)) (as:List Addr),vs=[.ref t,.ref l]∧TownW H t sd wt m ss ts∧1 ≤ ts.length∧PlAt ts.length (2 ^ m - 1) H l as∧∀ (t':Addr) (as':List Addr) (H':Hp),Same H H'→IsTab (ts.length + m) (ts.length * (2 ^ m - 1) + (ts.length + m)) (bR (ts.map fun t=>t.2) m) H' t' as'→Q (.ref t') H'
noncomputable def INN (c2:Addr)(x:V)(g:Nat→Int)(G:Hp)(i:Nat)(σ:St)(H:Hp):Prop:=∃ v1 v2:Option V,σ=[v1,v2,some x]∧SameX c2 G H∧H c2=some (.lst ((List.range i).map fun j=>V.int (g j)))
theorem fR {te:TE}{x:V}{h q:Nat}{G:Hp}{l c2:Addr}{as:List Addr}{g:Nat→Int}{D:St→Hp→Prop}(pl:PlAt h q G l as)(nc:G c2=none)(small:h * q ≤ 500)
  (hte:∀ (j:Nat) (H':Hp) (Q:VK),j < h * q→SameX c2 G H'→Q (V.int (g j)) H'→te [some (.int ((j / q:Nat):Int)),some (.int ((j % q + 1:Nat):Int)),some x] H' Q)
  (hD:∀ σ H',SameX c2 G H'→H' c2=some (.lst ((List.range (h * q)).map fun j=>V.int (g j)))→D σ H') :
  m3 (lF (fun H=>H l=some (.lst (as.map V.ref))) (as.map V.ref)) (uE 2 (hZ (jZ 0) (hZ (jZ 1) gNil))) lJ (y6 c2 te) D [none,none,some x] (upd G c2 (.lst [])):=by
 have nlc:l ≠ c2:=qC pl.2.1 nc
 refine zC (INN c2 x g G) ⟨none,none,rfl,SameX.upd,qF⟩ (fun i σ H' _ ⟨_,_,_,s,_⟩=>s _ _ nlc pl.2.1) ?_ ?_
 ·rintro j y σ H1 hx ⟨v1,v2,rfl,s1,e1⟩
  rw [Ad] at hx
  obtain ⟨a,ha,rfl⟩:=Al.mp hx
  have hj:j < h * q:=by rw [← pl.1];exact (Ag.mp ha).1
  have aG:=pl.2.2 j a ha
  have aH:=s1 _ _ (qC aG nc) aG
  (push_cast only [aH])
  refine hte j H1 _ hj s1 ⟨_,e1,qL (by rw [Aa,Ar];omega),⟨_,_,rfl,s1.trans SameX.upd,?_⟩⟩
  rw [qF,AO,Ae]
  rfl
 ·rintro σ H1 ⟨v1,v2,rfl,s1,e1⟩
  rw [Aa,pl.1] at e1
  exact hD _ H1 s1 e1
noncomputable def RowsL (H:Hp)(l:Addr)(as:List Addr)(f:Nat→List V):Prop:=H l=some (.lst (as.map V.ref))∧∀ (k:Nat) (a:Addr),as[k]? = some a→a ≠ l∧H a=some (.lst (f k))
theorem RowsL.same {H H':Hp}{l:Addr}{as:List Addr}{f:Nat→List V}(r:RowsL H l as f)(s:Same H H'):RowsL H' l as f:=⟨s _ _ r.1,fun k a e=>⟨(r.2 k a e).1,s _ _ (r.2 k a e).2⟩⟩
theorem RowsL.app {H:Hp}{l c:Addr}{as:List Addr}{f:Nat→List V}(r:RowsL H l as f)(nc:c ≠ l)(hc:H c=some (.lst (f as.length))):RowsL (upd H l (.lst (as.map V.ref ++ [V.ref c]))) l (as ++ [c]) f :=
 ⟨by rw [qF,Ae];rfl,tV (α:=Unit) (f:=fun k=>.lst (f k)) r.2 nc hc _⟩
noncomputable def OUT (l0:Addr)(xs:List (Option V))(f:Nat→List V)(G:Hp)(i:Nat)(σ:St)(H:Hp):Prop:=∃ (v:Option V) (as:List Addr),σ=v :: xs∧SameX l0 G H∧as.length=i∧RowsL H l0 as f
theorem bG {l0 c2:Addr}{xs:List (Option V)}{f:Nat→List V}{G H1 H2:Hp}{i:Nat}{as:List Addr}(v:Option V)(s1:SameX l0 G H1)(al:as.length=i)(r:RowsL H1 l0 as f)(nc:H1 c2=none)(S2:Same H1 H2)(e2:H2 c2=some (.lst (f i)))(small:i ≤ 900) :
  ∃ ys,H2 l0=some (.lst ys)∧ys.length < sizeLine∧OUT l0 xs f G (i + 1) (v :: xs) (upd H2 l0 (.lst (ys ++ [V.ref c2]))):=by
 have ncl:c2 ≠ l0:=fun z=>by rw [z,r.1] at nc;cases nc
 have r2:=r.same S2
 exact ⟨_,r2.1,qL (by rw [Aa];omega),v,as ++ [c2],rfl,(s1.trans S2.x).trans SameX.upd,by rw [Aj,al];rfl,r2.app ncl (by rw [al];exact e2)⟩
noncomputable def fA (h m k:Nat):List V:=(List.range (h * (2 ^ m - 1))).map fun j=>V.int (jA h m j k)
theorem dE {h m k j:Nat}(hk:k < h)(hj:j < h * (2 ^ m - 1)):jA h m j k=if j / (2 ^ m - 1)=k then 1 else 0:=by
 unfold jA
 rw [Ai hj,Ai hk]
theorem d9 {h m k j:Nat}(hj:j < h * (2 ^ m - 1)):jA h m j (h + k)=if Nat.testBit (j % (2 ^ m - 1) + 1) k=true then 1 else 0:=by
 unfold jA
 rw [Ai hj,Ah (by omega),show h + k - h=k by omega]
theorem ref_int {as:List Addr}(h:1 ≤ as.length)(L:List Int):as.map V.ref ≠ L.map V.int:=by
 intro e
 match as,h with
 | a :: as,_ =>
  cases L with
  | nil=>simp at e
  | cons x L =>
   rw [AN,AN] at e
   injection e with e1 _
   cases e1
theorem u7 (h m k:Nat):fA h m k=((List.range (h * (2 ^ m - 1))).map fun j=>jA h m j k).map V.int:=by unfold fA;rw [AF];rfl
theorem aK {H:Hp}{l1 l2:Addr}{as1 as2:List Addr}{h m:Nat}(h1:1 ≤ h)(al:as1.length=h)(r1:RowsL H l1 as1 (fA h m))(r2:RowsL H l2 as2 (fun k=>fA h m (h + k))):RowsL (upd H l1 (.lst (as1.map V.ref ++ as2.map V.ref))) l1 (as1 ++ as2) (fA h m):=by
 refine ⟨by rw [qF,Ae],fun k a e=>?_⟩
 rcases Az k as1.length with z | z
 ·rw [Av z] at e
  obtain ⟨u1,u2⟩:=r1.2 k a e
  exact ⟨u1,by rw [q9 u1];exact u2⟩
 ·rw [AB z] at e
  obtain ⟨_,u2⟩:=r2.2 _ a e
  have u2:H a=some (.lst (fA h m (h + (k - as1.length)))):=u2
  rw [show h + (k - as1.length)=k by omega] at u2
  have na:a ≠ l1:=fun w=>by
   rw [w,r1.1] at u2
   injection u2 with u2
   injection u2 with u2
   rw [u7] at u2
   exact ref_int (by omega) _ u2
  exact ⟨na,by rw [q9 na];exact u2⟩
noncomputable def rowR (h m k:Nat):List V:=fA h m k ++ ((List.range (h + m)).map fun i=>V.int (if i=k then 1 else 0)) ++ [V.int 1]
noncomputable def UNI (c2:Addr)(x:V)(k:Nat)(G:Hp)(i:Nat)(σ:St)(H:Hp):Prop:=∃ v1:Option V,σ=[v1,some x]∧SameX c2 G H∧H c2=some (.lst ((List.range i).map fun j=>V.int (if j=k then 1 else 0)))
theorem bC {P k:Nat}{f:Nat→Int}{A B:List V}(hA:A.length=P)(hB:B.length=k)(a:∀ j,j < P→A[j]? = some (V.int (f j)))(b:∀ i,i < k→B[i]? = some (V.int (f (P + i))))(c:V)(hc:c=V.int (f (P + k))):A ++ B ++ [c] = z9 (P + k) f:=by
 refine BX fun j=>?_
 rcases Az j (P + k + 1) with y | y
 ·rw [dQ f (show j ≤ P + k by omega)]
  rcases Az j P with z | z
  ·rw [Av (by rw [Aj];omega),Av (by omega),a j z]
  ·rcases Az j (P + k) with x | x
   ·rw [Av (by rw [Aj];omega),AB (by omega),b (j - A.length) (by omega),show P + (j - A.length)=j by omega]
   ·have:j=P + k:=by omega
    subst this
    rw [AB (by rw [Aj];omega),Aj,hA,hB,Nat.sub_self,hc]
    rfl
 ·rw [AK (by simp;omega),AK (by rw [xR];omega)]
theorem rowR_is {h m k:Nat}(hk:k < h + m):rowR h m k=z9 (h * (2 ^ m - 1) + (h + m)) (fun j=>jA h m j k):=by
 unfold rowR
 refine bC (by unfold fA;simp) (by simp) (fun j hj=>?_) (fun i hi=>?_) _ ?_
 ·unfold fA
  rw [Ad,AM hj]
  rfl
 ·rw [Ad,AM hi]
  have:jA h m (h * (2 ^ m - 1) + i) k=if i=k then 1 else 0:=by
   unfold jA
   rw [Ah (by omega),Ai (by omega)]
   by_cases z:i=k
   ·rw [Ai z,Ai (by omega)]
   ·rw [Ah z,Ah (by omega)]
  rw [this]
  rfl
 ·unfold jA
  rw [Ah (by omega),Ah (by omega)]
theorem rowW_is (wss:List (List Int))(m:Nat):((List.range (wss.length * (2 ^ m - 1))).map fun j=>V.int (- wS wss m j)) ++ List.replicate (wss.length + m + 1) (V.int 0)=z9 (wss.length * (2 ^ m - 1) + (wss.length + m)) (fun j=>- wS wss m j):=by
 have e:List.replicate (wss.length + m + 1) (V.int 0)=List.replicate (wss.length + m) (V.int 0) ++ [V.int 0]:=List.replicate_succ'
 have w0:∀ i,wS wss m (wss.length * (2 ^ m - 1) + i)=0:=fun i=>by
  unfold wS
  rw [Ah (by omega)]
 rw [e,← Dp]
 refine bC (by simp) (by simp) (fun j hj=>?_) (fun i hi=>?_) _ ?_
 ·rw [Ad,AM hj]
  rfl
 ·rw [List.getElem?_replicate,Ai hi,w0]
  rfl
 ·rw [w0]
  rfl
theorem mB (k:Nat)(x:V):(List.replicate k [x]).flatten=List.replicate k x:=by
 induction k with
 | zero=>rfl
 | succ k ih=>rw [BE,Cu,ih,BE];rfl
theorem vP:FnScope ["town", "places", "sides", "wants", "uses", "table"] ["town", "places"] (qI s_share_table):=⟨rfl,rfl,rfl,by decide +kernel,rfl,by decide +kernel,by decide +kernel⟩
theorem oS (F:Fun K "share_table" "share_table" s_share_table f fd) (hm:mg "share_table" = some (.ref f)) (hb:Binds K fd ["town", "places"] []) (T:Txt mg) (c_has:j4 P w K mg base "has" ["heap", "thing"] 1 rY):j4 P w K mg base "share_table" ["town", "places"] 2 lQ:=by
 refine kU F hm hb vP (fun vs H Q E h=>?_) (fun cdv A outer s H vs Q E hr h=>?_)
 ·obtain ⟨_,_,_,_,_,_,_,_,rfl,_⟩:=h;rfl
 ·obtain ⟨t,sd,wt,l,m,ss,ts,as,rfl,W,h1,pl,q⟩:=h
  have sc:=vP
  refine ⟨_,qG (zG (pv 0) (kK (n:=2) rfl (qJ (qH (i:=2) sc.nd rfl (Or.inl rfl)) (qJ (qH (i:=3) sc.nd rfl (Or.inr rfl)) kJ)))) (qG (kQ (i:=4) sc.nd rfl (Or.inr rfl) (sE (N:=["here", "places"]) (fr:=[none,some 1]) "here" rfl (kT rfl T.range_ (qA (qK len0 rfl T.len_ kY (qA (pv 3) qB)) qB)) (CScope1.of rfl rfl rfl rfl (fun _ _=>rfl) (fun _=>rfl)) rfl (fun _ _ _=>⟨qH (i:=0) (show List.Nodup (α:=Str) ["here", "places"] by decide +kernel) rfl (Or.inr rfl),kH,jO (N:=["hand", "heap", "here"]) (fr:=[none,none,some 0]) rfl (pH (pv 1)) (CScope.of rfl rfl rfl) rfl (fun _ _ _=>⟨kK (n:=2) rfl (qJ (qH (i:=0) (show List.Nodup (α:=Str) ["hand", "heap", "here"] by decide +kernel) rfl (Or.inl rfl)) (qJ (qH (i:=1) (show List.Nodup (α:=Str) ["hand", "heap", "here"] by decide +kernel) rfl (Or.inl rfl)) kJ)),kH,vU (kD jR (pv 0) (pv 2) (kA _)) qD qD⟩)⟩))) (qG (ps_aug (i:=4) sc.nd rfl (Or.inr rfl) (sE (N:=["thing", "places"]) (fr:=[none,some 1]) "thing" rfl (kT rfl T.range_ (qA (qK len0 rfl T.len_ kY (qA (pv 2) qB)) qB)) (CScope1.of rfl rfl rfl rfl (fun _ _=>rfl) (fun _=>rfl)) rfl (fun _ _ _=>⟨qH (i:=0) (show List.Nodup (α:=Str) ["thing", "places"] by decide +kernel) rfl (Or.inr rfl),kH,jO (N:=["hand", "heap", "thing"]) (fr:=[none,none,some 0]) rfl (pH (pv 1)) (CScope.of rfl rfl rfl) rfl (fun _ _ _=>⟨kK (n:=2) rfl (qJ (qH (i:=0) (show List.Nodup (α:=Str) ["hand", "heap", "thing"] by decide +kernel) rfl (Or.inl rfl)) (qJ (qH (i:=1) (show List.Nodup (α:=Str) ["hand", "heap", "thing"] by decide +kernel) rfl (Or.inl rfl)) kJ)),kH,vU (jQ (qU c_has hr (qA (pv 1) (qA (pv 2) qB)))) qD qD⟩)⟩)) ip_addL) (qG (xS (N:=["at", "use", "uses"]) (fr:=[none,none,some 4]) (i:=5) "at" sc.nd rfl (Or.inl rfl) rfl (dU rfl T.enumerate_ (qA (pv 4) qB)) (CScope1.of rfl rfl rfl rfl (fun _ _=>rfl) (fun _=>rfl)) rfl (fun _ _ _=>⟨kK (n:=2) rfl (qJ (qH (i:=0) (show List.Nodup (α:=Str) ["at", "use", "uses"] by decide +kernel) rfl (Or.inr rfl)) (qJ (qH (i:=1) (show List.Nodup (α:=Str) ["at", "use", "uses"] by decide +kernel) rfl (Or.inl rfl)) kJ)),kH,qN vJ (qN vJ (pv 1) (jO (N:=["here", "at"]) (fr:=[none,some 0]) rfl (kT rfl T.range_ (qA (qK len0 rfl T.len_ kY (qA (pv 2) qB)) qB)) (CScope.of rfl rfl rfl) rfl (fun _ _ _=>⟨qH (i:=0) (show List.Nodup (α:=Str) ["here", "at"] by decide +kernel) rfl (Or.inl rfl),kH,vU (kD jR (pv 0) (pv 1) (kA _)) qD qD⟩))) (jW (qA qD qB))⟩)) (qM (q8 (qN vJ (pv 5) (jW (qA (qN vJ (jO (N:=["hand", "heap", "wants"]) (fr:=[none,none,some 3]) rfl (pH (pv 1)) (CScope.of rfl rfl rfl) rfl (fun _ _ _=>⟨kK (n:=2) rfl (qJ (qH (i:=0) (show List.Nodup (α:=Str) ["hand", "heap", "wants"] by decide +kernel) rfl (Or.inl rfl)) (qJ (qH (i:=1) (show List.Nodup (α:=Str) ["hand", "heap", "wants"] by decide +kernel) rfl (Or.inl rfl)) kJ)),kH,vH yG (kL z6 (kL z6 (pv 2) (pv 0) (fun _ _=>rfl)) (pv 1) (fun _ _=>rfl))⟩)) (qN repL0 (jW (qA qD qB)) (qN jD (qK len0 rfl T.len_ kY (qA (pv 4) qB)) qD))) qB)))))))),?_⟩
  rw [show L2.start ["town", "places", "sides", "wants", "uses", "table"] [.ref t,.ref l] = [some (.ref t),some (.ref l),none,none,none,none] from rfl]
  have ht:=W.at'
  have hsd:=kC W.sd
  have hwt:=kC W.wt
  have sl:=W.slen
  (push_cast only [ht,hsd,hwt])
  (simp only [qE])
  (push_cast only [hwt])
  have t5:=W.t5
  have m5:=W.m5
  have p32:=yN W.m5
  have pl1:=pl.2.1
  have hq500:ts.length * (2 ^ m - 1) ≤ 500:=AX (Nat.mul_le_mul t5 (show 2 ^ m - 1 ≤ 31 by omega)) (by decide)
  refine ⟨by omega,by omega,fun l1 n1=>?_⟩
  refine jL (OUT l1 [some (.ref l)] (fA ts.length m) H) ⟨none,[],rfl,SameX.upd,rfl,qF,fun k a e=>by simp at e⟩ ?_ ?_
  ·rintro i σ H1 hi ⟨v,as1,rfl,s1,al1,rw1⟩
   have S1:=s1.same n1
   have pl':=pl.same S1
   have plH:=pl'.2.1
   (push_cast only [plH])
   intro c2 nc2
   refine fR (g:=fun j=>jA ts.length m j i) pl' nc2 hq500 ?_ ?_
   ·intro j H2 Q' hj s2 q'
    rw [dE (by omega) hj] at q'
    (push_cast only [])
    by_cases z:j / (2 ^ m - 1)=i
    ·rw [Ai (by omega)]
     rwa [Ai z] at q'
    ·rw [Ah (by omega)]
     rwa [Ah z] at q'
   ·intro σ H2 s2 e2
    (push_cast only [])
    exact bG _ s1 al1 rw1 nc2 (s2.same nc2) e2 (by omega)
  ·rintro σ H1 ⟨v,as1,rfl,s1,al1,rw1⟩
   have S1:=s1.same n1
   have pl':=pl.same S1
   have plH:=pl'.2.1
   have hsd1:=S1.sq hsd
   (push_cast only [])
   (simp only [qE])
   (push_cast only [hsd1])
   rw [sl]
   refine ⟨by omega,by omega,fun l2 n2=>?_⟩
   refine jL (OUT l2 [some (.ref l)] (fun k=>fA ts.length m (ts.length + k)) H1) ⟨none,[],rfl,SameX.upd,rfl,qF,fun k a e=>by simp at e⟩ ?_ ?_
   ·rintro i σ H2 hi ⟨v',as2,rfl,s2,al2,rw2⟩
    have S2:=s2.same n2
    have pl2:=pl'.same S2
    have plH2:=pl2.2.1
    (push_cast only [plH2])
    intro c2 nc2
    refine fR (g:=fun j=>jA ts.length m j (ts.length + i)) pl2 nc2 hq500 ?_ ?_
    ·intro j H3 Q' hj s3 q'
     rw [d9 hj] at q'
     (push_cast only [])
     have hq0:0 < 2 ^ m - 1:=CF fun z=>by rw [z] at hj;simp at hj
     have hjq:j % (2 ^ m - 1) < 2 ^ m - 1:=C1 _ hq0
     refine ⟨_,_,rfl,by omega,?_⟩
     rw [has_tb (by omega) (by omega)]
     cases z:Nat.testBit (j % (2 ^ m - 1) + 1) i with
     | true=>rw [z,Ai rfl] at q';(push_cast only []);exact q'
     | false=>rw [z,Ah (by simp)] at q';(push_cast only []);exact q'
    ·intro σ H3 s3 e3
     (push_cast only [])
     exact bG _ s2 al2 rw2 nc2 (s3.same nc2) e3 (by omega)
   ·rintro σ H2 ⟨v',as2,rfl,s2,al2,rw2⟩
    have S2:=s2.same n2
    have r1:=rw1.same S2
    have r11:=r1.1
    have r21:=rw2.1
    (push_cast only [r11,r21])
    refine ⟨AH (qL (by omega)),?_⟩
    have r3:=aK h1 (al1.trans (by omega)) r1 rw2
    have S3:Same H (upd H2 l1 (.lst (as1.map V.ref ++ as2.map V.ref))):=((S1.trans S2).x.trans SameX.upd).same n1
    revert r3 S3
    generalize upd H2 l1 (.lst (as1.map V.ref ++ as2.map V.ref))=H3
    intro r3 S3
    have r31:=r3.1
    have l3:(as1 ++ as2).length=ts.length + m:=by rw [Aj,al1,al2];omega
    (simp only [qE])
    (push_cast only [])
    refine ⟨_,_,.inl ⟨rfl,r31⟩,fun l4 n4=>?_⟩
    have n14:l1 ≠ l4:=qC r31 n4
    refine nY (fun i σ H=>∃ v,OUT l4 [v,some (.ref l1)] (rowR ts.length m) H3 i σ H) ⟨none,none,[],rfl,SameX.upd,rfl,qF,fun k a e=>by simp at e⟩ (fun i σ H' ⟨_,_,_,_,s,_⟩=>.inl ⟨rfl,s _ _ n14 r31⟩) ?_ ?_
    ·rintro i x T4 σ H4 H5 hx ⟨v4,v5,as4,rfl,s4,al4,rw4⟩ nT4 s5 eT4
     rw [Ad] at hx
     obtain ⟨a,ha,rfl⟩:=Al.mp hx
     have hi:i < ts.length + m:=by rw [← l3];exact (Ag.mp ha).1
     have aH:=(r3.2 i a ha).2
     have na4:a ≠ l4:=qC aH n4
     have aH5:=s5 _ _ (s4 _ _ na4 aH)
     have hs5:=kF (s5 _ _ (s4 _ _ n14 r31))
     (push_cast only [eT4,hs5])
     rw [l3]
     refine ⟨by omega,by omega,fun c2 nc2=>?_⟩
     refine jL (UNI c2 (.int (i:Int)) i H5) ⟨none,rfl,SameX.upd,qF⟩ ?_ ?_
     ·rintro j σ H6 hj ⟨v6,rfl,s6,e6⟩
      (push_cast only [e6])
      have fin:∀ y:Int,y=(if j=i then 1 else 0)→UNI c2 (.int (i:Int)) i H5 (j + 1) [some (.int (j:Int)),some (.int (i:Int))] (upd H6 c2 (.lst ((List.range j).map (fun j=>V.int (if j=i then 1 else 0)) ++ [V.int y]))):=fun y hy=>by
       refine ⟨_,rfl,s6.trans SameX.upd,?_⟩
       rw [qF,AO,Ae,hy]
       rfl
      have hz:(List.range j).length < sizeLine:=qL (by rw [Ar];omega)
      by_cases z:j=i
      ·rw [Ai (by omega)]
       exact ⟨hz,fin 1 (by rw [Ai z])⟩
      ·rw [Ah (by omega)]
       exact ⟨hz,fin 0 (by rw [Ah z])⟩
     ·rintro σ H6 ⟨v6,rfl,s6,e6⟩
      have S6:=s6.same nc2
      have aH6:=S6 _ _ aH5
      have ul:(fA ts.length m i).length=ts.length * (2 ^ m - 1):=by unfold fA;simp
      rw [show ((ts.length + m:Nat):Int).toNat=ts.length + m from Ap _] at e6
      (push_cast only [e6,aH6])
      refine ⟨AH (qL (by rw [Ar];omega)),fun p7 H7 n7 s7 e7=>⟨by decide,fun p8 H8 n8 s8 e8=>⟨_,s8 _ _ e7,_,e8,AH (qL (by rw [Aj,Aa,Ar];simp only [A6,Bq];omega)),fun p9 H9 n9 s9 e9=>?_⟩⟩⟩
      have S9:Same H5 H9:=((S6.trans s7).trans s8).trans s9
      have S59:=s5.trans S9
      have n94:H4 p9=none:=gH ((s5.trans S6).trans (s7.trans s8)) n9
      obtain ⟨ys,y1,y2,y3⟩:=bG (xs:=[some (.ref a),some (.ref l1)]) (some (.int (i:Int))) s4 al4 rw4 n94 S59 e9 (by omega)
      exact ⟨ys,y1,y2,_,y3⟩
    ·rintro σ H4 ⟨v4,v5,as4,rfl,s4,al4,rw4⟩
     have S4:=S3.trans (s4.same n4)
     have pl4:=pl.same S4
     have plH4:=pl4.2.1
     (simp only [qE])
     (push_cast only [plH4])
     intro c5 nc5
     refine fR (g:=fun j=>- wS (ts.map fun t=>t.2) m j) pl4 nc5 hq500 ?_ ?_
     ·intro j H5 Q' hj s5 q'
      have hwt5:=kC (s5 _ _ (qC (S4 _ _ W.wt) nc5) (S4 _ _ W.wt))
      have hq0:0 < 2 ^ m - 1:=CF fun z=>by rw [z] at hj;simp at hj
      have hh:j / (2 ^ m - 1) < ts.length:=Ca (by rw [B4];exact hj)
      have hS:j % (2 ^ m - 1) < 2 ^ m - 1:=C1 _ hq0
      obtain ⟨r1',r2'⟩:=W.row _ (AE hh)
      have aw:xH (ts.map fun t=>V.ref t.1) ((j / (2 ^ m - 1):Nat):Int)=some (V.ref (ts[j / (2 ^ m - 1)]).1):=zO (by rw [Ad,Af hh];rfl)
      have rH:=kC (s5 _ _ (qC (S4 _ _ r1') nc5) (S4 _ _ r1'))
      have av:=vY (ns:=(ts[j / (2 ^ m - 1)]).2) (n:=j % (2 ^ m - 1) + 1) (by rw [r2'];omega)
      have ew:wS (ts.map fun t=>t.2) m j=(ts[j / (2 ^ m - 1)]).2.getD (j % (2 ^ m - 1) + 1) 0:=by
       unfold wS
       rw [Aa,Ai hj]
       congr 1
       rw [Ab,Ad,Af hh]
       rfl
      (push_cast only [hwt5,aw,rH,av])
      rw [ew] at q'
      exact q'
     ·intro σ H5 s5 e5
      have S5:=s5.same nc5
      refine ⟨by decide,fun p6 H6 n6 s6 e6=>?_⟩
      have S56:Same H4 H6:=S5.trans s6
      have hs6:=kF (S56 _ _ ((s4.same n4) _ _ r31))
      refine ⟨_,hs6,ts.length + m + 1,by rw [Aa,l3];omega,_,e6,by omega,?_,fun p7 H7 n7 s7 e7=>⟨_,s7 _ _ (s6 _ _ e5),_,e7,?_,fun p8 H8 n8 s8 e8=>⟨by decide,fun p9 H9 n9 s9 e9=>⟨_,s9 _ _ (s8 _ _ (s7 _ _ (S56 _ _ rw4.1))),_,e9,?_,fun pa Ha na sa ea=>?_⟩⟩⟩⟩
      ·rw [sizeLine_eq];simp;omega
      ·rw [mB];exact AH (qL (by simp;omega))
      ·rw [Aa,l3] at al4;exact AH (qL (by simp;omega))
      rw [mB] at e8
      have Sa:Same H4 Ha:=((((S56.trans s7).trans s8).trans s9)).trans sa
      have lw:(ts.map fun t=>t.2).length=ts.length:=Aa ..
      refine q pa (as4 ++ [p8]) Ha (S4.trans Sa) ⟨by rw [Aj,al4,Aa,l3];rfl,by rw [ea,Ae];rfl,fun k a e=>?_⟩
      rw [Aa,l3] at al4
      rcases Az k (ts.length + m) with z | z
      ·rw [Av (by omega)] at e
       have:=Sa _ _ (rw4.2 k a e).2
       rw [rowR_is z] at this
       rw [this]
       congr 2
       refine x8 fun j _=>?_
       unfold bR
       rw [lw,Ai z]
      ·rw [AB (by omega)] at e
       have hk:k - as4.length=0:=by
        have:=(Ag.mp e).1
        simp at this
        omega
       rw [hk] at e
       have:p8=a:=by simpa using e
       subst this
       have:=sa _ _ (s9 _ _ e8)
       have rw':=rowW_is (ts.map fun t=>t.2) m
       rw [lw] at rw'
       rw [rw'] at this
       rw [this]
       congr 2
       refine x8 fun j _=>?_
       unfold bR
       rw [lw,Ah (by omega)]
end
theorem cW (h k:Nat)(f:Nat→Int):jP (h + k) f=jP h f + jP k (fun t=>f (h + t)):=by
 induction k with
 | zero=>show jP h f=jP h f + 0;omega
 | succ k ih =>
  show jP (h + k) f + f (h + k)=jP h f + (jP k (fun t=>f (h + t)) + f (h + k))
  rw [ih]
  omega
theorem pB (k:Nat)(f:Nat→Int):((List.range k).map f).sum=jP k f:=by
 induction k with
 | zero=>rfl
 | succ k ih =>
  rw [AO,Ae,CV,ih]
  show jP k f + (f k + 0)=jP k f + f k
  omega
noncomputable def zB (m S:Nat)(p:Nat→Int):Int:=jP m fun t=>if Nat.testBit S t=true then p t else 0
theorem h8 {m S:Nat}{p q:Nat→Int}(h:∀ t,t < m→p t=q t):zB m S p=zB m S q:=jC fun t ht=>by rw [h t ht]
section
variable {h m:Nat}
theorem yY:Unit' (h + m) (h * (2 ^ m - 1)) (jA h m):=fun k hk i hi=>by
 unfold jA
 rw [Ah (by omega),Ai (by omega)]
 by_cases z:k=i
 ·rw [Ai z,Ai (by omega)]
 ·rw [Ah z,Ah (by omega)]
theorem d3 {k:Nat}:jA h m (h * (2 ^ m - 1) + (h + m)) k=1:=by
 unfold jA
 rw [Ah (by omega),Ah (by omega)]
theorem gM:rM (h + m) (h * (2 ^ m - 1) + (h + m)) (jA h m):=fun j hj k hk=>by
 unfold jA
 repeat' split
 all_goals omega
theorem colS_ok:rL (h + m) (h * (2 ^ m - 1) + (h + m)) (jA h m):=fun j hj=>by
 refine ⟨fun k hk=>(gM (h:=h) (m:=m) j (by omega) k hk).1,?_⟩
 rcases Az j (h * (2 ^ m - 1)) with z | z
 ·have hh:j / (2 ^ m - 1) < h:=Ca (by rw [B4];exact z)
  refine ⟨j / (2 ^ m - 1),by omega,?_⟩
  unfold jA
  rw [Ai z,Ai hh,Ai rfl]
  decide
 ·refine ⟨j - h * (2 ^ m - 1),by omega,?_⟩
  unfold jA
  rw [Ah (by omega),Ai hj,Ai (by omega)]
  decide
theorem place_lt {i S:Nat}(hi:i < h)(s1:1 ≤ S)(s2:S < 2 ^ m):i * (2 ^ m - 1) + (S - 1) < h * (2 ^ m - 1)∧(i * (2 ^ m - 1) + (S - 1)) / (2 ^ m - 1)=i∧(i * (2 ^ m - 1) + (S - 1)) % (2 ^ m - 1) + 1=S:=by
 have hS:S - 1 < 2 ^ m - 1:=by omega
 have d1:(i * (2 ^ m - 1) + (S - 1)) / (2 ^ m - 1)=i:=by
  rw [B4,Nat.mul_add_div (by omega),Nat.div_eq_of_lt hS,Nat.add_zero]
 have d2:(i * (2 ^ m - 1) + (S - 1)) % (2 ^ m - 1)=S - 1:=by
  rw [B4,Nat.mul_add_mod,CP hS]
 refine ⟨?_,d1,by omega⟩
 have:=Nat.mul_le_mul_right (2 ^ m - 1) (show i + 1 ≤ h by omega)
 rw [Nat.add_mul,Nat.one_mul] at this
 omega
theorem col_sum {j:Nat}(hj:j < h * (2 ^ m - 1))(v:Nat→Int):jP (h + m) (fun k=>jA h m j k * v k)=v (j / (2 ^ m - 1)) + zB m (j % (2 ^ m - 1) + 1) (fun t=>v (h + t)):=by
 have hh:j / (2 ^ m - 1) < h:=Ca (by rw [B4];exact hj)
 rw [cW,yR hh fun i hi ne=>by rw [dE hi hj,Ah (Cr ne),Co],dE hh hj,Ai rfl,C0]
 congr 1
 unfold zB
 refine jC fun t ht=>?_
 rw [d9 hj]
 by_cases z:Nat.testBit (j % (2 ^ m - 1) + 1) t=true
 ·rw [Ai z,Ai z,C0]
 ·rw [Ah z,Ah z,Co]
end
theorem xI (wss:List (List Int))(m i:Nat):wS wss m (wss.length * (2 ^ m - 1) + i)=0:=by
 unfold wS
 rw [Ah (by omega)]
theorem first_is (wss:List (List Int)){m i j:Nat}(hi:i ≤ wss.length + m):bR wss m i j=j6 (wss.length + m) (jA wss.length m) (wS wss m) (fun i=>wss.length * (2 ^ m - 1) + i) i j:=by
 unfold bR
 by_cases z:i < wss.length + m
 ·rw [Ai z,j5 z,cD yY z]
 ·rw [Ah z,show i=wss.length + m by omega,yH,Zb_first yY fun k _=>xI wss m k]
structure Sh (wss:List (List Int))(m:Nat)(y:Int)(gs ns:List Int):Prop where
 y1:1 ≤ y
 y2:y ≤ 3628800
 gl:gs.length=wss.length
 nl:ns.length=m
 g0:∀ x ∈ gs,0 ≤ x
 n0:∀ x ∈ ns,0 ≤ x
 cov:∀ i S,i < wss.length→1 ≤ S→S < 2 ^ m→y * (wss.getD i []).getD S 0 ≤ gs.getD i 0 + zB m S (fun t=>ns.getD t 0)
 big:∀ B:Int,0 ≤ B→(∀ ws ∈ wss,∀ x ∈ ws,0 ≤ x∧x ≤ B)→wss.length + m ≤ 10→∀ x,x ∈ gs∨x ∈ ns→x ≤ 10 * (B * 3628800)
noncomputable def nW (wss:List (List Int))(m:Nat)(bs:Nat→Nat)(k:Nat):Int:=Zb (wss.length + m) (jA wss.length m) (wS wss m) bs (wss.length * (2 ^ m - 1) + k)
noncomputable def gsOf (wss:List (List Int))(m:Nat)(bs:Nat→Nat):List Int:=(List.range wss.length).map fun i=>nW wss m bs i
noncomputable def o4 (wss:List (List Int))(m:Nat)(bs:Nat→Nat):List Int:=(List.range m).map fun t=>nW wss m bs (wss.length + t)
theorem getD_map {k i:Nat}(f:Nat→Int)(hi:i < k):((List.range k).map f).getD i 0=f i:=by
 rw [Ab,Ad,AM hi]
 rfl
theorem sh_of {wss:List (List Int)}{m:Nat}{bs:Nat→Nat}(m10:wss.length + m ≤ 10)(g:Gd (wss.length + m) (wss.length * (2 ^ m - 1) + (wss.length + m)) (jA wss.length m) bs)
  (opt:∀ j,j < wss.length * (2 ^ m - 1) + (wss.length + m)→0 ≤ Zb (wss.length + m) (jA wss.length m) (wS wss m) bs j):Sh wss m (Yb (wss.length + m) (jA wss.length m) bs) (gsOf wss m bs) (o4 wss m bs):=by
 have zu:=fun j=>rG (yY (h:=wss.length) (m:=m)) (w:=wS wss m) (fun k _=>xI wss m k) bs j
 have wj:∀ i S,i < wss.length→1 ≤ S→S < 2 ^ m→wS wss m (i * (2 ^ m - 1) + (S - 1))=(wss.getD i []).getD S 0:=fun i S hi s1 s2=>by
  obtain ⟨a,b,c⟩:=place_lt hi s1 s2
  unfold wS
  rw [Ai a,b,c]
 refine ⟨g.y,rJ gM m10 g,by unfold gsOf;simp,by unfold o4;simp,fun x hx=>?_,fun x hx=>?_,fun i S hi s1 s2=>?_,fun B b0 bd _ x hx=>?_⟩
 ·obtain ⟨i,hi,rfl⟩:=Au.mp hx
  have:=AD.mp hi
  exact opt _ (by omega)
 ·obtain ⟨t,ht,rfl⟩:=Au.mp hx
  have:=AD.mp ht
  exact opt _ (by omega)
 ·obtain ⟨a,b,c⟩:=place_lt hi s1 s2
  have z:=opt (i * (2 ^ m - 1) + (S - 1)) (by omega)
  rw [zu,col_sum a,b,c,wj i S hi s1 s2] at z
  have e1:(gsOf wss m bs).getD i 0=nW wss m bs i:=getD_map _ hi
  have e2:zB m S (fun t=>(o4 wss m bs).getD t 0)=zB m S (fun t=>nW wss m bs (wss.length + t)):=h8 fun t ht=>getD_map _ ht
  rw [e1,e2]
  unfold nW
  have e3:(fun t=>Zb (wss.length + m) (jA wss.length m) (wS wss m) bs (wss.length * (2 ^ m - 1) + (wss.length + t)))=fun t=>Zb (wss.length + m) (jA wss.length m) (wS wss m) bs (wss.length * (2 ^ m - 1) + (wss.length + t)):=rfl
  omega
 ·have key:∀ k,k < wss.length + m→nW wss m bs k ≤ 10 * (B * 3628800):=fun k hk=>by
   unfold nW Zb
   rw [xI,Bo,Dr]
   have b1:∀ i,i < wss.length + m→-(B * 3628800) ≤ wS wss m (bs i) * Tb (wss.length + m) (jA wss.length m) bs i (wss.length * (2 ^ m - 1) + k)∧wS wss m (bs i) * Tb (wss.length + m) (jA wss.length m) bs i (wss.length * (2 ^ m - 1) + k) ≤ B * 3628800:=fun i hi=>by
    have tb:=rK (i:=i) (j:=wss.length * (2 ^ m - 1) + k) (gM (h:=wss.length) (m:=m)) m10 g (by omega)
    have wb:0 ≤ wS wss m (bs i)∧wS wss m (bs i) ≤ B:=by
     unfold wS
     by_cases z:bs i < wss.length * (2 ^ m - 1)
     ·rw [Ai z]
      have hh:bs i / (2 ^ m - 1) < wss.length:=Ca (by rw [B4];exact z)
      have hm:wss.getD (bs i / (2 ^ m - 1)) [] ∈ wss:=by rw [Ab,Af hh];exact AE hh
      rcases Az (bs i % (2 ^ m - 1) + 1) (wss.getD (bs i / (2 ^ m - 1)) []).length with y | y
      ·refine bd _ hm _ ?_
       rw [Ab (l:=wss.getD (bs i / (2 ^ m - 1)) []),Af y]
       exact AE y
      ·rw [Ab (l:=wss.getD (bs i / (2 ^ m - 1)) []),AK y]
       exact ⟨BM _,b0⟩
     ·rw [Ah z]
      exact ⟨BM _,b0⟩
    generalize Tb (wss.length + m) (jA wss.length m) bs i (wss.length * (2 ^ m - 1) + k)=T at tb ⊢
    generalize wS wss m (bs i)=W at wb ⊢
    have x1:=BG tb.2 wb.1
    have x2:=BG tb.1 wb.1
    have x3:=Bu wb.2 (show (0:Int) ≤ 3628800 by decide)
    omega
   have s:=(nE b1).2
   have le:((wss.length + m:Nat):Int) * (B * 3628800) ≤ 10 * (B * 3628800):=Bu (by omega) (Di b0 (by decide))
   omega
  rcases hx with hx | hx
  ·obtain ⟨i,hi,rfl⟩:=Au.mp hx
   exact key _ (by have:=AD.mp hi;omega)
  ·obtain ⟨t,ht,rfl⟩:=Au.mp hx
   exact key _ (by have:=AD.mp ht;omega)
section
variable {P:Program}{w:World}{K:PySem.W.Frag}{mg:Str→Option Value}{base:Heap}{f:Addr}{fd:FuncData}
theorem cut_ends {P k:Nat}(f:Nat→Int):zI (z9 (P + k) f) (some (P:Int)) (some (-1))=(List.range k).map fun i=>V.int (f (P + i)):=by
 unfold zI
 have h1:HT.sIx (z9 (P + k) f).length (z9 (P + k) f).length (some (-1))=P + k:=by
  rw [xR]
  unfold HT.sIx
  simp only [show ((-1:Int) < 0)=True from by decide,Cv]
  omega
 rw [h1,HT.sIx_nat,BW (by rw [xR];omega),show P + k - P=k by omega]
 refine BX fun i=>?_
 rw [CD]
 by_cases z:i < k
 ·rw [Ai z,Cp,dQ f (by omega),Ad,AM z]
  rfl
 ·rw [Ah z,AK (by simp;omega)]
noncomputable def aB (q:Nat)(bs:Nat→Nat)(F:Nat→Nat→Int)(n i:Nat):List Int:=[((bs i / q:Nat):Int),((bs i % q + 1:Nat):Int),F i n]
noncomputable def keepR (P:Nat)(bs:Nat→Nat)(F:Nat→Nat→Int)(n i:Nat):Bool:=decide (bs i < P∧0 < F i n)
noncomputable def gU (wss:List (List Int))(x:List Int):Int:=x.getD 2 0 * (wss.getD (x.getD 0 0).toNat []).getD (x.getD 1 0).toNat 0
noncomputable def hX (i:Nat)(x:List Int):Int:=if x.getD 0 0=(i:Int) then x.getD 2 0 else 0
noncomputable def vL (t:Nat)(x:List Int):Int:=if Nat.testBit (x.getD 1 0).toNat t=true then x.getD 2 0 else 0
structure ShR (wss:List (List Int))(m:Nat)(H:Hp)(ra:Addr)(rs:List (Addr × List Int))(y:Int)(tot:Int):Prop where
 at':H ra=some (.tup (rs.map fun x=>V.ref x.1))
 few:rs.length ≤ 10
 row:∀ x ∈ rs,H x.1=some (.tup (x.2.map V.int))∧∃ (i S:Nat) (part:Int),x.2=[(i:Int),(S:Int),part]∧i < wss.length∧1 ≤ S∧S < 2 ^ m∧0 < part∧part ≤ 3628800
 wor:(rs.map fun x=>gU wss x.2).sum=tot
 ris:(rs.map fun x=>x.2.take 2).Pairwise fun x y=>zJ x y=true
 hnd:∀ i:Nat,i < wss.length→(rs.map fun x=>hX i x.2).sum ≤ y
 thg:∀ t:Nat,t < m→(rs.map fun x=>vL t x.2).sum ≤ y
noncomputable def cR:Sp:=fun vs H Q _=>∃ (t sd wt:Addr) (m:Nat) (ss:List Int) (ts:List (Addr × List Int)),vs=[.ref t]∧TownW H t sd wt m ss ts∧1 ≤ ts.length∧∀ (o ra na ga:Addr) (rs:List (Addr × List Int)) (y:Int) (gs ns:List Int) (H':Hp),Same H H'→H' o=some (.tup [.int y,.ref ra,.ref na,.ref ga])→H' na=some (.tup (ns.map V.int))→H' ga=some (.tup (gs.map V.int))→Sh (ts.map fun t=>t.2) m y gs ns→ShR (ts.map fun t=>t.2) m H' ra rs y (gs.sum + ns.sum)→Q (.ref o) H'
noncomputable def SRI (l l0 ch tb:Addr)(P q n:Nat)(bs:Nat→Nat)(F:Nat→Nat→Int)(G:Hp)(i:Nat)(σ:St)(H:Hp):Prop:=∃ (v1 v2:Option V) (cs:List (Addr × List Int)),σ=[v1,v2,some (.ref l)]∧SameX l0 G H∧H l0=some (.lst (cs.map fun x=>V.ref x.1))∧cs.map (fun x=>x.2)=((List.range i).filter (keepR P bs F n)).map (aB q bs F n)∧∀ x ∈ cs,x.1 ≠ l0∧H x.1=some (.tup (x.2.map V.int))
theorem bS {f g:Nat→Int}(p:Nat→Bool):∀ k,(∀ i,i < k→p i=true→f i=g i)→(∀ i,i < k→p i=false→g i=0)→(((List.range k).filter p).map f).sum=jP k g
 | 0,_,_=>rfl
 | k + 1,h1,h2=>by
  rw [AO,AQ,Ae,CV,bS p k (fun i hi=>h1 i (by omega)) (fun i hi=>h2 i (by omega))]
  show jP k g + _=jP k g + g k
  congr 1
  cases z:p k with
  | true=>simp [List.filter,z,h1 k (by omega) z]
  | false=>simp [List.filter,z,h2 k (by omega) z]
theorem TownW.keep {H H':Hp}{t sd wt:Addr}{m:Nat}{ss:List Int}{ts:List (Addr × List Int)}(W:TownW H t sd wt m ss ts)(s:Same H H'):TownW H' t sd wt m ss ts:=⟨s _ _ W.at',s _ _ W.sd,s _ _ W.wt,W.m5,W.slen,W.t5,fun t ht=>⟨s _ _ (W.row t ht).1,(W.row t ht).2⟩⟩
theorem IsTab.congr {m n:Nat}{F F':Nat→Nat→Int}{H:Hp}{t:Addr}{as:List Addr}(h:IsTab m n F H t as)(e:∀ i j,i ≤ m→F i j=F' i j):IsTab m n F' H t as:=⟨h.len,h.tab,fun i a ha=>by
 have hi:i ≤ m:=by have:=(Ag.mp ha).1;have:=h.len;omega
 rw [h.row i a ha,x8 fun j _=>e i j hi]⟩
theorem cut_ns (f:Nat→Int)(h m:Nat):zI ((List.range (h + m)).map fun i=>V.int (f i)) (some (h:Int)) none=((List.range m).map fun t=>f (h + t)).map V.int:=by
 unfold zI
 rw [HT.sIx_none,HT.sIx_nat,BW (by simp),Bc (by simp)]
 refine BX fun i=>?_
 rw [Cp,AF]
 by_cases z:i < m
 ·rw [Ad,AM (by omega),Ad,AM z]
  rfl
 ·rw [AK (by simp;omega),AK (by simp;omega)]
theorem cut_gs (f:Nat→Int)(h m:Nat):zI ((List.range (h + m)).map fun i=>V.int (f i)) none (some (h:Int))=((List.range h).map f).map V.int:=by
 unfold zI
 rw [HT.sIx_none,HT.sIx_nat,BW (by simp),CL,Dd]
 refine BX fun i=>?_
 rw [CD,AF]
 by_cases z:i < h
 ·rw [Ai z,Ad,AM (by omega),Ad,AM z]
  rfl
 ·rw [Ah z,AK (by simp;omega)]
theorem bF {l k:List Int}(h:l.Perm k):l.sum=k.sum:=by
 induction h with
 | nil=>rfl
 | cons x _ ih=>rw [Bw,Bw,ih]
 | swap x y l=>rw [Bw,Bw,Bw,Bw];omega
 | trans _ _ a b=>rw [a,b]
theorem i5:∀ {n:Nat} {f g:Nat→Int},(∀ i,i < n→f i ≤ g i)→jP n f ≤ jP n g
 | 0,_,_,_=>BM _
 | n + 1,f,g,h=>by
  have a:=i5 (n:=n) (f:=f) (g:=g) fun i hi=>h i (by omega)
  have b:=h n (by omega)
  show jP n f + f n ≤ jP n g + g n
  omega
theorem bB {h m:Nat}{bs:Nat→Nat}(g:Gd (h + m) (h * (2 ^ m - 1) + (h + m)) (jA h m) bs){k:Nat}(hk:k < h + m)(p:Nat→Bool) :
  (((List.range (h + m)).filter p).map fun i=>Tb (h + m) (jA h m) bs i (h * (2 ^ m - 1) + (h + m)) * jA h m (bs i) k).sum ≤ Yb (h + m) (jA h m) bs:=by
 have sp:=g.tab.span (h * (2 ^ m - 1) + (h + m)) k hk
 rw [d3,Cz] at sp
 rw [sp,bS (g:=fun i=>if p i=true then Tb (h + m) (jA h m) bs i (h * (2 ^ m - 1) + (h + m)) * jA h m (bs i) k else 0) p (h + m) (fun i _ e=>by rw [Ai e]) (fun i _ e=>by rw [Ah (by rw [e];decide)])]
 refine i5 fun i hi=>?_
 have c0:0 ≤ jA h m (bs i) k:=(gM (h:=h) (m:=m) (bs i) (by have:=g.inn i hi;omega) k hk).1
 have t0:=g.fe i hi
 split
 ·exact BM _
 ·exact Di t0 c0
theorem lex_pair {x y:List Int}(hx:x.length=3)(hy:y.length=3)(ne:x.take 2 ≠ y.take 2)(h:zJ x y=true):zJ (x.take 2) (y.take 2)=true:=by
 match x,y,hx,hy with
 | [a,b,c],[d,e,f],_,_ =>
  have h':(if a=d then (if b=e then (if c=f then false else decide (c < f)) else decide (b < e)) else decide (a < d))=true:=h
  show (if a=d then (if b=e then false else decide (b < e)) else decide (a < d))=true
  by_cases h1:a=d
  ·rw [Ai h1] at h' ⊢
   by_cases h2:b=e
   ·exact absurd (by rw [h1,h2];rfl) ne
   ·rw [Ah h2] at h' ⊢
    exact h'
  ·rw [Ah h1] at h' ⊢
   exact h'
theorem cY:FnScope ["town", "sides", "wants", "places", "bounds", "by", "table", "chosen", "rows", "ends"] ["town"] (qI s_shares):=⟨rfl,rfl,rfl,by decide +kernel,rfl,by decide +kernel,by decide +kernel⟩
theorem aR (F:Fun K "shares" "shares" s_shares f fd) (hm:mg "shares" = some (.ref f)) (hb:Binds K fd ["town"] []) (T:Txt mg) (c_share_places:j4 P w K mg base "share_places" ["town"] 1 cS) (c_share_table:j4 P w K mg base "share_table" ["town", "places"] 2 lQ) (c_solved:j4 P w K mg base "solved" ["table", "chosen"] 3 cQ):j4 P w K mg base "shares" ["town"] 4 cR:=by
 refine kU F hm hb cY (fun vs H Q E h=>?_) (fun cdv A outer s H vs Q E hr h=>?_)
 ·obtain ⟨_,_,_,_,_,_,rfl,_⟩:=h;rfl
 ·obtain ⟨t,sd,wt,m,ss,ts,rfl,W,h1,q⟩:=h
  have sc:=cY
  refine ⟨_,qG (zG (pv 0) (kK (n:=2) rfl (qJ (qH (i:=1) sc.nd rfl (Or.inl rfl)) (qJ (qH (i:=2) sc.nd rfl (Or.inl rfl)) kJ)))) (qG (kQ (i:=3) sc.nd rfl (Or.inr rfl) (qU c_share_places hr (qA (pv 0) qB))) (qG (kQ (i:=4) sc.nd rfl (Or.inl rfl) (qN jD (qK len0 rfl T.len_ kY (qA (pv 2) qB)) (qK len0 rfl T.len_ kY (qA (pv 1) qB)))) (qG (zG (qU c_solved hr (qA (qU c_share_table hr (qA (pv 0) (qA (pv 3) qB))) (qA (aN rfl T.list_ rfl T.range_ (qA (qK len0 rfl T.len_ kY (qA (pv 3) qB)) (qA (qN jD (qK len0 rfl T.len_ kY (qA (pv 3) qB)) (pv 4)) qB))) qB))) (kK (n:=3) rfl (qJ (qH (i:=5) sc.nd rfl (Or.inl rfl)) (qJ (qH (i:=6) sc.nd rfl (Or.inl rfl)) (qJ (qH (i:=7) sc.nd rfl (Or.inl rfl)) kJ))))) (qG (yE (i:=8) sc.nd rfl (Or.inl rfl) (N:=["column", "row", "places"]) (fr:=[none,none,some 3]) rfl (gZ rfl T.zip_ (qA (pv 7) (qA (pv 6) qB))) (CScope.of rfl rfl rfl) rfl (fun _ _ _=>⟨kK (n:=2) rfl (qJ (qH (i:=0) (show List.Nodup (α:=Str) ["column", "row", "places"] by decide +kernel) rfl (Or.inl rfl)) (qJ (qH (i:=1) (show List.Nodup (α:=Str) ["column", "row", "places"] by decide +kernel) rfl (Or.inl rfl)) kJ)),zD (PW.pt (nG (kD xU (pv 0) (qK len0 rfl T.len_ kY (qA (pv 2) qB)) (kA _)) (wG (kD mD (kL z6 (pv 1) (vH yG qD) (fun _ _=>rfl)) qD (kA _))))),qN bY (kL z6 (pv 2) (pv 0) (fun _ _=>rfl)) (jB (qA (kL z6 (pv 1) (vH yG qD) (fun _ _=>rfl)) qB))⟩)) (qG (kQ (i:=9) sc.nd rfl (Or.inl rfl) (kZ yM rfl T.tuple_ kX (qA (jH rZ (kL z6 (pv 6) (vH yG qD) (fun _ _=>rfl)) (jN (qK len0 rfl T.len_ kY (qA (pv 3) qB))) (jN (vH yG qD))) qB))) (qM (q8 (jB (qA (pv 5) (qA (kZ yM rfl T.tuple_ kX (qA (qK iZ rfl T.sorted_ fT (qA (pv 8) qB)) qB)) (qA (jH h9 (pv 9) (jN (qK len0 rfl T.len_ kY (qA (pv 2) qB))) jT) (qA (jH h9 (pv 9) jT (jN (qK len0 rfl T.len_ kY (qA (pv 2) qB)))) qB)))))))))))),?_⟩
  rw [show L2.start ["town", "sides", "wants", "places", "bounds", "by", "table", "chosen", "rows", "ends"] [.ref t] = [some (.ref t),none,none,none,none,none,none,none,none,none] from rfl]
  have ht:=W.at'
  (push_cast only [ht])
  (simp only [qE])
  (push_cast only [])
  refine ⟨t,sd,wt,m,ss,ts,rfl,W,fun l as H1 s1 pl=>?_⟩
  have hwt1:=kC (s1 _ _ W.wt)
  have hsd1:=kC (s1 _ _ W.sd)
  have pl1:=kF pl.2.1
  (simp only [qE])
  (push_cast only [hwt1,hsd1])
  (simp only [qE])
  (push_cast only [pl1])
  have W1:=W.keep s1
  refine ⟨t,sd,wt,l,m,ss,ts,as,rfl,W1,h1,pl,fun t2 as2 H2 s2 tb2=>?_⟩
  have lw:(ts.map fun t=>t.2).length=ts.length:=Aa ..
  have t5:=W.t5
  have m5:=W.m5
  have p32:=yN W.m5
  have pl2:=pl.same s2
  have hq500:ts.length * (2 ^ m - 1) ≤ 160:=AX (Nat.mul_le_mul t5 (show 2 ^ m - 1 ≤ 31 by omega)) (by decide)
  have al:(as.map V.ref).length=ts.length * (2 ^ m - 1):=by rw [Aa];exact pl.1
  refine ⟨_,kF pl2.2.1,_,kF pl2.2.1,by omega,by omega,by rw [al,W.slen];omega,fun ch H3 nch s3 e3=>?_⟩
  rw [al,W.slen] at e3
  rw [show ((ts.length * (2 ^ m - 1):Nat):Int) + ((ts.length:Int) + (m:Int)) - ((ts.length * (2 ^ m - 1):Nat):Int)=((ts.length + m:Nat):Int) by omega,Ap] at e3
  have e3':Chs (ts.length + m) (fun i=>ts.length * (2 ^ m - 1) + i) H3 ch:=by
   unfold Chs
   rw [e3]
   congr 2
  rw [← lw] at tb2 e3' pl h1 hq500 t5
  generalize hw:(ts.map fun t=>t.2)=wss at *
  have tb3:=(tb2.same s3).congr fun i j hi=>first_is wss (j:=j) hi
  refine ⟨t2,ch,wss.length + m,wss.length * (2 ^ m - 1) + (wss.length + m),jA wss.length m,wS wss m,as2,_,rfl,tb3,e3',first_gd yY rfl (fun k _=>by rw [d3];decide),colS_ok,gM,vZ yY,by omega,by omega,fun bs t4 ch4 o as4 H4 s4 g4 opt4 tb4 chs4 e4=>?_⟩
  refine ⟨o,rfl,_,e4,rfl,_,_,rfl,_,_,rfl,_,_,rfl,rfl,?_⟩
  have S4:=(s2.trans s3).trans s4
  have pl4:=pl.same S4
  have plH4:=pl4.2.1
  (simp only [qE])
  (push_cast only [])
  refine ⟨_,_,_,.inl ⟨rfl,chs4⟩,_,.inl ⟨rfl,tb4.tab⟩,fun l0 n0=>?_⟩
  have nl0:l ≠ l0:=qC plH4 n0
  have nc0:ch4 ≠ l0:=qC chs4 n0
  have nt0:t4 ≠ l0:=qC tb4.tab n0
  refine fQ (SRI l l0 ch4 t4 (wss.length * (2 ^ m - 1)) (2 ^ m - 1) (wss.length * (2 ^ m - 1) + (wss.length + m)) bs (j6 (wss.length + m) (jA wss.length m) (wS wss m) bs) H4) ⟨none,none,[],rfl,SameX.upd,qF,rfl,fun x hx=>by simp at hx⟩ (fun i σ H' ⟨_,_,_,_,s,_⟩=>⟨.inl ⟨rfl,s _ _ nc0 chs4⟩,.inl ⟨rfl,s _ _ nt0 tb4.tab⟩⟩) ?_ ?_
  ·rintro i u v T5 σ H5 H6 hu hv ⟨v1,v2,cs,rfl,s5,e5,ec,rows5⟩ nT5 s6 eT6
   rw [Ad] at hu hv
   obtain ⟨k,hk,rfl⟩:=Al.mp hu
   obtain ⟨hi,hk⟩:=Ag.mp hk
   rw [Dj] at hk
   subst hk
   rw [Ar] at hi
   obtain ⟨a,ha,rfl⟩:=Al.mp hv
   have aH:=tb4.row i a ha
   have aH6:=kF (s6 _ _ (s5 _ _ (qC aH n0) aH))
   have rl:=fH (wss.length * (2 ^ m - 1) + (wss.length + m)) (j6 (wss.length + m) (jA wss.length m) (wS wss m) bs i)
   have pH6:=kF (s6 _ _ (s5 _ _ nl0 plH4))
   (push_cast only [eT6,aH6,rl,pH6])
   have alW:as.length=wss.length * (2 ^ m - 1):=pl.1
   have e6:=s6 _ _ e5
   have rows6:∀ x ∈ cs,x.1 ≠ l0∧H6 x.1=some (.tup (x.2.map V.int)):=fun x hx=>⟨(rows5 x hx).1,s6 _ _ (rows5 x hx).2⟩
   have no:keepR (wss.length * (2 ^ m - 1)) bs (j6 (wss.length + m) (jA wss.length m) (wS wss m) bs) (wss.length * (2 ^ m - 1) + (wss.length + m)) i=false→SRI l l0 ch4 t4 (wss.length * (2 ^ m - 1)) (2 ^ m - 1) (wss.length * (2 ^ m - 1) + (wss.length + m)) bs (j6 (wss.length + m) (jA wss.length m) (wS wss m) bs) H4 (i + 1) [some (V.int (bs i:Int)),some (V.ref a),some (V.ref l)] H6:=fun kn =>
    ⟨_,_,cs,rfl,s5.trans s6.x,e6,by rw [AO,AQ,Ae,ec];simp [List.filter,kn],rows6⟩
   by_cases z1:bs i < wss.length * (2 ^ m - 1)
   ·rw [Ai (by omega)]
    by_cases z2:0 < j6 (wss.length + m) (jA wss.length m) (wS wss m) bs i (wss.length * (2 ^ m - 1) + (wss.length + m))
    ·rw [Ai z2]
     have hpl:as[bs i]? = some (as[bs i]'(by omega)):=Af (by omega)
     have pa:=pl4.2.2 _ _ hpl
     have pa6:=s6 _ _ (s5 _ _ (qC pa n0) pa)
     have yes:keepR (wss.length * (2 ^ m - 1)) bs (j6 (wss.length + m) (jA wss.length m) (wS wss m) bs) (wss.length * (2 ^ m - 1) + (wss.length + m)) i=true:=Ax ⟨z1,z2⟩
     refine ⟨_,zO (by rw [Ad,hpl];rfl),by decide,fun p7 H7 n7 s7 e7=>⟨_,rfl,_,s7 _ _ pa6,_,e7,(by show 3 ≤ sizeLine;decide),fun p8 H8 s8 e8=>?_⟩⟩
     have S8:Same H6 H8:=s7.trans s8
     have n8:p8 ≠ l0:=fun w=>by rw [w,S8 _ _ e6] at e8;cases e8
     refine ⟨_,S8 _ _ e6,qL ?_,_,_,cs ++ [(p8,aB (2 ^ m - 1) bs (j6 (wss.length + m) (jA wss.length m) (wS wss m) bs) (wss.length * (2 ^ m - 1) + (wss.length + m)) i)],rfl,((s5.trans s6.x).trans S8.x).trans SameX.upd,by rw [qF,Ae];rfl,?_,fun x hx=>?_⟩
     ·have:=AY List.length ec
      rw [Aa,Aa] at this
      rw [Aa,this]
      have:=AS (keepR (wss.length * (2 ^ m - 1)) bs (j6 (wss.length + m) (jA wss.length m) (wS wss m) bs) (wss.length * (2 ^ m - 1) + (wss.length + m))) (List.range i)
      rw [Ar] at this
      omega
     ·rw [AO,AQ,Ae,Ae,ec]
      simp [List.filter,yes]
     ·rcases A3.mp hx with hx | hx
      ·exact ⟨(rows6 x hx).1,by rw [q9 (rows6 x hx).1];exact S8 _ _ (rows6 x hx).2⟩
      ·have:x=(p8,aB (2 ^ m - 1) bs (j6 (wss.length + m) (jA wss.length m) (wS wss m) bs) (wss.length * (2 ^ m - 1) + (wss.length + m)) i):=by simpa using hx
       subst this
       exact ⟨n8,by rw [q9 n8];exact e8⟩
    ·rw [Ah z2]
     exact no (Aw fun w=>z2 w.2)
   ·rw [Ah (by omega)]
    exact no (Aw fun w=>z1 w.1)
  ·rintro σ H5 ⟨v1,v2,cs,rfl,s5,e5,ec,rows5⟩
   (simp only [qE])
   (push_cast only [])
   have S5:=s5.same n0
   have tb5:=tb4.same S5
   obtain ⟨a,_,a2,_,a4⟩:=tb5.last
   have pl5:=pl4.same S5
   have alW:(as.map V.ref).length=wss.length * (2 ^ m - 1):=by rw [Aa];exact pl.1
   refine ⟨_,kF tb5.tab,_,a2,_,kF pl5.2.1,a,rfl,_,a4,fun p6 n6 o7 H7 n7 s7 e7=>?_⟩
   rw [alW,cut_ends] at e7
   have S7:Same H5 H7:=(kI n6).trans s7
   have e57:=S7 _ _ e5
   have rows7:∀ x ∈ cs,H7 x.1=some (.tup (x.2.map V.int)):=fun x hx=>S7 _ _ (rows5 x hx).2
   rw [show min (List.map (fun i=>V.int (bs i:Int)) (List.range (wss.length + m))).length (List.map V.ref as4).length=wss.length + m by rw [Aa,Ar,Aa,tb4.len];omega] at ec
   (simp only [qE])
   (push_cast only [])
   have trl:∀ x ∈ cs,x.2.length=3:=fun x hx=>by
    have:x.2 ∈ cs.map (fun x=>x.2):=Au.mpr ⟨x,hx,rfl⟩
    rw [ec] at this
    obtain ⟨i,_,e⟩:=Au.mp this
    rw [← e]
    rfl
   have q0:∀ i,keepR (wss.length * (2 ^ m - 1)) bs (j6 (wss.length + m) (jA wss.length m) (wS wss m) bs) (wss.length * (2 ^ m - 1) + (wss.length + m)) i=true→0 < 2 ^ m - 1:=fun i hi=>CF fun z=>by
    have k1:=(AV hi).1
    rw [z] at k1
    simp at k1
   have pw2:(cs.map fun x=>x.2.take 2).Pairwise (· ≠ ·):=by
    have e2:(cs.map fun x=>x.2.take 2)=((List.range (wss.length + m)).filter (keepR (wss.length * (2 ^ m - 1)) bs (j6 (wss.length + m) (jA wss.length m) (wS wss m) bs) (wss.length * (2 ^ m - 1) + (wss.length + m)))).map fun i=>[((bs i / (2 ^ m - 1):Nat):Int),((bs i % (2 ^ m - 1) + 1:Nat):Int)]:=by
     have:=AY (List.map (List.take 2)) ec
     rw [AF,AF] at this
     exact this
    rw [e2,BZ]
    refine List.Pairwise.imp_of_mem ?_ (List.Pairwise.filter _ (C4 (n:=wss.length + m)))
    intro a b ha hb ne e
    obtain ⟨a1,a2⟩:=Br.mp ha
    obtain ⟨b1,_⟩:=Br.mp hb
    injection e with e1 e3
    injection e3 with e3 _
    have hq:=q0 a a2
    refine ne (g4.inj (AD.mp a1) (AD.mp b1) ?_)
    rw [← Nat.div_add_mod (bs a) (2 ^ m - 1),← Nat.div_add_mod (bs b) (2 ^ m - 1),show bs a / (2 ^ m - 1)=bs b / (2 ^ m - 1) by omega,show bs a % (2 ^ m - 1)=bs b % (2 ^ m - 1) by omega]
   have nd3:(cs.map (·.2)).Nodup:=by
    have:(cs.map fun x=>x.2.take 2)=(cs.map (·.2)).map (List.take 2):=by rw [AF];rfl
    rw [this,BZ] at pw2
    exact pw2.imp fun h e=>h (by rw [e])
   refine ⟨cs,e57,?_,3,by decide,fun x hx=>⟨rows7 x hx,trl x hx⟩,nd3,fun l8 qs H8 n8 s8 pm asc e8=>⟨_,e8,fun l9 H9 n9 s9 e9=>?_⟩⟩
   ·have:=AY List.length ec
    rw [Aa,Aa] at this
    rw [this]
    have:=AS (keepR (wss.length * (2 ^ m - 1)) bs (j6 (wss.length + m) (jA wss.length m) (wS wss m) bs) (wss.length * (2 ^ m - 1) + (wss.length + m))) (List.range (wss.length + m))
    rw [Ar] at this
    omega
   have S9:Same H5 H9:=(S7.trans s8).trans s9
   have S19:Same H1 H9:=(S4.trans S5).trans S9
   have hwt9:=kC (S19 _ _ W1.wt)
   have e79:=s9 _ _ (s8 _ _ e7)
   (push_cast only [hwt9,e79])
   have ft:(fun i=>j6 (wss.length + m) (jA wss.length m) (wS wss m) bs (wss.length + m) (wss.length * (2 ^ m - 1) + i))=fun i=>nW wss m bs i:=by
    funext i
    rw [yH]
    rfl
   have fv:(fun i=>V.int (j6 (wss.length + m) (jA wss.length m) (wS wss m) bs (wss.length + m) (wss.length * (2 ^ m - 1) + i)))=fun i=>V.int (nW wss m bs i):=by
    funext i
    rw [yH]
    rfl
   intro p10 H10 s10 e10
   rw [fv,← lw,cut_ns] at e10
   refine ⟨_,kC (s10 _ _ (S19 _ _ W1.wt)),_,s10 _ _ e79,fun p11 H11 s11 e11=>⟨by decide,fun p12 H12 n12 s12 e12=>?_⟩⟩
   rw [fv,Aa,← lw,cut_gs] at e11
   have S12:Same H9 H12:=(s10.trans s11).trans s12
   refine q p12 l9 p10 p11 qs _ (gsOf wss m bs) (o4 wss m bs) H12 ((s1.trans S19).trans S12) e12 (s12 _ _ (s11 _ _ e10)) (s12 _ _ e11) (sh_of (by omega) g4 opt4) ⟨S12 _ _ e9,?_,fun x hx=>?_,?_,?_,fun i0 hi0=>?_,fun t0 ht0=>?_⟩
   ·have:=AY List.length ec
    rw [Aa,Aa] at this
    rw [pm.length_eq,this]
    have:=AS (keepR (wss.length * (2 ^ m - 1)) bs (j6 (wss.length + m) (jA wss.length m) (wS wss m) bs) (wss.length * (2 ^ m - 1) + (wss.length + m))) (List.range (wss.length + m))
    rw [Ar] at this
    omega
   ·have hx':=pm.mem_iff.mp hx
    refine ⟨S12 _ _ (s9 _ _ (s8 _ _ (rows7 x hx'))),?_⟩
    have:x.2 ∈ cs.map (fun x=>x.2):=Au.mpr ⟨x,hx',rfl⟩
    rw [ec] at this
    obtain ⟨i,hi,e⟩:=Au.mp this
    obtain ⟨hi1,hi2⟩:=Br.mp hi
    have hi3:=AD.mp hi1
    obtain ⟨k1,k2⟩:=AV hi2
    have hq0:0 < 2 ^ m - 1:=CF fun z=>by rw [z] at k1;simp at k1
    have hh:bs i / (2 ^ m - 1) < wss.length:=Ca (by rw [B4];exact k1)
    have hS:bs i % (2 ^ m - 1) < 2 ^ m - 1:=C1 _ hq0
    have tb:=(mY (w:=wS wss m) gM (show wss.length + m ≤ 10 by omega) g4 i (wss.length * (2 ^ m - 1) + (wss.length + m)) hi3 (Ak _)).2
    exact ⟨_,_,_,e.symm,hh,by omega,by omega,k2,tb⟩
   ·rw [bF (pm.map fun x:Addr × List Int=>gU wss x.2)]
    have e1:cs.map (fun x=>gU wss x.2)=(((List.range (wss.length + m)).filter (keepR (wss.length * (2 ^ m - 1)) bs (j6 (wss.length + m) (jA wss.length m) (wS wss m) bs) (wss.length * (2 ^ m - 1) + (wss.length + m)))).map fun i=>gU wss (aB (2 ^ m - 1) bs (j6 (wss.length + m) (jA wss.length m) (wS wss m) bs) (wss.length * (2 ^ m - 1) + (wss.length + m)) i)):=by
     have:=AY (List.map (gU wss)) ec
     rw [AF,AF] at this
     exact this
    rw [e1,bS (g:=fun i=>wS wss m (bs i) * Tb (wss.length + m) (jA wss.length m) bs i (wss.length * (2 ^ m - 1) + (wss.length + m)))]
    ·have z:=rG (yY (h:=wss.length) (m:=m)) (w:=wS wss m) (fun k _=>xI wss m k) bs (wss.length * (2 ^ m - 1) + (wss.length + m))
     rw [xI,Bo,Dr] at z
     have y:Zb (wss.length + m) (jA wss.length m) (wS wss m) bs (wss.length * (2 ^ m - 1) + (wss.length + m))=jP (wss.length + m) (fun i=>wS wss m (bs i) * Tb (wss.length + m) (jA wss.length m) bs i (wss.length * (2 ^ m - 1) + (wss.length + m))):=by
      unfold Zb
      rw [xI,Bo,Dr]
     rw [← y,z,cW]
     unfold gsOf o4
     rw [pB,pB]
     congr 1
     ·exact jC fun k _=>by rw [d3,C0];rfl
     ·exact jC fun k _=>by rw [d3,C0];rfl
    ·intro i hi ki
     obtain ⟨k1,k2⟩:=AV ki
     show j6 (wss.length + m) (jA wss.length m) (wS wss m) bs i (wss.length * (2 ^ m - 1) + (wss.length + m)) * (wss.getD ((bs i / (2 ^ m - 1):Nat):Int).toNat []).getD ((bs i % (2 ^ m - 1) + 1:Nat):Int).toNat 0=_
     rw [Ap,Ap,j5 hi,Bn]
     congr 1
     unfold wS
     rw [Ai k1]
    ·intro i hi ki
     have nk:=of_decide_eq_false ki
     by_cases k1:bs i < wss.length * (2 ^ m - 1)
     ·have fe:=g4.fe i hi
      have:Tb (wss.length + m) (jA wss.length m) bs i (wss.length * (2 ^ m - 1) + (wss.length + m))=0:=by
       have:¬ 0 < j6 (wss.length + m) (jA wss.length m) (wS wss m) bs i (wss.length * (2 ^ m - 1) + (wss.length + m)):=fun k2=>nk ⟨k1,k2⟩
       rw [j5 hi] at this
       omega
      show _ * _=(0:Int)
      rw [this,Bo]
     ·have:wS wss m (bs i)=0:=by
       unfold wS
       rw [Ah k1]
      show _ * _=(0:Int)
      rw [this,Co]
   ·have pq:(qs.map fun x=>x.2.take 2).Pairwise (· ≠ ·):=(List.Perm.pairwise_iff (fun h e=>h e.symm) (pm.map fun x:Addr × List Int=>x.2.take 2)).mpr pw2
    have ql:∀ x ∈ qs,x.2.length=3:=fun x hx=>trl x (pm.mem_iff.mp hx)
    rw [BZ] at pq asc ⊢
    refine List.Pairwise.imp_of_mem ?_ (pq.and asc)
    intro a b ha hb h
    exact lex_pair (ql a ha) (ql b hb) h.1 h.2
   ·rw [bF (pm.map fun x:Addr × List Int=>hX i0 x.2)]
    have e1:cs.map (fun x=>hX i0 x.2)=(((List.range (wss.length + m)).filter (keepR (wss.length * (2 ^ m - 1)) bs (j6 (wss.length + m) (jA wss.length m) (wS wss m) bs) (wss.length * (2 ^ m - 1) + (wss.length + m)))).map fun i=>hX i0 (aB (2 ^ m - 1) bs (j6 (wss.length + m) (jA wss.length m) (wS wss m) bs) (wss.length * (2 ^ m - 1) + (wss.length + m)) i)):=by
     have:=AY (List.map (hX i0)) ec
     rw [AF,AF] at this
     exact this
    rw [e1]
    refine CZ (Int.le_of_eq ?_) (bB g4 (k:=i0) (by omega) (keepR (wss.length * (2 ^ m - 1)) bs (j6 (wss.length + m) (jA wss.length m) (wS wss m) bs) (wss.length * (2 ^ m - 1) + (wss.length + m))))
    congr 1
    refine Bj fun i hi=>?_
    obtain ⟨i1,i2⟩:=Br.mp hi
    obtain ⟨k1,_⟩:=AV i2
    rw [dE hi0 k1,← j5 (w:=wS wss m) (AD.mp i1)]
    show (if ((bs i / (2 ^ m - 1):Nat):Int)=(i0:Int) then j6 (wss.length + m) (jA wss.length m) (wS wss m) bs i (wss.length * (2 ^ m - 1) + (wss.length + m)) else 0)=_
    by_cases z:bs i / (2 ^ m - 1)=i0
    ·rw [Ai (by rw [z]),Ai z,Cz]
    ·rw [Ah (by omega),Ah z,Bo]
   ·rw [bF (pm.map fun x:Addr × List Int=>vL t0 x.2)]
    have e1:cs.map (fun x=>vL t0 x.2)=(((List.range (wss.length + m)).filter (keepR (wss.length * (2 ^ m - 1)) bs (j6 (wss.length + m) (jA wss.length m) (wS wss m) bs) (wss.length * (2 ^ m - 1) + (wss.length + m)))).map fun i=>vL t0 (aB (2 ^ m - 1) bs (j6 (wss.length + m) (jA wss.length m) (wS wss m) bs) (wss.length * (2 ^ m - 1) + (wss.length + m)) i)):=by
     have:=AY (List.map (vL t0)) ec
     rw [AF,AF] at this
     exact this
    rw [e1]
    refine CZ (Int.le_of_eq ?_) (bB g4 (k:=wss.length + t0) (by omega) (keepR (wss.length * (2 ^ m - 1)) bs (j6 (wss.length + m) (jA wss.length m) (wS wss m) bs) (wss.length * (2 ^ m - 1) + (wss.length + m))))
    congr 1
    refine Bj fun i hi=>?_
    obtain ⟨i1,i2⟩:=Br.mp hi
    obtain ⟨k1,_⟩:=AV i2
    rw [d9 k1,← j5 (w:=wS wss m) (AD.mp i1)]
    show (if Nat.testBit (((bs i % (2 ^ m - 1) + 1:Nat):Int).toNat) t0=true then j6 (wss.length + m) (jA wss.length m) (wS wss m) bs i (wss.length * (2 ^ m - 1) + (wss.length + m)) else 0)=_
    rw [Ap]
    by_cases z:Nat.testBit (bs i % (2 ^ m - 1) + 1) t0=true
    ·rw [Ai z,Ai z,Cz]
    ·rw [Ah z,Ah z,Bo]
structure Rows (H:Hp)(tw sa wa:Addr)(ts:List (Addr × List Int))(m:Nat):Prop where
 tw:H tw=some (.tup [.ref sa,.ref wa])
 wa:H wa=some (.tup (ts.map fun t=>V.ref t.1))
 few:ts.length ≤ 5
 five:m ≤ 5
 row:∀ t ∈ ts,H t.1=some (.tup (t.2.map V.int))∧t.2.length=2 ^ m∧∀ x ∈ t.2,0 ≤ x∧x ≤ 10000
noncomputable def bit (h:Int)(t:Nat):Int:=Builtin.bitAnd (h / 2 ^ (t:Int).toNat) 1
theorem bitx {h m:Nat}(h1:1 ≤ h)(m5:m ≤ 5)(hm:h < 2 ^ m):∃ t,t < m∧bit (h:Int) t=1:=by
 have key:∀ (a:_root_.Fin 32) (b:_root_.Fin 6),1 ≤ a.val→a.val < 2 ^ b.val→∃ t:_root_.Fin 5,t.val < b.val∧bit (a.val:Int) t.val=1:=by decide +kernel
 have:=yN m5
 obtain ⟨t,ht⟩:=key ⟨h,by omega⟩ ⟨m,by omega⟩ h1 hm
 exact ⟨t.val,ht⟩
theorem bit_le {h t:Nat}(hh:h < 32)(ht:t < 5)(b:bit (h:Int) t=1):2 ^ t ≤ h:=by
 have key:∀ (a:_root_.Fin 32) (b:_root_.Fin 5),bit (a.val:Int) b.val=1→2 ^ b.val ≤ a.val:=by decide +kernel
 exact key ⟨h,hh⟩ ⟨t,ht⟩ b
noncomputable def vK (g:Nat→Int)(h:Nat)(i:Nat):List Int:=((List.range i).filter fun t=>decide (bit (h:Int) t=1)).map g
theorem o8 {g:Nat→Int}{h i:Nat}(b:bit (h:Int) i=1):vK g h (i + 1)=vK g h i ++ [g i]:=by
 unfold vK
 rw [AO,AQ,Ae]
 simp [b]
theorem lstB_no {g:Nat→Int}{h i:Nat}(b:¬ bit (h:Int) i=1):vK g h (i + 1)=vK g h i:=by
 unfold vK
 rw [AO,AQ,Ae]
 simp [b]
theorem dY (g:Nat→Int)(h i:Nat):(vK g h i).length ≤ i:=by
 unfold vK
 rw [Aa]
 exact AX (AS _ _) (by rw [Ar];exact Ak _)
theorem zZ {g:Nat→Int}{h i:Nat}{x:Int}:x ∈ vK g h i ↔ ∃ t,t < i∧bit (h:Int) t=1∧g t=x:=by
 unfold vK
 simp [and_assoc]
noncomputable def FB (c:Addr)(g:Nat→Int)(h:Nat)(τ:List (Option V))(G:Hp)(i:Nat)(σ:St)(H:Hp):Prop:=∃ v:Option V,σ=v :: τ∧SameX c G H∧H c=some (.lst ((vK g h i).map V.int))
theorem FB.zero {c:Addr}{g:Nat→Int}{h:Nat}{τ:List (Option V)}{G:Hp}:FB c g h τ G 0 (none :: τ) (upd G c (.lst [])):=⟨none,rfl,SameX.upd,qF⟩
theorem FB.yes {c:Addr}{g:Nat→Int}{h:Nat}{τ:List (Option V)}{G H:Hp}{i:Nat}{v:Option V}{x:Int}(b:bit (h:Int) i=1)(s:SameX c G H)(hx:x=g i):FB c g h τ G (i + 1) (v :: τ) (upd H c (.lst ((vK g h i).map V.int ++ [V.int x]))) :=
 ⟨v,rfl,s.trans SameX.upd,by rw [qF,o8 b,hx];simp⟩
theorem FB.no {c:Addr}{g:Nat→Int}{h:Nat}{τ:List (Option V)}{G H:Hp}{i:Nat}{v:Option V}(b:¬ bit (h:Int) i=1)(s:SameX c G H)(e:H c=some (.lst ((vK g h i).map V.int))):FB c g h τ G (i + 1) (v :: τ) H :=
 ⟨v,rfl,s,by rw [lstB_no b];exact e⟩
noncomputable def cP (L:List Int):Int:=L.max?.getD 0
theorem iO {L:List Int}{m:Int}(hm:m ∈ L)(hx:∀ x ∈ L,x ≤ m):cP L=m:=by
 unfold cP
 rw [CN.mpr ⟨hm,hx⟩]
 rfl
theorem iP {L M:List Int}(h:∀ x ∈ L,x ∈ M)(n:∀ x ∈ M,0 ≤ x):cP L ≤ cP M:=by
 unfold cP
 cases e:M.max? with
 | none =>
  have:M=[]:=by simpa using e
  subst this
  have:L=[]:=List.eq_nil_iff_forall_not_mem.mpr fun x hx=>by simpa using h x hx
  rw [this]
  decide
 | some m =>
  obtain ⟨hm,hx⟩:=CN.mp e
  cases e2:L.max? with
  | none=>exact n m hm
  | some k =>
   obtain ⟨hk,_⟩:=CN.mp e2
   exact hx k (h k hk)
theorem m8 {α:Type}(g:α→Int)(p q:α→Bool):∀ l:List α,(∀ x ∈ l,p x=true→q x=true)→(∀ x ∈ l,0 ≤ g x)→((l.filter p).map g).sum ≤ ((l.filter q).map g).sum
 | [],_,_=>BM _
 | a :: l,h,n=>by
  have ih:=m8 g p q l (fun x hx=>h x (Ay _ hx)) fun x hx=>n x (Ay _ hx)
  have na:=n a (by simp)
  cases e:p a with
  | true =>
   have e2:=h a (by simp) e
   rw [BH e,BH e2,AN,AN,Bw,Bw]
   omega
  | false =>
   rw [Cj (by simp [e])]
   cases e2:q a with
   | true =>
    rw [BH e2,AN,Bw]
    omega
   | false =>
    rw [Cj (by simp [e2])]
    exact ih
theorem uR {h t u:Nat}(hh:h < 32)(ht:t < 5)(hu:u < 5)(b:bit (h:Int) t=1)(k:bit ((h - 2 ^ t:Nat):Int) u=1):bit (h:Int) u=1:=by
 have key:∀ (a:_root_.Fin 32) (b c:_root_.Fin 5),bit (a.val:Int) b.val=1→bit ((a.val - 2 ^ b.val:Nat):Int) c.val=1→bit (a.val:Int) c.val=1:=by decide +kernel
 exact key ⟨h,hh⟩ ⟨t,ht⟩ ⟨u,hu⟩ b k
theorem and_out {h t o:Nat}(hh:h < 32)(ht:t < 5)(ho:o < 32)(b:bit (h:Int) t=1)(k:Builtin.bitAnd ((h - 2 ^ t:Nat):Int) (o:Int)=(o:Int)):Builtin.bitAnd (h:Int) (o:Int)=(o:Int):=by
 have key:∀ (a c:_root_.Fin 32) (b:_root_.Fin 5),bit (a.val:Int) b.val=1→Builtin.bitAnd ((a.val - 2 ^ b.val:Nat):Int) (c.val:Int)=(c.val:Int)→Builtin.bitAnd (a.val:Int) (c.val:Int)=(c.val:Int):=by decide +kernel
 exact key ⟨h,hh⟩ ⟨o,ho⟩ ⟨t,ht⟩ b k
theorem and_zero {o:Nat}(ho:o < 32)(o1:1 ≤ o):¬ Builtin.bitAnd ((0:Nat):Int) (o:Int)=(o:Int):=by
 have key:∀ (c:_root_.Fin 32),1 ≤ c.val→¬ Builtin.bitAnd ((0:Nat):Int) (c.val:Int)=(c.val:Int):=by decide +kernel
 exact key ⟨o,ho⟩ o1
noncomputable def yZ (ps:List (Addr × Int × Int))(h:Nat):List Int:=(ps.filter fun t=>decide (Builtin.bitAnd (h:Int) t.2.1=t.2.1)).map fun t=>t.2.2
noncomputable def mW (sort:Int)(os:List Int)(ps:List (Addr × Int × Int))(m h:Nat):Int :=
 if sort=1 then (vK (fun t=>os.getD t 0) h m).sum else if sort=2 then cP (vK (fun t=>os.getD t 0) h m) else (yZ ps h).sum
noncomputable def PsOk (ps:List (Addr × Int × Int)):Prop:=∀ t ∈ ps,1 ≤ t.2.1∧t.2.1 ≤ 31∧0 ≤ t.2.2∧t.2.2 ≤ 200
theorem bit_0 {t:Nat}(ht:t < 5):¬ bit ((0:Nat):Int) t=1:=by
 have key:∀ t:_root_.Fin 5,¬ bit ((0:Nat):Int) t.val=1:=by decide +kernel
 exact key ⟨t,ht⟩
theorem u5 {sort:Int}{os:List Int}{ps:List (Addr × Int × Int)}{m:Nat}(m5:m ≤ 5)(pk:PsOk ps):mW sort os ps m 0=0:=by
 have e1:∀ g:Nat→Int,vK g 0 m=[]:=fun g=>List.eq_nil_iff_forall_not_mem.mpr fun x hx=>by
  obtain ⟨t,ht,hb,_⟩:=zZ.mp hx
  exact bit_0 (by omega) hb
 have e2:yZ ps 0=[]:=by
  unfold yZ
  rw [BL.mpr,C3]
  intro t ht hz
  obtain ⟨p1,p2,_⟩:=pk t ht
  obtain ⟨n,hn⟩:=AA (show 0 ≤ t.2.1 by omega)
  rw [hn] at hz p1 p2
  exact and_zero (o:=n) (by omega) (by omega) (by simpa using hz)
 unfold mW
 rw [e1,e2]
 split
 ·rfl
 ·split <;> rfl
theorem u6 {sort:Int}{os:List Int}{ps:List (Addr × Int × Int)}{m h t:Nat}(m5:m ≤ 5)(hh:h < 2 ^ m)(ht:t < m)(b:bit (h:Int) t=1)(n:∀ x ∈ os,0 ≤ x∧x ≤ 200)(pk:PsOk ps):mW sort os ps m (h - 2 ^ t) ≤ mW sort os ps m h:=by
 have p32:=yN m5
 have ng:∀ u,0 ≤ os.getD u 0:=fun u=>by
  rw [Ab]
  cases e:os[u]? with
  | none=>decide
  | some x=>exact (n x (An e)).1
 unfold mW
 split
 ·exact m8 _ _ _ _ (fun u hu k=>by
   have:=uR (by omega) (by omega) (by have:=AD.mp hu;omega) b (AV k)
   exact Ax this) fun u _=>ng u
 ·split
  ·refine iP (fun x hx=>?_) fun x hx=>?_
   ·obtain ⟨u,hu,hb,e⟩:=zZ.mp hx
    exact zZ.mpr ⟨u,hu,uR (by omega) (by omega) (by omega) b hb,e⟩
   ·obtain ⟨u,_,_,rfl⟩:=zZ.mp hx
    exact ng u
  ·refine m8 _ _ _ _ (fun u hu k=>?_) fun u hu=>(pk u hu).2.2.1
   obtain ⟨p1,p2,_⟩:=pk u hu
   obtain ⟨o,ho⟩:=AA (show 0 ≤ u.2.1 by omega)
   have k':=AV k
   rw [ho] at k' p2
   exact Ax (by rw [ho];exact and_out (by omega) (by omega) (by omega) b k')
noncomputable def MonoI (m:Nat)(tb:List Int):Prop:=∀ h t,h < tb.length→t < m→bit (h:Int) t=1→tb.getD (h - 2 ^ t) 0 ≤ tb.getD h 0
theorem MonoI.one {m:Nat}(m5:m ≤ 5):MonoI m [0]:=fun h t hh ht b=>by
 have:h=0:=by simpa using hh
 subst this
 exact absurd b (bit_0 (by omega))
theorem xB {tb:List Int}{j:Nat}{v:Int}(h:j < tb.length):(tb ++ [v]).getD j 0=tb.getD j 0:=by
 rw [Ab,Av h,← Ab]
theorem dA {tb:List Int}{v:Int}:(tb ++ [v]).getD tb.length 0=v:=by
 rw [Ab,AB (Ak _)]
 simp
theorem MonoI.more {m:Nat}{tb:List Int}{v:Int}(M:MonoI m tb)(k:∀ t,t < m→bit (tb.length:Int) t=1→tb.getD (tb.length - 2 ^ t) 0 ≤ v):MonoI m (tb ++ [v]):=fun h t hh ht b=>by
 have p:0 < 2 ^ t:=Nat.pow_pos (by decide)
 rw [Aj,AL] at hh
 rcases Az h tb.length with z | z
 ·rw [xB z,xB (by omega)]
  exact M h t z ht b
 ·have:h=tb.length:=by omega
  subst this
  have hne:tb.length ≠ 0→tb.length - 2 ^ t < tb.length:=by omega
  rcases BP tb.length with e | e
  ·rw [e] at b ⊢
   rw [show (tb ++ [v])=[v] by rw [Cm e];rfl]
   simp
  ·rw [dA,xB (hne (by omega))]
   exact k t ht b
noncomputable def lU:Sp:=fun vs H Q _=>∃ (p l:Addr) (m:Nat) (most:Int),vs=[.ref p,.int (m:Int),.int most]∧Spool H p l∧1 ≤ m∧m ≤ 5∧0 ≤ most∧most ≤ 200∧∀ (t:Addr) (ws:List Int) (H':Hp),H t=none→ws.length=2 ^ m→ws.getD 0 0=0→(∀ x ∈ ws,0 ≤ x∧x ≤ 10000)→MonoI m ws→Spool H' p l→SameX p H H'→H' t=some (.tup (ws.map V.int))→Q (.ref t) H'
noncomputable def JP (p l d:Addr)(m most:Int)(G:Hp)(i:Nat)(σ:St)(H:Hp):Prop:=∃ (v:Option V) (ps:List (Addr × Int × Int)),σ=[v,some (.ref p),some (.int m),some (.int most)]∧ps.length=i∧(∀ t ∈ ps,H t.1=some (.tup [.int t.2.1,.int t.2.2])∧1 ≤ t.2.1∧t.2.1 ≤ 31∧0 ≤ t.2.2∧t.2.2 ≤ 200)∧Spool H p l∧(∀ b o,b ≠ p→b ≠ d→G b=some o→H b=some o)∧H d=some (.lst (ps.map fun t=>V.ref t.1))
theorem dG:∀ (xs:List Int),(∀ x ∈ xs,0 ≤ x∧x ≤ 200)→0 ≤ xs.sum∧xs.sum ≤ 200 * (xs.length:Int)
 | [],_=>by simp
 | x :: xs,h=>by
  have:=dG xs fun y hy=>h y (Ay _ hy)
  have hx:=h x (by simp)
  rw [Bw,A6]
  omega
theorem pick3s {Pd:Int→Prop}{r a b c d:Int}(r0:0 ≤ r)(r1:r < 4)(rn:r ≠ 0)(hb:r=1→Pd b)(hc:r=2→Pd c)(hd:r=3→Pd d):∃ x,xH [V.int a,V.int b,V.int c,V.int d] r=some (V.int x)∧Pd x:=by
 have h4:r=1∨r=2∨r=3:=by omega
 rcases h4 with rfl | rfl | rfl
 ·exact ⟨b,rfl,hb rfl⟩
 ·exact ⟨c,rfl,hc rfl⟩
 ·exact ⟨d,rfl,hd rfl⟩
noncomputable def FW (c:Addr)(h:Nat)(ps:List (Addr × Int × Int))(G:Hp)(i:Nat)(σ:St)(H:Hp):Prop:=∃ v1 v2:Option V,σ=[v1,v2,some (.int (h:Int))]∧SameX c G H∧H c=some (.lst ((yZ (ps.take i) h).map V.int))
theorem wQ {ps:List (Addr × Int × Int)}{h i:Nat}{t:Addr × Int × Int}(ht:ps[i]? = some t):yZ (ps.take (i + 1)) h=yZ (ps.take i) h ++ if Builtin.bitAnd (h:Int) t.2.1=t.2.1 then [t.2.2] else []:=by
 unfold yZ
 rw [A7,ht,AQ,Ae]
 split <;> rename_i c <;> simp [c]
theorem cL {ps:List (Addr × Int × Int)}{h:Nat}:(yZ ps h).length ≤ ps.length:=by
 unfold yZ
 rw [Aa]
 exact AS _ _
noncomputable def JT (p l c d u:Addr)(m:Nat)(sort most:Int)(os:List Int)(ps:List (Addr × Int × Int))(G:Hp)(i:Nat)(σ:St)(H:Hp):Prop:=∃ (v7 v8 v9 v10 v11:Option V) (tb:List Int),σ=[some (.ref p),some (.int (m:Int)),some (.int most),some (.int sort),some (.ref c),some (.ref d),some (.ref u),v7,v8,v9,v10,v11]∧tb.length=i + 1∧tb.getD 0 0=0∧(∀ (j:Nat) x,tb[j]? = some x→0 ≤ x∧x ≤ 1000 + 200 * (j:Int))∧MonoI m tb∧(sort ≠ 0→∀ j,j < tb.length→tb.getD j 0=mW sort os ps m j)∧Spool H p l∧(∀ b o,b ≠ p→b ≠ u→G b=some o→H b=some o)∧H u=some (.lst (tb.map V.int))
theorem dI:FnScope ["_law_spool_here", "_law_many", "_law_most", "_law_sort", "_law_worths", "_law_wanted", "_law_table", "_law_heap", "_law_some", "_law_below", "_law_whole", "_law_more"] ["_law_spool_here", "_law_many", "_law_most"] (qI s__law_want):=⟨rfl,rfl,rfl,by decide +kernel,rfl,by decide +kernel,by decide +kernel⟩
theorem oV (F:Fun K "_law_want" "_law_want" s__law_want f fd) (hm:mg "_law_want" = some (.ref f)) (hb:Binds K fd ["_law_spool_here", "_law_many", "_law_most"] []) (T:Txt mg) (c__law_draw:j4 P w K mg base "_law_draw" ["_law_spool_here", "_law_many"] 2 vO):j4 P w K mg base "_law_want" ["_law_spool_here", "_law_many", "_law_most"] 3 lU:=by
 refine kU F hm hb dI (fun vs H Q E h=>?_) (fun cdv A outer s H vs Q E hr h=>?_)
 ·obtain ⟨_,_,_,_,rfl,_⟩:=h;rfl
 ·obtain ⟨p,l,m,most,rfl,sp,m1,m5,mo0,mo1,q⟩:=h
  have sc:=dI
  refine ⟨_,qG (kQ (i:=3) sc.nd rfl (Or.inl rfl) (qU c__law_draw hr (qA (pv 0) (qA qD qB)))) (qG (kQ (i:=4) sc.nd rfl (Or.inr rfl) (jO (N:=["_law_thing", "_law_spool_here", "_law_most"]) (fr:=[none,some 0,some 2]) rfl (kT rfl T.range_ (qA (pv 1) qB)) (CScope.of rfl rfl rfl) rfl (fun _ _ _=>⟨qH (i:=0) (show List.Nodup (α:=Str) ["_law_thing", "_law_spool_here", "_law_most"] by decide +kernel) rfl (Or.inl rfl),kH,qU c__law_draw hr (qA (pv 1) (qA (qN jD (pv 2) qD) qB))⟩))) (qG (yE (i:=5) sc.nd rfl (Or.inl rfl) (N:=["_law_k", "_law_spool_here", "_law_many", "_law_most"]) (fr:=[none,some 0,some 1,some 2]) rfl (kT rfl T.range_ (qA qD qB)) (CScope.of rfl rfl rfl) rfl (fun _ _ _=>⟨qH (i:=0) (show List.Nodup (α:=Str) ["_law_k", "_law_spool_here", "_law_many", "_law_most"] by decide +kernel) rfl (Or.inl rfl),kH,jB (qA (qN jD qD (qU c__law_draw hr (qA (pv 1) (qA (qN fM (qN vV qD (pv 2)) qD) qB)))) (qA (qU c__law_draw hr (qA (pv 1) (qA (qN jD (pv 3) qD) qB))) qB))⟩)) (qG (kQ (i:=6) sc.nd rfl (Or.inr rfl) (jW (qA qD qB))) (qG (yK Bs rfl (mC rfl T.range_ (qA qD (qA (qN vV qD (pv 1)) qB))) (qH (i:=7) sc.nd rfl (Or.inr rfl)) (qG (yE (i:=8) sc.nd rfl (Or.inl rfl) (N:=["_law_thing", "_law_worths", "_law_heap"]) (fr:=[none,some 4,some 7]) rfl (kT rfl T.range_ (qA (pv 1) qB)) (CScope.of rfl rfl rfl) rfl (fun _ _ _=>⟨qH (i:=0) (show List.Nodup (α:=Str) ["_law_thing", "_law_worths", "_law_heap"] by decide +kernel) rfl (Or.inl rfl),zD (kD jR (qN g6 (qN bH (pv 2) (pv 0)) qD) qD (kA _)),kL z6 (pv 1) (pv 0) (fun _ _=>rfl)⟩)) (qG (yE (i:=9) sc.nd rfl (Or.inl rfl) (N:=["_law_thing", "_law_table", "_law_heap"]) (fr:=[none,some 6,some 7]) rfl (kT rfl T.range_ (qA (pv 1) qB)) (CScope.of rfl rfl rfl) rfl (fun _ _ _=>⟨qH (i:=0) (show List.Nodup (α:=Str) ["_law_thing", "_law_table", "_law_heap"] by decide +kernel) rfl (Or.inl rfl),zD (kD jR (qN g6 (qN bH (pv 2) (pv 0)) qD) qD (kA _)),kL z6 (pv 1) (qN fM (pv 2) (qN vV qD (pv 0))) (fun _ _=>rfl)⟩)) (qG (yE (i:=10) sc.nd rfl (Or.inl rfl) (N:=["_law_other", "_law_worth_here", "_law_heap"]) (fr:=[none,none,some 7]) rfl (pH (pv 5)) (CScope.of rfl rfl rfl) rfl (fun _ _ _=>⟨kK (n:=2) rfl (qJ (qH (i:=0) (show List.Nodup (α:=Str) ["_law_other", "_law_worth_here", "_law_heap"] by decide +kernel) rfl (Or.inl rfl)) (qJ (qH (i:=1) (show List.Nodup (α:=Str) ["_law_other", "_law_worth_here", "_law_heap"] by decide +kernel) rfl (Or.inl rfl)) kJ)),zD (kD jR (qN g6 (pv 2) (pv 0)) (pv 0) (kA _)),pv 1⟩)) (qG (kQ (i:=11) sc.nd rfl (Or.inl rfl) (vU (kD jR (pv 3) qD (kA _)) (qN jU (qU c__law_draw hr (qA (pv 0) (qA (qN jD (qN wI (pv 2) qD) qD) qB))) (kZ fS rfl T.int_ dD (qA (jK jR (qU c__law_draw hr (qA (pv 0) (qA qD qB))) qD (kA _)) qB))) qD)) (qM (wH (gG (pv 6) (qA (kL z6 (jW (qA (qN jD (qK (aY rfl) rfl T.max_ fU (qA (pv 9) qB)) (pv 11)) (qA (qK (fD rfl) rfl T.sum_ yC (qA (pv 8) qB)) (qA (qK (aY rfl) rfl T.max_ fU (qA (pv 8) qB)) (qA (qK (fD rfl) rfl T.sum_ yC (qA (pv 10) qB)) qB))))) (pv 3) (fun _ _=>rfl)) qB))))))))) (qM (q8 (kZ yM rfl T.tuple_ kX (qA (pv 6) qB)))))))),?_⟩
  rw [show L2.start ["_law_spool_here", "_law_many", "_law_most", "_law_sort", "_law_worths", "_law_wanted", "_law_table", "_law_heap", "_law_some", "_law_below", "_law_whole", "_law_more"] [.ref p,.int (m:Int),.int most] = [some (.ref p),some (.int (m:Int)),some (.int most),none,none,none,none,none,none,none,none,none] from rfl]
  (push_cast only [])
  refine ⟨p,l,4,rfl,sp,by decide,by decide,fun sort H1 so0 so1 sp1 sx1=>?_⟩
  (push_cast only [])
  (simp only [qE])
  (push_cast only [])
  refine ⟨by omega,by omega,fun c nc=>?_⟩
  have ncp:=sp1.nep nc
  have ncl:=sp1.nel nc
  have p32:=yN m5
  refine jL (MadeS p l c (fun x=>0 ≤ x∧x ≤ 200) [some (.ref p),some (.int most)] H1) (MadeS.zero sp1 nc) ?_ ?_
  ·rintro i σ H2 hi ⟨v,ws,rfl,hl,hbd,sp2,k2,e2⟩
   rw [Ap] at hi
   (push_cast only [])
   refine ⟨p,l,most + 1,rfl,sp2,by omega,by omega,fun r H3 r0 r1 sp3 sx3=>?_⟩
   have e3:=sx3 _ _ ncp.symm e2
   subst hl
   (push_cast only [e3])
   exact ⟨qL (by omega),MadeS.more ncp ncl hbd k2 sx3 sp3 ⟨r0,by omega⟩⟩
  ·rintro σ H2 ⟨v,os,rfl,hl,hbd,sp2,k2,e2⟩
   rw [Ap] at hl
   have sx2:SameX p H H2:=fun b o n e=>k2 b o n (qC (sx1 b o n e) nc) (sx1 b o n e)
   (push_cast only [])
   (simp only [qE])
   (push_cast only [])
   refine ⟨by decide,by decide,fun d nd=>?_⟩
   have ndp:=sp2.nep nd
   have ndl:=sp2.nel nd
   have ncd:c ≠ d:=qC e2 nd
   refine jL (JP p l d (m:Int) most H2) ⟨none,[],rfl,rfl,fun _ z=>absurd z (by simp),sp2.upd ndp ndl,fun b o _ n e=>by rw [q9 n];exact e,qF⟩ ?_ ?_
   ·rintro i σ H3 hi ⟨v,ps,rfl,pl,pr,sp3,k3,e3⟩
    (push_cast only [])
    rw [sR]
    refine ⟨⟨by omega,by omega,by decide⟩,?_⟩
    have p2:2 ≤ 2 ^ m:=by
     have:=CT (show 0 < 2 by decide) m1
     omega
    refine ⟨p,l,_,rfl,sp3,by omega,by omega,fun r H4 r0 r1 sp4 sx4=>?_⟩
    refine ⟨r,rfl,p,l,_,rfl,sp4,by omega,by omega,fun r' H5 r0' r1' sp5 sx5=>?_⟩
    refine ⟨by decide,fun t H6 n6 s6 e6=>?_⟩
    have e36:=s6 _ _ (sx5 _ _ ndp.symm (sx4 _ _ ndp.symm e3))
    have ntd:t ≠ d:=fun z=>by rw [z,e36] at e6;cases e6
    have sp6:=sp5.same s6
    refine ⟨_,e36,qL (by rw [Aa];have:i < 2:=hi;omega),⟨_,ps ++ [(t,1 + r,r')],rfl,by rw [Aj,pl];rfl,fun x hx=>?_,sp6.upd ndp ndl,fun b o n1 n2 e=>by rw [q9 n2];exact s6 _ _ (sx5 _ _ n1 (sx4 _ _ n1 (k3 b o n1 n2 e))),by rw [qF];simp⟩⟩
    rcases A3.mp hx with z | z
    ·obtain ⟨ex,x0,x1⟩:=pr x z
     have nxp:x.1 ≠ p:=fun z=>by obtain ⟨_,_,_,_,_,_,y,_⟩:=sp3;rw [z,y] at ex;cases ex
     have nxd:x.1 ≠ d:=fun z=>by rw [z,e3] at ex;cases ex
     exact ⟨by rw [q9 nxd];exact s6 _ _ (sx5 _ _ nxp (sx4 _ _ nxp ex)),x0,x1⟩
    ·have:x=(t,1 + r,r'):=by simpa using z
     subst this
     exact ⟨by rw [q9 ntd];exact e6,show 1 ≤ 1 + r by omega,show 1 + r ≤ 31 by omega,r0',show r' ≤ 200 by omega⟩
   ·rintro σ H3 ⟨v,ps,rfl,pl,pr,sp3,k3,e3⟩
    (push_cast only [])
    (simp only [qE])
    (push_cast only [])
    have sx3:SameX p H H3:=fun b o n e=>k3 b o n (qC (sx2 b o n e) nd) (sx2 b o n e)
    have e23:=k3 _ _ ncp.symm ncd e2
    refine ⟨by decide,fun u H4 n4 s4 e4=>?_⟩
    have sp4:=sp3.same s4
    have nup:=sp3.nep n4
    have nul:=sp3.nel n4
    have ncu:c ≠ u:=qC e23 n4
    have ndu:d ≠ u:=qC e3 n4
    (push_cast only [])
    (simp only [qE])
    (push_cast only [])
    rw [sR]
    have pk:PsOk ps:=fun t ht=>(pr t ht).2
    refine ⟨⟨by omega,by omega,by decide⟩,by omega,by omega,by omega,by omega,xX (JT p l c d u m sort most os ps H4) ⟨_,_,_,_,_,[0],rfl,rfl,rfl,fun j x hx=>?_,MonoI.one m5,fun _ j hj=>?_,sp4,fun b o _ _ e=>e,e4⟩ ?_ ?_⟩
    ·have:j=0∧x=0:=by
      cases j with
      | zero=>exact ⟨rfl,by simpa using hx.symm⟩
      | succ j=>simp at hx
     omega
    ·have:j=0:=by simpa using hj
     subst this
     rw [u5 m5 pk]
     rfl
    ·rintro i σ H5 hi ⟨v7,v8,v9,v10,v11,tb,rfl,tl,t0,tbd,mono,vals,sp5,k5,e5⟩
     have hi':1 + i < 2 ^ m:=by omega
     (push_cast only [])
     rw [show (1:Int) + (i:Int)=((1 + i:Nat):Int) by omega]
     generalize hh:1 + i=h at *
     have e25:=k5 _ _ ncp.symm ncu (s4 _ _ e23)
     have e35:=k5 _ _ ndp.symm ndu (s4 _ _ e3)
     have h32:h < 32:=by omega
     have h1:1 ≤ h:=by omega
     have tlh:tb.length=h:=by omega
     refine ⟨by omega,by omega,fun x1 nx1=>?_⟩
     refine jL (FB x1 (fun t=>os.getD t 0) h [some (.ref c),some (.int (h:Int))] H5) FB.zero ?_ ?_
     ·rintro j σ H6 hj ⟨v,rfl,s6,e6⟩
      rw [Ap] at hj
      have hs6:=kF (s6 _ _ (qC e25 nx1) e25)
      have hat:=vY (ns:=os) (n:=j) (by omega)
      (push_cast only [hs6,hat])
      refine ⟨by omega,?_⟩
      split
      ·rename_i cc
       (push_cast only [e6])
       exact ⟨qL (by have:=dY (fun t=>os.getD t 0) h j;omega),FB.yes cc s6 rfl⟩
      ·rename_i cc
       exact FB.no cc s6 e6
     ·rintro σ H6 ⟨v,rfl,s6,e6⟩
      rw [Ap] at e6
      obtain ⟨xs,hxs⟩:∃ xs,xs=vK (fun t=>os.getD t 0) h m:=⟨_,rfl⟩
      rw [← hxs] at e6
      have xl:xs.length ≤ m:=by rw [hxs];exact dY _ _ _
      have xb:∀ x ∈ xs,0 ≤ x∧x ≤ 200:=fun x hx=>by
       rw [hxs] at hx
       obtain ⟨t,ht,_,rfl⟩:=zZ.mp hx
       have:os.getD t 0=os[t]:=by simp [Ab,show t < os.length by omega]
       rw [this]
       exact hbd _ (AE _)
      have xne:xs ≠ []:=fun z=>by
       obtain ⟨t,ht,hb⟩:=bitx h1 m5 (show h < 2 ^ m by omega)
       have:os.getD t 0 ∈ xs:=by rw [hxs];exact zZ.mpr ⟨t,ht,hb,rfl⟩
       rw [z] at this
       cases this
      have S6:=s6.same nx1
      (push_cast only [])
      (simp only [qE])
      (push_cast only [])
      have e56:=S6 _ _ e5
      refine ⟨by omega,by omega,fun x2 nx2=>?_⟩
      have nu2:u ≠ x2:=qC e56 nx2
      refine jL (FB x2 (fun t=>tb.getD (h - 2 ^ t) 0) h [some (.ref u),some (.int (h:Int))] H6) FB.zero ?_ ?_
      ·rintro j σ H7 hj ⟨v,rfl,s7,e7⟩
       rw [Ap] at hj
       have hs7:=kF (s7 _ _ nu2 e56)
       (push_cast only [])
       refine ⟨by omega,?_⟩
       split
       ·rename_i cc
        have b1:bit (h:Int) j=1:=cc
        have le:=bit_le h32 (by omega) b1
        have pj:0 < 2 ^ j:=Nat.pow_pos (by decide)
        rw [sR,show (h:Int) - ((2 ^ j:Nat):Int)=((h - 2 ^ j:Nat):Int) by omega]
        have hat:=vY (ns:=tb) (n:=h - 2 ^ j) (by omega)
        (push_cast only [hs7,hat,e7])
        exact ⟨⟨by omega,by omega,by decide⟩,qL (by have:=dY (fun t=>tb.getD (h - 2 ^ t) 0) h j;omega),FB.yes cc s7 rfl⟩
       ·rename_i cc
        exact FB.no cc s7 e7
      ·rintro σ H7 ⟨v,rfl,s7,e7⟩
       rw [Ap] at e7
       obtain ⟨ys,hys⟩:∃ ys,ys=vK (fun t=>tb.getD (h - 2 ^ t) 0) h m:=⟨_,rfl⟩
       rw [← hys] at e7
       have yl:ys.length ≤ m:=by rw [hys];exact dY _ _ _
       have yb:∀ x ∈ ys,0 ≤ x∧x ≤ 1000 + 200 * ((h:Int) - 1):=fun x hx=>by
        rw [hys] at hx
        obtain ⟨t,ht,hb,rfl⟩:=zZ.mp hx
        have le:=bit_le h32 (by omega) hb
        have pj:0 < 2 ^ t:=Nat.pow_pos (by decide)
        have ge:tb[h - 2 ^ t]? = some (tb.getD (h - 2 ^ t) 0):=by simp [Ab,show h - 2 ^ t < tb.length by omega]
        have:=tbd _ _ ge
        omega
       have yne:ys ≠ []:=fun z=>by
        obtain ⟨t,ht,hb⟩:=bitx h1 m5 (show h < 2 ^ m by omega)
        have:tb.getD (h - 2 ^ t) 0 ∈ ys:=by rw [hys];exact zZ.mpr ⟨t,ht,hb,rfl⟩
        rw [z] at this
        cases this
       have S7:=s7.same nx2
       (push_cast only [])
       (simp only [qE])
       (push_cast only [])
       have S57:=S6.trans S7
       have e37:=S57 _ _ e35
       refine ⟨_,e37,fun x3 nx3=>?_⟩
       have nd3:d ≠ x3:=qC e37 nx3
       have psl:ps.length=2:=pl
       refine zC (FW x3 h ps H7) ⟨none,none,rfl,SameX.upd,qF⟩ (fun j σ H' _ ⟨_,_,_,s,_⟩=>s _ _ nd3 e37) ?_ ?_
       ·rintro j x σ H8 hx ⟨v1,v2,rfl,s8,e8⟩
        rw [Ad] at hx
        obtain ⟨t,ht,rfl⟩:=Al.mp hx
        have hj:j < ps.length:=(Ag.mp ht).1
        have et:=(pr t (An ht)).1
        have ntp:t.1 ≠ p:=fun z=>by obtain ⟨_,_,_,_,_,_,y,_⟩:=sp3;rw [z,y] at et;cases et
        have et4:=s4 _ _ et
        have ntu:t.1 ≠ u:=fun z=>by rw [z,e4] at et4;cases et4
        have et7:=S57 _ _ (k5 _ _ ntp ntu et4)
        have et8:=s8 _ _ (qC et7 nx3) et7
        (push_cast only [et8])
        split
        ·rename_i cc
         have cc':Builtin.bitAnd (h:Int) t.2.1=t.2.1:=cc
         (push_cast only [e8])
         exact ⟨qL (by have:=cL (ps:=ps.take j) (h:=h);rw [Aq] at this;omega),⟨_,_,rfl,s8.trans SameX.upd,by rw [qF,wQ ht,Ai cc'];simp⟩⟩
        ·rename_i cc
         have cc':¬ Builtin.bitAnd (h:Int) t.2.1=t.2.1:=cc
         exact ⟨_,_,rfl,s8,by rw [wQ ht,Ah cc'];simpa using e8⟩
       ·rintro σ H8 ⟨v1,v2,rfl,s8,e8⟩
        rw [Aa,AG] at e8
        obtain ⟨zs,hzs⟩:∃ zs,zs=yZ ps h:=⟨_,rfl⟩
        rw [← hzs] at e8
        have zl:zs.length ≤ ps.length:=by rw [hzs];exact cL
        have zb:∀ x ∈ zs,0 ≤ x∧x ≤ 200:=fun x hx=>by
         rw [hzs] at hx
         unfold yZ at hx
         obtain ⟨t,ht,rfl⟩:=Au.mp hx
         exact (pk t (Br.mp ht).1).2.2
        have S8:=s8.same nx3
        (push_cast only [])
        (simp only [qE])
        (push_cast only [])
        have sp8:=((sp5.same S6).same S7).same S8
        have nx1p:=sp5.nep nx1
        have nx2p:=(sp5.same S6).nep nx2
        have nx3p:=((sp5.same S6).same S7).nep nx3
        by_cases so:sort=0
        ·rw [Ai so]
         refine ⟨⟨by decide,by decide⟩,p,l,_,rfl,sp8,by omega,by omega,fun r1' G1 a0 a1 spa sxa=>?_⟩
         refine ⟨p,l,2,rfl,spa,by decide,by decide,fun r2' G b0 b1 spG sxb=>?_⟩
         have sxG:SameX p H8 G:=sxa.trans sxb
         (push_cast only [])
         refine ⟨.inr ⟨by split <;> decide,by split <;> decide⟩,?_⟩
         have mo:0 ≤ r1' * (if r2'=0 then 1 else 0)∧r1' * (if r2'=0 then 1 else 0) ≤ 101:=by split <;> omega
         generalize r1' * (if r2'=0 then (1:Int) else 0)=mr at *
         (simp only [qE])
         have hsy:=kF (sxG _ _ (nx2p).symm (S8 _ _ e7))
         have hsx:=kF (sxG _ _ (nx1p).symm (S8 _ _ (S7 _ _ e6)))
         have hsz:=kF (sxG _ _ (nx3p).symm e8)
         (push_cast only [hsy,hsx,hsz])
         have eu:=sxG _ _ nup.symm (S8 _ _ (S7 _ _ (S6 _ _ e5)))
         refine ⟨_,eu,ys,rfl,yne,fun mb hmb hmx=>?_⟩
         refine ⟨xs,rfl,y7 (fun n hn=>by have:=xb n hn;omega) (by omega),xs,rfl,xne,fun ms hms hmsx=>?_⟩
         refine ⟨zs,rfl,y7 (fun n hn=>by have:=zb n hn;omega) (by omega),by decide,fun L G2 nL sL eL=>?_⟩
         have yb1:=yb mb hmb
         have xb1:=xb ms hms
         have xs1:=dG xs xb
         have zs1:=dG zs zb
         obtain ⟨val,hval,va0,va1,vm,vs'⟩:∃ val,xH [V.int (mb + mr),V.int xs.sum,V.int ms,V.int zs.sum] sort=some (V.int val)∧0 ≤ val∧val ≤ 1000 + 200 * (h:Int)∧(∀ t,t < m→bit (tb.length:Int) t=1→tb.getD (tb.length - 2 ^ t) 0 ≤ val)∧(sort ≠ 0→val=mW sort os ps m h):=by
          refine ⟨mb + mr,by rw [so];rfl,by omega,by omega,fun t ht hb=>?_,fun z=>absurd so z⟩
          have:=hmx (tb.getD (h - 2 ^ t) 0) (by rw [hys];exact zZ.mpr ⟨t,ht,by rw [← tlh];exact hb,rfl⟩)
          rw [tlh]
          omega
         refine ⟨_,kF eL,_,hval,_,sL _ _ eu,qL (by rw [Aa];omega),?_⟩
         refine ⟨_,_,_,_,_,tb ++ [val],rfl,by rw [Aj];simp;omega,?_,fun j x hx=>?_,mono.more vm,fun so' j hj=>?_,(spG.same sL).upd nup nul,fun b o n1 n2 e=>by rw [q9 n2];exact sL _ _ (sxG _ _ n1 (S8 _ _ (S7 _ _ (S6 _ _ (k5 b o n1 n2 e))))),by rw [qF];simp⟩
         ·rw [Ab,Av (by omega),← Ab]
          exact t0
         ·rcases Az j tb.length with z | z
          ·rw [Av z] at hx
           exact tbd j x hx
          ·rw [AB z] at hx
           have hj:j=tb.length:=by
            have:=(Ag.mp hx).1
            simp at this
            omega
           subst hj
           have:x=val:=by simpa using hx.symm
           subst this
           exact ⟨va0,by omega⟩
         ·rw [Aj,AL] at hj
          rcases Az j tb.length with z | z
          ·rw [xB z]
           exact vals so' j z
          ·have:j=tb.length:=by omega
           subst this
           rw [dA,tlh]
           exact vs' so'
        ·rw [Ah so]
         have sxG:SameX p H8 H8:=SameX.refl
         have spG:=sp8
         (simp only [qE])
         have hsy:=kF (sxG _ _ (nx2p).symm (S8 _ _ e7))
         have hsx:=kF (sxG _ _ (nx1p).symm (S8 _ _ (S7 _ _ e6)))
         have hsz:=kF (sxG _ _ (nx3p).symm e8)
         (push_cast only [hsy,hsx,hsz])
         have eu:=sxG _ _ nup.symm (S8 _ _ (S7 _ _ (S6 _ _ e5)))
         refine ⟨_,eu,ys,rfl,yne,fun mb hmb hmx=>?_⟩
         refine ⟨xs,rfl,y7 (fun n hn=>by have:=xb n hn;omega) (by omega),xs,rfl,xne,fun ms hms hmsx=>?_⟩
         refine ⟨zs,rfl,y7 (fun n hn=>by have:=zb n hn;omega) (by omega),by decide,fun L G2 nL sL eL=>?_⟩
         have yb1:=yb mb hmb
         have xb1:=xb ms hms
         have xs1:=dG xs xb
         have zs1:=dG zs zb
         obtain ⟨val,hval,va0,va1,vs0⟩:=pick3s (Pd:=fun x=>0 ≤ x∧x ≤ 1000 + 200 * (h:Int)∧x=mW sort os ps m h) so0 so1 so (a:=mb + 0) (b:=xs.sum) (c:=ms) (d:=zs.sum) (fun z=>⟨by omega,by omega,by rw [z,hxs];rfl⟩) (fun z=>⟨by omega,by omega,by rw [z,← iO hms hmsx,hxs];rfl⟩) (fun z=>⟨by omega,by omega,by rw [z,hzs];rfl⟩)
         have vs':sort ≠ 0→val=mW sort os ps m h:=fun _=>vs0
         have vm:∀ t,t < m→bit (tb.length:Int) t=1→tb.getD (tb.length - 2 ^ t) 0 ≤ val:=fun t ht hb=>by
          have pt:0 < 2 ^ t:=Nat.pow_pos (by decide)
          rw [vals so _ (by omega),vs0,tlh]
          rw [tlh] at hb
          exact u6 m5 (show h < 2 ^ m by omega) ht hb hbd pk
         refine ⟨_,kF eL,_,hval,_,sL _ _ eu,qL (by rw [Aa];omega),?_⟩
         refine ⟨_,_,_,_,_,tb ++ [val],rfl,by rw [Aj];simp;omega,?_,fun j x hx=>?_,mono.more vm,fun so' j hj=>?_,(spG.same sL).upd nup nul,fun b o n1 n2 e=>by rw [q9 n2];exact sL _ _ (sxG _ _ n1 (S8 _ _ (S7 _ _ (S6 _ _ (k5 b o n1 n2 e))))),by rw [qF];simp⟩
         ·rw [Ab,Av (by omega),← Ab]
          exact t0
         ·rcases Az j tb.length with z | z
          ·rw [Av z] at hx
           exact tbd j x hx
          ·rw [AB z] at hx
           have hj:j=tb.length:=by
            have:=(Ag.mp hx).1
            simp at this
            omega
           subst hj
           have:x=val:=by simpa using hx.symm
           subst this
           exact ⟨va0,by omega⟩
         ·rw [Aj,AL] at hj
          rcases Az j tb.length with z | z
          ·rw [xB z]
           exact vals so' j z
          ·have:j=tb.length:=by omega
           subst this
           rw [dA,tlh]
           exact vs' so'
    ·rintro σ H5 ⟨v7,v8,v9,v10,v11,tb,rfl,tl,t0,tbd,mono,vals,sp5,k5,e5⟩
     (simp only [qE])
     (push_cast only [e5])
     intro t H6 n6 s6 e6
     have hlen:tb.length=2 ^ m:=by omega
     have none_of:H t=none:=by
      cases e:H t with
      | none=>rfl
      | some o =>
       have nt:t ≠ p:=fun z=>by obtain ⟨_,_,_,_,_,_,y,_⟩:=sp5;rw [z,y] at n6;cases n6
       have nu:t ≠ u:=fun z=>by rw [z,e5] at n6;cases n6
       rw [k5 t o nt nu (s4 _ _ (sx3 t o nt e))] at n6
       cases n6
     refine q t tb H6 none_of hlen t0 (fun x hx=>?_) mono (sp5.same s6) (fun b o n e=>?_) e6
     ·obtain ⟨j,hj,rfl⟩:=Cf hx
      have:=tbd j _ (Af hj)
      omega
     ·have e3':=sx3 b o n e
      exact s6 _ _ (k5 b o n (qC e3' n4) (s4 _ _ e3'))
noncomputable def Tw (m:Nat)(ts:List (Addr × List Int)):Prop:=∀ t ∈ ts,t.2.getD 0 0=0∧MonoI m t.2
noncomputable def lV:Sp:=fun vs H Q _=>∃ (p l:Addr),vs=[.ref p]∧Spool H p l∧∀ (tw sa wa:Addr) (ts:List (Addr × List Int)) (ss:List Int) (H':Hp),H tw=none→Rows H' tw sa wa ts ss.length→H' sa=some (.tup (ss.map V.int))→1 ≤ ss.length→1 ≤ ts.length→(∀ x ∈ ss,x=0∨x=1)→Tw ss.length ts→Spool H' p l→SameX p H H'→Q (.ref tw) H'
noncomputable def JW (p l d:Addr)(m:Nat)(most:Int)(G:Hp)(i:Nat)(σ:St)(H:Hp):Prop:=∃ (v:Option V) (ts:List (Addr × List Int)),σ=[v,some (.ref p),some (.int (m:Int)),some (.int most)]∧ts.length=i∧(∀ t ∈ ts,H t.1=some (.tup (t.2.map V.int))∧t.2.length=2 ^ m∧∀ x ∈ t.2,0 ≤ x∧x ≤ 10000)∧Tw m ts∧Spool H p l∧(∀ b o,b ≠ p→b ≠ d→G b=some o→H b=some o)∧H d=some (.lst (ts.map fun t=>V.ref t.1))
theorem pick2i {r:Int}(hr:r=0∨r=1){a b:Int}:∃ x,xH [V.int a,V.int b] r=some (V.int x)∧(x=a∨x=b):=by
 rcases hr with rfl | rfl
 ·exact ⟨a,rfl,.inl rfl⟩
 ·exact ⟨b,rfl,.inr rfl⟩
theorem pick4i {r:Int}(r0:0 ≤ r)(r1:r < 4){a b c d:Int}:∃ x,xH [V.int a,V.int b,V.int c,V.int d] r=some (V.int x)∧(x=a∨x=b∨x=c∨x=d):=by
 have h4:r=0∨r=1∨r=2∨r=3:=by omega
 rcases h4 with rfl | rfl | rfl | rfl
 ·exact ⟨a,rfl,.inl rfl⟩
 ·exact ⟨b,rfl,.inr (.inl rfl)⟩
 ·exact ⟨c,rfl,.inr (.inr (.inl rfl))⟩
 ·exact ⟨d,rfl,.inr (.inr (.inr rfl))⟩
theorem dJ:FnScope ["_law_spool_here", "_law_many", "_law_hands", "_law_most", "_law_sides"] ["_law_spool_here"] (qI s__law_town):=⟨rfl,rfl,rfl,by decide +kernel,rfl,by decide +kernel,by decide +kernel⟩
theorem oW (F:Fun K "_law_town" "_law_town" s__law_town f fd) (hm:mg "_law_town" = some (.ref f)) (hb:Binds K fd ["_law_spool_here"] []) (T:Txt mg) (c__law_draw:j4 P w K mg base "_law_draw" ["_law_spool_here", "_law_many"] 2 vO) (c__law_want:j4 P w K mg base "_law_want" ["_law_spool_here", "_law_many", "_law_most"] 3 lU):j4 P w K mg base "_law_town" ["_law_spool_here"] 4 lV:=by
 refine kU F hm hb dJ (fun vs H Q E h=>?_) (fun cdv A outer s H vs Q E hr h=>?_)
 ·obtain ⟨_,_,rfl,_⟩:=h;rfl
 ·obtain ⟨p,l,rfl,sp,q⟩:=h
  have sc:=dJ
  refine ⟨_,qG (kQ (i:=1) sc.nd rfl (Or.inr rfl) (qN jD (qN jD qD (qU c__law_draw hr (qA (pv 0) (qA qD qB)))) (kZ fS rfl T.int_ dD (qA (jK jR (qU c__law_draw hr (qA (pv 0) (qA qD qB))) qD (kA _)) qB)))) (qG (kQ (i:=2) sc.nd rfl (Or.inl rfl) (qN jD qD (qU c__law_draw hr (qA (pv 0) (qA (kL z6 (jW (qA qD (qA qD qB))) (kZ fS rfl T.int_ dD (qA (jK jR (qU c__law_draw hr (qA (pv 0) (qA qD qB))) qD (kA _)) qB)) (fun _ _=>rfl)) qB))))) (qG (kQ (i:=3) sc.nd rfl (Or.inr rfl) (kL z6 (jW (qA qD (qA qD (qA qD (qA qD qB))))) (qU c__law_draw hr (qA (pv 0) (qA qD qB))) (fun _ _=>rfl))) (qG (kQ (i:=4) sc.nd rfl (Or.inl rfl) (kZ yM rfl T.tuple_ kX (qA (jO (N:=["_law_thing", "_law_spool_here"]) (fr:=[none,some 0]) rfl (kT rfl T.range_ (qA (pv 1) qB)) (CScope.of rfl rfl rfl) rfl (fun _ _ _=>⟨qH (i:=0) (show List.Nodup (α:=Str) ["_law_thing", "_law_spool_here"] by decide +kernel) rfl (Or.inl rfl),kH,qU c__law_draw hr (qA (pv 1) (qA qD qB))⟩)) qB))) (qM (q8 (jB (qA (pv 4) (qA (kZ yM rfl T.tuple_ kX (qA (jO (N:=["_law_hand", "_law_spool_here", "_law_many", "_law_most"]) (fr:=[none,some 0,some 1,some 3]) rfl (kT rfl T.range_ (qA (pv 2) qB)) (CScope.of rfl rfl rfl) rfl (fun _ _ _=>⟨qH (i:=0) (show List.Nodup (α:=Str) ["_law_hand", "_law_spool_here", "_law_many", "_law_most"] by decide +kernel) rfl (Or.inl rfl),kH,qU c__law_want hr (qA (pv 1) (qA (pv 2) (qA (pv 3) qB)))⟩)) qB)) qB)))))))),?_⟩
  rw [show L2.start ["_law_spool_here", "_law_many", "_law_hands", "_law_most", "_law_sides"] [.ref p] = [some (.ref p),none,none,none,none] from rfl]
  (push_cast only [])
  refine ⟨p,l,4,rfl,sp,by decide,by decide,fun r1 H1 r10 r11 sp1 sx1=>?_⟩
  (push_cast only [])
  refine ⟨p,l,8,rfl,sp1,by decide,by decide,fun r2 H2 r20 r21 sp2 sx2=>?_⟩
  (push_cast only [])
  obtain ⟨m,hm'⟩:=AA (show 0 ≤ 1 + r1 + (if r2=7 then 1 else 0) by split <;> omega)
  have m1:1 ≤ m∧m ≤ 5:=by split at hm' <;> omega
  rw [hm']
  (simp only [qE])
  (push_cast only [])
  refine ⟨by decide,fun L1 H3 nL1 s3 e3=>?_⟩
  refine ⟨p,l,8,rfl,sp2.same s3,by decide,by decide,fun r3 H4 r30 r31 sp4 sx4=>?_⟩
  have nL1p:=sp2.nep nL1
  obtain ⟨hd,hhd,hd3⟩:=pick2i (r:=if r3=7 then 1 else 0) (by split <;> simp) (a:=3) (b:=5)
  have hq4:=kF (sx4 _ _ nL1p.symm e3)
  (push_cast only [hq4,hhd])
  refine ⟨p,l,_,rfl,sp4,by omega,by omega,fun r4 H5 r40 r41 sp5 sx5=>?_⟩
  obtain ⟨h,hh⟩:=AA (show 0 ≤ 1 + r4 by omega)
  (push_cast only [])
  rw [hh]
  (simp only [qE])
  (push_cast only [])
  refine ⟨by decide,fun L2 H6 nL2 s6 e6=>?_⟩
  refine ⟨p,l,4,rfl,sp5.same s6,by decide,by decide,fun r5 H7 r50 r51 sp7 sx7=>?_⟩
  have nL2p:=sp5.nep nL2
  obtain ⟨mo,hmo,mo4⟩:=pick4i r50 r51 (a:=4) (b:=9) (c:=30) (d:=200)
  have hq7:=kF (sx7 _ _ nL2p.symm e6)
  (push_cast only [hq7,hmo])
  have sxa:SameX p H H7:=(((((sx1.trans sx2).trans s3.x).trans sx4).trans sx5).trans s6.x).trans sx7
  (push_cast only [])
  (simp only [qE])
  (push_cast only [])
  refine ⟨by omega,by omega,fun c nc=>?_⟩
  have ncp:=sp7.nep nc
  have ncl:=sp7.nel nc
  refine jL (MadeS p l c (fun x=>x=0∨x=1) [some (.ref p)] H7) (MadeS.zero sp7 nc) ?_ ?_
  ·rintro i σ H8 hi ⟨v,ws,rfl,hl,hbd,sp8,k8,e8⟩
   rw [Ap] at hi
   (push_cast only [])
   refine ⟨p,l,2,rfl,sp8,by omega,by omega,fun r H9 r0 r1 sp9 sx9=>?_⟩
   have e9:=sx9 _ _ ncp.symm e8
   subst hl
   (push_cast only [e9])
   exact ⟨qL (by omega),MadeS.more ncp ncl hbd k8 sx9 sp9 (by omega)⟩
  ·rintro σ H8 ⟨v,ss,rfl,hl,hbd,sp8,k8,e8⟩
   rw [Ap] at hl
   refine ⟨_,e8,fun sa H9 nsa s9 e9=>?_⟩
   have sp9:=sp8.same s9
   have nsp:=sp8.nep nsa
   have sx9:SameX p H H9:=fun b o n e=>s9 _ _ (k8 b o n (qC (sxa b o n e) nc) (sxa b o n e))
   (push_cast only [])
   (simp only [qE])
   (push_cast only [])
   refine ⟨by omega,by omega,fun d nd=>?_⟩
   have ndp:=sp9.nep nd
   have ndl:=sp9.nel nd
   refine jL (JW p l d m mo H9) ⟨none,[],rfl,rfl,fun _ z=>absurd z (by simp),fun _ z=>absurd z (by simp),sp9.upd ndp ndl,fun b o _ n e=>by rw [q9 n];exact e,qF⟩ ?_ ?_
   ·rintro j σ H10 hj ⟨v,ts,rfl,tl,tr,tt,sp10,k10,e10⟩
    rw [Ap] at hj
    (push_cast only [])
    refine ⟨p,l,m,mo,rfl,sp10,m1.1,m1.2,by omega,by omega,fun t ws H11 nt wl w0 wb wm sp11 sx11 e11=>?_⟩
    have e11d:=sx11 _ _ ndp.symm e10
    have ntd:t ≠ d:=fun z=>by rw [z,e10] at nt;cases nt
    (push_cast only [e11d])
    refine ⟨qL (by omega),⟨_,ts ++ [(t,ws)],rfl,by rw [Aj,tl];rfl,fun x hx=>?_,fun x hx=>?_,sp11.upd ndp ndl,fun b o n1 n2 e=>by rw [q9 n2];exact sx11 b o n1 (k10 b o n1 n2 e),by rw [qF];simp⟩⟩
    ·rcases A3.mp hx with z | z
     ·obtain ⟨ex,Wx⟩:=tr x z
      have nxp:x.1 ≠ p:=fun z=>by obtain ⟨_,_,_,_,_,_,y,_⟩:=sp10;rw [z,y] at ex;cases ex
      have nxd:x.1 ≠ d:=fun z=>by rw [z,e10] at ex;cases ex
      exact ⟨by rw [q9 nxd];exact sx11 _ _ nxp ex,Wx⟩
     ·have:x=(t,ws):=by simpa using z
      subst this
      exact ⟨by rw [q9 ntd];exact e11,wl,wb⟩
    ·rcases A3.mp hx with z | z
     ·exact tt x z
     ·have:x=(t,ws):=by simpa using z
      subst this
      exact ⟨w0,wm⟩
   ·rintro σ H10 ⟨v,ts,rfl,tl,tr,tt,sp10,k10,e10⟩
    rw [Ap] at tl
    refine ⟨_,e10,fun wa H11 nwa s11 e11=>?_⟩
    have nsd:sa ≠ d:=qC e9 nd
    have es:=s11 _ _ (k10 _ _ nsp.symm nsd e9)
    have sx11:SameX p H H11:=fun b o n e=>s11 _ _ (k10 b o n (qC (sx9 b o n e) nd) (sx9 b o n e))
    (push_cast only [])
    refine ⟨by decide,fun tw H12 ntw s12 e12=>?_⟩
    subst hl
    have nn:H tw=none:=by
     cases e:H tw with
     | none=>rfl
     | some o =>
      have nt:tw ≠ p:=fun z=>(sp10.same s11).nep ntw z.symm
      rw [sx11 tw o nt e] at ntw
      cases ntw
    exact q tw sa wa ts ss H12 nn ⟨e12,s12 _ _ e11,by omega,m1.2,fun t ht=>⟨s12 _ _ (s11 _ _ (tr t ht).1),(tr t ht).2⟩⟩ (s12 _ _ es) m1.1 (by omega) hbd tt ((sp10.same s11).same s12) (sx11.trans s12.x)
noncomputable def kv (o1 o2:Nat)(w1 w2:Int)(S:Nat):Int:=max (if S &&& o1=o1 then w1 else 0) (if S &&& o2=o2 then w2 else 0)
structure KW (m:Nat)(ws:List Int):Prop where
 len:ws.length=2 ^ m
 zero:ws.getD 0 0=0
 bd:∀ x ∈ ws,0 ≤ x∧x ≤ 10000
 top:∀ S,S < 2 ^ m→ws.getD S 0 ≤ ws.getD (2 ^ m - 1) 0
noncomputable def wD:Sp:=fun vs H Q _=>∃ (p l:Addr),vs=[.ref p]∧Spool H p l∧∀ (t sd wt:Addr) (m:Nat) (ss:List Int) (ts:List (Addr × List Int)) (H':Hp),TownW H' t sd wt m ss ts→1 ≤ m→1 ≤ ts.length→(∀ t ∈ ts,KW m t.2)→Spool H' p l→SameX p H H'→Q (.ref t) H'
noncomputable def TWs (H:Hp)(wa:Addr)(ts:List (Addr × List Int)):Prop:=H wa=some (.lst (ts.map fun t=>V.ref t.1))∧∀ t ∈ ts,t.1 ≠ wa∧H t.1=some (.tup (t.2.map V.int))
theorem TWs.same {H H':Hp}{wa:Addr}{ts:List (Addr × List Int)}(h:TWs H wa ts)(s:Same H H'):TWs H' wa ts:=⟨s _ _ h.1,fun t ht=>⟨(h.2 t ht).1,s _ _ (h.2 t ht).2⟩⟩
theorem Spool.nlst {H:Hp}{p l c:Addr}{L:List V}(sp:Spool H p l)(h:H c=some (.lst L)):c ≠ p:=fun z=>by
 obtain ⟨_,_,_,_,_,_,hp,_⟩:=sp
 rw [z,hp] at h
 cases h
theorem Spool.ntup {H:Hp}{p l c:Addr}{L:List V}(sp:Spool H p l)(h:H c=some (.tup L)):c ≠ p:=fun z=>by
 obtain ⟨_,_,_,_,_,_,hp,_⟩:=sp
 rw [z,hp] at h
 cases h
theorem TWs.samex {H H':Hp}{wa p l:Addr}{ts:List (Addr × List Int)}(h:TWs H wa ts)(sp:Spool H p l)(s:SameX p H H'):TWs H' wa ts:=⟨s _ _ (sp.nlst h.1) h.1,fun t ht=>⟨(h.2 t ht).1,s _ _ (sp.ntup (h.2 t ht).2) (h.2 t ht).2⟩⟩
theorem TWs.app {H:Hp}{wa c:Addr}{ts:List (Addr × List Int)}{L:List Int}(h:TWs H wa ts)(hc:H c=some (.tup (L.map V.int))):TWs (upd H wa (.lst (ts.map (fun t=>V.ref t.1) ++ [V.ref c]))) wa (ts ++ [(c,L)]):=by
 have nc:c ≠ wa:=fun z=>by rw [z,h.1] at hc;cases hc
 refine ⟨by rw [qF,Ae];rfl,fun t ht=>?_⟩
 rcases A3.mp ht with ht | ht
 ·exact ⟨(h.2 t ht).1,by rw [q9 (h.2 t ht).1];exact (h.2 t ht).2⟩
 ·have:t=(c,L):=by simpa using ht
  subst this
  exact ⟨nc,by rw [q9 nc];exact hc⟩
theorem and_nat {a b:Nat}(ha:a < 32)(hb:b < 32):Builtin.bitAnd (a:Int) (b:Int)=((a &&& b:Nat):Int):=by
 have key:∀ x y:_root_.Fin 32,Builtin.bitAnd (x.val:Int) (y.val:Int)=((x.val &&& y.val:Nat):Int):=by decide +kernel
 exact key ⟨a,ha⟩ ⟨b,hb⟩
theorem pair_lt {m f r:Nat}(hm:m=3∨m=4)(hf:f < m)(hr:r < m - 1):1 ≤ 2 ^ f + 2 ^ ((f + 1 + r) % m)∧2 ^ f + 2 ^ ((f + 1 + r) % m) < 2 ^ m:=by
 have k3:∀ (a:_root_.Fin 3) (b:_root_.Fin 2),1 ≤ 2 ^ a.val + 2 ^ ((a.val + 1 + b.val) % 3)∧2 ^ a.val + 2 ^ ((a.val + 1 + b.val) % 3) < 2 ^ 3:=by decide +kernel
 have k4:∀ (a:_root_.Fin 4) (b:_root_.Fin 3),1 ≤ 2 ^ a.val + 2 ^ ((a.val + 1 + b.val) % 4)∧2 ^ a.val + 2 ^ ((a.val + 1 + b.val) % 4) < 2 ^ 4:=by decide +kernel
 rcases hm with rfl | rfl
 ·exact k3 ⟨f,hf⟩ ⟨r,hr⟩
 ·exact k4 ⟨f,hf⟩ ⟨r,hr⟩
theorem pY {m o:Nat}(hm:m ≤ 5)(ho:o < 2 ^ m):(2 ^ m - 1) &&& o=o:=by
 have key:∀ (a:_root_.Fin 6) (b:_root_.Fin 32),b.val < 2 ^ a.val→(2 ^ a.val - 1) &&& b.val=b.val:=by decide +kernel
 have:=yN hm
 exact key ⟨m,by omega⟩ ⟨o,by omega⟩ ho
noncomputable def eI (m o1 o2:Nat)(w1 w2:Int):List Int:=(List.range (2 ^ m)).map fun S=>kv o1 o2 w1 w2 S
theorem kTab_ok {m o1 o2:Nat}{w1 w2:Int}(hm:m ≤ 5)(h1:1 ≤ o1∧o1 < 2 ^ m)(h2:1 ≤ o2∧o2 < 2 ^ m)(a1:0 ≤ w1∧w1 ≤ 10000)(a2:0 ≤ w2∧w2 ≤ 10000):KW m (eI m o1 o2 w1 w2):=by
 have pm:1 ≤ 2 ^ m:=Nat.one_le_two_pow
 have at':∀ S,S < 2 ^ m→(eI m o1 o2 w1 w2).getD S 0=kv o1 o2 w1 w2 S:=fun S hS=>by
  unfold eI
  rw [Ab,Ad,AM hS]
  rfl
 have b:∀ S,0 ≤ kv o1 o2 w1 w2 S∧kv o1 o2 w1 w2 S ≤ max w1 w2:=fun S=>by
  unfold kv
  constructor
  ·repeat' split
   all_goals omega
  ·repeat' split
   all_goals omega
 refine ⟨by unfold eI;simp,?_,fun x hx=>?_,fun S hS=>?_⟩
 ·rw [at' 0 (by omega)]
  unfold kv
  rw [Nat.zero_and,Nat.zero_and,Ah (by omega),Ah (by omega)]
  rfl
 ·obtain ⟨S,_,rfl⟩:=Au.mp hx
  have:=b S
  omega
 ·rw [at' S hS,at' _ (by omega)]
  have e:kv o1 o2 w1 w2 (2 ^ m - 1)=max w1 w2:=by
   unfold kv
   rw [pY hm h1.2,pY hm h2.2,Ai rfl,Ai rfl]
  rw [e]
  exact (b S).2
noncomputable def KNI (p l wa:Addr)(m:Nat)(v2:Option V)(G:Hp)(i:Nat)(σ:St)(H:Hp):Prop:=∃ (v4 v5 v6 v7 v8 v9 v10:Option V) (ts:List (Addr × List Int)),σ=[some (.ref p),some (.int (m:Int)),v2,some (.ref wa),v4,v5,v6,v7,v8,v9,v10]∧ts.length=i∧(∀ t ∈ ts,KW m t.2)∧TWs H wa ts∧Spool H p l∧∀ b o,b ≠ p→b ≠ wa→G b=some o→H b=some o
noncomputable def KNW (p l wl wa:Addr)(m hn i f:Nat)(v8 v9 v10:Option V)(G:Hp)(j:Nat)(σ:St)(H:Hp):Prop:=∃ (v7:Option V) (os:List Nat),σ=[some (.ref p),some (.int (m:Int)),some (.int (hn:Int)),some (.ref wa),some (.int (i:Int)),some (.int (f:Int)),some (.ref wl),v7,v8,v9,v10]∧os.length=j∧(∀ o ∈ os,1 ≤ o∧o < 2 ^ m)∧H wl=some (.lst (os.map fun o:Nat=>V.int (o:Int)))∧Spool H p l∧∀ b o,b ≠ p→b ≠ wl→G b=some o→H b=some o
noncomputable def KNT (p wl wa wo tb:Addr)(m hn i f:Nat)(v7:Option V)(o1 o2:Nat)(w1 w2:Int)(G:Hp)(j:Nat)(σ:St)(H:Hp):Prop:=∃ v10:Option V,σ=[some (.ref p),some (.int (m:Int)),some (.int (hn:Int)),some (.ref wa),some (.int (i:Int)),some (.int (f:Int)),some (.ref wl),v7,some (.ref wo),some (.ref tb),v10]∧SameX tb G H∧H tb=some (.lst ((List.range j).map fun S=>V.int (kv o1 o2 w1 w2 S)))
theorem eR (p:Nat→Bool)(g:Nat→Int)(k:Nat)(y:Bool)(h:p k=y):((List.range (k + 1)).filter p).map g=((List.range k).filter p).map g ++ (if y=true then [g k] else []):=by
 rw [AO,AQ,Ae]
 cases y <;> simp [List.filter,h]
noncomputable def KNC (c:Addr)(S:Nat)(os:List Nat)(ws:List Int)(G:Hp)(i:Nat)(σ:St)(H:Hp):Prop:=∃ v1 v2:Option V,σ=[v1,v2,some (.int (S:Int))]∧SameX c G H∧H c=some (.lst ((((List.range i).filter fun k=>decide (S &&& os.getD k 0=os.getD k 0)).map fun k=>ws.getD k 0).map V.int))
theorem dM:FnScope ["_law_spool_here", "_law_many", "_law_hands", "_law_wants", "_law_hand", "_law_first", "_law_wanted", "_law_k", "_law_worths", "_law_table", "_law_heap"] ["_law_spool_here"] (qI s__law_knot):=⟨rfl,rfl,rfl,by decide +kernel,rfl,by decide +kernel,by decide +kernel⟩
theorem ok_knot (F:Fun K "_law_knot" "_law_knot" s__law_knot f fd) (hm:mg "_law_knot" = some (.ref f)) (hb:Binds K fd ["_law_spool_here"] []) (T:Txt mg) (c__law_draw:j4 P w K mg base "_law_draw" ["_law_spool_here", "_law_many"] 2 vO):j4 P w K mg base "_law_knot" ["_law_spool_here"] 3 wD:=by
 refine kU F hm hb dM (fun vs H Q E h=>?_) (fun cdv A outer s H vs Q E hr h=>?_)
 ·obtain ⟨_,_,rfl,_⟩:=h;rfl
 ·obtain ⟨p,l,rfl,sp,q⟩:=h
  have sc:=dM
  refine ⟨_,qG (oG (i:=1) (j:=2) rfl sc.nd rfl rfl (by decide) rfl rfl (qA (qN jD qD (qU c__law_draw hr (qA (pv 0) (qA qD qB)))) (qA (qN jD qD (qU c__law_draw hr (qA (pv 0) (qA qD qB)))) qB)) rfl) (qG (kQ (i:=3) sc.nd rfl (Or.inl rfl) (jW qB)) (qG (yK Bs rfl (kT rfl T.range_ (qA (pv 2) qB)) (qH (i:=4) sc.nd rfl (Or.inl rfl)) (qG (kQ (i:=5) sc.nd rfl (Or.inl rfl) (qU c__law_draw hr (qA (pv 0) (qA (pv 1) qB)))) (qG (kQ (i:=6) sc.nd rfl (Or.inl rfl) (jW qB)) (qG (yK Bs rfl (kT rfl T.range_ (qA qD qB)) (qH (i:=7) sc.nd rfl (Or.inl rfl)) (qM (wH (gG (pv 6) (qA (qN jD (qN vV qD (pv 5)) (qN vV qD (qN x9 (qN jD (qN jD (pv 5) qD) (qU c__law_draw hr (qA (pv 0) (qA (qN fM (pv 1) qD) qB)))) (pv 1)))) qB))))) (qG (kQ (i:=8) sc.nd rfl (Or.inl rfl) (jW (qA (qN jD qD (qU c__law_draw hr (qA (pv 0) (qA qD qB)))) (qA (qU c__law_draw hr (qA (pv 0) (qA qD qB))) qB)))) (qG (kQ (i:=9) sc.nd rfl (Or.inl rfl) (jW qB)) (qG (yK Bs rfl (kT rfl T.range_ (qA (qN vV qD (pv 1)) qB)) (qH (i:=10) sc.nd rfl (Or.inr rfl)) (qM (wH (gG (pv 9) (qA (qK (aY rfl) rfl T.max_ fU (qA (qN vJ (jW (qA qD qB)) (jO (N:=["_law_one", "_law_worth_here", "_law_heap"]) (fr:=[none,none,some 10]) rfl (gZ rfl T.zip_ (qA (pv 6) (qA (pv 8) qB))) (CScope.of rfl rfl rfl) rfl (fun _ _ _=>⟨kK (n:=2) rfl (qJ (qH (i:=0) (show List.Nodup (α:=Str) ["_law_one", "_law_worth_here", "_law_heap"] by decide +kernel) rfl (Or.inl rfl)) (qJ (qH (i:=1) (show List.Nodup (α:=Str) ["_law_one", "_law_worth_here", "_law_heap"] by decide +kernel) rfl (Or.inl rfl)) kJ)),zD (kD jR (qN g6 (pv 2) (pv 0)) (pv 0) (kA _)),pv 1⟩))) qB)) qB))))) (qM (wH (gG (pv 3) (qA (kZ yM rfl T.tuple_ kX (qA (pv 9) qB)) qB))))))))))) (qM (q8 (jB (qA (kZ yM rfl T.tuple_ kX (qA (jO (N:=["_law_thing", "_law_spool_here"]) (fr:=[none,some 0]) rfl (kT rfl T.range_ (qA (pv 1) qB)) (CScope.of rfl rfl rfl) rfl (fun _ _ _=>⟨qH (i:=0) (show List.Nodup (α:=Str) ["_law_thing", "_law_spool_here"] by decide +kernel) rfl (Or.inl rfl),kH,qU c__law_draw hr (qA (pv 1) (qA qD qB))⟩)) qB)) (qA (kZ yM rfl T.tuple_ kX (qA (pv 3) qB)) qB))))))),?_⟩
  rw [show L2.start ["_law_spool_here", "_law_many", "_law_hands", "_law_wants", "_law_hand", "_law_first", "_law_wanted", "_law_k", "_law_worths", "_law_table", "_law_heap"] [.ref p] = [some (.ref p),none,none,none,none,none,none,none,none,none,none] from rfl]
  (push_cast only [])
  refine ⟨p,l,2,rfl,sp,by decide,by decide,fun r1 H1 r10 r11 sp1 sx1=>?_⟩
  (push_cast only [])
  refine ⟨p,l,3,rfl,sp1,by decide,by decide,fun r2 H2 r20 r21 sp2 sx2=>?_⟩
  (push_cast only [])
  (simp only [qE])
  (push_cast only [])
  obtain ⟨m,hm'⟩:=AA (show 0 ≤ 3 + r1 by omega)
  have m34:m=3∨m=4:=by omega
  rw [hm']
  have m5:m ≤ 5:=by omega
  have p32:=yN m5
  obtain ⟨hn,hn'⟩:=AA (show 0 ≤ 2 + r2 by omega)
  rw [hn']
  refine ⟨by decide,fun wa H3 n3 s3 e3=>?_⟩
  have sp3:=sp2.same s3
  have sx3:SameX p H H3:=(sx1.trans sx2).trans s3.x
  have nwp:=sp3.nlst e3
  (simp only [qE])
  (push_cast only [])
  refine ⟨by omega,by omega,xX (KNI p l wa m (some (.int (hn:Int))) H3) ⟨_,_,_,_,_,_,_,[],rfl,rfl,fun t ht=>by simp at ht,⟨e3,fun t ht=>by simp at ht⟩,sp3,fun b o _ _ e=>e⟩ ?_ ?_⟩
  ·rintro i σ H4 hi ⟨v4,v5,v6,v7,v8,v9,v10,ts,rfl,tl,tk,tw4,sp4,k4⟩
   (push_cast only [])
   refine ⟨p,l,(m:Int),rfl,sp4,by omega,by omega,fun r5 H5 r50 r51 sp5 sx5=>?_⟩
   obtain ⟨f,hf'⟩:=AA r50
   subst hf'
   have hf:f < m:=by omega
   have tw5:=tw4.samex sp4 sx5
   (push_cast only [])
   (simp only [qE])
   (push_cast only [])
   refine ⟨by decide,fun wl H6 n6 s6 e6=>?_⟩
   have sp6:=sp5.same s6
   have nwl:=sp6.nlst e6
   (simp only [qE])
   (push_cast only [])
   refine ⟨by decide,by decide,xX (KNW p l wl wa m hn i f v8 v9 v10 H6) ⟨_,[],rfl,rfl,fun o ho=>by simp at ho,e6,sp6,fun b o _ _ e=>e⟩ ?_ ?_⟩
   ·rintro j σ H7 hj ⟨v7',os,rfl,ol,ob,e7,sp7,k7⟩
    (push_cast only [e7])
    refine ⟨⟨by omega,by omega,by decide⟩,p,l,(m:Int) - 1,rfl,sp7,by omega,by omega,fun r8 H8 r80 r81 sp8 sx8=>?_⟩
    obtain ⟨r,hr'⟩:=AA r80
    subst hr'
    have e8:=sx8 _ _ nwl e7
    have hrm:r < m - 1:=by omega
    have ee:((f:Int) + 1 + (r:Int)) % (m:Int)=(((f + 1 + r) % m:Nat):Int):=by norm_cast
    have em:(f + 1 + r) % m < m:=C1 _ (by omega)
    (push_cast only [e8])
    rw [ee,sR,sR]
    obtain ⟨pl1,pl2⟩:=pair_lt m34 hf hrm
    refine ⟨by omega,⟨by omega,by omega,by decide⟩,qL (by omega),_,os ++ [2 ^ f + 2 ^ ((f + 1 + r) % m)],rfl,by rw [Aj,ol];rfl,fun o ho=>?_,?_,sp8.upd (Cr nwl) (sp5.nel n6),fun b o n1 n2 e=>by rw [q9 n2];exact sx8 b o n1 (k7 b o n1 n2 e)⟩
    ·rcases A3.mp ho with ho | ho
     ·exact ob o ho
     ·rw [A5.mp ho]
      exact ⟨pl1,pl2⟩
    ·rw [qF,Ae]
     rfl
   ·rintro σ H7 ⟨v7',os,rfl,ol,ob,e7,sp7,k7⟩
    have ol2:os.length=2:=ol
    obtain ⟨o1,o2,rfl⟩:∃ o1 o2,os=[o1,o2]:=by
     match os,ol2 with
     | [a,b],_=>exact ⟨a,b,rfl⟩
    have ob1:=ob o1 (by simp)
    have ob2:=ob o2 (by simp)
    have sx7:SameX p H5 H7:=fun b o nb e=>k7 b o nb (qC e n6) (s6 _ _ e)
    (simp only [qE])
    (push_cast only [])
    refine ⟨p,l,8,rfl,sp7,by decide,by decide,fun r8 H8 r80 r81 sp8 sx8=>?_⟩
    (push_cast only [])
    refine ⟨p,l,4,rfl,sp8,by decide,by decide,fun r9 H9 r90 r91 sp9 sx9=>?_⟩
    (push_cast only [])
    refine ⟨by decide,fun wo H10 n10 s10 e10=>?_⟩
    (simp only [qE])
    (push_cast only [])
    refine ⟨by decide,fun tb H11 n11 s11 e11=>?_⟩
    have e7w:H11 wl=some (.lst [V.int (o1:Int),V.int (o2:Int)]):=s11 _ _ (s10 _ _ (sx9 _ _ (sp8.nlst (sx8 _ _ nwl e7)) (sx8 _ _ nwl e7)))
    have e10w:=s11 _ _ e10
    have nwt:wl ≠ tb:=fun z=>by
     have:H10 wl=some (.lst [V.int (o1:Int),V.int (o2:Int)]):=s10 _ _ (sx9 _ _ (sp8.nlst (sx8 _ _ nwl e7)) (sx8 _ _ nwl e7))
     rw [z,n11] at this
     cases this
    have not':wo ≠ tb:=fun z=>by rw [z,n11] at e10;cases e10
    (simp only [qE])
    (push_cast only [])
    rw [sR]
    refine ⟨⟨by omega,by omega,by decide⟩,by omega,by omega,?_⟩
    rw [Ap]
    refine xX (KNT p wl wa wo tb m hn i f v7' o1 o2 (2 + r8) r9 H11) ⟨_,rfl,SameX.refl,e11⟩ ?_ ?_
    ·rintro S σ H12 hS ⟨v10',rfl,s12,e12⟩
     have w12:=s12 _ _ nwt e7w
     have x12:=s12 _ _ not' e10w
     (push_cast only [e12])
     refine ⟨by decide,fun z1 H13 n13 s13 e13=>⟨_,_,_,.inl ⟨rfl,s13 _ _ w12⟩,_,.inl ⟨rfl,s13 _ _ x12⟩,fun c nc=>?_⟩⟩
     have nwc:wl ≠ c:=qC (s13 _ _ w12) nc
     have nxc:wo ≠ c:=qC (s13 _ _ x12) nc
     refine fQ (KNC c S [o1,o2] [2 + r8,r9] H13) ⟨none,none,rfl,SameX.upd,qF⟩ (fun i σ H' ⟨_,_,_,s,_⟩=>⟨.inl ⟨rfl,s _ _ nwc (s13 _ _ w12)⟩,.inl ⟨rfl,s _ _ nxc (s13 _ _ x12)⟩⟩) ?_ ?_
     ·rintro k u v T14 σ H14 H15 hu hv ⟨y1,y2,rfl,s14,e14⟩ nT14 s15 eT15
      have hk:k < 2:=by have:=(Ag.mp hu).1;simpa using this
      have hu':u=V.int (([o1,o2].getD k 0:Nat):Int):=by
       have h2:k=0∨k=1:=by omega
       rcases h2 with rfl | rfl <;> simpa using hu.symm
      have hv':v=V.int ([2 + r8,r9].getD k 0):=by
       have h2:k=0∨k=1:=by omega
       rcases h2 with rfl | rfl <;> simpa using hv.symm
      subst hu' hv'
      have o32:[o1,o2].getD k 0 < 32:=by
       have h2:k=0∨k=1:=by omega
       rcases h2 with rfl | rfl
       ·show o1 < 32;omega
       ·show o2 < 32;omega
      have e15:=s15 _ _ e14
      have step:=fun y (hy:decide (S &&& [o1,o2].getD k 0=[o1,o2].getD k 0)=y)=>AY (List.map V.int) (eR (fun k=>decide (S &&& [o1,o2].getD k 0=[o1,o2].getD k 0)) (fun k=>[2 + r8,r9].getD k 0) k y hy)
      simp only [Ae] at step
      generalize hok:[o1,o2].getD k 0=ok at *
      (push_cast only [eT15])
      rw [and_nat (by omega) o32]
      by_cases z:S &&& ok=ok
      ·rw [Ai (by omega)]
       have st:=step true (Ax z)
       refine ⟨_,e15,qL ?_,_,_,rfl,(s14.trans s15.x).trans SameX.upd,?_⟩
       ·rw [Aa,Aa]
        have:=AS (fun k=>decide (S &&& [o1,o2].getD k 0=[o1,o2].getD k 0)) (List.range k)
        rw [Ar] at this
        omega
       ·rw [qF,st,Ai rfl]
        rfl
      ·rw [Ah (by omega)]
       have st:=step false (Aw z)
       refine ⟨_,_,rfl,s14.trans s15.x,?_⟩
       rw [e15,st,Ah (by simp),C3,B2]
     ·rintro σ H14 ⟨y1,y2,rfl,s14,e14⟩
      have S14:=s14.same nc
      have e14':H14 c=some (.lst ((((List.range 2).filter fun k=>decide (S &&& [o1,o2].getD k 0=[o1,o2].getD k 0)).map fun k=>[2 + r8,r9].getD k 0).map V.int)):=e14
      refine ⟨_,S14 _ _ e13,_,e14',?_,fun z2 H15 n15 s15 e15=>?_⟩
      ·refine AH (qL ?_)
       have:=AS (fun k=>decide (S &&& [o1,o2].getD k 0=[o1,o2].getD k 0)) (List.range 2)
       simp only [Aa,A6,Bq]
       rw [Ar] at this
       omega
      ·have e15':sq H15 z2=some ((0 :: (((List.range 2).filter fun k=>decide (S &&& [o1,o2].getD k 0=[o1,o2].getD k 0)).map fun k=>[2 + r8,r9].getD k 0)).map V.int):=kF e15
       refine ⟨_,e15',by simp,fun g g1 g2=>⟨_,s15 _ _ (S14 _ _ (s13 _ _ e12)),qL (by simp;omega),_,rfl,((s12.trans s13.x).trans (S14.x.trans s15.x)).trans SameX.upd,?_⟩⟩
       have gk:g=kv o1 o2 (2 + r8) r9 S:=by
        unfold kv
        rw [show List.range 2=[0,1] from rfl] at g1 g2
        by_cases x1:S &&& o1=o1 <;> by_cases x2:S &&& o2=o2 <;> simp [List.filter,x1,x2] at g1 g2 ⊢ <;> omega
       rw [qF,AO,Ae,gk]
       rfl
    ·rintro σ H12 ⟨v10',rfl,s12,e12⟩
     have tw7:TWs H7 wa ts:=tw5.samex sp5 sx7
     have tw8:=tw7.samex sp7 sx8
     have tw9:=tw8.samex sp8 sx9
     have tw11:=(tw9.same s10).same s11
     have nat:wa ≠ tb:=fun z=>by have:=(tw9.same s10).1;rw [z,n11] at this;cases this
     have tw12:TWs H12 wa ts:=⟨s12 _ _ nat tw11.1,fun t ht=>⟨(tw11.2 t ht).1,s12 _ _ (fun z=>by have:=((tw9.same s10).2 t ht).2;rw [z,n11] at this;cases this) (tw11.2 t ht).2⟩⟩
     (simp only [qE])
     (push_cast only [e12])
     have tl9:i ≤ 5:=by omega
     refine ⟨_,tw12.1,fun c13 H13 n13 s13 e13=>⟨_,(tw12.same s13).1,qL (by rw [Aa];omega),_,_,_,_,_,_,_,ts ++ [(c13,eI m o1 o2 (2 + r8) r9)],rfl,by rw [Aj,tl];rfl,fun t ht=>?_,(tw12.same s13).app ?_,?_,fun b o n1 n2 e=>?_⟩⟩
     ·rcases A3.mp ht with ht | ht
      ·exact tk t ht
      ·rw [A5.mp ht]
       exact kTab_ok m5 ob1 ob2 (by omega) (by omega)
     ·rw [e13]
      unfold eI
      rw [AF]
      rfl
     ·have sp11:=(sp9.same s10).same s11
      have sp12:Spool H12 p l:=by
       obtain ⟨ns0,a0,g0,f0,mm0,x0,q1,q2,q3,q4⟩:=sp11
       have sp10:=sp9.same s10
       exact ⟨ns0,a0,g0,f0,mm0,x0,s12 _ _ (sp10.nep n11) q1,s12 _ _ (sp10.nel n11) q2,q3,q4⟩
      have sp13:=sp12.same s13
      exact sp13.upd (Cr (sp13.nlst (tw12.same s13).1)) (sp2.nel n3)
     ·rw [q9 n2]
      have e4:=k4 b o n1 n2 e
      have e5:=sx5 b o n1 e4
      have e9:=sx9 b o n1 (sx8 b o n1 (sx7 b o n1 e5))
      exact s13 _ _ (s12 _ _ (qC (s10 _ _ e9) n11) (s11 _ _ (s10 _ _ e9)))
  ·rintro σ H4 ⟨v4,v5,v6,v7,v8,v9,v10,ts,rfl,tl,tk,tw4,sp4,k4⟩
   (simp only [qE])
   (push_cast only [])
   refine ⟨by omega,by omega,fun c nc=>?_⟩
   rw [Ap]
   have ncp:=sp4.nep nc
   have ncl:=sp4.nel nc
   refine jL (MadeS p l c (fun x=>x=0∨x=1) [some (.ref p)] H4) (MadeS.zero sp4 nc) ?_ ?_
   ·rintro j σ H8 hj ⟨v,ws,rfl,hl,hbd,sp8,k8,e8⟩
    (push_cast only [])
    refine ⟨p,l,2,rfl,sp8,by decide,by decide,fun r H9 r0 r1 sp9 sx9=>?_⟩
    have e9:=sx9 _ _ (Cr ncp) e8
    subst hl
    (push_cast only [e9])
    exact ⟨qL (by omega),MadeS.more ncp ncl hbd k8 sx9 sp9 (by omega)⟩
   ·rintro σ H8 ⟨v,ws,rfl,hl,hbd,sp8,k8,e8⟩
    refine ⟨_,e8,fun sd H9 n9 s9 e9=>?_⟩
    have nwc:wa ≠ c:=qC tw4.1 nc
    have w9:=s9 _ _ (k8 _ _ (sp4.nlst tw4.1) nwc tw4.1)
    refine ⟨_,w9,fun wt H10 n10 s10 e10=>⟨by decide,fun tt H11 n11 s11 e11=>?_⟩⟩
    have S11:=(s9.trans s10).trans s11
    refine q tt sd wt m ws ts H11 ⟨e11,s11 _ _ (s10 _ _ e9),s11 _ _ e10,m5,hl,by omega,fun t ht=>⟨S11 _ _ (k8 _ _ (sp4.ntup (tw4.2 t ht).2) (qC (tw4.2 t ht).2 nc) (tw4.2 t ht).2),(tk t ht).len⟩⟩ (by omega) (by omega) tk (sp8.same S11) fun b o n1 e=>?_
    have e3':=sx3 b o n1 e
    have nbw:b ≠ wa:=fun z=>by
     have:=sx2 b o n1 (sx1 b o n1 e)
     rw [z,n3] at this
     cases this
    have e4:=k4 b o n1 nbw e3'
    exact S11 _ _ (k8 b o n1 (qC e4 nc) e4)
theorem kw_of {m:Nat}{ws:List Int}(l:ws.length=2 ^ m)(z:ws.getD 0 0=0)(b:∀ x ∈ ws,0 ≤ x∧x ≤ 10000)(mo:MonoI m ws)(m5:m ≤ 5):KW m ws:=by
 refine ⟨l,z,b,fun S hS=>?_⟩
 have key:∀ (a:_root_.Fin 6) (s:_root_.Fin 32),s.val + 1 < 2 ^ a.val→∃ t:_root_.Fin 5,t.val < a.val∧bit (((s.val + 2 ^ t.val:Nat)):Int) t.val=1∧s.val + 2 ^ t.val < 2 ^ a.val:=by decide +kernel
 have p5:=yN m5
 have all:∀ k S,S < 2 ^ m→2 ^ m - 1 - S ≤ k→ws.getD S 0 ≤ ws.getD (2 ^ m - 1) 0:=fun k=>by
  induction k with
  | zero=>intro S hS h;rw [show S=2 ^ m - 1 by omega];exact BM _
  | succ k ih =>
   intro S hS h
   by_cases e:S + 1 < 2 ^ m
   ·obtain ⟨t,t1,t2,t3⟩:=key ⟨m,by omega⟩ ⟨S,by omega⟩ e
    have m1:=mo (S + 2 ^ t.val) t.val (by rw [l];exact t3) t1 t2
    rw [Nat.add_sub_cancel] at m1
    have:=Nat.two_pow_pos t.val
    exact CZ m1 (ih _ t3 (by omega))
   ·rw [show S=2 ^ m - 1 by omega]
    exact BM _
 exact all _ S hS (Ak _)
theorem xQ:FnScope ["_law_spool_here"] ["_law_spool_here"] (qI s__law_any_town):=⟨rfl,rfl,rfl,by decide +kernel,rfl,by decide +kernel,by decide +kernel⟩
theorem ok_any (F:Fun K "_law_any_town" "_law_any_town" s__law_any_town f fd) (hm:mg "_law_any_town" = some (.ref f)) (hb:Binds K fd ["_law_spool_here"] []) (T:Txt mg) (c__law_draw:j4 P w K mg base "_law_draw" ["_law_spool_here", "_law_many"] 2 vO) (c__law_knot:j4 P w K mg base "_law_knot" ["_law_spool_here"] 3 wD) (c__law_town:j4 P w K mg base "_law_town" ["_law_spool_here"] 4 lV):j4 P w K mg base "_law_any_town" ["_law_spool_here"] 5 wD:=by
 refine kU F hm hb xQ (fun vs H Q E h=>?_) (fun cdv A outer s H vs Q E hr h=>?_)
 ·obtain ⟨_,_,rfl,_⟩:=h;rfl
 ·obtain ⟨p,l,rfl,sp,q⟩:=h
  have sc:=xQ
  refine ⟨_,jI (jV (kD jR (qU c__law_draw hr (qA (pv 0) (qA qD qB))) qD (kA _)) (qM (q8 (qU c__law_knot hr (qA (pv 0) qB)))) kW) (qM (q8 (qU c__law_town hr (qA (pv 0) qB)))),?_⟩
  rw [show L2.start ["_law_spool_here"] [.ref p] = [some (.ref p)] from rfl]
  (push_cast only [])
  refine ⟨p,l,3,rfl,sp,by decide,by decide,fun r1 H1 a1 b1 sp1 sx1=>?_⟩
  (push_cast only [])
  by_cases z:r1=0
  ·rw [Ai z]
   exact ⟨p,l,rfl,sp1,fun t sd wt m ss ts H2 W m1 l1 k sp2 sx2=>q t sd wt m ss ts H2 W m1 l1 k sp2 (sx1.trans sx2)⟩
  ·rw [Ah z]
   refine ⟨p,l,rfl,sp1,fun t sd wt ts ss H2 _ R es m1 l1 _ tw sp2 sx2=>?_⟩
   exact q t sd wt ss.length ss ts H2 ⟨R.tw,es,R.wa,R.five,rfl,R.few,fun x hx=>⟨(R.row x hx).1,(R.row x hx).2.1⟩⟩ m1 l1 (fun x hx=>kw_of (R.row x hx).2.1 (tw x hx).1 (R.row x hx).2.2 (tw x hx).2 R.five) sp2 (sx1.trans sx2)
theorem gP:FnScope ["_law_town_here", "_law_rows"] ["_law_town_here", "_law_rows"] (qI s__law_worth):=⟨rfl,rfl,rfl,by decide +kernel,rfl,by decide +kernel,by decide +kernel⟩
theorem hu8 {n:Nat}(h:n + 64 < cLine):n + 8 < cLine:=by omega
noncomputable def isI:V→Bool
 | .int _=>true
 | _=>false
noncomputable def bQ (least:Int):V→Bool
 | .int i=>decide (least ≤ i)
 | _=>false
theorem tyN_isI {H:Hp}{x:V}{t:String}(h:wW H x=some t):((t == "int" || (t == "bool" && true)) && !(t == "bool"))=isI x:=by
 cases x with
 | non=>cases h;rfl
 | bl b=>cases h;rfl
 | int i=>cases h;rfl
 | str i=>cases h;rfl
 | ref a =>
  cases e:H a with
  | none=>simp [wW,e] at h
  | some o =>
   cases o with
   | lst xs=>simp [wW,e] at h;subst h;rfl
   | tup xs=>simp [wW,e] at h;subst h;rfl
   | dK xs=>simp [wW,e] at h;subst h;rfl
   | _=>simp [wW,e] at h
 | _=>cases h
theorem iJ {H H':Hp}(s:Same H H'){x:V}{t:String}(h:wW H x=some t):wW H' x=some t:=by
 cases x with
 | ref a =>
  cases e:H a with
  | none=>simp [wW,e] at h
  | some o=>simp only [wW,e] at h;simp only [wW,s a o e];exact h
 | _=>exact h
noncomputable def wZ:Sp:=fun vs H Q _=>∃ (x:V) (t:String),vs=[x]∧wW H x=some t∧Q (.bl (isI x)) H
theorem fW:FnScope ["thing"] ["thing"] (qI s_is_whole):=⟨rfl,rfl,rfl,by decide +kernel,rfl,by decide +kernel,by decide +kernel⟩
theorem oQ (F:Fun K "is_whole" "is_whole" s_is_whole f fd) (hm:mg "is_whole" = some (.ref f)) (hb:Binds K fd ["thing"] []) (T:Txt mg):j4 P w K mg base "is_whole" ["thing"] 1 wZ:=by
 refine kU F hm hb fW (fun vs H Q E h=>?_) (fun cdv A outer s H vs Q E hr h=>?_)
 ·obtain ⟨_,_,rfl,_⟩:=h;rfl
 ·obtain ⟨x,t,rfl,hx,q⟩:=h
  have sc:=fW
  refine ⟨_,qM (q8 (zY (qK vX rfl T.isinstance_ kG (qA (pv 0) (qA (jX (v:=.ty "int") rfl T.int_ dD rfl) qB))) (yL (pe_not (qK vX rfl T.isinstance_ kG (qA (pv 0) (qA (jX (v:=.ty "bool") rfl T.bool_ d6 rfl) qB))))))),?_⟩
  rw [show L2.start ["thing"] [x] = [some (x)] from rfl]
  rw [← tyN_isI hx] at q
  (push_cast only [])
  refine ⟨_,hx,?_⟩
  obtain ⟨_,ht⟩:=iK (K:=K) hx
  rcases ht with rfl | rfl | rfl | rfl | rfl | rfl | rfl
  all_goals first
   | (rw [Ah (by decide)];simpa using q)
   | (rw [Ai (by decide)];refine ⟨_,hx,?_⟩;simpa using q)
noncomputable def Kn (H:Hp)(xs:List V):Prop:=∀ x ∈ xs,∃ t,wW H x=some t
theorem Kn.ints {H:Hp}(ns:List Int):Kn H (ns.map V.int):=fun x hx=>by
 obtain ⟨n,_,rfl⟩:=Au.mp hx
 exact ⟨"int",rfl⟩
noncomputable def fG:Sp:=fun vs H Q _=>(∃ (x:V) (k:Int) (t:String),vs=[x,.int k]∧wW H x=some t∧(t == "tuple")=false∧Q (.bl false) H) ∨
 ∃ (a:Addr) (k:Int) (xs:List V),vs=[.ref a,.int k]∧H a=some (.tup xs)∧Kn H xs∧xs.length < 1000∧∀ H',Same H H'→Q (.bl (decide ((xs.length:Int)=k) && xs.all isI)) H'
noncomputable def LW (c:Addr)(xs:List V)(G:Hp)(i:Nat)(σ:St)(H:Hp):Prop:=∃ v,σ=[v]∧SameX c G H∧H c=some (.lst (((xs.take i).map isI).map V.bl))
theorem xG:FnScope ["thing", "many"] ["thing", "many"] (qI s_are_wholes):=⟨rfl,rfl,rfl,by decide +kernel,rfl,by decide +kernel,by decide +kernel⟩
theorem aP (F:Fun K "are_wholes" "are_wholes" s_are_wholes f fd) (hm:mg "are_wholes" = some (.ref f)) (hb:Binds K fd ["thing", "many"] []) (T:Txt mg) (c_is_whole:j4 P w K mg base "is_whole" ["thing"] 1 wZ):j4 P w K mg base "are_wholes" ["thing", "many"] 2 fG:=by
 refine kU F hm hb xG (fun vs H Q E h=>?_) (fun cdv A outer s H vs Q E hr h=>?_)
 ·rcases h with h | h
  ·obtain ⟨_,_,_,rfl,_⟩:=h;rfl
  ·obtain ⟨_,_,_,rfl,_⟩:=h;rfl
 ·rcases h with h | h
  ·obtain ⟨x,k,t,rfl,hx,ht,q⟩:=h
   have sc:=xG
   refine ⟨_,qM (q8 (zY (qK vX rfl T.isinstance_ kG (qA (pv 0) (qA (jX (v:=.ty "tuple") rfl T.tuple_ kX rfl) qB))) (zY (jK jR (qK len0 rfl T.len_ kY (qA (pv 0) qB)) (pv 1) (kA _)) (yL (qK (eX rfl) rfl T.all_ fV (qA (jO (N:=["part"]) (fr:=[none]) rfl (zH (pv 0)) (CScope.of rfl rfl rfl) rfl (fun _ _ _=>⟨qH (i:=0) (show List.Nodup (α:=Str) ["part"] by decide +kernel) rfl (Or.inl rfl),kH,qU c_is_whole hr (qA (pv 0) qB)⟩)) qB)))))),?_⟩
   rw [show L2.start ["thing", "many"] [x,.int k] = [some (x),some (.int k)] from rfl]
   (push_cast only [])
   refine ⟨_,hx,?_⟩
   (push_cast only [])
   rw [Ah (by rw [ht];decide)]
   exact q
  ·obtain ⟨a,k,xs,rfl,ha,hk,hlen,q⟩:=h
   have sc:=xG
   refine ⟨_,qM (q8 (zY (qK vX rfl T.isinstance_ kG (qA (pv 0) (qA (jX (v:=.ty "tuple") rfl T.tuple_ kX rfl) qB))) (zY (jK jR (qK len0 rfl T.len_ kY (qA (pv 0) qB)) (pv 1) (kA _)) (yL (qK (eX rfl) rfl T.all_ fV (qA (jO (N:=["part"]) (fr:=[none]) rfl (zH (pv 0)) (CScope.of rfl rfl rfl) rfl (fun _ _ _=>⟨qH (i:=0) (show List.Nodup (α:=Str) ["part"] by decide +kernel) rfl (Or.inl rfl),kH,qU c_is_whole hr (qA (pv 0) qB)⟩)) qB)))))),?_⟩
   rw [show L2.start ["thing", "many"] [.ref a,.int k] = [some (.ref a),some (.int k)] from rfl]
   have hsa:=kC ha
   (push_cast only [ha,hsa])
   by_cases hl:(xs.length:Int)=k
   ·rw [Ai hl]
    intro c nc
    have nac:a ≠ c:=qC ha nc
    refine zC (LW c xs H) ⟨none,rfl,SameX.upd,qF⟩ (fun j σ H' _ ⟨_,_,s,_⟩=>s _ _ nac ha) ?_ ?_
    ·rintro i x σ H1 hx ⟨v,rfl,s1,e1⟩
     obtain ⟨t,ht⟩:=hk x (An hx)
     have ht1:=iJ (s1.same nc) ht
     have hi:i < xs.length:=(Ag.mp hx).1
     (push_cast only [e1])
     refine ⟨_,_,rfl,ht1,?_⟩
     refine ⟨_,e1,qL (by rw [Aa,Aa,Aq];omega),⟨_,rfl,s1.trans SameX.upd,?_⟩⟩
     rw [qF,A7,hx]
     simp
    ·rintro σ H1 ⟨v,rfl,s1,e1⟩
     rw [AG] at e1
     refine ⟨_,kF e1,?_⟩
     have:=q H1 (s1.same nc)
     rw [Ax hl,AZ] at this
     rw [CK]
     exact this
   ·rw [Ah hl]
    have:=q H (Same.refl H)
    rw [Aw hl,Bz] at this
    exact this
theorem isI_int {x:V}(h:isI x=true):∃ i,x = .int i:=by
 cases x with
 | int i=>exact ⟨i,rfl⟩
 | _=>cases h
theorem mV:∀ {xs:List V},xs.all isI=true→∃ ns:List Int,xs=ns.map V.int
 | [],_=>⟨[],rfl⟩
 | x :: r,h=>by
  rw [List.all_cons,Bt] at h
  obtain ⟨ns,e⟩:=mV h.2
  obtain ⟨i,rfl⟩:=isI_int h.1
  exact ⟨i :: ns,by rw [e];rfl⟩
theorem allF_I {least:Int}:∀ {xs:List V},xs.all (bQ least)=true→xs.all isI=true
 | [],_=>rfl
 | x :: r,h=>by
  rw [List.all_cons,Bt] at h
  rw [List.all_cons,allF_I h.2,Bool.and_true]
  cases x <;> first | rfl | exact h.1
noncomputable def nA:Sp:=fun vs H Q _=>(∃ (x:V) (k l:Int) (t:String),vs=[x,.int k,.int l]∧wW H x=some t∧(t == "tuple")=false∧Q (.bl false) H) ∨
 ∃ (a:Addr) (k l:Int) (xs:List V),vs=[.ref a,.int k,.int l]∧H a=some (.tup xs)∧Kn H xs∧xs.length < 1000∧∀ H',Same H H'→Q (.bl (decide ((xs.length:Int)=k) && xs.all (bQ l))) H'
noncomputable def LF (c:Addr)(ns:List Int)(l:Int)(G:Hp)(i:Nat)(σ:St)(H:Hp):Prop:=∃ v,σ=[v,some (.int l)]∧SameX c G H∧H c=some (.lst (((ns.take i).map fun n=>decide (l ≤ n)).map V.bl))
theorem zT:FnScope ["thing", "many", "least"] ["thing", "many", "least"] (qI s_are_wholes_from):=⟨rfl,rfl,rfl,by decide +kernel,rfl,by decide +kernel,by decide +kernel⟩
theorem ok_from (F:Fun K "are_wholes_from" "are_wholes_from" s_are_wholes_from f fd) (hm:mg "are_wholes_from" = some (.ref f)) (hb:Binds K fd ["thing", "many", "least"] []) (T:Txt mg) (c_are_wholes:j4 P w K mg base "are_wholes" ["thing", "many"] 2 fG):j4 P w K mg base "are_wholes_from" ["thing", "many", "least"] 3 nA:=by
 refine kU F hm hb zT (fun vs H Q E h=>?_) (fun cdv A outer s H vs Q E hr h=>?_)
 ·rcases h with h | h
  ·obtain ⟨_,_,_,_,rfl,_⟩:=h;rfl
  ·obtain ⟨_,_,_,_,rfl,_⟩:=h;rfl
 ·rcases h with h | h
  ·obtain ⟨x,k,l,t,rfl,hx,ht,q⟩:=h
   have sc:=zT
   refine ⟨_,qM (q8 (zY (qU c_are_wholes hr (qA (pv 0) (qA (pv 1) qB))) (yL (qK (eX rfl) rfl T.all_ fV (qA (jO (N:=["part", "least"]) (fr:=[none,some 2]) rfl (zH (pv 0)) (CScope.of rfl rfl rfl) rfl (fun _ _ _=>⟨qH (i:=0) (show List.Nodup (α:=Str) ["part", "least"] by decide +kernel) rfl (Or.inl rfl),kH,jK pL (pv 0) (pv 1) (kA _)⟩)) qB))))),?_⟩
   rw [show L2.start ["thing", "many", "least"] [x,.int k,.int l] = [some (x),some (.int k),some (.int l)] from rfl]
   (push_cast only [])
   refine .inl ⟨x,k,t,rfl,hx,ht,?_⟩
   (push_cast only [])
   exact q
  ·obtain ⟨a,k,l,xs,rfl,ha,hk,hlen,q⟩:=h
   have sc:=zT
   refine ⟨_,qM (q8 (zY (qU c_are_wholes hr (qA (pv 0) (qA (pv 1) qB))) (yL (qK (eX rfl) rfl T.all_ fV (qA (jO (N:=["part", "least"]) (fr:=[none,some 2]) rfl (zH (pv 0)) (CScope.of rfl rfl rfl) rfl (fun _ _ _=>⟨qH (i:=0) (show List.Nodup (α:=Str) ["part", "least"] by decide +kernel) rfl (Or.inl rfl),kH,jK pL (pv 0) (pv 1) (kA _)⟩)) qB))))),?_⟩
   rw [show L2.start ["thing", "many", "least"] [.ref a,.int k,.int l] = [some (.ref a),some (.int k),some (.int l)] from rfl]
   (push_cast only [])
   refine .inr ⟨a,k,xs,rfl,ha,hk,hlen,fun H1 s1=>?_⟩
   by_cases hl:(decide ((xs.length:Int)=k) && xs.all isI)=true
   ·rw [hl]
    rw [Bt,AU] at hl
    obtain ⟨ns,rfl⟩:=mV hl.2
    have ha1:=s1 _ _ ha
    (push_cast only [ha1])
    intro c nc
    have nac:a ≠ c:=qC ha1 nc
    refine zC (LF c ns l H1) ⟨none,rfl,SameX.upd,qF⟩ (fun j σ H' _ ⟨_,_,s,_⟩=>s _ _ nac ha1) ?_ ?_
    ·rintro i x σ H2 hx ⟨v,rfl,s2,e2⟩
     rw [Ad] at hx
     obtain ⟨n,hn,rfl⟩:=Al.mp hx
     have hi:i < ns.length:=(Ag.mp hn).1
     rw [Aa] at hlen
     (push_cast only [e2])
     refine ⟨qL (by rw [Aq];omega),⟨_,rfl,s2.trans SameX.upd,?_⟩⟩
     rw [qF,A7,hn]
     simp
    ·rintro σ H2 ⟨v,rfl,s2,e2⟩
     rw [Aa,AG] at e2
     refine ⟨_,kF e2,?_⟩
     have:=q H2 (s1.trans (s2.same nc))
     rw [Ax hl.1,AZ,CK] at this
     rw [CK]
     exact this
   ·have hf:(decide ((xs.length:Int)=k) && xs.all isI)=false:=by simpa using hl
    rw [hf]
    have e:(decide ((xs.length:Int)=k) && xs.all (bQ l))=false:=by
     cases e1:decide ((xs.length:Int)=k) with
     | false=>rfl
     | true =>
      cases e2:xs.all (bQ l) with
      | false=>rfl
      | true=>rw [e1,allF_I e2] at hf;exact hf
    have:=q H1 s1
    rw [e] at this
    (push_cast only [])
    exact this
noncomputable def cU:Sp:=fun vs H Q _=>∃ b l:Int,vs=[.int b,.int l]∧Q (.bl (decide (l ≤ b))) H
theorem xO:FnScope ["thing", "least"] ["thing", "least"] (qI s_is_whole_from):=⟨rfl,rfl,rfl,by decide +kernel,rfl,by decide +kernel,by decide +kernel⟩
theorem aV (F:Fun K "is_whole_from" "is_whole_from" s_is_whole_from f fd) (hm:mg "is_whole_from" = some (.ref f)) (hb:Binds K fd ["thing", "least"] []) (T:Txt mg) (c_is_whole:j4 P w K mg base "is_whole" ["thing"] 1 wZ):j4 P w K mg base "is_whole_from" ["thing", "least"] 2 cU:=by
 refine kU F hm hb xO (fun vs H Q E h=>?_) (fun cdv A outer s H vs Q E hr h=>?_)
 ·obtain ⟨_,_,rfl,_⟩:=h;rfl
 ·obtain ⟨b,l,rfl,q⟩:=h
  have sc:=xO
  refine ⟨_,qM (q8 (zY (qU c_is_whole hr (qA (pv 0) qB)) (yL (jK pL (pv 0) (pv 1) (kA _))))),?_⟩
  rw [show L2.start ["thing", "least"] [.int b,.int l] = [some (.int b),some (.int l)] from rfl]
  (push_cast only [])
  refine ⟨_, "int",rfl,rfl,?_⟩
  (push_cast only [])
  exact q
noncomputable def yI (m n:Nat)(h p t:Int):Bool:=decide (0 ≤ h∧h < (n:Int)) && (decide (0 < p∧p < ((2 ^ m:Nat):Int)) && decide (0 < t))
noncomputable def iW:Sp:=fun vs H Q _=>∃ (m n:Nat) (a:Addr) (h p t:Int),vs=[.ref a,.int (m:Int),.int (n:Int)]∧m ≤ 5∧H a=some (.tup [.int h,.int p,.int t])∧∀ H',Same H H'→Q (.bl (yI m n h p t)) H'
theorem fX:FnScope ["row", "many", "hands", "hand", "heap", "part"] ["row", "many", "hands"] (qI s_is_share):=⟨rfl,rfl,rfl,by decide +kernel,rfl,by decide +kernel,by decide +kernel⟩
theorem ok_iss (F:Fun K "is_share" "is_share" s_is_share f fd) (hm:mg "is_share" = some (.ref f)) (hb:Binds K fd ["row", "many", "hands"] []) (T:Txt mg) (c_are_wholes:j4 P w K mg base "are_wholes" ["thing", "many"] 2 fG):j4 P w K mg base "is_share" ["row", "many", "hands"] 3 iW:=by
 refine kU F hm hb fX (fun vs H Q E h=>?_) (fun cdv A outer s H vs Q E hr h=>?_)
 ·obtain ⟨_,_,_,_,_,_,rfl,_⟩:=h;rfl
 ·obtain ⟨m,n,a,h,p,t,rfl,m5,ha,q⟩:=h
  have sc:=fX
  refine ⟨_,qG (jV (j3 (jQ (qU c_are_wholes hr (qA (pv 0) (qA qD qB))))) (qM (q8 yB)) kW) (qG (zG (pv 0) (kK (n:=3) rfl (qJ (qH (i:=3) sc.nd rfl (Or.inl rfl)) (qJ (qH (i:=4) sc.nd rfl (Or.inl rfl)) (qJ (qH (i:=5) sc.nd rfl (Or.inl rfl)) kJ))))) (qM (q8 (zY (pJ pK xU qD (pv 3) (pv 2) rfl) (zY (pJ xU xU qD (pv 4) (qN vV qD (pv 1)) rfl) (yL (jK mD (pv 5) qD (kA _)))))))),?_⟩
  rw [show L2.start ["row", "many", "hands", "hand", "heap", "part"] [.ref a,.int (m:Int),.int (n:Int)] = [some (.ref a),some (.int (m:Int)),some (.int (n:Int)),none,none,none] from rfl]
  (push_cast only [])
  refine .inr ⟨a,3,_,rfl,ha,Kn.ints [h,p,t],(by simp),fun H1 s1=>?_⟩
  have e1:(decide ((([V.int h,V.int p,V.int t].length:Nat):Int)=3) && [V.int h,V.int p,V.int t].all isI)=true:=rfl
  rw [e1]
  have ha1:=s1 _ _ ha
  (push_cast only [])
  (simp only [qE])
  (push_cast only [ha1])
  (simp only [qE])
  (push_cast only [])
  rw [sR m]
  have fin:=q H1 s1
  unfold yI at fin
  by_cases c1:0 ≤ h
  ·rw [Ai c1]
   by_cases c2:h < (n:Int)
   ·rw [Ai c2]
    rw [Ax (show 0 ≤ h∧h < (n:Int) from ⟨c1,c2⟩),AZ] at fin
    by_cases c3:0 < p
    ·rw [Ai c3]
     refine ⟨⟨by omega,by omega,by decide⟩,?_⟩
     by_cases c4:p < ((2 ^ m:Nat):Int)
     ·rw [Ai c4]
      rw [Ax (show 0 < p∧p < ((2 ^ m:Nat):Int) from ⟨c3,c4⟩),AZ] at fin
      exact fin
     ·rw [Ah c4]
      rw [Aw (fun z=>c4 z.2),Bz] at fin
      exact fin
    ·rw [Ah c3]
     rw [Aw (fun z=>c3 z.1),Bz] at fin
     exact fin
   ·rw [Ah c2]
    rw [Aw (fun z=>c2 z.2),Bz] at fin
    exact fin
  ·rw [Ah c1]
   rw [Aw (fun z=>c1 z.1),Bz] at fin
   exact fin
theorem wV {m:Nat}:∀ {a b:List (List Int)},(∀ x ∈ a,x.length=m)→(∀ x ∈ b,x.length=m)→a.Pairwise (fun x y=>zJ x y=true)→b.Pairwise (fun x y=>zJ x y=true)→(∀ x,x ∈ a ↔ x ∈ b)→a=b
 | [],[],_,_,_,_,_=>rfl
 | [],y :: b,_,_,_,_,h=>absurd ((h y).mpr A2) (by simp)
 | x :: a,[],_,_,_,_,h=>absurd ((h x).mp A2) (by simp)
 | x :: a,y :: b,la,lb,pa,pb,h=>by
  have pa':=Dl.mp pa
  have pb':=Dl.mp pb
  have no:∀ u v:List Int,u.length=m→v.length=m→zJ u v=true→zJ v u=true→False:=fun u v hu hv h1 h2=>by
   have:=vB (by rw [hu,hv]) (by rw [hv,hu]) h1 h2
   rw [gI] at this
   cases this
  have lx:=la x A2
  have ly:=lb y A2
  have exy:x=y:=by
   rcases A4.mp ((h x).mp A2) with z | z
   ·exact z
   ·rcases A4.mp ((h y).mpr A2) with z' | z'
    ·exact z'.symm
    ·exact (no x y lx ly (pa'.1 y z') (pb'.1 x z)).elim
  subst exy
  rw [wV (fun u hu=>la u (Ay _ hu)) (fun u hu=>lb u (Ay _ hu)) pa'.2 pb'.2 fun u=>?_]
  constructor
  ·intro hu
   rcases A4.mp ((h u).mp (Ay _ hu)) with z | z
   ·have:=pa'.1 u hu
    rw [z,gI] at this
    cases this
   ·exact z
  ·intro hu
   rcases A4.mp ((h u).mpr (Ay _ hu)) with z | z
   ·have:=pb'.1 u hu
    rw [z,gI] at this
    cases this
   ·exact z
noncomputable abbrev R3:=Int × Int × Int
noncomputable def k3 (r:R3):List Int:=[r.1,r.2.1,r.2.2]
noncomputable def k2 (r:R3):List Int:=[r.1,r.2.1]
noncomputable def Rw (H:Hp)(rs:List (Addr × R3)):Prop:=∀ r ∈ rs,H r.1=some (.tup ((k3 r.2).map V.int))
noncomputable def vT (rs:List (Addr × R3)):Prop:=(rs.map fun r=>k2 r.2).Pairwise fun x y=>zJ x y=true
noncomputable def tI:Sp:=fun vs H Q _=>∃ (a:Addr) (rs:List (Addr × R3)) (D:List (List Int)) (b:Bool),vs=[.ref a]∧H a=some (.tup (rs.map fun r=>V.ref r.1))∧Rw H rs∧rs.length ≤ 60∧D.length ≤ 18∧(∀ r ∈ rs,k2 r.2 ∈ D)∧(b=true ↔ vT rs)∧∀ H',Same H H'→Q (.bl b) H'
noncomputable def RI (c:Addr)(rs:List (Addr × R3))(G:Hp)(i:Nat)(σ:St)(H:Hp):Prop:=∃ (v:Option V) (xs:List (Addr × List Int)),σ=[v]∧SameX c G H∧H c=some (.lst (xs.map fun x=>V.ref x.1))∧(∀ x ∈ xs,H x.1=some (.tup (x.2.map V.int)))∧xs.map (·.2)=(rs.take i).map fun r=>k2 r.2
theorem xN:FnScope ["rows", "places"] ["rows"] (qI s_rise_by_place):=⟨rfl,rfl,rfl,by decide +kernel,rfl,by decide +kernel,by decide +kernel⟩
theorem ok_rise (F:Fun K "rise_by_place" "rise_by_place" s_rise_by_place f fd) (hm:mg "rise_by_place" = some (.ref f)) (hb:Binds K fd ["rows"] []) (T:Txt mg):j4 P w K mg base "rise_by_place" ["rows"] 1 tI:=by
 refine kU F hm hb xN (fun vs H Q E h=>?_) (fun cdv A outer s H vs Q E hr h=>?_)
 ·obtain ⟨_,_,_,_,rfl,_⟩:=h;rfl
 ·obtain ⟨a,rs,D,b,rfl,ha,R,few,dl,inD,hb',q⟩:=h
  have sc:=xN
  refine ⟨_,qG (yE (i:=1) sc.nd rfl (Or.inl rfl) (N:=["row"]) (fr:=[none]) rfl (zH (pv 0)) (CScope.of rfl rfl rfl) rfl (fun _ _ _=>⟨qH (i:=0) (show List.Nodup (α:=Str) ["row"] by decide +kernel) rfl (Or.inl rfl),kH,jH h9 (pv 0) jT (jN qD)⟩)) (qM (q8 (jK (eqLT0 hr.units) (pv 1) (pe_sset rfl T.sorted_ rfl T.set_ (hu8 hr.units) (nN (pv 1) qB)) (kA _)))),?_⟩
  rw [show L2.start ["rows", "places"] [.ref a] = [some (.ref a),none] from rfl]
  (push_cast only [ha])
  intro c nc
  have nac:a ≠ c:=qC ha nc
  refine zC (RI c rs H) ⟨none,[],rfl,SameX.upd,qF,(fun x hx=>by cases hx),rfl⟩ (fun j σ H' _ ⟨_,_,_,s,_⟩=>s _ _ nac ha) ?_ ?_
  ·rintro i x σ H1 hx ⟨v,xs,rfl,s1,e1,T1,d1⟩
   rw [Ad] at hx
   obtain ⟨r,hr',rfl⟩:=Al.mp hx
   have er:=R r (An hr')
   have er1:=s1 _ _ (qC er nc) er
   have hi:i < rs.length:=(Ag.mp hr').1
   (push_cast only [er1])
   intro p H2 s2 e2
   have ec:=s2 _ _ e1
   have e2':H2 p=some (.tup ((k2 r.2).map V.int)):=e2
   have xl:xs.length=i:=by
    have:=AY List.length d1
    rw [Aa,Aa,Aq] at this
    omega
   refine ⟨_,ec,qL (by rw [Aa];omega),_,xs ++ [(p,k2 r.2)],rfl,(s1.trans s2.x).trans SameX.upd,by rw [qF,Ae];rfl,fun x hx=>?_,?_⟩
   ·have hx2:H2 x.1=some (.tup (x.2.map V.int)):=by
     rcases A3.mp hx with z | z
     ·exact s2 _ _ (T1 x z)
     ·rw [A5.mp z];exact e2'
    rw [q9 (fun z=>by rw [z,ec] at hx2;cases hx2)]
    exact hx2
   ·rw [Ae,d1,A7,hr',Ae]
    rfl
  ·rintro σ H1 ⟨v,xs,rfl,s1,e1,T1,d1⟩
   rw [Aa,AG] at d1
   (simp only [qE])
   (push_cast only [])
   have len2:∀ x ∈ xs,x.2.length=2:=fun x hx=>by
    have hm:x.2 ∈ rs.map fun r=>k2 r.2:=d1 ▸ Bp hx
    obtain ⟨r,_,e⟩:=Au.mp hm
    rw [← e]
    rfl
   refine ⟨xs,e1,D,2,fun x hx=>⟨T1 x hx,len2 x hx⟩,by decide,dl,fun x hx=>?_,fun l qs H2 nl s2 sub all ri e2=>?_⟩
   ·have hm:x.2 ∈ rs.map fun r=>k2 r.2:=d1 ▸ Bp hx
    obtain ⟨r,hr',e⟩:=Au.mp hm
    rw [← e]
    exact inD r hr'
   ·refine ⟨xs,s2 _ _ e1,qs,e2,fun x hx=>s2 _ _ (T1 x hx),fun x hx=>s2 _ _ (T1 x (sub x hx)),?_⟩
    have eb:decide (xs.map (·.2)=qs.map (·.2))=b:=by
     rw [BI,AU,hb']
     unfold vT
     rw [← d1]
     constructor
     ·intro e
      rw [e]
      exact ri
     ·intro r
      refine wV (m:=2) (fun u hu=>?_) (fun u hu=>?_) r ri fun u=>⟨fun hu=>?_,fun hu=>?_⟩
      ·obtain ⟨x,hx,rfl⟩:=Au.mp hu
       exact len2 x hx
      ·obtain ⟨x,hx,rfl⟩:=Au.mp hu
       exact len2 x (sub x hx)
      ·obtain ⟨x,hx,rfl⟩:=Au.mp hu
       exact all x hx
      ·obtain ⟨x,hx,rfl⟩:=Au.mp hu
       exact Bp (sub x hx)
    rw [eb]
    exact q H2 ((s1.same nc).trans s2)
noncomputable def xE (rs:List (Addr × R3))(j:Int):List Int:=(rs.filter fun r=>decide (r.2.1=j)).map fun r=>r.2.2.2
noncomputable def zR (rs:List (Addr × R3))(t:Int):List Int:=(rs.filter fun r=>fO r.2.2.1 t).map fun r=>r.2.2.2
noncomputable def BdR (rs:List (Addr × R3)):Prop:=∀ r ∈ rs,0 ≤ r.2.2.1∧r.2.2.1 < 32∧-34359738368 ≤ r.2.2.2∧r.2.2.2 ≤ 34359738368
theorem Rw.same {H H':Hp}{rs:List (Addr × R3)}(R:Rw H rs)(s:Same H H'):Rw H' rs:=fun r hr=>s _ _ (R r hr)
noncomputable def allS (n m:Nat)(rs:List (Addr × R3)):List Int:=((List.range n).map fun j:Nat=>(xE rs j).sum) ++ ((List.range m).map fun j:Nat=>(zR rs j).sum)
noncomputable def mI (n m:Nat)(rs:List (Addr × R3))(b:Int):Bool:=decide (∀ x ∈ allS n m rs,x ≤ b)
theorem uA {n m:Nat}{rs:List (Addr × R3)}{b mx:Int}(hm:mx ∈ allS n m rs)(hx:∀ x ∈ allS n m rs,x ≤ mx):decide (mx ≤ b)=mI n m rs b:=by
 unfold mI
 rw [decide_eq_decide]
 exact ⟨fun h x z=>CZ (hx x z) h,fun h=>h mx hm⟩
noncomputable def tL:Sp:=fun vs H Q _=>∃ (t sd wt a:Addr) (ss:List Int) (ts:List (Addr × List Int)) (rs:List (Addr × R3)) (b:Int),vs=[.ref t,.int b,.ref a]∧(TownW H t sd wt ss.length ss ts∧1 ≤ ts.length)∧H a=some (.tup (rs.map fun r=>V.ref r.1))∧Rw H rs∧rs.length ≤ 60∧BdR rs∧∀ H',Same H H'→Q (.bl (mI ts.length ss.length rs b)) H'
noncomputable def KA (c a:Addr)(rs:List (Addr × R3))(G:Hp)(i:Nat)(σ:St)(H:Hp):Prop:=∃ v,σ=[v,some (.ref a)]∧SameX c G H∧H c=some (.lst (((List.range i).map fun j:Nat=>(xE rs j).sum).map V.int))
noncomputable def KB (d:Addr)(rs:List (Addr × R3))(h:Int)(G:Hp)(k:Nat)(σ:St)(H:Hp):Prop:=∃ v1 v2 v3,σ=[v1,v2,v3,some (.int h)]∧SameX d G H∧H d=some (.lst ((xE (rs.take k) h).map V.int))
noncomputable def KC (c a:Addr)(rs:List (Addr × R3))(G:Hp)(i:Nat)(σ:St)(H:Hp):Prop:=∃ v,σ=[v,some (.ref a)]∧SameX c G H∧H c=some (.lst (((List.range i).map fun j:Nat=>(zR rs j).sum).map V.int))
noncomputable def KD (d:Addr)(rs:List (Addr × R3))(h:Int)(G:Hp)(k:Nat)(σ:St)(H:Hp):Prop:=∃ v1 v2 v3,σ=[v1,v2,v3,some (.int h)]∧SameX d G H∧H d=some (.lst ((zR (rs.take k) h).map V.int))
theorem dZ (rs:List (Addr × R3))(j:Int):(xE rs j).length ≤ rs.length:=by unfold xE;rw [Aa];exact AS _ _
theorem gA (rs:List (Addr × R3))(j:Int):(zR rs j).length ≤ rs.length:=by unfold zR;rw [Aa];exact AS _ _
theorem gK {rs:List (Addr × R3)}{k:Nat}{r:Addr × R3}{j:Int}(h:rs[k]? = some r):xE (rs.take (k + 1)) j=xE (rs.take k) j ++ if r.2.1=j then [r.2.2.2] else []:=by
 unfold xE
 rw [A7,h,AQ,Ae]
 congr 1
 by_cases c:r.2.1=j
 ·rw [Ai c];simp [c]
 ·rw [Ah c];simp [c]
theorem x6 {rs:List (Addr × R3)}{k:Nat}{r:Addr × R3}{j:Int}(h:rs[k]? = some r):zR (rs.take (k + 1)) j=zR (rs.take k) j ++ if fO r.2.2.1 j=true then [r.2.2.2] else []:=by
 unfold zR
 rw [A7,h,AQ,Ae]
 congr 1
 by_cases c:fO r.2.2.1 j=true
 ·rw [Ai c];simp [c]
 ·rw [Ah c];simp [c]
theorem fits_of {rs:List (Addr × R3)}{l:List Int}(bd:BdR rs)(few:rs.length ≤ 60)(ll:l.length ≤ rs.length)(h:∀ x ∈ l,∃ r ∈ rs,x=r.2.2.2):wC l:=y7 (fun x hx=>by
 obtain ⟨r,hr,rfl⟩:=h x hx
 have:=bd r hr
 omega) (by omega)
theorem vQ:FnScope ["town", "by", "rows", "sides", "wants", "of_hands", "of_things"] ["town", "by", "rows"] (qI s_keep_bounds):=⟨rfl,rfl,rfl,by decide +kernel,rfl,by decide +kernel,by decide +kernel⟩
theorem ok_keep (F:Fun K "keep_bounds" "keep_bounds" s_keep_bounds f fd) (hm:mg "keep_bounds" = some (.ref f)) (hb:Binds K fd ["town", "by", "rows"] []) (T:Txt mg) (c_has:j4 P w K mg base "has" ["heap", "thing"] 1 rY):j4 P w K mg base "keep_bounds" ["town", "by", "rows"] 2 tL:=by
 refine kU F hm hb vQ (fun vs H Q E h=>?_) (fun cdv A outer s H vs Q E hr h=>?_)
 ·obtain ⟨_,_,_,_,_,_,_,_,rfl,_⟩:=h;rfl
 ·obtain ⟨t,sd,wt,a,ss,ts,rs,b,rfl,W,ha,R,few,bd,q⟩:=h
  have sc:=vQ
  refine ⟨_,qG (zG (pv 0) (kK (n:=2) rfl (qJ (qH (i:=3) sc.nd rfl (Or.inl rfl)) (qJ (qH (i:=4) sc.nd rfl (Or.inl rfl)) kJ)))) (qG (xS (N:=["here", "rows"]) (fr:=[none,some 2]) (i:=5) "here" sc.nd rfl (Or.inl rfl) rfl (kT rfl T.range_ (qA (qK len0 rfl T.len_ kY (qA (pv 4) qB)) qB)) (CScope1.of rfl rfl rfl rfl (fun _ _=>rfl) (fun _=>rfl)) rfl (fun _ _ _=>⟨qH (i:=0) (show List.Nodup (α:=Str) ["here", "rows"] by decide +kernel) rfl (Or.inr rfl),kH,qK (fD rfl) rfl T.sum_ yC (qA (jO (N:=["hand", "heap", "part", "here"]) (fr:=[none,none,none,some 0]) rfl (zH (pv 1)) (CScope.of rfl rfl rfl) rfl (fun _ _ _=>⟨kK (n:=3) rfl (qJ (qH (i:=0) (show List.Nodup (α:=Str) ["hand", "heap", "part", "here"] by decide +kernel) rfl (Or.inl rfl)) (qJ (qH (i:=1) (show List.Nodup (α:=Str) ["hand", "heap", "part", "here"] by decide +kernel) rfl (Or.inl rfl)) (qJ (qH (i:=2) (show List.Nodup (α:=Str) ["hand", "heap", "part", "here"] by decide +kernel) rfl (Or.inl rfl)) kJ))),zD (kD jR (pv 0) (pv 3) (kA _)),pv 2⟩)) qB)⟩)) (qG (xS (N:=["thing", "rows"]) (fr:=[none,some 2]) (i:=6) "thing" sc.nd rfl (Or.inl rfl) rfl (kT rfl T.range_ (qA (qK len0 rfl T.len_ kY (qA (pv 3) qB)) qB)) (CScope1.of rfl rfl rfl rfl (fun _ _=>rfl) (fun _=>rfl)) rfl (fun _ _ _=>⟨qH (i:=0) (show List.Nodup (α:=Str) ["thing", "rows"] by decide +kernel) rfl (Or.inr rfl),kH,qK (fD rfl) rfl T.sum_ yC (qA (jO (N:=["hand", "heap", "part", "thing"]) (fr:=[none,none,none,some 0]) rfl (zH (pv 1)) (CScope.of rfl rfl rfl) rfl (fun _ _ _=>⟨kK (n:=3) rfl (qJ (qH (i:=0) (show List.Nodup (α:=Str) ["hand", "heap", "part", "thing"] by decide +kernel) rfl (Or.inl rfl)) (qJ (qH (i:=1) (show List.Nodup (α:=Str) ["hand", "heap", "part", "thing"] by decide +kernel) rfl (Or.inl rfl)) (qJ (qH (i:=2) (show List.Nodup (α:=Str) ["hand", "heap", "part", "thing"] by decide +kernel) rfl (Or.inl rfl)) kJ))),zD (jQ (qU c_has hr (qA (pv 1) (qA (pv 3) qB)))),pv 2⟩)) qB)⟩)) (qM (q8 (jK pK (qK (aY rfl) rfl T.max_ fU (qA (qN vJ (pv 5) (pv 6)) qB)) (pv 1) (kA _)))))),?_⟩
  rw [show L2.start ["town", "by", "rows", "sides", "wants", "of_hands", "of_things"] [.ref t,.int b,.ref a] = [some (.ref t),some (.int b),some (.ref a),none,none,none,none] from rfl]
  have htw:=W.1.at'
  (push_cast only [htw])
  have hwt:=kC W.1.wt
  have n5:=W.1.t5
  (simp only [qE])
  (push_cast only [hwt])
  refine ⟨by omega,by omega,fun c nc=>?_⟩
  have nac:a ≠ c:=qC ha nc
  refine jL (KA c a rs H) ⟨none,rfl,SameX.upd,qF⟩ ?_ ?_
  ·rintro i σ H1 hi ⟨v,rfl,s1,e1⟩
   rw [Ap] at hi
   have ha1:=s1 _ _ nac ha
   have S1:=s1.same nc
   (push_cast only [ha1])
   intro d nd
   have nad:a ≠ d:=qC ha1 nd
   have ncd:c ≠ d:=qC e1 nd
   refine zC (KB d rs (i:Int) H1) ⟨none,none,none,rfl,SameX.upd,qF⟩ (fun j σ H' _ ⟨_,_,_,_,s,_⟩=>s _ _ nad ha1) ?_ ?_
   ·rintro k x σ H2 hx ⟨v1,v2,v3,rfl,s2,e2⟩
    rw [Ad] at hx
    obtain ⟨r,hr',rfl⟩:=Al.mp hx
    have er:=s1 _ _ (qC (R r (An hr')) nc) (R r (An hr'))
    have er2:H2 r.1=some (.tup [.int r.2.1,.int r.2.2.1,.int r.2.2.2]):=s2 _ _ (qC er nd) er
    have hl:=dZ (rs.take k) (i:Int)
    rw [Aq] at hl
    (push_cast only [er2])
    by_cases cc:r.2.1=(i:Int)
    ·rw [Ai cc]
     (push_cast only [e2])
     refine ⟨qL (by omega),_,_,_,rfl,s2.trans SameX.upd,?_⟩
     rw [qF,gK hr',Ai cc,Ae]
     rfl
    ·rw [Ah cc]
     refine ⟨_,_,_,rfl,s2,?_⟩
     rw [e2,gK hr',Ah cc,B2]
   ·rintro σ H2 ⟨v1,v2,v3,rfl,s2,e2⟩
    rw [Aa,AG] at e2
    have ec:=s2 _ _ ncd e1
    refine ⟨_,kF e2,fits_of bd few (dZ rs (i:Int)) (fun x hx=>?_),?_⟩
    ·unfold xE at hx
     obtain ⟨r,hr',rfl⟩:=Au.mp hx
     exact ⟨r,(Br.mp hr').1,rfl⟩
    ·refine ⟨_,ec,qL (by rw [Aa,Aa,Ar];omega),_,rfl,(s1.trans (s2.same nd).x).trans SameX.upd,?_⟩
     rw [qF,AO,Ae,Ae]
     rfl
  ·rintro σ H1 ⟨v,rfl,s1,e1⟩
   rw [Ap] at e1
   have S1:=s1.same nc
   have hsd:=kC (S1 _ _ W.1.sd)
   have m5:=W.1.m5
   (simp only [qE])
   (push_cast only [hsd])
   refine ⟨by omega,by omega,fun c2 nc2=>?_⟩
   have ha1:=S1 _ _ ha
   have nac2:a ≠ c2:=qC ha1 nc2
   refine jL (KC c2 a rs H1) ⟨none,rfl,SameX.upd,qF⟩ ?_ ?_
   ·rintro i σ H2 hi ⟨v,rfl,s2,e2⟩
    rw [Ap] at hi
    have ha2:=s2 _ _ nac2 ha1
    (push_cast only [ha2])
    intro d nd
    have nad:a ≠ d:=qC ha2 nd
    have ncd:c2 ≠ d:=qC e2 nd
    refine zC (KD d rs (i:Int) H2) ⟨none,none,none,rfl,SameX.upd,qF⟩ (fun j σ H' _ ⟨_,_,_,_,s,_⟩=>s _ _ nad ha2) ?_ ?_
    ·rintro k x σ H3 hx ⟨v1,v2,v3,rfl,s3,e3⟩
     rw [Ad] at hx
     obtain ⟨r,hr',rfl⟩:=Al.mp hx
     have er0:=S1 _ _ (R r (An hr'))
     have er1:=s2 _ _ (qC er0 nc2) er0
     have er3:H3 r.1=some (.tup [.int r.2.1,.int r.2.2.1,.int r.2.2.2]):=s3 _ _ (qC er1 nd) er1
     have hl:=gA (rs.take k) (i:Int)
     rw [Aq] at hl
     (push_cast only [er3])
     refine ⟨_,_,rfl,by omega,?_⟩
     (push_cast only [])
     by_cases cc:fO r.2.2.1 (i:Int)=true
     ·rw [Ai cc]
      (push_cast only [e3])
      refine ⟨qL (by omega),_,_,_,rfl,s3.trans SameX.upd,?_⟩
      rw [qF,x6 hr',Ai cc,Ae]
      rfl
     ·rw [Ah cc]
      refine ⟨_,_,_,rfl,s3,?_⟩
      rw [e3,x6 hr',Ah cc,B2]
    ·rintro σ H3 ⟨v1,v2,v3,rfl,s3,e3⟩
     rw [Aa,AG] at e3
     have ec:=s3 _ _ ncd e2
     refine ⟨_,kF e3,fits_of bd few (gA rs (i:Int)) (fun x hx=>?_),?_⟩
     ·unfold zR at hx
      obtain ⟨r,hr',rfl⟩:=Au.mp hx
      exact ⟨r,(Br.mp hr').1,rfl⟩
     ·refine ⟨_,ec,qL (by rw [Aa,Aa,Ar];omega),_,rfl,(s2.trans (s3.same nd).x).trans SameX.upd,?_⟩
      rw [qF,AO,Ae,Ae]
      rfl
   ·rintro σ H2 ⟨v,rfl,s2,e2⟩
    rw [Ap] at e2
    have S2:=s2.same nc2
    have e12:=S2 _ _ e1
    (simp only [qE])
    (push_cast only [e12,e2])
    refine ⟨AH (qL (by rw [Ar,Ar];omega)),fun p H3 n3 s3 e3=>?_⟩
    rw [← Ae] at e3
    refine ⟨_,kF e3,?_,fun mx hm hx=>?_⟩
    ·have:=W.2
     intro z
     have:=AY List.length z
     rw [Aj,Aa,Aa,Ar,Ar,Bq] at this
     omega
    ·rw [uA hm hx]
     exact q H3 ((S1.trans S2).trans s3)
theorem zF {ns:List Int}(h:∀ n ∈ ns,-(2 ^ 50) ≤ n∧n ≤ 2 ^ 50)(hl:ns.length ≤ 1000):wC ns:=by
 have e:(2:Int) ^ 50=1125899906842624:=by decide
 rw [e] at h
 have key:∀ (l:List Int),(∀ n ∈ l,-1125899906842624 ≤ n∧n ≤ 1125899906842624)→-(1125899906842624 * (l.length:Int)) ≤ l.sum∧l.sum ≤ 1125899906842624 * (l.length:Int):=fun l=>by
  induction l with
  | nil=>intro _;simp
  | cons a l ih =>
   intro h
   have i:=ih fun n hn=>h n (Ay _ hn)
   have x:=h a (by simp)
   rw [Bw,A6]
   push_cast
   omega
 refine ⟨fun n hn=>?_,fun j hj=>?_⟩
 ·have:=h n hn
  have e2:(2:Int) ^ 62=4611686018427387904:=by decide
  omega
 ·have:=key (ns.take j) fun n hn=>h n (Bf hn)
  rw [Aq] at this
  have e3:(2:Int) ^ 63=9223372036854775808:=by decide
  unfold InLong
  omega
theorem tT {a x:Int}(a0 : -34359738368 ≤ a)(a1:a ≤ 34359738368)(x0:0 ≤ x)(x1:x ≤ 10000) : -(2 ^ 50) ≤ a * x∧a * x ≤ 2 ^ 50:=by
 have h1:=Bu a1 x0
 have h2:=Bu a0 x0
 have h3:=BG x1 (show (0:Int) ≤ 34359738368 by decide)
 exact ⟨by omega,by omega⟩
noncomputable def zP (ts:List (Addr × List Int))(rs:List (Addr × R3)):List Int:=rs.map fun r=>r.2.2.2 * (ts.getD r.2.1.toNat (0,[])).2.getD r.2.2.1.toNat 0
noncomputable def gB:Sp:=fun vs H Q _=>∃ (t sd wt a:Addr) (ss:List Int) (ts:List (Addr × List Int)) (rs:List (Addr × R3)),vs=[.ref t,.ref a]∧(TownW H t sd wt ss.length ss ts∧1 ≤ ts.length)∧H a=some (.tup (rs.map fun r=>V.ref r.1))∧Rw H rs∧rs.length ≤ 60∧BdR rs∧(∀ r ∈ rs,0 ≤ r.2.1∧r.2.1 < (ts.length:Int)∧r.2.2.1 < ((2 ^ ss.length:Nat):Int))∧(∀ t ∈ ts,∀ x ∈ t.2,0 ≤ x∧x ≤ 10000)∧∀ H',Same H H'→Q (.int (zP ts rs).sum) H'
noncomputable def WQI (c t:Addr)(ts:List (Addr × List Int))(rs:List (Addr × R3))(G:Hp)(k:Nat)(σ:St)(H:Hp):Prop:=∃ v1 v2 v3,σ=[v1,v2,v3,some (.ref t)]∧SameX c G H∧H c=some (.lst ((zP ts (rs.take k)).map V.int))
theorem vF:FnScope ["town", "rows"] ["town", "rows"] (qI s_shares_worth):=⟨rfl,rfl,rfl,by decide +kernel,rfl,by decide +kernel,by decide +kernel⟩
theorem aO (F:Fun K "shares_worth" "shares_worth" s_shares_worth f fd) (hm:mg "shares_worth" = some (.ref f)) (hb:Binds K fd ["town", "rows"] []) (T:Txt mg):j4 P w K mg base "shares_worth" ["town", "rows"] 1 gB:=by
 refine kU F hm hb vF (fun vs H Q E h=>?_) (fun cdv A outer s H vs Q E hr h=>?_)
 ·obtain ⟨_,_,_,_,_,_,_,rfl,_⟩:=h;rfl
 ·obtain ⟨t,sd,wt,a,ss,ts,rs,rfl,W,ha,R,few,bd,pl,wb,q⟩:=h
  have sc:=vF
  refine ⟨_,qM (q8 (qK (fD rfl) rfl T.sum_ yC (qA (jO (N:=["hand", "heap", "part", "town"]) (fr:=[none,none,none,some 0]) rfl (zH (pv 1)) (CScope.of rfl rfl rfl) rfl (fun _ _ _=>⟨kK (n:=3) rfl (qJ (qH (i:=0) (show List.Nodup (α:=Str) ["hand", "heap", "part", "town"] by decide +kernel) rfl (Or.inl rfl)) (qJ (qH (i:=1) (show List.Nodup (α:=Str) ["hand", "heap", "part", "town"] by decide +kernel) rfl (Or.inl rfl)) (qJ (qH (i:=2) (show List.Nodup (α:=Str) ["hand", "heap", "part", "town"] by decide +kernel) rfl (Or.inl rfl)) kJ))),kH,qN jU (pv 2) (kL z6 (kL z6 (kL z6 (pv 3) qD (fun _ _=>rfl)) (pv 0) (fun _ _=>rfl)) (pv 1) (fun _ _=>rfl))⟩)) qB))),?_⟩
  rw [show L2.start ["town", "rows"] [.ref t,.ref a] = [some (.ref t),some (.ref a)] from rfl]
  (push_cast only [ha])
  intro c nc
  have nac:a ≠ c:=qC ha nc
  have i1:∀ x y:V,xH [x,y] 1=some y:=fun _ _=>rfl
  refine zC (WQI c t ts rs H) ⟨none,none,none,rfl,SameX.upd,qF⟩ (fun j σ H' _ ⟨_,_,_,_,s,_⟩=>s _ _ nac ha) ?_ ?_
  ·rintro k x σ H1 hx ⟨v1,v2,v3,rfl,s1,e1⟩
   rw [Ad] at hx
   obtain ⟨r,hr',rfl⟩:=Al.mp hx
   have hm:=An hr'
   have kl:k < rs.length:=(Ag.mp hr').1
   have er1:H1 r.1=some (.tup [.int r.2.1,.int r.2.2.1,.int r.2.2.2]):=s1 _ _ (qC (R r hm) nc) (R r hm)
   obtain ⟨p1,p2,p3⟩:=pl r hm
   obtain ⟨b1,b2,b3,b4⟩:=bd r hm
   obtain ⟨hn,ehn⟩:=AA p1
   obtain ⟨hp,ehp⟩:=AA b1
   have hnl:hn < ts.length:=by omega
   have tw1:=kC (s1 _ _ (qC W.1.at' nc) W.1.at')
   have wt1:=kC (s1 _ _ (qC W.1.wt nc) W.1.wt)
   have row:=W.1.row ts[hn] (AE hnl)
   have rw1:=kC (s1 _ _ (qC row.1 nc) row.1)
   have a1:xH (ts.map fun t=>V.ref t.1) r.2.1=some (V.ref ts[hn].1):=by rw [ehn];exact zO (by simp [hnl])
   have a2:xH (ts[hn].2.map V.int) r.2.2.1=some (V.int (ts[hn].2.getD hp 0)):=by rw [ehp];exact vY (by rw [row.2];omega)
   have gt:ts.getD r.2.1.toNat (0,[])=ts[hn]:=by rw [ehn];simp [Ab,hnl]
   have gp:r.2.2.1.toNat=hp:=by rw [ehp];rfl
   (push_cast only [er1,tw1,i1,wt1,a1,rw1,a2,e1])
   refine ⟨.inl ⟨by omega,by omega⟩,qL (by unfold zP;rw [Aa,Aq];omega),_,_,_,rfl,s1.trans SameX.upd,?_⟩
   rw [qF]
   unfold zP
   rw [A7,hr',Ae,Ae,← gt,← gp]
   rfl
  ·rintro σ H1 ⟨v1,v2,v3,rfl,s1,e1⟩
   rw [Aa,AG] at e1
   refine ⟨_,kF e1,zF (fun x hx=>?_) (by unfold zP;rw [Aa];omega),?_⟩
   ·unfold zP at hx
    obtain ⟨r,hr',rfl⟩:=Au.mp hx
    have b34:=bd r hr'
    have w0:0 ≤ (ts.getD r.2.1.toNat (0,[])).2.getD r.2.2.1.toNat 0∧(ts.getD r.2.1.toNat (0,[])).2.getD r.2.2.1.toNat 0 ≤ 10000:=by
     obtain ⟨p1,p2,p3⟩:=pl r hr'
     have hl:r.2.1.toNat < ts.length:=by omega
     rw [show ts.getD r.2.1.toNat (0,[])=ts[r.2.1.toNat] by simp [Ab,hl],Ab]
     cases e:ts[r.2.1.toNat].2[r.2.2.1.toNat]? with
     | none=>exact ⟨by decide,by decide⟩
     | some x=>exact wb _ (AE hl) x (An e)
    exact tT b34.2.2.1 b34.2.2.2 w0.1 w0.2
   ·exact q H1 (s1.same nc)
theorem aT (F:Fun K "_law_worth" "_law_worth" s__law_worth f fd) (hm:mg "_law_worth" = some (.ref f)) (hb:Binds K fd ["_law_town_here", "_law_rows"] []) (T:Txt mg):j4 P w K mg base "_law_worth" ["_law_town_here", "_law_rows"] 1 gB:=by
 refine kU F hm hb gP (fun vs H Q E h=>?_) (fun cdv A outer s H vs Q E hr h=>?_)
 ·obtain ⟨_,_,_,_,_,_,_,rfl,_⟩:=h;rfl
 ·obtain ⟨t,sd,wt,a,ss,ts,rs,rfl,W,ha,R,few,bd,pl,wb,q⟩:=h
  have sc:=gP
  refine ⟨_,qM (q8 (qK (fD rfl) rfl T.sum_ yC (qA (jO (N:=["_law_hand", "_law_heap", "_law_part", "_law_town_here"]) (fr:=[none,none,none,some 0]) rfl (zH (pv 1)) (CScope.of rfl rfl rfl) rfl (fun _ _ _=>⟨kK (n:=3) rfl (qJ (qH (i:=0) (show List.Nodup (α:=Str) ["_law_hand", "_law_heap", "_law_part", "_law_town_here"] by decide +kernel) rfl (Or.inl rfl)) (qJ (qH (i:=1) (show List.Nodup (α:=Str) ["_law_hand", "_law_heap", "_law_part", "_law_town_here"] by decide +kernel) rfl (Or.inl rfl)) (qJ (qH (i:=2) (show List.Nodup (α:=Str) ["_law_hand", "_law_heap", "_law_part", "_law_town_here"] by decide +kernel) rfl (Or.inl rfl)) kJ))),kH,qN jU (pv 2) (kL z6 (kL z6 (kL z6 (pv 3) qD (fun _ _=>rfl)) (pv 0) (fun _ _=>rfl)) (pv 1) (fun _ _=>rfl))⟩)) qB))),?_⟩
  rw [show L2.start ["_law_town_here", "_law_rows"] [.ref t,.ref a] = [some (.ref t),some (.ref a)] from rfl]
  (push_cast only [ha])
  intro c nc
  have nac:a ≠ c:=qC ha nc
  have i1:∀ x y:V,xH [x,y] 1=some y:=fun _ _=>rfl
  refine zC (WQI c t ts rs H) ⟨none,none,none,rfl,SameX.upd,qF⟩ (fun j σ H' _ ⟨_,_,_,_,s,_⟩=>s _ _ nac ha) ?_ ?_
  ·rintro k x σ H1 hx ⟨v1,v2,v3,rfl,s1,e1⟩
   rw [Ad] at hx
   obtain ⟨r,hr',rfl⟩:=Al.mp hx
   have hm:=An hr'
   have kl:k < rs.length:=(Ag.mp hr').1
   have er1:H1 r.1=some (.tup [.int r.2.1,.int r.2.2.1,.int r.2.2.2]):=s1 _ _ (qC (R r hm) nc) (R r hm)
   obtain ⟨p1,p2,p3⟩:=pl r hm
   obtain ⟨b1,b2,b3,b4⟩:=bd r hm
   obtain ⟨hn,ehn⟩:=AA p1
   obtain ⟨hp,ehp⟩:=AA b1
   have hnl:hn < ts.length:=by omega
   have tw1:=kC (s1 _ _ (qC W.1.at' nc) W.1.at')
   have wt1:=kC (s1 _ _ (qC W.1.wt nc) W.1.wt)
   have row:=W.1.row ts[hn] (AE hnl)
   have rw1:=kC (s1 _ _ (qC row.1 nc) row.1)
   have a1:xH (ts.map fun t=>V.ref t.1) r.2.1=some (V.ref ts[hn].1):=by rw [ehn];exact zO (by simp [hnl])
   have a2:xH (ts[hn].2.map V.int) r.2.2.1=some (V.int (ts[hn].2.getD hp 0)):=by rw [ehp];exact vY (by rw [row.2];omega)
   have gt:ts.getD r.2.1.toNat (0,[])=ts[hn]:=by rw [ehn];simp [Ab,hnl]
   have gp:r.2.2.1.toNat=hp:=by rw [ehp];rfl
   (push_cast only [er1,tw1,i1,wt1,a1,rw1,a2,e1])
   refine ⟨.inl ⟨by omega,by omega⟩,qL (by unfold zP;rw [Aa,Aq];omega),_,_,_,rfl,s1.trans SameX.upd,?_⟩
   rw [qF]
   unfold zP
   rw [A7,hr',Ae,Ae,← gt,← gp]
   rfl
  ·rintro σ H1 ⟨v1,v2,v3,rfl,s1,e1⟩
   rw [Aa,AG] at e1
   refine ⟨_,kF e1,zF (fun x hx=>?_) (by unfold zP;rw [Aa];omega),?_⟩
   ·unfold zP at hx
    obtain ⟨r,hr',rfl⟩:=Au.mp hx
    have b34:=bd r hr'
    have w0:0 ≤ (ts.getD r.2.1.toNat (0,[])).2.getD r.2.2.1.toNat 0∧(ts.getD r.2.1.toNat (0,[])).2.getD r.2.2.1.toNat 0 ≤ 10000:=by
     obtain ⟨p1,p2,p3⟩:=pl r hr'
     have hl:r.2.1.toNat < ts.length:=by omega
     rw [show ts.getD r.2.1.toNat (0,[])=ts[r.2.1.toNat] by simp [Ab,hl],Ab]
     cases e:ts[r.2.1.toNat].2[r.2.2.1.toNat]? with
     | none=>exact ⟨by decide,by decide⟩
     | some x=>exact wb _ (AE hl) x (An e)
    exact tT b34.2.2.1 b34.2.2.2 w0.1 w0.2
   ·exact q H1 (s1.same nc)
noncomputable def z8 (ns:List Int):List Int:=ns.foldl (fun t p=>t ++ t.map (fun h=>h + p)) [0]
theorem bV (ns:List Int)(p:Int):z8 (ns ++ [p])=z8 ns ++ (z8 ns).map (fun h=>h + p):=by unfold z8;rw [List.foldl_append];rfl
theorem fold_len (ns:List Int):∀ t:List Int,(ns.foldl (fun t p=>t ++ t.map (fun h=>h + p)) t).length=t.length * 2 ^ ns.length:=by
 induction ns with
 | nil=>intro t;simp
 | cons p ns ih=>intro t;rw [List.foldl_cons,ih,Aj,Aa,A6,Ds,← Nat.two_mul,B4 2 t.length,Nat.mul_assoc,B4 2]
theorem yW (ns:List Int):(z8 ns).length=2 ^ ns.length:=by unfold z8;rw [fold_len];simp
noncomputable def IsT (H:Hp)(a:Addr)(ns:List Int):Prop:=H a=some (.tup (ns.map V.int))∨H a=some (.lst (ns.map V.int))
theorem IsT.o {H:Hp}{a:Addr}{ns:List Int}(h:IsT H a ns):∃ o,(o=HO.tup (ns.map V.int)∨o=HO.lst (ns.map V.int))∧H a=some o:=by
 rcases h with h | h
 ·exact ⟨_,.inl rfl,h⟩
 ·exact ⟨_,.inr rfl,h⟩
noncomputable def lZ:Sp:=fun vs H Q _=>∃ (a:Addr) (ns:List Int),vs=[.ref a]∧IsT H a ns∧ns.length ≤ 5∧∀ (t:Addr) (H':Hp),H t=none→Same H H'→H' t=some (.lst ((z8 ns).map V.int))→Q (.ref t) H'
noncomputable def CI (a:Addr)(ns:List Int)(G:Hp)(i:Nat)(σ:St)(H:Hp):Prop:=∃ (v:Option V) (t:Addr),σ=[some (.ref a),some (.ref t),v]∧G t=none∧Same G H∧H t=some (.lst ((z8 (ns.take i)).map V.int))
noncomputable def CJ (c:Addr)(ts:List Int)(p:Int)(G:Hp)(i:Nat)(σ:St)(H:Hp):Prop:=∃ v:Option V,σ=[v,some (.int p)]∧SameX c G H∧H c=some (.lst (((ts.map fun h=>h + p).take i).map V.int))
theorem pE:FnScope ["prices", "told", "price"] ["prices"] (qI s_costs):=⟨rfl,rfl,rfl,by decide +kernel,rfl,by decide +kernel,by decide +kernel⟩
theorem o3 (F:Fun K "costs" "costs" s_costs f fd) (hm:mg "costs" = some (.ref f)) (hb:Binds K fd ["prices"] []) (T:Txt mg):j4 P w K mg base "costs" ["prices"] 1 lZ:=by
 refine kU F hm hb pE (fun vs H Q E h=>?_) (fun cdv A outer s H vs Q E hr h=>?_)
 ·obtain ⟨_,_,rfl,_⟩:=h;rfl
 ·obtain ⟨a,ns,rfl,ha,h5,q⟩:=h
  have sc:=pE
  refine ⟨_,jI (kQ (i:=1) sc.nd rfl (Or.inl rfl) (jW (qA qD qB))) (jI (yK Bs rfl (pi_s0 (pv 0)) (qH (i:=2) sc.nd rfl (Or.inr rfl)) (qM (kQ (i:=1) sc.nd rfl (Or.inl rfl) (qN vJ (pv 1) (jO (N:=["here", "price"]) (fr:=[none,some 2]) rfl (pH (pv 1)) (CScope.of rfl rfl rfl) rfl (fun _ _ _=>⟨qH (i:=0) (show List.Nodup (α:=Str) ["here", "price"] by decide +kernel) rfl (Or.inl rfl),kH,qN jD (pv 0) (pv 1)⟩)))))) (qM (q8 (pv 1)))),?_⟩
  rw [show L2.start ["prices", "told", "price"] [.ref a] = [some (.ref a),none,none] from rfl]
  (push_cast only [])
  refine ⟨by decide,fun t0 H1 n1 s1 e1=>?_⟩
  obtain ⟨o,ho,hao⟩:=ha.o
  refine ⟨_,o,ho,s1 _ _ hao,sT (CI a ns H) ⟨_,t0,rfl,n1,s1,e1⟩ (fun j σ H' _ ⟨_,_,_,_,s,_⟩=>s _ _ hao) ?_ ?_⟩
  ·rintro i x σ H2 hx ⟨v,t,rfl,nt,s2,e2⟩
   rw [Ad] at hx
   obtain ⟨p,hp,rfl⟩:=Al.mp hx
   have hi:i < ns.length:=(Ag.mp hp).1
   (push_cast only [e2])
   intro c nc
   have ntc:t ≠ c:=qC e2 nc
   have p32:=yN (m:=(ns.take i).length) (by rw [Aq];omega)
   refine zC (CJ c (z8 (ns.take i)) p H2) ⟨none,rfl,SameX.upd,qF⟩ (fun j σ H' _ ⟨_,_,s,_⟩=>s _ _ ntc e2) ?_ ?_
   ·rintro j y σ H3 hy ⟨v3,rfl,s3,e3⟩
    rw [Ad] at hy
    obtain ⟨z,hz,rfl⟩:=Al.mp hy
    have hj:j < (z8 (ns.take i)).length:=(Ag.mp hz).1
    rw [yW] at hj
    (push_cast only [e3])
    refine ⟨qL (by rw [Aq];omega),⟨_,rfl,s3.trans SameX.upd,?_⟩⟩
    rw [qF,A7,Ad,hz]
    simp
   ·rintro σ H3 ⟨v3,rfl,s3,e3⟩
    rw [Aa,Bc (by simp)] at e3
    have S3:=s3.same nc
    have e23:=S3 _ _ e2
    (push_cast only [e23,e3])
    refine ⟨?_,fun t' H4 nt' s4 e4=>⟨_,t',rfl,gH (s2.trans S3) nt',(s2.trans S3).trans s4,?_⟩⟩
    ·rw [yW]
     exact AH (qL (by omega))
    ·rw [e4,A7,hp]
     show some (HO.lst _)=some (HO.lst ((z8 (ns.take i ++ [p])).map V.int))
     rw [bV,Ae]
  ·rintro σ H2 ⟨v,t,rfl,nt,s2,e2⟩
   rw [Aa,AG] at e2
   (push_cast only [])
   exact q t H2 nt s2 e2
noncomputable def zw (g:Int→Int→Int)(ns ms:List Int):List Int:=(ns.zip ms).map fun q=>g q.1 q.2
theorem zw_at {g:Int→Int→Int}{ns ms:List Int}{i:Nat}{x y:Int}(hx:ns[i]? = some x)(hy:ms[i]? = some y):(zw g ns ms)[i]? = some (g x y):=by
 have hz:(ns.zip ms)[i]? = some (x,y):=by rw [Bb];exact ⟨hx,hy⟩
 unfold zw
 rw [Ad,hz]
 rfl
theorem iD {g:Int→Int→Int}{ns ms:List Int}(h:ns.length=ms.length):(zw g ns ms).length=ns.length:=by
 unfold zw
 rw [Aa,Ct]
 omega
noncomputable def ZW (c:Addr)(g:Int→Int→Int)(ns ms:List Int)(τ:List (Option V))(G:Hp)(i:Nat)(σ:St)(H:Hp):Prop:=∃ v1 v2:Option V,σ=v1 :: v2 :: τ∧SameX c G H∧H c=some (.lst (((zw g ns ms).take i).map V.int))
noncomputable def vC (ws ns:List Int):List Int:=zw (fun x y=>x - y) ws (z8 ns)
theorem sS {ws ns:List Int}(h:ws.length=2 ^ ns.length):(vC ws ns).length=2 ^ ns.length:=by unfold vC;rw [iD (by rw [yW];exact h)];exact h
noncomputable def lY:Sp:=fun vs H Q _=>∃ (d a:Addr) (ws ns:List Int),vs=[.ref d,.ref a]∧H d=some (.tup (ws.map V.int))∧H a=some (.tup (ns.map V.int))∧ns.length ≤ 5∧ws.length=2 ^ ns.length∧∀ (t:Addr) (H':Hp),H t=none→Same H H'→H' t=some (.lst ((vC ws ns).map V.int))→Q (.ref t) H'
theorem pD:FnScope ["want", "prices"] ["want", "prices"] (qI s_gains):=⟨rfl,rfl,rfl,by decide +kernel,rfl,by decide +kernel,by decide +kernel⟩
theorem oZ (F:Fun K "gains" "gains" s_gains f fd) (hm:mg "gains" = some (.ref f)) (hb:Binds K fd ["want", "prices"] []) (T:Txt mg) (c_costs:j4 P w K mg base "costs" ["prices"] 1 lZ):j4 P w K mg base "gains" ["want", "prices"] 2 lY:=by
 refine kU F hm hb pD (fun vs H Q E h=>?_) (fun cdv A outer s H vs Q E hr h=>?_)
 ·obtain ⟨_,_,_,_,rfl,_⟩:=h;rfl
 ·obtain ⟨d,a,ws,ns,rfl,hd,ha,h5,hl,q⟩:=h
  have sc:=pD
  refine ⟨_,qM (q8 (jO (N:=["worth", "paid"]) (fr:=[none,none]) rfl (gZ rfl T.zip_ (qA (pv 0) (qA (qU c_costs hr (qA (pv 1) qB)) qB))) (CScope.of rfl rfl rfl) rfl (fun _ _ _=>⟨kK (n:=2) rfl (qJ (qH (i:=0) (show List.Nodup (α:=Str) ["worth", "paid"] by decide +kernel) rfl (Or.inl rfl)) (qJ (qH (i:=1) (show List.Nodup (α:=Str) ["worth", "paid"] by decide +kernel) rfl (Or.inl rfl)) kJ)),kH,qN fM (pv 0) (pv 1)⟩))),?_⟩
  rw [show L2.start ["want", "prices"] [.ref d,.ref a] = [some (.ref d),some (.ref a)] from rfl]
  (push_cast only [])
  refine ⟨a,ns,rfl,.inl ha,h5,fun t H1 n1 s1 e1=>?_⟩
  have hd1:=s1 _ _ hd
  (push_cast only [])
  refine ⟨_,_,_,.inr ⟨rfl,hd1⟩,_,.inl ⟨rfl,e1⟩,fun c nc=>?_⟩
  have ncd:d ≠ c:=qC hd1 nc
  have nct:t ≠ c:=qC e1 nc
  have p32:=yN h5
  refine fQ (ZW c (fun x y=>x - y) ws (z8 ns) [] H1) ⟨none,none,rfl,SameX.upd,qF⟩ (fun i σ H2 ⟨_,_,_,s,_⟩=>⟨.inr ⟨rfl,s _ _ ncd hd1⟩,.inl ⟨rfl,s _ _ nct e1⟩⟩) ?_ ?_
  ·rintro i u v t' σ H2 H3 hu hv ⟨v1,v2,rfl,s2,e2⟩ nt s3 e3
   rw [Ad] at hu hv
   obtain ⟨x,hx,rfl⟩:=Al.mp hu
   obtain ⟨y,hy,rfl⟩:=Al.mp hv
   have ec:=s3 _ _ e2
   (push_cast only [e3,ec])
   have hi:i < ws.length:=(Ag.mp hx).1
   refine ⟨qL (by rw [Aq];omega),⟨_,_,rfl,(s2.trans s3.x).trans SameX.upd,?_⟩⟩
   rw [qF,A7,zw_at hx hy]
   simp
  ·rintro σ H2 ⟨v1,v2,rfl,s2,e2⟩
   rw [Aa,Aa,Bc (by rw [iD (by rw [yW];exact hl),yW];omega)] at e2
   have S2:=s1.trans (s2.same nc)
   exact q c H2 (gH s1 nc) S2 e2
theorem gains_ne {ws ns:List Int}(h5:ns.length ≤ 5)(h:ws.length=2 ^ ns.length):vC ws ns ≠ []:=by
 intro e
 have:=sS h
 rw [e] at this
 have p:=yN h5
 simp at this
 omega
noncomputable def lX:Sp:=fun vs H Q _=>∃ (d a:Addr) (ws ns:List Int),vs=[.ref d,.ref a]∧H d=some (.tup (ws.map V.int))∧H a=some (.tup (ns.map V.int))∧ns.length ≤ 5∧ws.length=2 ^ ns.length∧∀ (m:Int) (H':Hp),Same H H'→m ∈ vC ws ns→(∀ x ∈ vC ws ns,x ≤ m)→Q (.int m) H'
theorem xP:FnScope ["want", "prices"] ["want", "prices"] (qI s_greatest_gain):=⟨rfl,rfl,rfl,by decide +kernel,rfl,by decide +kernel,by decide +kernel⟩
theorem oY (F:Fun K "greatest_gain" "greatest_gain" s_greatest_gain f fd) (T:Txt mg) (c_gains:j4 P w K mg base "gains" ["want", "prices"] 2 lY):FnOk P w K mg base CX0 3 f fd ["want", "prices"] lX:=by
 refine F.ok xP (fun vs H Q E h=>?_) (fun cdv A outer s H vs Q E hr h=>?_)
 ·obtain ⟨_,_,_,_,rfl,_⟩:=h;rfl
 ·obtain ⟨d,a,ws,ns,rfl,hd,ha,h5,hl,q⟩:=h
  have sc:=xP
  refine ⟨_,qM (q8 (qK (aY rfl) rfl T.max_ fU (qA (qU c_gains hr (qA (pv 0) (qA (pv 1) qB))) qB))),?_⟩
  rw [show L2.start ["want", "prices"] [.ref d,.ref a] = [some (.ref d),some (.ref a)] from rfl]
  (push_cast only [])
  refine ⟨d,a,ws,ns,rfl,hd,ha,h5,hl,fun t H1 n1 s1 e1=>?_⟩
  have hs:=kF e1
  (push_cast only [hs])
  exact ⟨_,rfl,gains_ne h5 hl,fun m hm hmx=>q m H1 s1 hm hmx⟩
noncomputable def lT:Sp:=fun vs H Q _=>∃ (d:Addr) (ws:List Int) (b:Int),vs=[.ref d,.int b]∧H d=some (.tup (ws.map V.int))∧0 ≤ b∧b ≤ 34359738368∧ws.length ≤ 32∧∀ (t:Addr) (H':Hp),H t=none→Same H H'→H' t=some (.tup ((ws.map fun x=>b * x).map V.int))→Q (.ref t) H'
noncomputable def PI (c:Addr)(ws:List Int)(b:Int)(G:Hp)(i:Nat)(σ:St)(H:Hp):Prop:=∃ v:Option V,σ=[v,some (.int b)]∧SameX c G H∧H c=some (.lst (((ws.take i).map fun x=>b * x).map V.int))
theorem fY:FnScope ["want", "by"] ["want", "by"] (qI s_in_parts):=⟨rfl,rfl,rfl,by decide +kernel,rfl,by decide +kernel,by decide +kernel⟩
theorem oU (F:Fun K "in_parts" "in_parts" s_in_parts f fd) (hm:mg "in_parts" = some (.ref f)) (hb:Binds K fd ["want", "by"] []) (T:Txt mg):j4 P w K mg base "in_parts" ["want", "by"] 1 lT:=by
 refine kU F hm hb fY (fun vs H Q E h=>?_) (fun cdv A outer s H vs Q E hr h=>?_)
 ·obtain ⟨_,_,_,rfl,_⟩:=h;rfl
 ·obtain ⟨d,ws,b,rfl,hd,b0,b1,wl,q⟩:=h
  have sc:=fY
  refine ⟨_,qM (q8 (kZ yM rfl T.tuple_ kX (qA (jO (N:=["worth", "by"]) (fr:=[none,some 1]) rfl (zH (pv 0)) (CScope.of rfl rfl rfl) rfl (fun _ _ _=>⟨qH (i:=0) (show List.Nodup (α:=Str) ["worth", "by"] by decide +kernel) rfl (Or.inl rfl),kH,qN jU (pv 1) (pv 0)⟩)) qB))),?_⟩
  rw [show L2.start ["want", "by"] [.ref d,.int b] = [some (.ref d),some (.int b)] from rfl]
  (push_cast only [hd])
  intro c nc
  have ndc:d ≠ c:=qC hd nc
  refine zC (PI c ws b H) ⟨none,rfl,SameX.upd,qF⟩ (fun j σ H' _ ⟨_,_,s,_⟩=>s _ _ ndc hd) ?_ ?_
  ·rintro j x σ H1 hx ⟨v,rfl,s1,e1⟩
   rw [Ad] at hx
   obtain ⟨n,hn',rfl⟩:=Al.mp hx
   have hj:j < ws.length:=(Ag.mp hn').1
   (push_cast only [e1])
   refine ⟨.inl ⟨by omega,by omega⟩,qL (by rw [Aq];omega),⟨_,rfl,s1.trans SameX.upd,?_⟩⟩
   rw [qF,A7,hn']
   simp
  ·rintro σ H1 ⟨v,rfl,s1,e1⟩
   rw [Aa,AG] at e1
   have S1:=s1.same nc
   exact ⟨_,e1,fun t H2 n2 s2 e2=>q t H2 (gH S1 n2) (S1.trans s2) e2⟩
structure RowsP (H:Hp)(ra:Addr)(rs:List (Addr × R3)):Prop where
 at':H ra=some (.tup (rs.map fun r=>V.ref r.1))
 R:Rw H rs
 few:rs.length ≤ 18
 bd:∀ r ∈ rs,-34359738368 ≤ r.2.2.2∧r.2.2.2 ≤ 34359738368
theorem RowsP.same {H H':Hp}{ra:Addr}{rs:List (Addr × R3)}(r:RowsP H ra rs)(s:Same H H'):RowsP H' ra rs:=⟨s _ _ r.at',r.R.same s,r.few,r.bd⟩
noncomputable def okB (n m:Nat)(rs:List (Addr × R3)):Bool:=rs.all fun r=>yI m n r.2.1 r.2.2.1 r.2.2.2
theorem sI {n m:Nat}{rs:List (Addr × R3)}(h:okB n m rs=true):∀ r ∈ rs,0 ≤ r.2.1∧r.2.1 < (n:Int)∧1 ≤ r.2.2.1∧r.2.2.1 < ((2 ^ m:Nat):Int)∧0 < r.2.2.2:=fun r hr=>by
 have k:=AR.mp h r hr
 unfold yI at k
 simp only [Bt,AU] at k
 obtain ⟨⟨k1,k2⟩,⟨k3,k4⟩,k5⟩:=k
 exact ⟨k1,k2,k3,k4,k5⟩
theorem RowsP.bdr {H:Hp}{n m:Nat}{ra:Addr}{rs:List (Addr × R3)}(r:RowsP H ra rs)(m5:m ≤ 5)(ok:okB n m rs=true):BdR rs:=fun x hx=>by
 have h1:=sI ok x hx
 have h2:=r.bd x hx
 have p5:=yN m5
 exact ⟨by omega,by omega,h2.1,h2.2⟩
noncomputable def aL (rs:List (Addr × R3)):Bool:=@decide (vT rs) (Classical.propDecidable _)
theorem dR (rs:List (Addr × R3)):aL rs=true ↔ vT rs:=by
 unfold aL
 exact @decide_eq_true_iff _ (Classical.propDecidable _)
noncomputable def yD (n m:Nat)(b:Int)(rs:List (Addr × R3)):Bool:=decide (1 ≤ b) && (okB n m rs && (aL rs && mI n m rs b))
theorem cV {n m:Nat}{b:Int}{rs:List (Addr × R3)}(h:yD n m b rs=true):1 ≤ b:=AV (Cy.mp h).1
theorem w6 {n m:Nat}{b:Int}{rs:List (Addr × R3)}(h:yD n m b rs=true):okB n m rs=true:=(Cy.mp (Cy.mp h).2).1
noncomputable def iX:Sp:=fun vs H Q _=>∃ (t sd wt ra:Addr) (ss:List Int) (ts:List (Addr × List Int)) (rs:List (Addr × R3)) (b:Int),vs=[.ref t,.int b,.ref ra]∧(TownW H t sd wt ss.length ss ts∧1 ≤ ts.length)∧RowsP H ra rs∧∀ H',Same H H'→Q (.bl (yD ts.length ss.length b rs)) H'
noncomputable def AI (c sd wt:Addr)(os:List Bool)(G:Hp)(i:Nat)(σ:St)(H:Hp):Prop:=∃ v,σ=[v,some (.ref sd),some (.ref wt)]∧SameX c G H∧H c=some (.lst ((os.take i).map V.bl))
theorem gN:FnScope ["town", "by", "rows", "sides", "wants"] ["town", "by", "rows"] (qI s_are_shares):=⟨rfl,rfl,rfl,by decide +kernel,rfl,by decide +kernel,by decide +kernel⟩
theorem ok_ars (F:Fun K "are_shares" "are_shares" s_are_shares f fd) (hm:mg "are_shares" = some (.ref f)) (hb:Binds K fd ["town", "by", "rows"] []) (T:Txt mg) (c_is_whole_from:j4 P w K mg base "is_whole_from" ["thing", "least"] 2 cU) (c_is_share:j4 P w K mg base "is_share" ["row", "many", "hands"] 3 iW) (c_rise_by_place:j4 P w K mg base "rise_by_place" ["rows"] 1 tI) (c_keep_bounds:j4 P w K mg base "keep_bounds" ["town", "by", "rows"] 2 tL):j4 P w K mg base "are_shares" ["town", "by", "rows"] 4 iX:=by
 refine kU F hm hb gN (fun vs H Q E h=>?_) (fun cdv A outer s H vs Q E hr h=>?_)
 ·obtain ⟨_,_,_,_,_,_,_,_,rfl,_⟩:=h;rfl
 ·obtain ⟨t,sd,wt,a,ss,ts,rs,b,rfl,W,ro,q⟩:=h
  have sc:=gN
  have htw:=W.1.at'
  have m5:=W.1.m5
  have n5:=W.1.t5
  have h:=ro.at'
  have few:=ro.few
  refine ⟨_,qG (jV (PW.pt (yA (j3 (jQ (qU c_is_whole_from hr (qA (pv 1) (qA qD qB))))) (yJ (j3 (jQ (qK vX rfl T.isinstance_ kG (qA (pv 2) (qA (jX (v:=.ty "tuple") rfl T.tuple_ kX rfl) qB)))))))) (qM (q8 yB)) kW) (qG (zG (pv 0) (kK (n:=2) rfl (qJ (qH (i:=3) sc.nd rfl (Or.inr rfl)) (qJ (qH (i:=4) sc.nd rfl (Or.inr rfl)) kJ)))) (qG (jV (j3 (jQ (qK (eX rfl) rfl T.all_ fV (qA (jO (N:=["row", "sides", "wants"]) (fr:=[none,some 3,some 4]) rfl (zH (pv 2)) (CScope.of rfl rfl rfl) rfl (fun _ _ _=>⟨qH (i:=0) (show List.Nodup (α:=Str) ["row", "sides", "wants"] by decide +kernel) rfl (Or.inl rfl),kH,qU c_is_share hr (qA (pv 0) (qA (qK len0 rfl T.len_ kY (qA (pv 1) qB)) (qA (qK len0 rfl T.len_ kY (qA (pv 2) qB)) qB)))⟩)) qB)))) (qM (q8 yB)) kW) (qM (q8 (zY (qU c_rise_by_place hr (qA (pv 2) qB)) (yL (qU c_keep_bounds hr (qA (pv 0) (qA (pv 1) (qA (pv 2) qB)))))))))),?_⟩
  rw [show L2.start ["town", "by", "rows", "sides", "wants"] [.ref t,.int b,.ref a] = [some (.ref t),some (.int b),some (.ref a),none,none] from rfl]
  (push_cast only [h])
  unfold yD at q
  refine ⟨b,1,rfl,?_⟩
  by_cases b1:1 ≤ b
  case neg =>
   rw [Aw b1] at q ⊢
   (push_cast only [])
   exact q H (Same.refl H)
  case pos =>
   rw [Ax b1,AZ] at q
   rw [Ax b1]
   (push_cast only [h])
   (simp only [qE])
   (push_cast only [htw])
   (simp only [qE])
   (push_cast only [h])
   obtain ⟨os,eos⟩:∃ os:List Bool,os=rs.map fun r=>yI ss.length ts.length r.2.1 r.2.2.1 r.2.2.2:=⟨_,rfl⟩
   have ol:os.length=rs.length:=by rw [eos,Aa]
   intro c nc
   have nac:a ≠ c:=qC h nc
   have nsd:=qC W.1.sd nc
   have nwt:=qC W.1.wt nc
   refine zC (AI c sd wt os H) ⟨none,rfl,SameX.upd,qF⟩ (fun j σ H' _ ⟨_,_,s,_⟩=>s _ _ nac h) ?_ ?_
   ·rintro i v σ H1 hv ⟨v0,rfl,s1,e1⟩
    rw [Ad] at hv
    obtain ⟨r,hr',rfl⟩:=Al.mp hv
    have rm:=An hr'
    have il:i < rs.length:=(Ag.mp hr').1
    have q1:=kC (s1 _ _ nsd W.1.sd)
    have q2:=kC (s1 _ _ nwt W.1.wt)
    (push_cast only [q1,q2])
    refine ⟨ss.length,ts.length,r.1,r.2.1,r.2.2.1,r.2.2.2,rfl,m5,(s1.same nc) _ _ (ro.R r rm),fun H2 s2=>?_⟩
    refine ⟨_,s2 _ _ e1,qL (by rw [Aa,Aq];omega),_,rfl,(s1.trans s2.x).trans SameX.upd,?_⟩
    rw [qF,A7,eos,Ad,hr',Ae]
    rfl
   ·rintro σ H1 ⟨v0,rfl,s1,e1⟩
    have S1:=s1.same nc
    rw [Aa,← ol,AG] at e1
    refine ⟨_,kF e1,?_⟩
    rw [show os.all id=okB ts.length ss.length rs by rw [eos,CK];rfl]
    cases hp:okB ts.length ss.length rs with
    | false =>
     rw [hp] at q
     (push_cast only [])
     exact q H1 S1
    | true =>
     rw [hp,AZ] at q
     (push_cast only [])
     (simp only [qE])
     (push_cast only [])
     refine ⟨a,rs,rs.map fun r=>k2 r.2,aL rs,rfl,S1 _ _ h,ro.R.same S1,by omega,by rw [Aa];exact few,fun r hr'=>Bp hr',dR rs,fun H2 s2=>?_⟩
     have S2:=S1.trans s2
     cases hi:aL rs with
     | false =>
      rw [hi] at q
      (push_cast only [])
      exact q H2 S2
     | true =>
      rw [hi,AZ] at q
      (push_cast only [])
      exact ⟨t,sd,wt,a,ss,ts,rs,b,rfl,⟨W.1.keep S2,W.2⟩,S2 _ _ h,ro.R.same S2,by omega,ro.bdr m5 hp,fun H3 s3=>q H3 (S2.trans s3)⟩
theorem h7:∀ (k:Nat) (ns:List Int),ns.length=k→∀ (S:Nat),S < 2 ^ ns.length→(z8 ns)[S]? = some (zB ns.length S fun t=>ns.getD t 0):=by
 intro k
 induction k with
 | zero =>
  intro ns hk S hS
  obtain rfl:ns=[]:=Bx.mp hk
  have:S=0:=by simpa using hS
  subst this
  rfl
 | succ k ih' =>
  intro ns' hk
  rcases List.eq_nil_or_concat ns' with rfl | ⟨ns,p,rfl⟩
  ·cases hk
  rw [List.concat_eq_append] at hk ⊢
  have ih:=ih' ns (by simpa using hk)
  intro S hS
  rw [bV,Aj,AL]
  have cl:=yW ns
  have pre:∀ S',zB ns.length S' (fun t=>(ns ++ [p]).getD t 0)=zB ns.length S' fun t=>ns.getD t 0:=fun S'=>h8 fun t ht=>by
   rw [Ab,Av ht,Ab]
  have lastp:(ns ++ [p]).getD ns.length 0=p:=by
   rw [Ab,AB (Ak _),Nat.sub_self]
   rfl
  have stepB:zB (ns.length + 1) S (fun t=>(ns ++ [p]).getD t 0)=zB ns.length S (fun t=>ns.getD t 0) + if Nat.testBit S ns.length=true then p else 0:=by
   show jP ns.length (fun t=>if Nat.testBit S t=true then (ns ++ [p]).getD t 0 else 0) + (if Nat.testBit S ns.length=true then (ns ++ [p]).getD ns.length 0 else 0)=_
   rw [lastp,← pre S]
   rfl
  rw [stepB]
  by_cases h:S < 2 ^ ns.length
  ·rw [Av (by rw [cl];exact h),ih S h,Ah (by rw [Nat.testBit_lt_two_pow h];decide),Int.add_zero]
  ·have hl:S - 2 ^ ns.length < 2 ^ ns.length:=by
    rw [Aj,AL,Ds] at hS
    omega
   rw [AB (by rw [cl];omega),cl,Ad,ih _ hl]
   obtain ⟨S',rfl⟩:∃ S',S=2 ^ ns.length + S':=⟨S - 2 ^ ns.length,by omega⟩
   rw [Nat.add_sub_cancel_left] at hl ⊢
   have b1:Nat.testBit (2 ^ ns.length + S') ns.length=true:=by rw [Nat.testBit_two_pow_add_eq,Nat.testBit_lt_two_pow hl];rfl
   have b2:zB ns.length (2 ^ ns.length + S') (fun t=>ns.getD t 0)=zB ns.length S' fun t=>ns.getD t 0:=jC fun t ht=>by rw [Nat.testBit_two_pow_add_gt ht]
   rw [Ai b1,b2]
   rfl
noncomputable def z7 (ns:List Int):Bool:=ns.all fun x=>decide (0 ≤ x)
noncomputable def gOk (b:Int)(ws ns:List Int)(g:Int):Bool:=decide (∀ x ∈ vC (ws.map fun x=>b * x) ns,x ≤ g)
noncomputable def yT (b:Int)(ts:List (Addr × List Int))(ns gs:List Int):Bool:=(ts.zip gs).all fun p=>gOk b p.1.2 ns p.2
noncomputable def fI (m:Nat)(b:Int)(ts:List (Addr × List Int))(rs:List (Addr × R3))(ns gs:List Int):Bool:=yD ts.length m b rs && (z7 ns && (z7 gs && (yT b ts ns gs && decide ((zP ts rs).sum=gs.sum + ns.sum))))
theorem eP (ns:List Int):(ns.map V.int).all (bQ 0)=z7 ns:=by
 rw [CK]
 rfl
noncomputable def BdN (ns:List Int):Prop:=∀ x ∈ ns,-(2 ^ 50) ≤ x∧x ≤ 2 ^ 50
structure ThP (H:Hp)(n m:Nat)(o ra na ga:Addr)(b:Int)(rs:List (Addr × R3))(ns gs:List Int):Prop where
 eo:H o=some (.tup [.int b,.ref ra,.ref na,.ref ga])
 b1:b ≤ 34359738368
 ro:RowsP H ra rs
 en:H na=some (.tup (ns.map V.int))
 eg:H ga=some (.tup (gs.map V.int))
 nl:ns.length=m
 gl:gs.length=n
 nb:BdN ns
 gb:BdN gs
theorem ThP.same {H H':Hp}{n m:Nat}{o ra na ga:Addr}{b:Int}{rs:List (Addr × R3)}{ns gs:List Int}(t:ThP H n m o ra na ga b rs ns gs)(s:Same H H'):ThP H' n m o ra na ga b rs ns gs:=⟨s _ _ t.eo,t.b1,t.ro.same s,s _ _ t.en,s _ _ t.eg,t.nl,t.gl,t.nb,t.gb⟩
noncomputable def sp_ss:Sp:=fun vs H Q _=>∃ (t sd wt o ra na ga:Addr) (ss:List Int) (ts:List (Addr × List Int)) (b:Int) (rs:List (Addr × R3)) (ns gs:List Int),vs=[.ref t,.ref o]∧(TownW H t sd wt ss.length ss ts∧1 ≤ ts.length)∧(∀ t ∈ ts,∀ x ∈ t.2,0 ≤ x∧x ≤ 10000)∧ThP H ts.length ss.length o ra na ga b rs ns gs∧∀ H',Same H H'→Q (.bl (fI ss.length b ts rs ns gs)) H'
theorem mM {H:Hp}{k:Nat}{a:Addr}{ns:List Int}{Q:VK}{E:XK}(h:H a=some (.tup (ns.map V.int)))(l:ns.length=k)(k5:k ≤ 5)(q:∀ H',Same H H'→Q (.bl (z7 ns)) H'):nA [.ref a,.int (k:Int),.int 0] H Q E:=by
 refine .inr ⟨a,k,0,_,rfl,h,Kn.ints ns,by rw [Aa];omega,fun H' s=>?_⟩
 rw [eP,Aa,Ax (by omega)]
 exact q H' s
noncomputable def GGI (c na:Addr)(b:Int)(ts:List (Addr × List Int))(ns gs:List Int)(G:Hp)(i:Nat)(σ:St)(H:Hp):Prop:=∃ v1 v2:Option V,σ=[v1,v2,some (.int b),some (.ref na)]∧SameX c G H∧H c=some (.lst ((((ts.zip gs).take i).map fun p=>gOk b p.1.2 ns p.2).map V.bl))
theorem vE:FnScope ["town", "thing", "by", "rows", "numbers", "gains", "sides", "wants"] ["town", "thing"] (qI s_shows_shares):=⟨rfl,rfl,rfl,by decide +kernel,rfl,by decide +kernel,by decide +kernel⟩
theorem ok_ss (F:Fun K "shows_shares" "shows_shares" s_shows_shares f fd) (hm:mg "shows_shares" = some (.ref f)) (hb:Binds K fd ["town", "thing"] []) (T:Txt mg) (c_are_shares:j4 P w K mg base "are_shares" ["town", "by", "rows"] 4 iX) (c_are_wholes_from:j4 P w K mg base "are_wholes_from" ["thing", "many", "least"] 3 nA) (c_greatest_gain:j4 P w K mg base "greatest_gain" ["want", "prices"] 3 lX) (c_in_parts:j4 P w K mg base "in_parts" ["want", "by"] 1 lT) (c_shares_worth:j4 P w K mg base "shares_worth" ["town", "rows"] 1 gB):j4 P w K mg base "shows_shares" ["town", "thing"] 5 sp_ss:=by
 refine kU F hm hb vE (fun vs H Q E h=>?_) (fun cdv A outer s H vs Q E hr h=>?_)
 ·obtain ⟨_,_,_,_,_,_,_,_,_,_,_,_,_,rfl,_⟩:=h;rfl
 ·obtain ⟨t,sd,wt,o,ra,na,ga,ss,ts,b,rs,ns,gs,rfl,W,wb,th,q⟩:=h
  have sc:=vE
  refine ⟨_,qG (jV (PW.pt (yA (j3 (jQ (qK vX rfl T.isinstance_ kG (qA (pv 1) (qA (jX (v:=.ty "tuple") rfl T.tuple_ kX rfl) qB))))) (yJ (kD t6 (qK len0 rfl T.len_ kY (qA (pv 1) qB)) qD (kA _))))) (qM (q8 yB)) kW) (qG (zG (pv 1) (kK (n:=4) rfl (qJ (qH (i:=2) sc.nd rfl (Or.inr rfl)) (qJ (qH (i:=3) sc.nd rfl (Or.inl rfl)) (qJ (qH (i:=4) sc.nd rfl (Or.inr rfl)) (qJ (qH (i:=5) sc.nd rfl (Or.inl rfl)) kJ)))))) (qG (zG (pv 0) (kK (n:=2) rfl (qJ (qH (i:=6) sc.nd rfl (Or.inl rfl)) (qJ (qH (i:=7) sc.nd rfl (Or.inl rfl)) kJ)))) (qG (jV (j3 (jQ (qU c_are_shares hr (qA (pv 0) (qA (pv 2) (qA (pv 3) qB)))))) (qM (q8 yB)) kW) (qG (jV (PW.pt (yA (j3 (jQ (qU c_are_wholes_from hr (qA (pv 4) (qA (qK len0 rfl T.len_ kY (qA (pv 6) qB)) (qA qD qB)))))) (yJ (j3 (jQ (qU c_are_wholes_from hr (qA (pv 5) (qA (qK len0 rfl T.len_ kY (qA (pv 7) qB)) (qA qD qB))))))))) (qM (q8 yB)) kW) (qG (jV (j3 (jQ (qK (eX rfl) rfl T.all_ fV (qA (jO (N:=["want", "gain", "by", "numbers"]) (fr:=[none,none,some 2,some 4]) rfl (gZ rfl T.zip_ (qA (pv 7) (qA (pv 5) qB))) (CScope.of rfl rfl rfl) rfl (fun _ _ _=>⟨kK (n:=2) rfl (qJ (qH (i:=0) (show List.Nodup (α:=Str) ["want", "gain", "by", "numbers"] by decide +kernel) rfl (Or.inl rfl)) (qJ (qH (i:=1) (show List.Nodup (α:=Str) ["want", "gain", "by", "numbers"] by decide +kernel) rfl (Or.inl rfl)) kJ)),kH,jK pL (pv 1) (qU c_greatest_gain hr (qA (qU c_in_parts hr (qA (pv 0) (qA (pv 2) qB))) (qA (pv 3) qB))) (kA _)⟩)) qB)))) (qM (q8 yB)) kW) (qM (q8 (jK jR (qU c_shares_worth hr (qA (pv 0) (qA (pv 3) qB))) (qN jD (qK (fD rfl) rfl T.sum_ yC (qA (pv 5) qB)) (qK (fD rfl) rfl T.sum_ yC (qA (pv 4) qB))) (kA _))))))))),?_⟩
  rw [show L2.start ["town", "thing", "by", "rows", "numbers", "gains", "sides", "wants"] [.ref t,.ref o] = [some (.ref t),some (.ref o),none,none,none,none,none,none] from rfl]
  have htw:=W.1.at'
  have t5:=W.1.t5
  have m5:=W.1.m5
  have h:=th.eo
  have hs:=kC h
  unfold fI at q
  (push_cast only [h,hs])
  (simp only [qE])
  (push_cast only [h])
  (simp only [qE])
  (push_cast only [htw])
  (simp only [qE])
  (push_cast only [])
  refine ⟨t,sd,wt,ra,ss,ts,rs,b,rfl,W,th.ro,fun H1 s1=>?_⟩
  cases hx:yD ts.length ss.length b rs with
  | false =>
   rw [hx] at q
   (push_cast only [])
   exact q H1 s1
  | true =>
  rw [hx,AZ] at q
  (push_cast only [])
  (simp only [qE])
  (push_cast only [])
  refine ⟨_,kC (s1 _ _ W.1.sd),?_⟩
  rw [Aa]
  refine mM (s1 _ _ th.en) th.nl m5 fun H2 s2=>⟨_,rfl,?_⟩
  cases hn:z7 ns with
  | false =>
   rw [hn] at q
   rw [Ai (by decide)]
   exact q H2 (s1.trans s2)
  | true =>
  rw [hn,AZ] at q
  rw [Ah (by decide)]
  refine ⟨_,kC (s2 _ _ (s1 _ _ W.1.wt)),?_⟩
  rw [Aa]
  refine mM (s2 _ _ (s1 _ _ th.eg)) th.gl t5 fun H3 s3=>⟨_,rfl,?_⟩
  have S3:=(s1.trans s2).trans s3
  cases hg:z7 gs with
  | false =>
   rw [hg] at q
   rw [Ai (by decide)]
   exact q H3 S3
  | true =>
  rw [hg,AZ] at q
  rw [Ah (by decide)]
  have b0:1 ≤ b:=cV hx
  have b1:=th.b1
  have nl:=th.nl
  have gl:=th.gl
  (simp only [qE])
  (push_cast only [])
  refine ⟨_,_,_,.inr ⟨rfl,S3 _ _ W.1.wt⟩,_,.inr ⟨rfl,S3 _ _ th.eg⟩,fun c nc=>?_⟩
  have nwc:=qC (S3 _ _ W.1.wt) nc
  have ngc:=qC (S3 _ _ th.eg) nc
  refine fQ (GGI c na b ts ns gs H3) ⟨none,none,rfl,SameX.upd,qF⟩ (fun i σ H' ⟨_,_,_,s,_⟩=>⟨.inr ⟨rfl,s _ _ nwc (S3 _ _ W.1.wt)⟩,.inr ⟨rfl,s _ _ ngc (S3 _ _ th.eg)⟩⟩) ?_ ?_
  ·rintro i u v T5 σ H5 H6 hu hv ⟨v1,v2,rfl,s5,e5⟩ nT5 s6 eT6
   rw [Ad] at hu hv
   obtain ⟨tt,htt,rfl⟩:=Al.mp hu
   obtain ⟨gg,hgg,rfl⟩:=Al.mp hv
   have tm:=An htt
   have hi:i < ts.length:=(Ag.mp htt).1
   have row:=W.1.row tt tm
   have S6:∀ {b o},H3 b=some o→H6 b=some o:=fun {b o} h=>s6 _ _ (s5 _ _ (qC h nc) h)
   have hd6:=S6 (S3 _ _ row.1)
   have hn6:=S6 (S3 _ _ th.en)
   (push_cast only [eT6])
   refine ⟨tt.1,tt.2,b,rfl,hd6,by omega,b1,by rw [row.2];exact (yN m5).1,fun t7 H7 n7 s7 e7=>?_⟩
   have hw:(tt.2.map fun x=>b * x).length=2 ^ ns.length:=by rw [Aa,row.2,nl]
   refine ⟨t7,na,_,ns,rfl,e7,s7 _ _ hn6,by omega,hw,fun mx H8 s8 hm hmx=>?_⟩
   have e6:=s8 _ _ (s7 _ _ (s6 _ _ e5))
   have hz:(ts.zip gs)[i]? = some (tt,gg):=Bb.mpr ⟨htt,hgg⟩
   have le:decide (mx ≤ gg)=gOk b tt.2 ns gg:=by
    unfold gOk
    rw [decide_eq_decide]
    exact ⟨fun z x hx=>CZ (hmx x hx) z,fun z=>z mx hm⟩
   refine ⟨_,rfl,_,e6,qL (by rw [Aa,Aa,Aq,Ct];omega),⟨_,_,rfl,((((s5.trans s6.x).trans s7.x).trans s8.x).trans SameX.upd),?_⟩⟩
   rw [qF,le,A7,hz,Ae,Ae]
   rfl
  ·rintro σ H5 ⟨v1,v2,rfl,s5,e5⟩
   rw [Aa,Aa,Bc (Nat.le_of_eq Ct)] at e5
   refine ⟨_,kF e5,?_⟩
   have S5:Same H H5:=S3.trans (s5.same nc)
   rw [show ((ts.zip gs).map fun p=>gOk b p.1.2 ns p.2).all id=yT b ts ns gs by rw [CK];rfl]
   cases he:yT b ts ns gs with
   | false =>
    rw [he] at q
    rw [Ai (by decide)]
    exact q H5 S5
   | true =>
   rw [he,AZ] at q
   rw [Ah (by decide)]
   (simp only [qE])
   (push_cast only [])
   have ok:=w6 hx
   have pl:=sI ok
   refine ⟨t,sd,wt,ra,ss,ts,rs,rfl,⟨W.1.keep S5,W.2⟩,S5 _ _ th.ro.at',th.ro.R.same S5,AX th.ro.few (by decide),th.ro.bdr m5 ok,fun r hr=>⟨(pl r hr).1,(pl r hr).2.1,(pl r hr).2.2.2.1⟩,wb,fun H6 s6=>?_⟩
   have S6:=S5.trans s6
   have hg6:=kC (S6 _ _ th.eg)
   have hn6:=kC (S6 _ _ th.en)
   (push_cast only [hg6,hn6])
   exact ⟨gs,rfl,zF th.gb (by omega),ns,rfl,zF th.nb (by omega),q H6 S6⟩
theorem a_rLtT {K:PySem.W.Frag}{x y:V}{H:Hp}{Q:VK}:rLtT K x y H Q = ∃ a b ns ms,x = .ref a∧y = .ref b∧SqT K H a (ns.map V.int)∧SqT K H b (ms.map V.int)∧Q (.bl (HT.lexLt ns ms)) H:=rfl
noncomputable def tK:Sp:=fun vs H Q _=>∃ (t sd wt ra:Addr) (ss:List Int) (ts:List (Addr × List Int)) (rs:List (Addr × R3)) (b:Int),vs=[.ref t,.int b,.ref ra]∧(TownW H t sd wt ss.length ss ts∧1 ≤ ts.length)∧RowsP H ra rs∧∀ H',Same H H'→Q (.bl (yD ts.length ss.length b rs)) H'
noncomputable def NRI (c:Addr)(G:Hp)(_:Nat)(σ:St)(H:Hp):Prop:=∃ v:Option V,σ=[v]∧SameX c G H∧H c=some (.lst [])
noncomputable def NZI (c:Addr)(rs:List (Addr × R3))(G:Hp)(i:Nat)(σ:St)(H:Hp):Prop:=∃ v1 v2:Option V,σ=[v1,v2]∧SameX c G H∧H c=some (.lst (((((rs.zip (rs.drop 1)).take i).filter fun p=>!(HT.lexLt (k2 p.1.2) (k2 p.2.2))).map fun _=>(1:Int)).map V.int))
noncomputable def LKA (c a:Addr)(rs:List (Addr × R3))(G:Hp)(i:Nat)(σ:St)(H:Hp):Prop:=∃ v,σ=[v,some (.ref a)]∧SameX c G H∧H c=some (.lst (((List.range i).map fun j:Nat=>(xE rs j).sum).map V.int))
noncomputable def LKB (d:Addr)(rs:List (Addr × R3))(h:Int)(G:Hp)(k:Nat)(σ:St)(H:Hp):Prop:=∃ v1,σ=[v1,some (.int h)]∧SameX d G H∧H d=some (.lst ((xE (rs.take k) h).map V.int))
noncomputable def LKC (c a:Addr)(rs:List (Addr × R3))(G:Hp)(i:Nat)(σ:St)(H:Hp):Prop:=∃ v,σ=[v,some (.ref a)]∧SameX c G H∧H c=some (.lst (((List.range i).map fun j:Nat=>(zR rs j).sum).map V.int))
noncomputable def LKD (d:Addr)(rs:List (Addr × R3))(h:Int)(G:Hp)(k:Nat)(σ:St)(H:Hp):Prop:=∃ v1,σ=[v1,some (.int h)]∧SameX d G H∧H d=some (.lst ((zR (rs.take k) h).map V.int))
noncomputable def LRI (t ra:Addr)(b:Int)(m n:Nat)(rs:List (Addr × R3))(G:Hp)(i:Nat)(σ:St)(H:Hp):Prop:=∃ v3:Option V,σ=[some (.ref t),some (.int b),some (.ref ra),v3,none,none]∧Same G H∧∀ r ∈ rs.take i,yI m n r.2.1 r.2.2.1 r.2.2.2=true
theorem notno:∀ v:Bool,¬ ((!v)=true)→v=true
 | true,_=>rfl
 | false,h=>absurd rfl h
theorem mQ {rs:List (Addr × R3)}:(((rs.zip (rs.drop 1)).filter fun p=>!(HT.lexLt (k2 p.1.2) (k2 p.2.2))).map fun _=>(1:Int))=[] ↔ vT rs:=by
 unfold vT
 constructor
 ·intro h
  have h1:∀ i,i + 1 < rs.length→zJ (k2 (rs.getD i (0,0,0,0)).2) (k2 (rs.getD (i + 1) (0,0,0,0)).2)=true:=fun i hi=>by
   have h2:=C8.mp h
   have h3:=BL.mp h2 (rs.getD i (0,0,0,0),rs.getD (i + 1) (0,0,0,0)) (by
    refine Bm.mpr ⟨i,?_⟩
    rw [Bb]
    refine ⟨?_,?_⟩
    ·simp [Ab,Af (show i < rs.length by omega)]
    ·rw [Cp,Nat.add_comm 1 i]
     simp [Ab,Af hi])
   exact notno _ h3
  rw [BU]
  intro i j hi hj hij
  rw [Aa] at hi hj
  rw [BF,BF]
  have key:∀ d i,i + (d + 1) < rs.length→zJ (k2 (rs.getD i (0,0,0,0)).2) (k2 (rs.getD (i + (d + 1)) (0,0,0,0)).2)=true:=fun d=>by
   induction d with
   | zero=>exact fun i hi=>h1 i hi
   | succ d ih=>exact fun i hi=>vB (y:=k2 (rs.getD (i + (d + 1)) (0,0,0,0)).2) rfl rfl (ih i (by omega)) (h1 (i + (d + 1)) hi)
  have e:i + (j - i - 1 + 1)=j:=by omega
  have r:=key (j - i - 1) i (by omega)
  rw [e] at r
  rw [show rs.getD i (0,0,0,0)=rs[i] by simp [Ab,hi],show rs.getD j (0,0,0,0)=rs[j] by simp [Ab,hj]] at r
  exact r
 ·intro h
  rw [C8,BL]
  intro p hp
  obtain ⟨i,hi⟩:=Bm.mp hp
  obtain ⟨h1,h2⟩:=Bb.mp hi
  rw [Cp,Nat.add_comm] at h2
  obtain ⟨a1,b1⟩:=Ag.mp h1
  obtain ⟨a2,b2⟩:=Ag.mp h2
  have:=BU.mp h i (i + 1) (by rw [Aa];exact a1) (by rw [Aa];exact a2) (by omega)
  rw [BF,BF,b1,b2] at this
  have:HT.lexLt (k2 p.1.2) (k2 p.2.2)=true:=this
  simp [this]
theorem y8:FnScope ["_law_town_here", "_law_by", "_law_rows", "_law_row", "_law_hands", "_law_things"] ["_law_town_here", "_law_by", "_law_rows"] (qI s__law_are_shares):=⟨rfl,rfl,rfl,by decide +kernel,rfl,by decide +kernel,by decide +kernel⟩
theorem ok_lars (F:Fun K "_law_are_shares" "_law_are_shares" s__law_are_shares f fd) (hm:mg "_law_are_shares" = some (.ref f)) (hb:Binds K fd ["_law_town_here", "_law_by", "_law_rows"] []) (T:Txt mg):j4 P w K mg base "_law_are_shares" ["_law_town_here", "_law_by", "_law_rows"] 1 tK:=by
 refine kU F hm hb y8 (fun vs H Q E h=>?_) (fun cdv A outer s H vs Q E hr h=>?_)
 ·obtain ⟨_,_,_,_,_,_,_,_,rfl,_⟩:=h;rfl
 ·obtain ⟨t,sd,wt,ra,ss,ts,rs,b,rfl,W,ro,q⟩:=h
  have sc:=y8
  have era:=ro.at'
  have R:=ro.R
  have few:=ro.few
  unfold yD at q
  refine ⟨_,qG (jV (PW.pt (yA (j3 (jQ (qK vX rfl T.isinstance_ kG (qA (pv 1) (qA (jX (v:=.ty "int") rfl T.int_ dD rfl) qB))))) (yA (jQ (qK vX rfl T.isinstance_ kG (qA (pv 1) (qA (jX (v:=.ty "bool") rfl T.bool_ d6 rfl) qB)))) (yA (kD xU (pv 1) qD (kA _)) (yJ (j3 (jQ (qK vX rfl T.isinstance_ kG (qA (pv 2) (qA (jX (v:=.ty "tuple") rfl T.tuple_ kX rfl) qB)))))))))) (qM (q8 yB)) kW) (qG (yK Bs rfl (zH (pv 2)) (qH (i:=3) sc.nd rfl (Or.inl rfl)) (qG (jV (PW.pt (yA (j3 (jQ (qK vX rfl T.isinstance_ kG (qA (pv 3) (qA (jX (v:=.ty "tuple") rfl T.tuple_ kX rfl) qB))))) (yJ (kD (nP hr.units0) (jO (N:=["_law_one"]) (fr:=[none]) rfl (zH (pv 3)) (CScope.of rfl rfl rfl) rfl (fun _ _ _=>⟨qH (i:=0) (show List.Nodup (α:=Str) ["_law_one"] by decide +kernel) rfl (Or.inl rfl),zD (PW.pt (yA (j3 (jQ (qK vX rfl T.isinstance_ kG (qA (pv 0) (qA (jX (v:=.ty "int") rfl T.int_ dD rfl) qB))))) (yJ (jQ (qK vX rfl T.isinstance_ kG (qA (pv 0) (qA (jX (v:=.ty "bool") rfl T.bool_ d6 rfl) qB))))))),qD⟩)) (nM qB) (kA _))))) (qM (q8 yB)) kW) (qM (jV (PW.pt (yA (kD t6 (qK len0 rfl T.len_ kY (qA (pv 3) qB)) qD (kA _)) (yA (j3 (pG pK xU qD (kL z6 (pv 3) qD (fun _ _=>rfl)) (qK len0 rfl T.len_ kY (qA (kL z6 (pv 0) qD (fun _ _=>rfl)) qB)) rfl)) (yA (j3 (pG pK xU qD (kL z6 (pv 3) qD (fun _ _=>rfl)) (qK len0 rfl T.len_ kY (qA (kL z6 (kL z6 (pv 0) qD (fun _ _=>rfl)) qD (fun _ _=>rfl)) qB)) rfl)) (yJ (kD xU (kL z6 (pv 3) qD (fun _ _=>rfl)) qD (kA _))))))) (qM (q8 yB)) kW)))) (qG (jV (kD (nP hr.units0) (jO (N:=["_law_one", "_law_other"]) (fr:=[none,none]) rfl (gZ rfl T.zip_ (qA (pv 2) (qA (jH h9 (pv 2) (jN qD) jT) qB))) (CScope.of rfl rfl rfl) rfl (fun _ _ _=>⟨kK (n:=2) rfl (qJ (qH (i:=0) (show List.Nodup (α:=Str) ["_law_one", "_law_other"] by decide +kernel) rfl (Or.inl rfl)) (qJ (qH (i:=1) (show List.Nodup (α:=Str) ["_law_one", "_law_other"] by decide +kernel) rfl (Or.inl rfl)) kJ)),zD (j3 (kD (show xZ _ (compareOp .Lt) (rLtT K) from op_ltT hr.units0) (jH h9 (pv 0) jT (jN qD)) (jH h9 (pv 1) jT (jN qD)) (kA _))),qD⟩)) (nM qB) (kA _)) (qM (q8 yB)) kW) (qG (xS (N:=["_law_hand", "_law_rows"]) (fr:=[none,some 2]) (i:=4) "_law_hand" sc.nd rfl (Or.inl rfl) rfl (kT rfl T.range_ (qA (qK len0 rfl T.len_ kY (qA (kL z6 (pv 0) qD (fun _ _=>rfl)) qB)) qB)) (CScope1.of rfl rfl rfl rfl (fun _ _=>rfl) (fun _=>rfl)) rfl (fun _ _ _=>⟨qH (i:=0) (show List.Nodup (α:=Str) ["_law_hand", "_law_rows"] by decide +kernel) rfl (Or.inr rfl),kH,qK (fD rfl) rfl T.sum_ yC (qA (jO (N:=["_law_row", "_law_hand"]) (fr:=[none,some 0]) rfl (zH (pv 1)) (CScope.of rfl rfl rfl) rfl (fun _ _ _=>⟨qH (i:=0) (show List.Nodup (α:=Str) ["_law_row", "_law_hand"] by decide +kernel) rfl (Or.inl rfl),zD (kD jR (kL z6 (pv 0) qD (fun _ _=>rfl)) (pv 1) (kA _)),kL z6 (pv 0) qD (fun _ _=>rfl)⟩)) qB)⟩)) (qG (xS (N:=["_law_thing", "_law_rows"]) (fr:=[none,some 2]) (i:=5) "_law_thing" sc.nd rfl (Or.inl rfl) rfl (kT rfl T.range_ (qA (qK len0 rfl T.len_ kY (qA (kL z6 (pv 0) qD (fun _ _=>rfl)) qB)) qB)) (CScope1.of rfl rfl rfl rfl (fun _ _=>rfl) (fun _=>rfl)) rfl (fun _ _ _=>⟨qH (i:=0) (show List.Nodup (α:=Str) ["_law_thing", "_law_rows"] by decide +kernel) rfl (Or.inr rfl),kH,qK (fD rfl) rfl T.sum_ yC (qA (jO (N:=["_law_row", "_law_thing"]) (fr:=[none,some 0]) rfl (zH (pv 1)) (CScope.of rfl rfl rfl) rfl (fun _ _ _=>⟨qH (i:=0) (show List.Nodup (α:=Str) ["_law_row", "_law_thing"] by decide +kernel) rfl (Or.inl rfl),zD (kD jR (qN g6 (qN bH (kL z6 (pv 0) qD (fun _ _=>rfl)) (pv 1)) qD) qD (kA _)),kL z6 (pv 0) qD (fun _ _=>rfl)⟩)) qB)⟩)) (qM (q8 (jK pK (qK (aY rfl) rfl T.max_ fU (qA (qN vJ (pv 4) (pv 5)) qB)) (pv 1) (kA _)))))))),?_⟩
  rw [show L2.start ["_law_town_here", "_law_by", "_law_rows", "_law_row", "_law_hands", "_law_things"] [.ref t,.int b,.ref ra] = [some (.ref t),some (.int b),some (.ref ra),none,none,none] from rfl]
  (push_cast only [era])
  by_cases b1:1 ≤ b
  case neg =>
   rw [Aw b1] at q
   rw [Ai (by omega)]
   exact q H (Same.refl H)
  rw [Ax b1,AZ] at q
  rw [Ah (by omega)]
  have htw:=W.1.at'
  have hwt:=kC W.1.wt
  (simp only [qE])
  (push_cast only [era])
  refine sT (LRI t ra b ss.length ts.length rs H) ⟨_,rfl,Same.refl H,fun r hr'=>by cases hr'⟩ (fun j σ H' _ ⟨_,_,s,_⟩=>s _ _ era) ?_ ?_
  ·rintro j x σ H1 hx ⟨v3,rfl,s1,pos⟩
   rw [Ad] at hx
   obtain ⟨r,hr1,rfl⟩:=Al.mp hx
   have rm:=An hr1
   have er:H1 r.1=some (.tup [.int r.2.1,.int r.2.2.1,.int r.2.2.2]):=s1 _ _ (R r rm)
   (push_cast only [er])
   intro c nc
   have nrc:=qC er nc
   refine zC (NRI c H1) ⟨none,rfl,SameX.upd,qF⟩ (fun i σ H' _ ⟨_,_,s,_⟩=>s _ _ nrc er) ?_ ?_
   ·rintro i x σ H2 hx ⟨v,rfl,s2,e2⟩
    obtain ⟨n,rfl⟩:∃ n,x=V.int n:=by
     have hm:=An hx
     simp only [A4,Ck,or_false] at hm
     rcases hm with rfl | rfl | rfl <;> exact ⟨_,rfl⟩
    (push_cast only [])
    exact ⟨_,rfl,s2,e2⟩
   ·rintro σ H2 ⟨v,rfl,s2,e2⟩
    have S2:=s2.same nc
    have er2:=S2 _ _ er
    have e2':H2 c=some (.lst (([] : List Int).map V.int)):=e2
    refine ⟨by decide,fun c2 nc2=>⟨[],kI nc2 _ _ e2',?_⟩⟩
    rw [Ah (by decide)]
    have S3:Same H2 (upd H2 c2 (.lst [])):=kI nc2
    generalize upd H2 c2 (.lst [])=H3 at S3 ⊢
    have SH:=(s1.trans S2).trans S3
    have er3:=kC (S3 _ _ er2)
    have tw3:=kC (SH _ _ htw)
    have wt3:=kC (SH _ _ W.1.wt)
    have i1:∀ x y:V,xH [x,y] 1=some y:=fun _ _=>rfl
    (simp only [qE])
    (push_cast only [er3,tw3,wt3,i1])
    obtain ⟨t0,tr,hts⟩:∃ t0 tr,ts=t0 :: tr:=by
     cases ts with
     | nil=>exact absurd W.2 (by decide)
     | cons a b=>exact ⟨a,b,rfl⟩
    have row0:=W.1.row t0 (by rw [hts];exact A2)
    have nb:yI ss.length ts.length r.2.1 r.2.2.1 r.2.2.2=false→okB ts.length ss.length rs=false:=fun z=>by
     cases y:okB ts.length ss.length rs with
     | false=>rfl
     | true=>rw [AR.mp y r rm] at z;cases z
    have no:yI ss.length ts.length r.2.1 r.2.2.1 r.2.2.2=false→Q (.bl false) H3:=fun z=>by
     have:=q H3 SH
     rw [nb z] at this
     exact this
    unfold yI at no
    rw [Ah (by decide)]
    by_cases k1:0 ≤ r.2.1
    case neg =>
     rw [Ah k1]
     exact no (by rw [Aw (fun z=>k1 z.1)];rfl)
    rw [Ai k1]
    by_cases k2:r.2.1 < (ts.length:Int)
    case neg =>
     rw [Ai (by rw [Aw k2];decide)]
     exact no (by rw [Aw (fun z=>k2 z.2)];rfl)
    rw [Ah (by rw [Ax k2];decide)]
    by_cases k3:1 ≤ r.2.2.1
    case neg =>
     rw [Ah k3]
     exact no (by rw [Aw (fun z=>k3 (by omega):¬ (0 < r.2.2.1∧r.2.2.1 < ((2 ^ ss.length:Nat):Int))),Bz,Cg])
    rw [Ai k3]
    refine ⟨V.ref t0.1,by rw [hts,AN,atI0],t0.1,rfl,_,kC (SH _ _ row0.1),?_⟩
    rw [Aa,row0.2]
    by_cases k4:r.2.2.1 < ((2 ^ ss.length:Nat):Int)
    case neg =>
     rw [Ai (by rw [Aw k4];decide)]
     exact no (by rw [Aw (fun z=>k4 z.2:¬ (0 < r.2.2.1∧r.2.2.1 < ((2 ^ ss.length:Nat):Int))),Bz,Cg])
    rw [Ah (by rw [Ax k4];decide)]
    by_cases lt:r.2.2.2 < 1
    ·rw [Ai lt]
     exact no (by rw [Aw (by omega:¬ 0 < r.2.2.2),Cg,Cg])
    ·rw [Ah lt]
     refine ⟨_,rfl,SH,fun x hx=>?_⟩
     rw [A7,hr1] at hx
     rcases A3.mp hx with z | z
     ·exact pos x z
     ·rw [Option.toList_some,A5] at z
      rw [z]
      unfold yI
      rw [Ax ⟨k1,k2⟩,Ax (⟨by omega,k4⟩:0 < r.2.2.1∧r.2.2.1 < ((2 ^ ss.length:Nat):Int)),Ax (by omega:0 < r.2.2.2)]
      rfl
  ·rintro σ H1 ⟨v3,rfl,s1,pos⟩
   have era1:=s1 _ _ era
   rw [Aa,AG] at pos
   have pb:okB ts.length ss.length rs=true:=AR.mpr fun r hr'=>pos r hr'
   have bd:=ro.bdr W.1.m5 pb
   rw [pb,AZ] at q
   (simp only [qE])
   (push_cast only [era1,a_rLtT])
   have cd:zI (rs.map fun r=>V.ref r.1) (some (1:Int)) none=(rs.drop 1).map fun r=>V.ref r.1:=by
    unfold zI
    rw [HT.sIx_none,show (1:Int)=((1:Nat):Int) from rfl,HT.sIx_nat,Bc (by simp)]
    cases rs with
    | nil=>rfl
    | cons a b=>simp
   rw [cd]
   refine fun p1 H2 s2 e2=>⟨_,_,_,.inr ⟨rfl,s2 _ _ era1⟩,_,.inr ⟨rfl,e2⟩,fun c nc=>?_⟩
   have n1:=qC (s2 _ _ era1) nc
   have n2:=qC e2 nc
   refine fQ (NZI c rs H2) ⟨none,none,rfl,SameX.upd,qF⟩ (fun i σ H' ⟨_,_,_,s,_⟩=>⟨.inr ⟨rfl,s _ _ n1 (s2 _ _ era1)⟩,.inr ⟨rfl,s _ _ n2 e2⟩⟩) ?_ ?_
   ·rintro i u v T5 σ H3 H4 hu hv ⟨v1,v2,rfl,s3,e3⟩ nT s4 eT
    rw [Ad] at hu hv
    obtain ⟨r,hr1,rfl⟩:=Al.mp hu
    obtain ⟨r',hr2,rfl⟩:=Al.mp hv
    have er0:=s2 _ _ (s1 _ _ (R r (An hr1)))
    have er0':=s2 _ _ (s1 _ _ (R r' (B1 (An hr2))))
    have er:H4 r.1=some (.tup ((k3 r.2).map V.int)):=s4 _ _ (s3 _ _ (qC er0 nc) er0)
    have er':H4 r'.1=some (.tup ((k3 r'.2).map V.int)):=s4 _ _ (s3 _ _ (qC er0' nc) er0')
    (push_cast only [eT,er,er',a_rLtT])
    have hz:(rs.zip (rs.drop 1))[i]? = some (r,r'):=Bb.mpr ⟨hr1,hr2⟩
    refine fun p2 H5 s5 e5=>⟨_,s5 _ _ er',fun p3 H6 s6 e6=>⟨k2 r.2,SqT.of (s6 _ _ e5),k2 r'.2,SqT.of e6,?_⟩⟩
    cases lt:HT.lexLt (k2 r.2) (k2 r'.2) with
    | true =>
     rw [Ah (by decide)]
     refine ⟨_,_,rfl,(((s3.trans s4.x).trans s5.x).trans s6.x),?_⟩
     rw [A7,hz,AQ,show (some (r,r')).toList.filter (fun p=>!(HT.lexLt (k2 p.1.2) (k2 p.2.2)))=[] by simp [lt],B2]
     exact s6 _ _ (s5 _ _ (s4 _ _ e3))
    | false =>
     rw [Ai (by decide)]
     have fl:=AS (fun p:(Addr × R3) × (Addr × R3)=>!(HT.lexLt (k2 p.1.2) (k2 p.2.2))) ((rs.zip (rs.drop 1)).take i)
     have zl:((rs.zip (rs.drop 1)).take i).length ≤ 18:=by rw [Aq,Ct];omega
     refine ⟨_,s6 _ _ (s5 _ _ (s4 _ _ e3)),qL (by rw [Aa,Aa];omega),_,_,rfl,((((s3.trans s4.x).trans s5.x).trans s6.x).trans SameX.upd),?_⟩
     rw [qF,A7,hz,AQ,show (some (r,r')).toList.filter (fun p=>!(HT.lexLt (k2 p.1.2) (k2 p.2.2)))=[(r,r')] by simp [lt],Ae,Ae]
     rfl
   ·rintro σ H3 ⟨v1,v2,rfl,s3,e3⟩
    rw [Aa,Aa,Bc (Nat.le_of_eq Ct)] at e3
    refine ⟨by decide,fun c2 nc2=>⟨_,kI nc2 _ _ e3,?_⟩⟩
    have S4:Same H3 (upd H3 c2 (.lst [])):=kI nc2
    generalize upd H3 c2 (.lst [])=H4 at S4 ⊢
    have SH:=((s1.trans s2).trans (s3.same nc)).trans S4
    cases hi:aL rs with
    | false =>
     rw [hi] at q
     have ne:¬ (((rs.zip (rs.drop 1)).filter fun p=>!(HT.lexLt (k2 p.1.2) (k2 p.2.2))).map fun _=>(1:Int))=[]:=fun z=>by
      have:=(dR rs).mpr (mQ.mp z)
      rw [hi] at this
      cases this
     rw [Aw ne,Ai (by decide)]
     exact q H4 SH
    | true =>
    rw [hi,AZ] at q
    rw [Ax (mQ.mpr ((dR rs).mp hi)),Ah (by decide)]
    have htw4:=SH _ _ htw
    have era4:=SH _ _ era
    have tw4:=kC htw4
    have wt4:=kC (SH _ _ W.1.wt)
    have sd4:=kC (SH _ _ W.1.sd)
    (simp only [qE])
    (push_cast only [tw4,wt4])
    have t5:=W.1.t5
    have m5:=W.1.m5
    refine ⟨by omega,by omega,fun c nc=>?_⟩
    have nac:ra ≠ c:=qC era4 nc
    have R4:Rw H4 rs:=fun r hr=>SH _ _ (R r hr)
    refine jL (LKA c ra rs H4) ⟨none,rfl,SameX.upd,qF⟩ ?_ ?_
    ·rintro i σ H5 hi ⟨v,rfl,s5,e5⟩
     rw [Ap] at hi
     have ha5:=s5 _ _ nac era4
     (push_cast only [ha5])
     intro d nd
     have nad:ra ≠ d:=qC ha5 nd
     have ncd:c ≠ d:=qC e5 nd
     refine zC (LKB d rs (i:Int) H5) ⟨none,rfl,SameX.upd,qF⟩ (fun j σ H' _ ⟨_,_,s,_⟩=>s _ _ nad ha5) ?_ ?_
     ·rintro k x σ H6 hx ⟨v1,rfl,s6,e6⟩
      rw [Ad] at hx
      obtain ⟨r,hr',rfl⟩:=Al.mp hx
      have er:=s5 _ _ (qC (R4 r (An hr')) nc) (R4 r (An hr'))
      have er2:H6 r.1=some (.tup [.int r.2.1,.int r.2.2.1,.int r.2.2.2]):=s6 _ _ (qC er nd) er
      have hl:=dZ (rs.take k) (i:Int)
      rw [Aq] at hl
      have sq2:=kC er2
      (push_cast only [sq2])
      by_cases cc:r.2.1=(i:Int)
      ·rw [Ai cc]
       refine ⟨_,e6,qL (by rw [Aa];omega),_,rfl,s6.trans SameX.upd,?_⟩
       rw [qF,gK hr',Ai cc,Ae]
       rfl
      ·rw [Ah cc]
       refine ⟨_,rfl,s6,?_⟩
       rw [e6,gK hr',Ah cc,B2]
     ·rintro σ H6 ⟨v1,rfl,s6,e6⟩
      rw [Aa,AG] at e6
      have ec:=s6 _ _ ncd e5
      refine ⟨_,kF e6,fits_of bd (by omega) (dZ rs (i:Int)) (fun x hx=>?_),?_⟩
      ·unfold xE at hx
       obtain ⟨r,hr',rfl⟩:=Au.mp hx
       exact ⟨r,(Br.mp hr').1,rfl⟩
      ·refine ⟨_,ec,qL (by rw [Aa,Aa,Ar];omega),_,rfl,(s5.trans (s6.same nd).x).trans SameX.upd,?_⟩
       rw [qF,AO,Ae,Ae]
       rfl
    ·rintro σ H5 ⟨v,rfl,s5,e5⟩
     rw [Ap] at e5
     have S5:=s5.same nc
     have SH5:=SH.trans S5
     have tw5:=kC (SH5 _ _ htw)
     have sd5:=kC (SH5 _ _ W.1.sd)
     have era5:=SH5 _ _ era
     (simp only [qE])
     (push_cast only [tw5,sd5])
     refine ⟨by omega,by omega,fun c3 nc3=>?_⟩
     have nac3:ra ≠ c3:=qC era5 nc3
     refine jL (LKC c3 ra rs H5) ⟨none,rfl,SameX.upd,qF⟩ ?_ ?_
     ·rintro i σ H6 hi ⟨v,rfl,s6,e6⟩
      rw [Ap] at hi
      have ha6:=s6 _ _ nac3 era5
      (push_cast only [ha6])
      intro d nd
      have nad:ra ≠ d:=qC ha6 nd
      have ncd:c3 ≠ d:=qC e6 nd
      refine zC (LKD d rs (i:Int) H6) ⟨none,rfl,SameX.upd,qF⟩ (fun j σ H' _ ⟨_,_,s,_⟩=>s _ _ nad ha6) ?_ ?_
      ·rintro k x σ H7 hx ⟨v1,rfl,s7,e7⟩
       rw [Ad] at hx
       obtain ⟨r,hr',rfl⟩:=Al.mp hx
       have er0:=SH5 _ _ (R r (An hr'))
       have er1:=s6 _ _ (qC er0 nc3) er0
       have er3:H7 r.1=some (.tup [.int r.2.1,.int r.2.2.1,.int r.2.2.2]):=s7 _ _ (qC er1 nd) er1
       have hl:=gA (rs.take k) (i:Int)
       rw [Aq] at hl
       have sq3:=kC er3
       (push_cast only [sq3])
       refine ⟨by omega,?_⟩
       by_cases cc:fO r.2.2.1 (i:Int)=true
       ·rw [Ai (AV cc)]
        refine ⟨_,e7,qL (by rw [Aa];omega),_,rfl,s7.trans SameX.upd,?_⟩
        rw [qF,x6 hr',Ai cc,Ae]
        rfl
       ·rw [Ah (fun z=>cc (Ax z))]
        refine ⟨_,rfl,s7,?_⟩
        rw [e7,x6 hr',Ah cc,B2]
      ·rintro σ H7 ⟨v1,rfl,s7,e7⟩
       rw [Aa,AG] at e7
       have ec:=s7 _ _ ncd e6
       refine ⟨_,kF e7,fits_of bd (by omega) (gA rs (i:Int)) (fun x hx=>?_),?_⟩
       ·unfold zR at hx
        obtain ⟨r,hr',rfl⟩:=Au.mp hx
        exact ⟨r,(Br.mp hr').1,rfl⟩
       ·refine ⟨_,ec,qL (by rw [Aa,Aa,Ar];omega),_,rfl,(s6.trans (s7.same nd).x).trans SameX.upd,?_⟩
        rw [qF,AO,Ae,Ae]
        rfl
     ·rintro σ H6 ⟨v,rfl,s6,e6⟩
      rw [Ap] at e6
      have S6:=s6.same nc3
      have e56:=S6 _ _ e5
      (simp only [qE])
      (push_cast only [e56,e6])
      refine ⟨AH (qL (by rw [Ar,Ar];omega)),fun p3 H7 n3 s7 e7=>?_⟩
      rw [← Ae] at e7
      refine ⟨_,kF e7,?_,fun mx hm hx=>?_⟩
      ·have:=W.2
       intro z
       have:=AY List.length z
       rw [Aj,Aa,Aa,Ar,Ar,Bq] at this
       omega
      ·rw [uA hm hx]
       exact q H7 ((SH5.trans S6).trans s7)
theorem uD {S t:Nat}(hS:S < 32)(ht:t < 5):fO (S:Int) (t:Int)=Nat.testBit S t:=by
 have key:∀ (a:_root_.Fin 32) (b:_root_.Fin 5),fO (a.val:Int) (b.val:Int)=Nat.testBit a.val b.val:=by decide +kernel
 exact key ⟨S,hS⟩ ⟨t,ht⟩
noncomputable def lW:Sp:=fun vs H Q _=>∃ (a:Addr) (ns:List Int) (h:Nat),vs=[.ref a,.int (h:Int)]∧H a=some (.tup (ns.map V.int))∧ns.length ≤ 5∧(∀ x ∈ ns,0 ≤ x∧x ≤ 2 ^ 50)∧h < 32∧∀ H',Same H H'→Q (.int (zB ns.length h fun t=>ns.getD t 0)) H'
noncomputable def LC (c:Addr)(ns:List Int)(h:Nat)(G:Hp)(i:Nat)(σ:St)(H:Hp):Prop:=∃ (v1 v2:Option V) (cs:List Int),σ=[v1,v2,some (.int (h:Int))]∧cs.length ≤ i∧(∀ x ∈ cs,0 ≤ x∧x ≤ 2 ^ 50)∧cs.sum=zB i h (fun t=>ns.getD t 0)∧SameX c G H∧H c=some (.lst (cs.map V.int))
theorem dO:FnScope ["_law_numbers", "_law_heap"] ["_law_numbers", "_law_heap"] (qI s__law_cost):=⟨rfl,rfl,rfl,by decide +kernel,rfl,by decide +kernel,by decide +kernel⟩
theorem oX (F:Fun K "_law_cost" "_law_cost" s__law_cost f fd) (hm:mg "_law_cost" = some (.ref f)) (hb:Binds K fd ["_law_numbers", "_law_heap"] []) (T:Txt mg):j4 P w K mg base "_law_cost" ["_law_numbers", "_law_heap"] 1 lW:=by
 refine kU F hm hb dO (fun vs H Q E h=>?_) (fun cdv A outer s H vs Q E hr h=>?_)
 ·obtain ⟨_,_,_,rfl,_⟩:=h;rfl
 ·obtain ⟨a,ns,h,rfl,ha,n5,nb,hh,q⟩:=h
  have sc:=dO
  refine ⟨_,qM (q8 (qK (fD rfl) rfl T.sum_ yC (qA (jO (N:=["_law_thing", "_law_number", "_law_heap"]) (fr:=[none,none,some 1]) rfl (dU rfl T.enumerate_ (qA (pv 0) qB)) (CScope.of rfl rfl rfl) rfl (fun _ _ _=>⟨kK (n:=2) rfl (qJ (qH (i:=0) (show List.Nodup (α:=Str) ["_law_thing", "_law_number", "_law_heap"] by decide +kernel) rfl (Or.inl rfl)) (qJ (qH (i:=1) (show List.Nodup (α:=Str) ["_law_thing", "_law_number", "_law_heap"] by decide +kernel) rfl (Or.inl rfl)) kJ)),zD (kD jR (qN g6 (qN bH (pv 2) (pv 0)) qD) qD (kA _)),pv 1⟩)) qB))),?_⟩
  rw [show L2.start ["_law_numbers", "_law_heap"] [.ref a,.int (h:Int)] = [some (.ref a),some (.int (h:Int))] from rfl]
  (push_cast only [])
  refine ⟨_,_,.inr ⟨rfl,ha⟩,fun c nc=>?_⟩
  have nac:a ≠ c:=qC ha nc
  refine nY (LC c ns h H) ⟨none,none,[],rfl,Ak _,(fun x hx=>by simp at hx),rfl,SameX.upd,qF⟩ (fun i σ H2 ⟨_,_,_,_,_,_,_,s,_⟩=>.inr ⟨rfl,s _ _ nac ha⟩) ?_ ?_
  ·rintro i v T' σ H2 H3 hv ⟨v1,v2,xs,rfl,hxl,hxb,hsum,s2,e2⟩ nT s3 e3
   rw [Ad] at hv
   obtain ⟨x,hx,rfl⟩:=Al.mp hv
   have hi:i < ns.length:=(Ag.mp hx).1
   have ec:=s3 _ _ e2
   have gx:ns.getD i 0=x:=by rw [Ab,hx];rfl
   have hb:=uD hh (show i < 5 by omega)
   have sB:zB (i + 1) h (fun t=>ns.getD t 0)=zB i h (fun t=>ns.getD t 0) + if Nat.testBit h i=true then ns.getD i 0 else 0:=rfl
   (push_cast only [e3])
   refine ⟨by omega,?_⟩
   by_cases cc:fO (h:Int) (i:Int)=true
   ·rw [Ai (AV cc)]
    refine ⟨_,ec,qL (by rw [Aa];omega),_,_,xs ++ [x],rfl,by simp;omega,fun y hy=>?_,?_,(s2.trans s3.x).trans SameX.upd,by rw [qF,Ae];rfl⟩
    ·rcases A3.mp hy with z | z
     ·exact hxb y z
     ·rw [A5.mp z];exact nb x (An hx)
    ·rw [sB,← hb,Ai cc,gx,CV,hsum]
     simp
   ·rw [Ah (fun z=>cc (Ax z))]
    refine ⟨_,_,xs,rfl,by omega,hxb,?_,s2.trans s3.x,ec⟩
    rw [sB,← hb,Ah cc,hsum,Int.add_zero]
  ·rintro σ H2 ⟨v1,v2,xs,rfl,hxl,hxb,hsum,s2,e2⟩
   rw [Aa] at hsum hxl
   refine ⟨_,kF e2,zF (fun x hx=>⟨by have:=(hxb x hx).1;omega,(hxb x hx).2⟩) (by omega),?_⟩
   rw [hsum]
   exact q H2 (s2.same nc)
theorem fl_zip {c1 c2:String}{a b:Addr}{xs ys:List V}{g:TG}{tb:TS}{D:Ends}{σ:St}{H:Hp}(Pv:Nat→St→Hp→Prop)(h0:Pv 0 σ H)(hl:∀ i σ H,Pv i σ H→lD H c1 a xs∧lD H c2 b ys)
  (hs:∀ (i:Nat) u v (T:Addr) σ H H',xs[i]? = some u→ys[i]? = some v→Pv i σ H→H T=none→Same H H'→H' T=some (.tup [u,v])→g (.ref T) σ H' fun σ2 H2=>tb { D with nx:=Pv (i + 1),ct:=Pv (i + 1),bk:=D.nx } σ2 H2)
  (hd:∀ σ H,Pv (min xs.length ys.length) σ H→D.nx σ H):FL (Itz c1 c2 a b xs ys) g tb D σ H:=by
 refine ⟨fun i m σ H=>m=min xs.length ys.length - i∧i ≤ min xs.length ys.length∧Pv i σ H,⟨min xs.length ys.length,by simp,AJ _,h0⟩,?_⟩
 rintro i m σ H ⟨rfl,hi,p⟩
 obtain ⟨q1,q2⟩:=hl i σ H p
 by_cases hlt:i < min xs.length ys.length
 ·refine .inr ⟨⟨q1,q2,by omega,by omega⟩,Pv (i + 1),fun σ' H' p'=>⟨min xs.length ys.length - (i + 1),by omega,rfl,hlt,p'⟩,fun x H' y=>?_⟩
  obtain ⟨T,u,v,rfl,n,rfl,e1,e2⟩:=y
  exact hs i u v T σ H _ e1 e2 p n (kI n) qF
 ·have e:i=min xs.length ys.length:=by omega
  subst e
  exact .inl ⟨⟨q1,q2,by omega⟩,hd σ H p⟩
theorem uF {ws ns:List Int}{b g:Int}(hl:ws.length=2 ^ ns.length):gOk b ws ns g=true ↔ ∀ S,S < 2 ^ ns.length→b * ws.getD S 0 - (zB ns.length S fun t=>ns.getD t 0) ≤ g:=by
 unfold gOk
 rw [AU]
 constructor
 ·intro h S hS
  refine h _ ?_
  unfold vC zw
  refine Au.mpr ⟨(b * ws.getD S 0,zB ns.length S fun t=>ns.getD t 0),Bm.mpr ⟨S,Bb.mpr ⟨?_,h7 _ ns rfl S hS⟩⟩,rfl⟩
  rw [Ad,Ab,Af (by omega)]
  rfl
 ·intro h x hx
  unfold vC zw at hx
  obtain ⟨q,hq,rfl⟩:=Au.mp hx
  obtain ⟨S,hS⟩:=List.getElem?_of_mem hq
  rw [Bb] at hS
  obtain ⟨h1,h2⟩:=hS
  rw [Ad] at h1
  obtain ⟨w,hw,e1⟩:=Al.mp h1
  have hS:S < 2 ^ ns.length:=by rw [← hl];exact (Ag.mp hw).1
  rw [h7 _ ns rfl S hS] at h2
  have gw:ws.getD S 0=w:=by rw [Ab,hw];rfl
  have:=h S hS
  rw [gw] at this
  show q.1 - q.2 ≤ g
  rw [← A9 h2,← e1]
  exact this
noncomputable def lC (b:Int)(ws ns:List Int)(g:Int)(S:Nat):Bool:=decide (g < b * ws.getD S 0 - zB ns.length S fun t=>ns.getD t 0)
noncomputable def fN (l:List Nat):List Int:=l.map fun _=>1
theorem uT {ws ns:List Int}{b g:Int}(hl:ws.length=2 ^ ns.length):fN ((List.range ws.length).filter (lC b ws ns g))=[] ↔ gOk b ws ns g=true:=by
 rw [uF hl]
 unfold fN
 rw [C8,BL]
 constructor
 ·intro h S hS
  have:=h S (AD.mpr (by omega))
  unfold lC at this
  rw [AU] at this
  omega
 ·intro h S hS
  have:=h S (by rw [← hl];exact AD.mp hS)
  unfold lC
  rw [AU]
  omega
noncomputable def iV:Sp:=fun vs H Q _=>∃ (t sd wt na ga:Addr) (ss:List Int) (ts:List (Addr × List Int)) (b:Int) (ns gs:List Int),vs=[.ref t,.int b,.ref na,.ref ga]∧TownW H t sd wt ss.length ss ts∧H na=some (.tup (ns.map V.int))∧H ga=some (.tup (gs.map V.int))∧ns.length=ss.length∧gs.length=ts.length∧(∀ x ∈ ns,0 ≤ x∧x ≤ 2 ^ 50)∧0 ≤ b∧b ≤ 34359738368∧∀ H',Same H H'→Q (.bl (yT b ts ns gs)) H'
noncomputable def ELI (c ta na:Addr)(b gg:Int)(ws ns:List Int)(G:Hp)(i:Nat)(σ:St)(H:Hp):Prop:=∃ v:Option V,σ=[v,some (.int b),some (.ref ta),some (.ref na),some (.int gg)]∧SameX c G H∧H c=some (.lst ((fN ((List.range i).filter (lC b ws ns gg))).map V.int))
noncomputable def ENI (t na ga:Addr)(b:Int)(ts:List (Addr × List Int))(ns gs:List Int)(G:Hp)(i:Nat)(σ:St)(H:Hp):Prop:=∃ v4 v5:Option V,σ=[some (.ref t),some (.int b),some (.ref na),some (.ref ga),v4,v5]∧Same G H∧∀ p ∈ (ts.zip gs).take i,gOk b p.1.2 ns p.2=true
theorem vS:FnScope ["_law_town_here", "_law_by", "_law_numbers", "_law_gains", "_law_want_here", "_law_most"] ["_law_town_here", "_law_by", "_law_numbers", "_law_gains"] (qI s__law_enough):=⟨rfl,rfl,rfl,by decide +kernel,rfl,by decide +kernel,by decide +kernel⟩
theorem ok_len (F:Fun K "_law_enough" "_law_enough" s__law_enough f fd) (hm:mg "_law_enough" = some (.ref f)) (hb:Binds K fd ["_law_town_here", "_law_by", "_law_numbers", "_law_gains"] []) (T:Txt mg) (c__law_cost:j4 P w K mg base "_law_cost" ["_law_numbers", "_law_heap"] 1 lW):j4 P w K mg base "_law_enough" ["_law_town_here", "_law_by", "_law_numbers", "_law_gains"] 2 iV:=by
 refine kU F hm hb vS (fun vs H Q E h=>?_) (fun cdv A outer s H vs Q E hr h=>?_)
 ·obtain ⟨_,_,_,_,_,_,_,_,_,_,rfl,_⟩:=h;rfl
 ·obtain ⟨t,sd,wt,na,ga,ss,ts,b,ns,gs,rfl,W,hn,hg,nl,gl,n0,b0,b1,q⟩:=h
  have sc:=vS
  refine ⟨_,qG (yK Bs rfl (gZ rfl T.zip_ (qA (kL z6 (pv 0) qD (fun _ _=>rfl)) (qA (pv 3) qB))) (kK (n:=2) rfl (qJ (qH (i:=4) sc.nd rfl (Or.inr rfl)) (qJ (qH (i:=5) sc.nd rfl (Or.inr rfl)) kJ))) (qM (jV (kD (nP hr.units0) (jO (N:=["_law_heap", "_law_by", "_law_want_here", "_law_numbers", "_law_most"]) (fr:=[none,some 1,some 4,some 2,some 5]) rfl (kT rfl T.range_ (qA (qK len0 rfl T.len_ kY (qA (pv 4) qB)) qB)) (CScope.of rfl rfl rfl) rfl (fun _ _ _=>⟨qH (i:=0) (show List.Nodup (α:=Str) ["_law_heap", "_law_by", "_law_want_here", "_law_numbers", "_law_most"] by decide +kernel) rfl (Or.inl rfl),zD (kD mD (qN fM (qN jU (pv 1) (kL z6 (pv 2) (pv 0) (fun _ _=>rfl))) (qU c__law_cost hr (qA (pv 3) (qA (pv 0) qB)))) (pv 4) (kA _)),qD⟩)) (nM qB) (kA _)) (qM (q8 yB)) kW))) (qM (q8 yB)),?_⟩
  rw [show L2.start ["_law_town_here", "_law_by", "_law_numbers", "_law_gains", "_law_want_here", "_law_most"] [.ref t,.int b,.ref na,.ref ga] = [some (.ref t),some (.int b),some (.ref na),some (.ref ga),none,none] from rfl]
  have htw:=kC W.at'
  have i1:∀ x y:V,xH [x,y] 1=some y:=fun _ _=>rfl
  (push_cast only [htw,i1])
  have m5:=W.m5
  have p32:=yN m5
  refine ⟨_,_,_,.inr ⟨rfl,W.wt⟩,_,.inr ⟨rfl,hg⟩,fl_zip (ENI t na ga b ts ns gs H) ⟨_,_,rfl,Same.refl H,fun p hp=>by cases hp⟩ (fun i σ H' ⟨_,_,_,s,_⟩=>⟨.inr ⟨rfl,s _ _ W.wt⟩,.inr ⟨rfl,s _ _ hg⟩⟩) ?_ ?_⟩
  ·rintro i u v T5 σ H1 H2 hu hv ⟨v4,v5,rfl,s1,all⟩ nT s2 eT
   rw [Ad] at hu hv
   obtain ⟨tt,htt,rfl⟩:=Al.mp hu
   obtain ⟨gg,hgg,rfl⟩:=Al.mp hv
   have tm:=An htt
   have hi:i < ts.length:=(Ag.mp htt).1
   have row:=W.row tt tm
   have rt:=kC (s2 _ _ (s1 _ _ row.1))
   (push_cast only [eT,rt])
   have tl:=row.2
   have S12:=s1.trans s2
   have hl:tt.2.length=2 ^ ns.length:=by rw [tl,nl]
   refine ⟨by omega,by omega,fun c nc=>?_⟩
   have nrc:=qC (S12 _ _ row.1) nc
   have nnc:=qC (S12 _ _ hn) nc
   refine jL (ELI c tt.1 na b gg tt.2 ns H2) ⟨none,rfl,SameX.upd,qF⟩ ?_ ?_
   ·rintro S σ H3 hS ⟨v,rfl,s3,e3⟩
    rw [Ap] at hS
    have r3:=kC (s3 _ _ nrc (S12 _ _ row.1))
    have hn3:=s3 _ _ nnc (S12 _ _ hn)
    have ax:=vY (ns:=tt.2) (n:=S) hS
    (push_cast only [r3,ax])
    refine ⟨.inl ⟨by omega,by omega⟩,na,ns,S,rfl,hn3,by omega,n0,by omega,fun H4 s4=>⟨_,rfl,?_⟩⟩
    have e4:=s4 _ _ e3
    have fl:=AS (lC b tt.2 ns gg) (List.range S)
    rw [Ar] at fl
    by_cases cc:gg < b * tt.2.getD S 0 - zB ns.length S fun t=>ns.getD t 0
    ·rw [Ai cc]
     refine ⟨_,e4,qL (by unfold fN;rw [Aa,Aa];omega),_,rfl,(s3.trans s4.x).trans SameX.upd,?_⟩
     rw [qF,AO,AQ,show [S].filter (lC b tt.2 ns gg)=[S] from BH (Ax cc)]
     unfold fN
     rw [Ae,Ae]
     rfl
    ·rw [Ah cc]
     refine ⟨_,rfl,s3.trans s4.x,?_⟩
     rw [AO,AQ,show [S].filter (lC b tt.2 ns gg)=[] from Cj (by unfold lC;rw [AU];exact cc),B2]
     exact e4
   ·rintro σ H3 ⟨v,rfl,s3,e3⟩
    rw [Ap] at e3
    refine ⟨by decide,fun c2 nc2=>⟨_,kI nc2 _ _ e3,?_⟩⟩
    have S4:=(S12.trans (s3.same nc)).trans (kI (o:=.lst []) nc2)
    have hz:(ts.zip gs)[i]? = some (tt,gg):=Bb.mpr ⟨htt,hgg⟩
    cases ok:gOk b tt.2 ns gg with
    | false =>
     have ne:¬ fN ((List.range tt.2.length).filter (lC b tt.2 ns gg))=[]:=fun z=>by
      rw [(uT hl).mp z] at ok
      cases ok
     rw [Aw ne,Ai (by decide)]
     have:yT b ts ns gs=false:=by
      cases y:yT b ts ns gs with
      | false=>rfl
      | true=>rw [AR.mp y (tt,gg) (An hz)] at ok;cases ok
     rw [this] at q
     exact q _ S4
    | true =>
     rw [Ax ((uT hl).mpr ok),Ah (by decide)]
     refine ⟨_,_,rfl,S4,fun p hp=>?_⟩
     rw [A7,hz] at hp
     rcases A3.mp hp with z | z
     ·exact all p z
     ·rw [Option.toList_some,A5] at z
      rw [z]
      exact ok
  ·rintro σ H1 ⟨v4,v5,rfl,s1,all⟩
   (simp only [qE])
   (push_cast only [])
   simp only [Aa] at all
   rw [Bc (by rw [Ct];omega)] at all
   have:yT b ts ns gs=true:=AR.mpr all
   rw [this] at q
   exact q H1 s1
noncomputable def aZ (xs:List Int):List Int:=(xs.filter fun x=>decide (x < 0)).map fun _=>1
theorem pT (xs:List Int):aZ xs=[] ↔ z7 xs=true:=by
 unfold aZ z7
 rw [C8,BL,AR]
 constructor
 ·intro h x hx
  have:=h x hx
  rw [AU] at this ⊢
  omega
 ·intro h x hx
  have:=h x hx
  rw [AU] at this ⊢
  omega
noncomputable def cT:Sp:=fun vs H Q _=>∃ (t sd wt o ra na ga:Addr) (ss:List Int) (ts:List (Addr × List Int)) (b:Int) (rs:List (Addr × R3)) (ns gs:List Int),vs=[.ref t,.ref o]∧(TownW H t sd wt ss.length ss ts∧1 ≤ ts.length)∧(∀ t ∈ ts,∀ x ∈ t.2,0 ≤ x∧x ≤ 10000)∧ThP H ts.length ss.length o ra na ga b rs ns gs∧∀ H',Same H H'→Q (.bl (fI ss.length b ts rs ns gs)) H'
noncomputable def NGI (c:Addr)(xs:List Int)(G:Hp)(i:Nat)(σ:St)(H:Hp):Prop:=∃ v:Option V,σ=[v]∧SameX c G H∧H c=some (.lst ((aZ (xs.take i)).map V.int))
noncomputable def RGI (t o ra na ga:Addr)(b:Int)(ns gs:List Int)(G:Hp)(i:Nat)(σ:St)(H:Hp):Prop:=∃ v6 v7:Option V,σ=[some (.ref t),some (.ref o),some (.int b),some (.ref ra),some (.ref na),some (.ref ga),v6,v7]∧Same G H∧(1 ≤ i→z7 ns=true)∧(2 ≤ i→z7 gs=true)
theorem gS:FnScope ["_law_town_here", "_law_thing", "_law_by", "_law_rows", "_law_numbers", "_law_gains", "_law_some", "_law_many"] ["_law_town_here", "_law_thing"] (qI s__law_right):=⟨rfl,rfl,rfl,by decide +kernel,rfl,by decide +kernel,by decide +kernel⟩
theorem aU (F:Fun K "_law_right" "_law_right" s__law_right f fd) (hm:mg "_law_right" = some (.ref f)) (hb:Binds K fd ["_law_town_here", "_law_thing"] []) (T:Txt mg) (c__law_are_shares:j4 P w K mg base "_law_are_shares" ["_law_town_here", "_law_by", "_law_rows"] 1 tK) (c__law_enough:j4 P w K mg base "_law_enough" ["_law_town_here", "_law_by", "_law_numbers", "_law_gains"] 2 iV) (c__law_worth:j4 P w K mg base "_law_worth" ["_law_town_here", "_law_rows"] 1 gB):j4 P w K mg base "_law_right" ["_law_town_here", "_law_thing"] 3 cT:=by
 refine kU F hm hb gS (fun vs H Q E h=>?_) (fun cdv A outer s H vs Q E hr h=>?_)
 ·obtain ⟨_,_,_,_,_,_,_,_,_,_,_,_,_,rfl,_⟩:=h;rfl
 ·obtain ⟨t,sd,wt,o,ra,na,ga,ss,ts,b,rs,ns,gs,rfl,W,wb,th,q⟩:=h
  have sc:=gS
  have eo:=th.eo
  have hn:=th.en
  have hg:=th.eg
  have nl:=th.nl
  have gl:=th.gl
  unfold fI at q
  refine ⟨_,qG (jV (PW.pt (yA (j3 (jQ (qK vX rfl T.isinstance_ kG (qA (pv 1) (qA (jX (v:=.ty "tuple") rfl T.tuple_ kX rfl) qB))))) (yA (kD t6 (qK len0 rfl T.len_ kY (qA (pv 1) qB)) qD (kA _)) (yJ (j3 (jQ (qU c__law_are_shares hr (qA (pv 0) (qA (kL z6 (pv 1) qD (fun _ _=>rfl)) (qA (kL z6 (pv 1) qD (fun _ _=>rfl)) qB)))))))))) (qM (q8 yB)) kW) (qG (zG (pv 1) (kK (n:=4) rfl (qJ (qH (i:=2) sc.nd rfl (Or.inl rfl)) (qJ (qH (i:=3) sc.nd rfl (Or.inl rfl)) (qJ (qH (i:=4) sc.nd rfl (Or.inl rfl)) (qJ (qH (i:=5) sc.nd rfl (Or.inl rfl)) kJ)))))) (qG (yK Bs rfl (zH (jB (qA (jB (qA (pv 4) (qA (qK len0 rfl T.len_ kY (qA (kL z6 (pv 0) qD (fun _ _=>rfl)) qB)) qB))) (qA (jB (qA (pv 5) (qA (qK len0 rfl T.len_ kY (qA (kL z6 (pv 0) qD (fun _ _=>rfl)) qB)) qB))) qB)))) (kK (n:=2) rfl (qJ (qH (i:=6) sc.nd rfl (Or.inl rfl)) (qJ (qH (i:=7) sc.nd rfl (Or.inl rfl)) kJ))) (qG (jV (PW.pt (yA (j3 (jQ (qK vX rfl T.isinstance_ kG (qA (pv 6) (qA (jX (v:=.ty "tuple") rfl T.tuple_ kX rfl) qB))))) (yJ (kD t6 (qK len0 rfl T.len_ kY (qA (pv 6) qB)) (pv 7) (kA _))))) (qM (q8 yB)) kW) (qM (jV (kD (nP hr.units0) (jO (N:=["_law_one"]) (fr:=[none]) rfl (zH (pv 6)) (CScope.of rfl rfl rfl) rfl (fun _ _ _=>⟨qH (i:=0) (show List.Nodup (α:=Str) ["_law_one"] by decide +kernel) rfl (Or.inl rfl),zD (PW.pt (yA (j3 (jQ (qK vX rfl T.isinstance_ kG (qA (pv 0) (qA (jX (v:=.ty "int") rfl T.int_ dD rfl) qB))))) (yA (jQ (qK vX rfl T.isinstance_ kG (qA (pv 0) (qA (jX (v:=.ty "bool") rfl T.bool_ d6 rfl) qB)))) (yJ (kD xU (pv 0) qD (kA _)))))),qD⟩)) (nM qB) (kA _)) (qM (q8 yB)) kW)))) (qM (q8 (zY (qU c__law_enough hr (qA (pv 0) (qA (pv 2) (qA (pv 4) (qA (pv 5) qB))))) (yL (jK jR (qU c__law_worth hr (qA (pv 0) (qA (pv 3) qB))) (qN jD (qK (fD rfl) rfl T.sum_ yC (qA (pv 4) qB)) (qK (fD rfl) rfl T.sum_ yC (qA (pv 5) qB))) (kA _)))))))),?_⟩
  rw [show L2.start ["_law_town_here", "_law_thing", "_law_by", "_law_rows", "_law_numbers", "_law_gains", "_law_some", "_law_many"] [.ref t,.ref o] = [some (.ref t),some (.ref o),none,none,none,none,none,none] from rfl]
  have so:=kC eo
  have i1:∀ x y z u:V,xH [x,y,z,u] 1=some y:=fun _ _ _ _=>rfl
  (push_cast only [eo,so,i1])
  rw [Ah (by decide)]
  refine ⟨t,sd,wt,ra,ss,ts,rs,b,rfl,W,th.ro,fun H1 s1=>⟨_,rfl,?_⟩⟩
  cases hx:yD ts.length ss.length b rs with
  | false =>
   rw [hx] at q
   rw [Ai (by decide)]
   exact q H1 s1
  | true =>
  rw [hx,AZ] at q
  rw [Ah (by decide)]
  have eo1:=s1 _ _ eo
  have tw1:=kC (s1 _ _ W.1.at')
  have i2:∀ x y:V,xH [x,y] 1=some y:=fun _ _=>rfl
  have t5:=W.1.t5
  have m5:=W.1.m5
  (simp only [qE])
  (push_cast only [eo1])
  (simp only [qE])
  (push_cast only [tw1,i2])
  refine ⟨_,kC (s1 _ _ W.1.sd),by decide,fun p1 H2 n2 s2 e2=>⟨_,kC (s2 _ _ (s1 _ _ W.1.at')),.ref wt,rfl,wt,rfl,_,kC (s2 _ _ (s1 _ _ W.1.wt)),by decide,fun p2 H3 n3 s3 e3=>⟨by decide,fun p3 H4 n4 s4 e4=>⟨_,e4,?_⟩⟩⟩⟩
  have S4:=((s1.trans s2).trans s3).trans s4
  refine sT (RGI t o ra na ga b ns gs H4) ⟨_,_,rfl,Same.refl H4,fun z=>absurd z (by decide),fun z=>absurd z (by decide)⟩ (fun i σ H' _ ⟨_,_,_,s,_⟩=>s _ _ e4) ?_ ?_
  ·rintro i x σ H5 hx5 ⟨v6,v7,rfl,s5,f1',f2'⟩
   have S5:=S4.trans s5
   obtain ⟨pa,xa,ms,k,rfl,f1,f2,hk,h5,mb,no,yes⟩:∃ (pa xa:Addr) (ms:List Int) (k:Int),x = .ref pa∧H5 pa=some (.tup [.ref xa,.int k])∧H5 xa=some (.tup (ms.map V.int))∧(ms.length:Int)=k∧ms.length ≤ 5∧BdN ms∧(z7 ms=false→∀ r:Bool,(z7 ns && (z7 gs && r))=false)∧(z7 ms=true→(1 ≤ i + 1→z7 ns=true)∧(2 ≤ i + 1→z7 gs=true)):=by
    match i,hx5,f1' with
    | 0,hx5,f1' =>
     cases hx5
     exact ⟨p1,na,ns,_,rfl,s5 _ _ (s4 _ _ (s3 _ _ e2)),S5 _ _ hn,by rw [Aa,nl],by omega,th.nb,fun z r=>by rw [z];rfl,fun z=>⟨fun _=>z,fun y=>absurd y (by decide)⟩⟩
    | 1,hx5,f1' =>
     cases hx5
     exact ⟨p2,ga,gs,_,rfl,s5 _ _ (s4 _ _ e3),S5 _ _ hg,by rw [Aa,gl],by omega,th.gb,fun z r=>by rw [z,Bz,Cg],fun z=>⟨fun _=>f1' (by decide),fun _=>z⟩⟩
    | i + 2,hx5,_=>cases hx5
   have sx:=kC f2
   (push_cast only [f1,f2,sx])
   rw [Ah (by rw [Ax hk];decide)]
   (simp only [qE])
   (push_cast only [f2])
   intro c nc
   have nxc:=qC f2 nc
   refine zC (NGI c ms H5) ⟨none,rfl,SameX.upd,qF⟩ (fun i σ H' _ ⟨_,_,s,_⟩=>s _ _ nxc f2) ?_ ?_
   ·rintro i x σ H6 hx6 ⟨v,rfl,s6,e6⟩
    rw [Ad] at hx6
    obtain ⟨n,hn',rfl⟩:=Al.mp hx6
    have fl:=AS (fun x:Int=>decide (x < 0)) (ms.take i)
    rw [Aq] at fl
    (push_cast only [])
    by_cases cc:n < 0
    ·rw [Ai cc]
     refine ⟨_,e6,qL (by unfold aZ;rw [Aa,Aa];omega),_,rfl,s6.trans SameX.upd,?_⟩
     unfold aZ
     rw [qF,A7,hn',AQ,show (some n).toList.filter (fun x:Int=>decide (x < 0))=[n] by simp [cc],Ae,Ae]
     rfl
    ·rw [Ah cc]
     refine ⟨_,rfl,s6,?_⟩
     rw [e6]
     unfold aZ
     rw [A7,hn',AQ,show (some n).toList.filter (fun x:Int=>decide (x < 0))=[] by simp [cc],B2]
   ·rintro σ H6 ⟨v,rfl,s6,e6⟩
    rw [Aa,AG] at e6
    refine ⟨by decide,fun c2 nc2=>⟨_,kI nc2 _ _ e6,?_⟩⟩
    have S6:=(s5.trans (s6.same nc)).trans (kI (o:=.lst []) nc2)
    cases ok:z7 ms with
    | false =>
     rw [Aw (fun z=>by rw [(pT ms).mp z] at ok;cases ok),Ai (by decide)]
     rw [no ok] at q
     exact q _ (S4.trans S6)
    | true =>
     rw [Ax ((pT ms).mpr ok),Ah (by decide)]
     exact ⟨_,_,rfl,S6,yes ok⟩
  ·rintro σ H5 ⟨v6,v7,rfl,s5,f1,f2⟩
   have fn:=f1 (by simp)
   have fg:=f2 (by simp)
   rw [fn,fg,AZ,AZ] at q
   have S5:=S4.trans s5
   (simp only [qE])
   (push_cast only [])
   have ok:=w6 hx
   have pl:=sI ok
   have b0:=cV hx
   have n0:∀ x ∈ ns,0 ≤ x∧x ≤ 2 ^ 50:=fun x hx=>⟨AV (AR.mp fn x hx),(th.nb x hx).2⟩
   refine ⟨t,sd,wt,na,ga,ss,ts,b,ns,gs,rfl,W.1.keep S5,S5 _ _ hn,S5 _ _ hg,nl,gl,n0,by omega,th.b1,fun H6 s6=>⟨_,rfl,?_⟩⟩
   have S6:=S5.trans s6
   cases he:yT b ts ns gs with
   | false =>
    rw [he] at q
    rw [Ah (by decide)]
    exact q H6 S6
   | true =>
   rw [he,AZ] at q
   rw [Ai rfl]
   refine ⟨t,sd,wt,ra,ss,ts,rs,rfl,⟨W.1.keep S6,W.2⟩,S6 _ _ th.ro.at',th.ro.R.same S6,AX th.ro.few (by decide),th.ro.bdr m5 ok,fun r hr=>⟨(pl r hr).1,(pl r hr).2.1,(pl r hr).2.2.2.1⟩,wb,fun H7 s7=>?_⟩
   have S7:=S6.trans s7
   refine ⟨ns,kC (S7 _ _ hn),zF th.nb (by omega),gs,kC (S7 _ _ hg),zF th.gb (by omega),rfl,?_⟩
   rw [Int.add_comm ns.sum,show decide (V.int (zP ts rs).sum=V.int (gs.sum + ns.sum))=decide ((zP ts rs).sum=gs.sum + ns.sum) from decide_eq_decide.mpr ⟨V.int.inj,fun z=>by rw [z]⟩]
   exact q H7 S7
theorem Spool.netx {H:Hp}{p l c:Addr}{L:List V}(sp:Spool H p l)(h:H c=some (.tup L)):c ≠ p:=fun z=>by
 obtain ⟨_,_,_,_,_,_,y,_⟩:=sp
 rw [z,y] at h
 cases h
theorem bT {xs:List V}{k:Nat}(h:k ≤ xs.length):zI xs none (some (k:Int))=xs.take k:=by
 unfold zI
 rw [HT.sIx_none,HT.sIx_nat,BW h,CL,Dd]
theorem bU {xs:List V}{k:Nat}(h:k ≤ xs.length):zI xs (some (k:Int)) none=xs.drop k:=by
 unfold zI
 rw [HT.sIx_none,HT.sIx_nat,BW h,Bc (by rw [Bv];omega)]
theorem Spool.nelx {H:Hp}{p l c:Addr}{L:List V}(sp:Spool H p l)(h:H c=some (.lst L)):c ≠ p:=fun z=>by
 obtain ⟨_,_,_,_,_,_,y,_⟩:=sp
 rw [z,y] at h
 cases h
noncomputable def tM:Sp:=fun vs H Q _=>∃ (p l a:Addr) (xs:List Int),vs=[.ref p,.ref a]∧Spool H p l∧H a=some (.tup (xs.map V.int))∧1 ≤ xs.length∧xs.length ≤ 5∧∀ (o:Addr) (ys:List Int) (H':Hp),H' o=some (.tup (ys.map V.int))→ys.length=xs.length→(∀ y ∈ ys,∃ x ∈ xs,x - 1 ≤ y∧y ≤ x + 2)→Spool H' p l→SameX p H H'→Q (.ref o) H'
theorem three {x:Int}(h0:0 ≤ x)(h1:x < 3):∃ d:Int,xH [V.int 1,V.int (-1),V.int 2] x=some (V.int d)∧-1 ≤ d∧d ≤ 2:=by
 have:x=0∨x=1∨x=2:=by omega
 rcases this with z | z | z <;> rw [z]
 ·exact ⟨1,rfl,by decide,by decide⟩
 ·exact ⟨-1,rfl,by decide,by decide⟩
 ·exact ⟨2,rfl,by decide,by decide⟩
theorem dP:FnScope ["_law_spool_here", "_law_some", "_law_at"] ["_law_spool_here", "_law_some"] (qI s__law_bent):=⟨rfl,rfl,rfl,by decide +kernel,rfl,by decide +kernel,by decide +kernel⟩
theorem ok_bent (F:Fun K "_law_bent" "_law_bent" s__law_bent f fd) (hm:mg "_law_bent" = some (.ref f)) (hb:Binds K fd ["_law_spool_here", "_law_some"] []) (T:Txt mg) (c__law_draw:j4 P w K mg base "_law_draw" ["_law_spool_here", "_law_many"] 2 vO):j4 P w K mg base "_law_bent" ["_law_spool_here", "_law_some"] 3 tM:=by
 refine kU F hm hb dP (fun vs H Q E h=>?_) (fun cdv A outer s H vs Q E hr h=>?_)
 ·obtain ⟨_,_,_,_,rfl,_⟩:=h;rfl
 ·obtain ⟨p,l,a,xs,rfl,sp,ha,x1,x5,q⟩:=h
  have sc:=dP
  refine ⟨_,qG (kQ (i:=2) sc.nd rfl (Or.inl rfl) (qU c__law_draw hr (qA (pv 0) (qA (qK len0 rfl T.len_ kY (qA (pv 1) qB)) qB)))) (qM (q8 (qN bY (qN bY (jH h9 (pv 1) jT (jN (pv 2))) (jB (qA (qN jD (kL z6 (pv 1) (pv 2) (fun _ _=>rfl)) (kL z6 (jW (qA qD (qA (vH yG qD) (qA qD qB)))) (qU c__law_draw hr (qA (pv 0) (qA qD qB))) (fun _ _=>rfl))) qB))) (jH h9 (pv 1) (jN (qN jD (pv 2) qD)) jT)))),?_⟩
  rw [show L2.start ["_law_spool_here", "_law_some", "_law_at"] [.ref p,.ref a] = [some (.ref p),some (.ref a),none] from rfl]
  have sa:=kC ha
  (push_cast only [sa])
  refine ⟨p,l,_,rfl,sp,by omega,by omega,fun at_ H1 a0 a1 sp1 sx1=>?_⟩
  obtain ⟨at',rfl⟩:=AA a0
  have al:at' < xs.length:=by omega
  have ha1:=sx1 _ _ (sp.netx ha) ha
  have c1:=bT (xs:=xs.map V.int) (k:=at') (by rw [Aa];omega)
  have c2:zI (xs.map V.int) (some ((at':Int) + 1)) none=(xs.map V.int).drop (at' + 1):=bU (k:=at' + 1) (by rw [Aa];omega)
  have sa1:=kC ha1
  have ax:=vY (ns:=xs) (n:=at') al
  (simp only [qE])
  (push_cast only [ha1,c1,sa1,ax])
  refine fun p1 H2 s2 e2=>⟨_,kC (s2 _ _ ha1),_,ax,by decide,fun p2 H3 n3 s3 e3=>⟨p,l,3,rfl,(sp1.same s2).same s3,by decide,by decide,fun y H4 y0 y1 sp4 sx4=>?_⟩⟩
  obtain ⟨d,hd,d0,d1⟩:=three y0 y1
  have sp3:=(sp1.same s2).same s3
  have e34:=sx4 _ _ (sp3.nelx e3) e3
  have e24:=sx4 _ _ (sp3.netx (s3 _ _ e2)) (s3 _ _ e2)
  have ha3:=s3 _ _ (s2 _ _ ha1)
  have ha4:=sx4 _ _ (sp3.netx ha3) ha3
  refine ⟨_,y,rfl,kF e34,_,hd,_,rfl,_,rfl,by decide,fun p3 H5 n5 s5 e5=>⟨_,s5 _ _ e24,_,e5,?_,fun p4 H6 s6 e6=>⟨_,s6 _ _ (s5 _ _ ha4),fun p5 H7 s7 e7=>⟨_,s7 _ _ e6,_,e7,?_,fun p6 H8 s8 e8=>?_⟩⟩⟩⟩
  ·exact AH (qL (by rw [Aq,Aa];simp;omega))
  ·exact AH (qL (by rw [c2,Aj,Aq,Bv,Aa];simp;omega))
  ·have S:=((s5.trans s6).trans s7).trans s8
   have e8':H8 p6=some (.tup ((xs.take at' ++ [xs.getD at' 0 + d] ++ xs.drop (at' + 1)).map V.int)):=by
    rw [e8,c2,Ae,Ae,CB,CS]
    rfl
   refine q p6 _ H8 e8' (by rw [Aj,Aj,Aq,Bv,AL];omega) (fun z hz=>?_) (sp4.same S) ((((sx1.trans s2.x).trans s3.x).trans sx4).trans S.x)
   rcases A3.mp hz with z' | z'
   ·rcases A3.mp z' with z' | z'
    ·exact ⟨z,Bf z',by omega,by omega⟩
    ·rw [A5.mp z']
     exact ⟨xs.getD at' 0,by rw [Ab,Af al];exact AE al,by omega,by omega⟩
   ·exact ⟨z,B1 z',by omega,by omega⟩
noncomputable def Bk (k:Nat):Int:=4000000 * ((4 ^ k:Nat):Int)
noncomputable def Nk (k:Nat):Int:=1099511627776 * ((4 ^ k:Nat):Int)
theorem k4 {k:Nat}(h:k ≤ 2):4000000 ≤ Bk k∧Bk (k + 1)=4 * Bk k∧Bk (k + 1) ≤ 256000000∧1099511627776 ≤ Nk k∧Nk (k + 1)=4 * Nk k∧Nk (k + 1) ≤ 70368744177664:=by
 have key:∀ i:_root_.Fin 3,4000000 ≤ Bk i.val∧Bk (i.val + 1)=4 * Bk i.val∧Bk (i.val + 1) ≤ 256000000∧1099511627776 ≤ Nk i.val∧Nk (i.val + 1)=4 * Nk i.val∧Nk (i.val + 1) ≤ 70368744177664:=by decide
 exact key ⟨k,by omega⟩
noncomputable def In (B:Int)(x:Int):Prop:=-B ≤ x∧x ≤ B
structure RowsK (H:Hp)(k:Nat)(ra:Addr)(rs:List (Addr × R3)):Prop where
 at':H ra=some (.tup (rs.map fun r=>V.ref r.1))
 R:Rw H rs
 few:rs.length ≤ 10 + k
 bd:∀ r ∈ rs,In (Bk k) r.2.1∧In (Bk k) r.2.2.1∧In (Bk k) r.2.2.2
structure ThK (H:Hp)(n m k:Nat)(o ra na ga:Addr)(b:Int)(rs:List (Addr × R3))(ns gs:List Int):Prop where
 eo:H o=some (.tup [.int b,.ref ra,.ref na,.ref ga])
 bb:In (Bk k) b
 ro:RowsK H k ra rs
 en:H na=some (.tup (ns.map V.int))
 eg:H ga=some (.tup (gs.map V.int))
 nl:ns.length=m
 gl:gs.length=n
 nb:∀ x ∈ ns,In (Nk k) x
 gb:∀ x ∈ gs,In (Nk k) x
theorem RowsK.same {H H':Hp}{k:Nat}{ra:Addr}{rs:List (Addr × R3)}(r:RowsK H k ra rs)(s:Same H H'):RowsK H' k ra rs:=⟨s _ _ r.at',r.R.same s,r.few,r.bd⟩
theorem RowsK.sx {H H':Hp}{p l:Addr}{k:Nat}{ra:Addr}{rs:List (Addr × R3)}(r:RowsK H k ra rs)(sp:Spool H p l)(s:SameX p H H'):RowsK H' k ra rs:=⟨s _ _ (sp.netx r.at') r.at',fun x hx=>s _ _ (sp.netx (r.R x hx)) (r.R x hx),r.few,r.bd⟩
theorem ThK.same {H H':Hp}{n m k:Nat}{o ra na ga:Addr}{b:Int}{rs:List (Addr × R3)}{ns gs:List Int}(t:ThK H n m k o ra na ga b rs ns gs)(s:Same H H'):ThK H' n m k o ra na ga b rs ns gs:=⟨s _ _ t.eo,t.bb,t.ro.same s,s _ _ t.en,s _ _ t.eg,t.nl,t.gl,t.nb,t.gb⟩
theorem ThK.sx {H H':Hp}{p l:Addr}{n m k:Nat}{o ra na ga:Addr}{b:Int}{rs:List (Addr × R3)}{ns gs:List Int}(t:ThK H n m k o ra na ga b rs ns gs)(sp:Spool H p l)(s:SameX p H H'):ThK H' n m k o ra na ga b rs ns gs:=⟨s _ _ (sp.netx t.eo) t.eo,t.bb,t.ro.sx sp s,s _ _ (sp.netx t.en) t.en,s _ _ (sp.netx t.eg) t.eg,t.nl,t.gl,t.nb,t.gb⟩
theorem ThK.thp {H:Hp}{n m k:Nat}{o ra na ga:Addr}{b:Int}{rs:List (Addr × R3)}{ns gs:List Int}(t:ThK H n m k o ra na ga b rs ns gs)(hk:k ≤ 3):ThP H n m o ra na ga b rs ns gs:=by
 have top:Bk k ≤ 256000000∧Nk k ≤ 70368744177664:=by
  have key:∀ i:_root_.Fin 4,Bk i.val ≤ 256000000∧Nk i.val ≤ 70368744177664:=by decide
  exact key ⟨k,by omega⟩
 have bb:=t.bb
 have few:=t.ro.few
 unfold In at bb
 refine ⟨t.eo,by omega,⟨t.ro.at',t.ro.R,by omega,fun r hr=>?_⟩,t.en,t.eg,t.nl,t.gl,fun x hx=>?_,fun x hx=>?_⟩
 ·have:=(t.ro.bd r hr).2.2
  unfold In at this
  exact ⟨by omega,by omega⟩
 ·have:=t.nb x hx
  unfold In at this
  exact ⟨by omega,by omega⟩
 ·have:=t.gb x hx
  unfold In at this
  exact ⟨by omega,by omega⟩
theorem In.up {k:Nat}{x:Int}(hk:k ≤ 2)(h:In (Bk k) x):In (Bk (k + 1)) x:=by
 have:=k4 hk
 unfold In at h ⊢
 exact ⟨by omega,by omega⟩
theorem In.upN {k:Nat}{x:Int}(hk:k ≤ 2)(h:In (Nk k) x):In (Nk (k + 1)) x:=by
 have:=k4 hk
 unfold In at h ⊢
 exact ⟨by omega,by omega⟩
theorem RowsK.more {H H':Hp}{k:Nat}{ra:Addr}{rs:List (Addr × R3)}(hk:k ≤ 2)(r:RowsK H k ra rs)(s:Same H H'):RowsK H' (k + 1) ra rs:=⟨s _ _ r.at',r.R.same s,by have:=r.few;omega,fun x hx=>let ⟨a,b,c⟩:=r.bd x hx;⟨a.up hk,b.up hk,c.up hk⟩⟩
theorem RowsK.sub {H H':Hp}{k:Nat}{ra ra':Addr}{rs rs':List (Addr × R3)}(hk:k ≤ 2)(r:RowsK H k ra rs)(s:Same H H')(h:H' ra'=some (.tup (rs'.map fun r=>V.ref r.1)))(hl:rs'.length ≤ 10 + (k + 1))
  (new:∀ x ∈ rs',x ∈ rs∨H' x.1=some (.tup ((k3 x.2).map V.int))∧In (Bk (k + 1)) x.2.1∧In (Bk (k + 1)) x.2.2.1∧In (Bk (k + 1)) x.2.2.2):RowsK H' (k + 1) ra' rs':=by
 have q:=r.more hk s
 refine ⟨h,fun x hx=>?_,hl,fun x hx=>?_⟩
 ·rcases new x hx with z | z
  ·exact q.R x z
  ·exact z.1
 ·rcases new x hx with z | z
  ·exact q.bd x z
  ·exact z.2
theorem ThK.up {H:Hp}{n m k:Nat}{o ra na ga:Addr}{b:Int}{rs:List (Addr × R3)}{ns gs:List Int}(t:ThK H n m k o ra na ga b rs ns gs)(hk:k ≤ 2):ThK H n m (k + 1) o ra na ga b rs ns gs:=⟨t.eo,t.bb.up hk,t.ro.more hk (Same.refl H),t.en,t.eg,t.nl,t.gl,fun x hx=>(t.nb x hx).upN hk,fun x hx=>(t.gb x hx).upN hk⟩
theorem uS {k:Nat}{ns ys:List Int}(hk:k ≤ 2)(nb:∀ x ∈ ns,In (Nk k) x)(h:∀ y ∈ ys,∃ x ∈ ns,x - 1 ≤ y∧y ≤ x + 2):∀ y ∈ ys,In (Nk (k + 1)) y:=fun y hy=>by
 obtain ⟨x,hx,h1,h2⟩:=h y hy
 have:=k4 hk
 have:=nb x hx
 unfold In at this ⊢
 exact ⟨by omega,by omega⟩
theorem three_b {x b:Int}(h0:0 ≤ x)(h1:x < 3):∃ d:Int,xH [V.int 1,V.int (-1),V.int b] x=some (V.int d)∧(d=1∨d = -1∨d=b):=by
 have:x=0∨x=1∨x=2:=by omega
 rcases this with z | z | z <;> rw [z]
 ·exact ⟨1,rfl,.inl rfl⟩
 ·exact ⟨-1,rfl,.inr (.inl rfl)⟩
 ·exact ⟨b,rfl,.inr (.inr rfl)⟩
noncomputable def MI (c:Addr)(q:Int)(rs:List (Addr × R3))(G:Hp)(i:Nat)(σ:St)(H:Hp):Prop:=∃ (v1 v2 v3:Option V) (cs:List (Addr × R3)),σ=[v1,v2,v3]∧SameX c G H∧H c=some (.lst (cs.map fun x=>V.ref x.1))∧Rw H cs∧cs.map (·.2)=(rs.take i).map fun r=>(r.2.1,r.2.2.1,q * r.2.2.2)
theorem pQ {H3:Hp}{k:Nat}{ra c:Addr}{rs:List (Addr × R3)}{q:Int}{G:St→Hp→Prop}(ro:RowsK H3 k ra rs)(hk:k ≤ 2)(q0:q=2∨q=3)(nc:H3 c=none)
  (fin:∀ σ (cs:List (Addr × R3)) H2,Same H3 H2→H2 c=some (.lst (cs.map fun x=>V.ref x.1))→Rw H2 cs→cs.map (·.2)=(rs.map fun r=>(r.2.1,r.2.2.1,q * r.2.2.2))→G σ H2) :
  m3 (lF (fun H=>H ra=some (HO.tup (List.map (fun r=>V.ref r.fst) rs))) (List.map (fun r=>V.ref r.fst) rs)) (uE 3 (hZ (jZ 0) (hZ (jZ 1) (hZ (jZ 2) gNil)))) lJ (y6 c (tD (zU (j7 0) (zU (j7 1) (zU (tG (rI CMul fun i j=>V.int (i * j)) (tC (V.int q)) (j7 2)) mZ))))) G [none,none,none] (upd H3 c (HO.lst [])):=by
 have era3:=ro.at'
 have nac:ra ≠ c:=qC era3 nc
 have few:=ro.few
 refine zC (MI c q rs H3) ⟨none,none,none,[],rfl,SameX.upd,qF,(fun x hx=>by cases hx),rfl⟩ (fun j σ H' _ ⟨_,_,_,_,_,s,_⟩=>s _ _ nac era3) ?_ ?_
 ·rintro i x σ H1 hx ⟨v1,v2,v3,cs,rfl,s1,e1,T1,d1⟩
  rw [Ad] at hx
  obtain ⟨r,hr',rfl⟩:=Al.mp hx
  have er:=ro.R r (An hr')
  have er1:H1 r.1=some (.tup [.int r.2.1,.int r.2.2.1,.int r.2.2.2]):=s1 _ _ (qC er nc) er
  have hi:i < rs.length:=(Ag.mp hr').1
  (push_cast only [er1])
  refine ⟨.inl ⟨by rcases q0 with z | z <;> rw [z] <;> decide,by rcases q0 with z | z <;> rw [z] <;> decide⟩,by decide,fun p2 H2 n2 s2 e2=>?_⟩
  have ec:=s2 _ _ e1
  have xl:cs.length=i:=by
   have:=AY List.length d1
   rw [Aa,Aa,Aq] at this
   omega
  refine ⟨_,ec,qL (by rw [Aa];omega),_,_,_,cs ++ [(p2,(r.2.1,r.2.2.1,q * r.2.2.2))],rfl,(s1.trans s2.x).trans SameX.upd,by rw [qF,Ae];rfl,fun x hx=>?_,?_⟩
  ·have hx2:H2 x.1=some (.tup ((k3 x.2).map V.int)):=by
    rcases A3.mp hx with z | z
    ·exact s2 _ _ (T1 x z)
    ·rw [A5.mp z];exact e2
   rw [q9 (fun z=>by rw [z,ec] at hx2;cases hx2)]
   exact hx2
  ·rw [Ae,d1,A7,hr',Ae]
   rfl
 ·rintro σ H1 ⟨v1,v2,v3,cs,rfl,s1,e1,T1,d1⟩
  rw [Aa,AG] at d1
  exact fin _ cs H1 (s1.same nc) e1 T1 d1
theorem nO {H H':Hp}{k:Nat}{ra:Addr}{rs cs:List (Addr × R3)}{q:Int}{x:Addr × R3}(ro:RowsK H k ra rs)(hk:k ≤ 2)(q0:q=2∨q=3)(d:cs.map (·.2)=(rs.map fun r=>(r.2.1,r.2.2.1,q * r.2.2.2)))(hx:x ∈ cs)(e:H' x.1=some (.tup ((k3 x.2).map V.int))) :
  H' x.1=some (.tup ((k3 x.2).map V.int))∧In (Bk (k + 1)) x.2.1∧In (Bk (k + 1)) x.2.2.1∧In (Bk (k + 1)) x.2.2.2:=by
 have hm:x.2 ∈ rs.map fun r=>(r.2.1,r.2.2.1,q * r.2.2.2):=d ▸ Bp hx
 obtain ⟨r,hr,e2⟩:=Au.mp hm
 obtain ⟨a,b,c⟩:=ro.bd r hr
 refine ⟨e,?_⟩
 rw [← e2]
 refine ⟨a.up hk,b.up hk,?_⟩
 have:=k4 hk
 unfold In at c
 show -Bk (k + 1) ≤ q * r.2.2.2∧q * r.2.2.2 ≤ Bk (k + 1)
 rcases q0 with z | z <;> rw [z] <;> exact ⟨by omega,by omega⟩
noncomputable def NI (c:Addr)(q:Int)(xs:List Int)(G:Hp)(i:Nat)(σ:St)(H:Hp):Prop:=∃ v:Option V,σ=[v]∧SameX c G H∧H c=some (.lst (((xs.take i).map fun x=>q * x).map V.int))
theorem dX {H3:Hp}{a c:Addr}{xs:List Int}{q:Int}{G:St→Hp→Prop}(q0:q=2∨q=3)(ha:H3 a=some (.tup (xs.map V.int)))(x5:xs.length ≤ 5)(nc:H3 c=none)(fin:∀ σ H2,Same H3 H2→H2 c=some (.lst ((xs.map fun x=>q * x).map V.int))→G σ H2) :
  m3 (lF (fun H=>H a=some (HO.tup (xs.map V.int))) (xs.map V.int)) (jZ 0) lJ (y6 c (tG (rI CMul fun i j=>V.int (i * j)) (tC (V.int q)) (j7 0))) G [none] (upd H3 c (HO.lst [])):=by
 have nac:a ≠ c:=qC ha nc
 refine zC (NI c q xs H3) ⟨none,rfl,SameX.upd,qF⟩ (fun j σ H' _ ⟨_,_,s,_⟩=>s _ _ nac ha) ?_ ?_
 ·rintro i x σ H1 hx ⟨v,rfl,s1,e1⟩
  rw [Ad] at hx
  obtain ⟨n,hn,rfl⟩:=Al.mp hx
  (push_cast only [])
  refine ⟨.inl ⟨by rcases q0 with z | z <;> rw [z] <;> decide,by rcases q0 with z | z <;> rw [z] <;> decide⟩,_,e1,qL (by rw [Aa,Aa,Aq];omega),_,rfl,s1.trans SameX.upd,?_⟩
  rw [qF,A7,hn,Ae,Ae]
  rfl
 ·rintro σ H1 ⟨v,rfl,s1,e1⟩
  rw [Aa,AG] at e1
  exact fin _ H1 (s1.same nc) e1
theorem nQ {k:Nat}{ns:List Int}{q:Int}(hk:k ≤ 2)(q0:q=2∨q=3)(nb:∀ x ∈ ns,In (Nk k) x):∀ y ∈ ns.map (fun x=>q * x),In (Nk (k + 1)) y:=fun y hy=>by
 obtain ⟨x,hx,rfl⟩:=Au.mp hy
 have:=k4 hk
 have:=nb x hx
 unfold In at this ⊢
 rcases q0 with z | z <;> rw [z] <;> exact ⟨by omega,by omega⟩
theorem or_if {c d A B:Prop}[Decidable c][Decidable d](ha:c∨d→A)(hb:¬ c→¬ d→B):if c then A else if d then A else B:=by
 by_cases hc:c
 ·rw [Ai hc];exact ha (.inl hc)
 ·rw [Ah hc]
  by_cases hd:d
  ·rw [Ai hd];exact ha (.inr hd)
  ·rw [Ah hd];exact hb hc hd
noncomputable def r3 (x:List Int):R3:=(x.getD 0 0,x.getD 1 0,x.getD 2 0)
theorem o5 {k:Nat}{b q:Int}(hk:k ≤ 2)(q0:q=2∨q=3)(bb:In (Bk k) b):In (Bk (k + 1)) (q * b):=by
 have:=k4 hk
 unfold In at bb ⊢
 rcases q0 with z | z <;> rw [z] <;> exact ⟨by omega,by omega⟩
theorem In.low {k:Nat}{x:Int}(hk:k ≤ 2)(h0 : -100 ≤ x)(h1:x ≤ 100):In (Bk (k + 1)) x:=by
 have:=k4 hk
 unfold In
 exact ⟨by omega,by omega⟩
theorem r3k {ys:List Int}(h:ys.length=3):k3 (r3 ys)=ys:=by
 match ys,h with
 | [_,_,_],_=>rfl
theorem bent_row {k:Nat}{r:R3}{ys:List Int}(hk:k ≤ 2)(b:In (Bk k) r.1∧In (Bk k) r.2.1∧In (Bk k) r.2.2)(l:ys.length=3)(h:∀ y ∈ ys,∃ x ∈ k3 r,x - 1 ≤ y∧y ≤ x + 2):In (Bk (k + 1)) (r3 ys).1∧In (Bk (k + 1)) (r3 ys).2.1∧In (Bk (k + 1)) (r3 ys).2.2:=by
 have one:∀ y ∈ ys,In (Bk (k + 1)) y:=fun y hy=>by
  obtain ⟨x,hx,h1,h2⟩:=h y hy
  have:=k4 hk
  have bx:In (Bk k) x:=by
   simp only [k3,A4,Ck,or_false] at hx
   rcases hx with z | z | z <;> rw [z]
   ·exact b.1
   ·exact b.2.1
   ·exact b.2.2
  unfold In at bx ⊢
  exact ⟨by omega,by omega⟩
 match ys,l,one with
 | [y0,y1,y2],_,one=>exact ⟨one y0 (by simp),one y1 (by simp),one y2 (by simp)⟩
noncomputable def iU:Sp:=fun vs H Q _=>∃ (p l o ra na ga:Addr) (n m k:Nat) (b:Int) (rs:List (Addr × R3)) (ns gs:List Int),vs=[.ref p,.ref o]∧Spool H p l∧ThK H n m k o ra na ga b rs ns gs∧k ≤ 2∧1 ≤ m∧m ≤ 5∧1 ≤ n∧n ≤ 5∧∀ (o' ra' na' ga':Addr) (b':Int) (rs':List (Addr × R3)) (ns' gs':List Int) (H':Hp),ThK H' n m (k + 1) o' ra' na' ga' b' rs' ns' gs'→Spool H' p l→SameX p H H'→Q (.ref o') H'
theorem xD:FnScope ["_law_spool_here", "_law_thing", "_law_by", "_law_rows", "_law_numbers", "_law_gains", "_law_way", "_law_more", "_law_at", "_law_hand", "_law_heap", "_law_part"] ["_law_spool_here", "_law_thing"] (qI s__law_otherwise):=⟨rfl,rfl,rfl,by decide +kernel,rfl,by decide +kernel,by decide +kernel⟩
theorem ok_oth (F:Fun K "_law_otherwise" "_law_otherwise" s__law_otherwise f fd) (hm:mg "_law_otherwise" = some (.ref f)) (hb:Binds K fd ["_law_spool_here", "_law_thing"] []) (T:Txt mg) (c__law_draw:j4 P w K mg base "_law_draw" ["_law_spool_here", "_law_many"] 2 vO) (c__law_bent:j4 P w K mg base "_law_bent" ["_law_spool_here", "_law_some"] 3 tM):j4 P w K mg base "_law_otherwise" ["_law_spool_here", "_law_thing"] 4 iU:=by
 refine kU F hm hb xD (fun vs H Q E h=>?_) (fun cdv A outer s H vs Q E hr h=>?_)
 ·obtain ⟨_,_,_,_,_,_,_,_,_,_,_,_,_,rfl,_⟩:=h;rfl
 ·obtain ⟨p,l,o,ra,na,ga,n,m,k,b,rs,ns,gs,rfl,sp,th,hk,m1,m5,n1,n5,q⟩:=h
  have sc:=xD
  refine ⟨_,qG (zG (pv 1) (kK (n:=4) rfl (qJ (qH (i:=2) sc.nd rfl (Or.inl rfl)) (qJ (qH (i:=3) sc.nd rfl (Or.inl rfl)) (qJ (qH (i:=4) sc.nd rfl (Or.inl rfl)) (qJ (qH (i:=5) sc.nd rfl (Or.inl rfl)) kJ)))))) (qG (kQ (i:=6) sc.nd rfl (Or.inl rfl) (qU c__law_draw hr (qA (pv 0) (qA qD qB)))) (qG (jV (kD jR (pv 6) qD (kA _)) (qM (q8 (jB (qA (qN jD (pv 2) (kL z6 (jW (qA qD (qA (vH yG qD) (qA (pv 2) qB)))) (qU c__law_draw hr (qA (pv 0) (qA qD qB))) (fun _ _=>rfl))) (qA (pv 3) (qA (pv 4) (qA (pv 5) qB))))))) kW) (qG (jV (kD jR (pv 6) qD (kA _)) (qM (q8 (jB (qA (pv 2) (qA (pv 3) (qA (qU c__law_bent hr (qA (pv 0) (qA (pv 4) qB))) (qA (pv 5) qB))))))) kW) (qG (jV (kD jR (pv 6) qD (kA _)) (qM (q8 (jB (qA (pv 2) (qA (pv 3) (qA (pv 4) (qA (qU c__law_bent hr (qA (pv 0) (qA (pv 5) qB))) qB))))))) kW) (qG (jV (kD jR (pv 6) qD (kA _)) (qG (yE (i:=7) sc.nd rfl (Or.inl rfl) (N:=["_law_hand", "_law_heap", "_law_part"]) (fr:=[none,none,none]) rfl (zH (pv 3)) (CScope.of rfl rfl rfl) rfl (fun _ _ _=>⟨kK (n:=3) rfl (qJ (qH (i:=0) (show List.Nodup (α:=Str) ["_law_hand", "_law_heap", "_law_part"] by decide +kernel) rfl (Or.inl rfl)) (qJ (qH (i:=1) (show List.Nodup (α:=Str) ["_law_hand", "_law_heap", "_law_part"] by decide +kernel) rfl (Or.inl rfl)) (qJ (qH (i:=2) (show List.Nodup (α:=Str) ["_law_hand", "_law_heap", "_law_part"] by decide +kernel) rfl (Or.inl rfl)) kJ))),kH,jB (qA (pv 0) (qA (pv 1) (qA (qN jU qD (pv 2)) qB)))⟩)) (qM (q8 (jB (qA (qN jU qD (pv 2)) (qA (kZ yM rfl T.tuple_ kX (qA (pv 7) qB)) (qA (kZ yM rfl T.tuple_ kX (qA (jO (N:=["_law_one"]) (fr:=[none]) rfl (zH (pv 4)) (CScope.of rfl rfl rfl) rfl (fun _ _ _=>⟨qH (i:=0) (show List.Nodup (α:=Str) ["_law_one"] by decide +kernel) rfl (Or.inl rfl),kH,qN jU qD (pv 0)⟩)) qB)) (qA (kZ yM rfl T.tuple_ kX (qA (jO (N:=["_law_one"]) (fr:=[none]) rfl (zH (pv 5)) (CScope.of rfl rfl rfl) rfl (fun _ _ _=>⟨qH (i:=0) (show List.Nodup (α:=Str) ["_law_one"] by decide +kernel) rfl (Or.inl rfl),kH,qN jU qD (pv 0)⟩)) qB)) qB)))))))) kW) (qG (jV (PW.pt (yA (kD (eqTN0 hr.units0) (pv 3) (jB qB) (kA _)) (yJ (kD jR (pv 6) qD (kA _))))) (qM (q8 (jB (qA (pv 2) (qA (kZ yM rfl T.tuple_ kX (qA (qK iY rfl T.sorted_ fT (qA (qN bY (pv 3) (jB (qA (jB (qA (qU c__law_draw hr (qA (pv 0) (qA qD qB))) (qA (qN jD qD (qU c__law_draw hr (qA (pv 0) (qA qD qB)))) (qA qD qB)))) qB))) qB)) qB)) (qA (pv 4) (qA (pv 5) qB))))))) kW) (qG (kQ (i:=8) sc.nd rfl (Or.inl rfl) (qU c__law_draw hr (qA (pv 0) (qA (qK len0 rfl T.len_ kY (qA (pv 3) qB)) qB)))) (qG (jV (kD jR (pv 6) qD (kA _)) (qG (zG (kL z6 (pv 3) (pv 8) (fun _ _=>rfl)) (kK (n:=3) rfl (qJ (qH (i:=9) sc.nd rfl (Or.inl rfl)) (qJ (qH (i:=10) sc.nd rfl (Or.inl rfl)) (qJ (qH (i:=11) sc.nd rfl (Or.inl rfl)) kJ))))) (qG (yE (i:=7) sc.nd rfl (Or.inl rfl) (N:=["_law_one", "_law_other", "_law_many"]) (fr:=[none,none,none]) rfl (zH (pv 3)) (CScope.of rfl rfl rfl) rfl (fun _ _ _=>⟨kK (n:=3) rfl (qJ (qH (i:=0) (show List.Nodup (α:=Str) ["_law_one", "_law_other", "_law_many"] by decide +kernel) rfl (Or.inl rfl)) (qJ (qH (i:=1) (show List.Nodup (α:=Str) ["_law_one", "_law_other", "_law_many"] by decide +kernel) rfl (Or.inl rfl)) (qJ (qH (i:=2) (show List.Nodup (α:=Str) ["_law_one", "_law_other", "_law_many"] by decide +kernel) rfl (Or.inl rfl)) kJ))),kH,jB (qA (pv 0) (qA (pv 1) (qA (qN jU qD (pv 2)) qB)))⟩)) (qG (kQ (i:=7) sc.nd rfl (Or.inl rfl) (qN vJ (qN vJ (jH rZ (pv 7) jT (jN (pv 8))) (jW (qA (jB (qA (pv 9) (qA (pv 10) (qA (pv 11) qB)))) (qA (jB (qA (pv 9) (qA (pv 10) (qA (qN jU qD (pv 11)) qB)))) qB)))) (jH rZ (pv 7) (jN (qN jD (pv 8) qD)) jT))) (qM (q8 (jB (qA (qN jU qD (pv 2)) (qA (kZ yM rfl T.tuple_ kX (qA (pv 7) qB)) (qA (kZ yM rfl T.tuple_ kX (qA (jO (N:=["_law_one"]) (fr:=[none]) rfl (zH (pv 4)) (CScope.of rfl rfl rfl) rfl (fun _ _ _=>⟨qH (i:=0) (show List.Nodup (α:=Str) ["_law_one"] by decide +kernel) rfl (Or.inl rfl),kH,qN jU qD (pv 0)⟩)) qB)) (qA (kZ yM rfl T.tuple_ kX (qA (jO (N:=["_law_one"]) (fr:=[none]) rfl (zH (pv 5)) (CScope.of rfl rfl rfl) rfl (fun _ _ _=>⟨qH (i:=0) (show List.Nodup (α:=Str) ["_law_one"] by decide +kernel) rfl (Or.inl rfl),kH,qN jU qD (pv 0)⟩)) qB)) qB)))))))))) kW) (qG (jV (kD jR (pv 6) qD (kA _)) (qM (q8 (jB (qA (pv 2) (qA (qN bY (jH h9 (pv 3) jT (jN (pv 8))) (jH h9 (pv 3) (jN (qN jD (pv 8) qD)) jT)) (qA (pv 4) (qA (pv 5) qB))))))) kW) (qM (q8 (jB (qA (pv 2) (qA (qN bY (qN bY (jH h9 (pv 3) jT (jN (pv 8))) (jB (qA (qU c__law_bent hr (qA (pv 0) (qA (kL z6 (pv 3) (pv 8) (fun _ _=>rfl)) qB))) qB))) (jH h9 (pv 3) (jN (qN jD (pv 8) qD)) jT)) (qA (pv 4) (qA (pv 5) qB)))))))))))))))),?_⟩
  rw [show L2.start ["_law_spool_here", "_law_thing", "_law_by", "_law_rows", "_law_numbers", "_law_gains", "_law_way", "_law_more", "_law_at", "_law_hand", "_law_heap", "_law_part"] [.ref p,.ref o] = [some (.ref p),some (.ref o),none,none,none,none,none,none,none,none,none,none] from rfl]
  have eo:=th.eo
  (push_cast only [eo])
  (simp only [qE])
  (push_cast only [])
  refine ⟨p,l,8,rfl,sp,by decide,by decide,fun way H1 w0 w1 sp1 sx1=>?_⟩
  have th1:=th.sx sp sx1
  (simp only [qE])
  (push_cast only [])
  have u1:=th1.up hk
  by_cases w00:way=0
  ·rw [Ai w00]
   refine ⟨by decide,fun p1 H2 n2 s2 e2=>⟨p,l,3,rfl,sp1.same s2,by decide,by decide,fun y H3 y0 y1 sp3 sx3=>?_⟩⟩
   have e3:=sx3 _ _ ((sp1.same s2).nelx e2) e2
   obtain ⟨d,hd,dd⟩:=three_b (b:=b) y0 y1
   refine ⟨_,y,rfl,kF e3,_,hd,_,rfl,by decide,fun p4 H4 n4 s4 e4=>?_⟩
   have u4:=((u1.same s2).sx (sp1.same s2) sx3).same s4
   have b4:In (Bk (k + 1)) (b + d):=by
    have:=k4 hk
    have bb:=th1.bb
    unfold In at bb ⊢
    rcases dd with z | z | z <;> rw [z] <;> exact ⟨by omega,by omega⟩
   exact q p4 ra na ga _ rs ns gs H4 ⟨e4,b4,u4.ro,u4.en,u4.eg,u4.nl,u4.gl,u4.nb,u4.gb⟩ (sp3.same s4) (((sx1.trans s2.x).trans sx3).trans s4.x)
  rw [Ah w00]
  (simp only [qE])
  (push_cast only [])
  by_cases w11:way=1
  ·rw [Ai w11]
   refine ⟨p,l,na,ns,rfl,sp1,th1.en,by rw [th1.nl];exact m1,by rw [th1.nl];exact m5,fun o2 ys H2 e2 yl yb sp2 sx2=>⟨by decide,fun p3 H3 n3 s3 e3=>?_⟩⟩
   have u3:=(u1.sx sp1 sx2).same s3
   exact q p3 ra o2 ga b rs ys gs H3 ⟨e3,u3.bb,u3.ro,s3 _ _ e2,u3.eg,by rw [yl,u3.nl],u3.gl,uS hk th1.nb yb,u3.gb⟩ (sp2.same s3) ((sx1.trans sx2).trans s3.x)
  rw [Ah w11]
  (simp only [qE])
  (push_cast only [])
  by_cases w22:way=2
  ·rw [Ai w22]
   refine ⟨p,l,ga,gs,rfl,sp1,th1.eg,by rw [th1.gl];exact n1,by rw [th1.gl];exact n5,fun o2 ys H2 e2 yl yb sp2 sx2=>⟨by decide,fun p3 H3 n3 s3 e3=>?_⟩⟩
   have u3:=(u1.sx sp1 sx2).same s3
   exact q p3 ra na o2 b rs ns ys H3 ⟨e3,u3.bb,u3.ro,u3.en,s3 _ _ e2,u3.nl,by rw [yl,u3.gl],u3.nb,uS hk th1.gb yb⟩ (sp2.same s3) ((sx1.trans sx2).trans s3.x)
  rw [Ah w22]
  have era1:=th1.ro.at'
  (simp only [qE])
  (push_cast only [era1])
  by_cases w33:way=3
  ·rw [Ai w33]
   refine fun c nc=>pQ th1.ro hk (.inl rfl) nc fun σ cs H2 s2 e2 T2 d2=>?_
   have en2:=s2 _ _ th1.en
   have eg2:=s2 _ _ th1.eg
   (simp only [qE])
   (push_cast only [e2,en2,eg2])
   have nl:=th1.nl
   have gl:=th1.gl
   refine ⟨.inl ⟨by decide,by decide⟩,fun l3 H3 n3 s3 e3=>⟨_,s3 _ _ en2,fun c4 n4=>dX (.inl rfl) (s3 _ _ en2) (by omega) n4 fun σ4 H4 s4 e4=>⟨_,e4,fun l5 H5 n5' s5 e5=>?_⟩⟩⟩
   have eg5:=s5 _ _ (s4 _ _ (s3 _ _ eg2))
   refine ⟨_,eg5,fun c6 n6=>dX (.inl rfl) eg5 (by omega) n6 fun σ6 H6 s6 e6=>⟨_,e6,fun l7 H7 n7 s7 e7=>⟨by decide,fun p8 H8 n8 s8 e8=>?_⟩⟩⟩
   have S57:=(s6.trans s7).trans s8
   have S38:=((s4.trans s5).trans S57)
   have S:=(s2.trans s3).trans S38
   have cl:cs.length=rs.length:=by have:=AY List.length d2;rwa [Aa,Aa] at this
   have few:=th1.ro.few
   exact q p8 l3 l5 l7 (2 * b) cs _ _ H8 ⟨e8,o5 hk (.inl rfl) th1.bb,th1.ro.sub hk S (S38 _ _ e3) (by omega) fun x hx=>.inr (nO th1.ro hk (.inl rfl) d2 hx (S38 _ _ (s3 _ _ (T2 x hx)))),S57 _ _ e5,s8 _ _ e7,by rw [Aa,nl],by rw [Aa,gl],nQ hk (.inl rfl) th1.nb,nQ hk (.inl rfl) th1.gb⟩ (sp1.same S) (sx1.trans S.x)
  rw [Ah w33]
  (simp only [qE])
  (push_cast only [era1,a_rEqTN])
  refine ⟨by decide,fun c2 H2 n2 s2 e2=>⟨_,s2 _ _ era1,e2,?_⟩⟩
  have sp2:=sp1.same s2
  have th2:=th1.same s2
  have u2:=th2.up hk
  have sx2:SameX p H H2:=sx1.trans s2.x
  have few:=th1.ro.few
  refine or_if (fun _=>?_) (fun em w44=>?_)
  ·refine ⟨p,l,3,rfl,sp2,by decide,by decide,fun x H3 x0 x1 sp3 sx3=>⟨p,l,8,rfl,sp3,by decide,by decide,fun y H4 y0 y1 sp4 sx4=>⟨y,rfl,by decide,fun p5 H5 n5' s5 e5=>⟨by decide,fun p6 H6 n6 s6 e6=>?_⟩⟩⟩⟩
   have th4:=(th2.sx sp2 sx3).sx sp3 sx4
   have th6:=(th4.same s5).same s6
   refine ⟨_,th6.ro.at',_,e6,?_,fun p7 H7 s7 e7=>⟨(rs.map fun r=>(r.1,k3 r.2)) ++ [(p5,[x,1 + y,1])],by rw [e7,Ae,AF];rfl,?_,fun z hz=>?_,fun l8 qs H8 n8 s8 pm e8=>?_⟩⟩
   ·exact AH (qL (by rw [Aa];simp;omega))
   ·rw [Aj,Aa,AL]
    omega
   ·rcases A3.mp hz with z' | z'
    ·obtain ⟨r,hr',rfl⟩:=Au.mp z'
     exact ⟨s7 _ _ (th6.ro.R r hr'),by intro y;cases y⟩
    ·rw [A5.mp z']
     exact ⟨s7 _ _ (s6 _ _ e5),by intro y;cases y⟩
   ·refine ⟨_,e8,fun l9 H9 n9 s9 e9=>⟨by decide,fun p10 H10 n10 s10 e10=>?_⟩⟩
    have S5:=((s6.trans s7).trans s8).trans (s9.trans s10)
    have S4:=s5.trans S5
    have u10:=(th4.up hk).same S4
    have e9':H10 l9=some (.tup ((qs.map fun x=>(x.1,r3 x.2)).map fun r=>V.ref r.1)):=by
     rw [s10 _ _ e9,AF]
     rfl
    refine q p10 l9 na ga b (qs.map fun x=>(x.1,r3 x.2)) ns gs H10 ⟨e10,u10.bb,th4.ro.sub hk S4 e9' ?_ fun z hz=>?_,u10.en,u10.eg,u10.nl,u10.gl,u10.nb,u10.gb⟩ (sp4.same S4) (((sx2.trans sx3).trans sx4).trans S4.x)
    ·rw [Aa,pm.length_eq,Aj,Aa,AL]
     omega
    ·obtain ⟨x',hx',rfl⟩:=Au.mp hz
     rcases A3.mp (pm.mem_iff.mp hx') with z' | z'
     ·obtain ⟨r,hr',rfl⟩:=Au.mp z'
      exact .inl hr'
     ·rw [A5.mp z']
      exact .inr ⟨S5 _ _ e5,In.low hk (by show _ ≤ x;omega) (by show x ≤ _;omega),In.low hk (by show _ ≤ 1 + y;omega) (by show 1 + y ≤ _;omega),In.low hk (by show _ ≤ (1:Int);decide) (by show (1:Int) ≤ _;decide)⟩
  rw [List.isEmpty_iff] at em
  obtain ⟨r0,rr,ers⟩:∃ r0 rr,rs=r0 :: rr:=by
   cases rs with
   | nil=>exact absurd rfl em
   | cons a b=>exact ⟨a,b,rfl⟩
  have len:1 ≤ rs.length:=by rw [ers];exact Nat.le_add_left _ _
  have era2:=kC th2.ro.at'
  (simp only [qE])
  (push_cast only [era2])
  refine ⟨p,l,_,rfl,sp2,by omega,by omega,fun at_ H3 a0 a1 sp3 sx3=>?_⟩
  obtain ⟨at',rfl⟩:=AA a0
  have al:at' < rs.length:=by omega
  have th3:=th2.sx sp2 sx3
  have era3:=th3.ro.at'
  have c1:=bT (xs:=rs.map fun r=>V.ref r.1) (k:=at') (by rw [Aa];omega)
  have c2:zI (rs.map fun r=>V.ref r.1) (some ((at':Int) + 1)) none=(rs.map fun r=>V.ref r.1).drop (at' + 1):=bU (k:=at' + 1) (by rw [Aa];omega)
  obtain ⟨r,hr'⟩:∃ r,rs[at']? = some r:=⟨rs[at'],Af al⟩
  have rm:=An hr'
  have er3:=th3.ro.R r rm
  have er3':H3 r.1=some (.tup [.int r.2.1,.int r.2.2.1,.int r.2.2.2]):=er3
  have sq3:=kC era3
  have i3:xH (rs.map fun r=>V.ref r.1) (at':Int)=some (V.ref r.1):=zO (by rw [Ad,hr'];rfl)
  (simp only [qE])
  (push_cast only [era3,c1,sq3,i3,er3'])
  have plr:=th3.ro.bd r rm
  by_cases w77:way=7
  ·rw [Ai w77]
   (simp only [qE])
   (push_cast only [era3])
   refine fun c nc=>pQ th3.ro hk (.inr rfl) nc fun σ cs H4 s4 e4 T4 d4=>?_
   (simp only [qE])
   have cl:cs.length=rs.length:=by have:=AY List.length d4;rwa [Aa,Aa] at this
   have c3:=bT (xs:=cs.map fun r=>V.ref r.1) (k:=at') (by rw [Aa];omega)
   have c4:zI (cs.map fun r=>V.ref r.1) (some ((at':Int) + 1)) none=(cs.map fun r=>V.ref r.1).drop (at' + 1):=bU (k:=at' + 1) (by rw [Aa];omega)
   (push_cast only [e4,c3])
   have few:=th3.ro.few
   refine fun d nd=>?_
   have sd:=kI (o:=.lst (List.take at' (List.map (fun x=>V.ref x.fst) cs))) nd
   refine ⟨by decide,fun t1 H5 n5 s5 e5=>⟨.inl ⟨by decide,by decide⟩,by decide,fun t2 H6 n6 s6 e6=>⟨by decide,fun l2 H7 n7 s7 e7=>?_⟩⟩⟩
   have ed:=s7 _ _ (s6 _ _ (s5 _ _ (qF (H:=H4) (a:=d) (o:=.lst (List.take at' (List.map (fun x=>V.ref x.fst) cs))))))
   refine ⟨_,ed,_,e7,?_,fun l3 H8 n8 s8 e8=>⟨_,s8 _ _ (s7 _ _ (s6 _ _ (s5 _ _ (sd _ _ e4)))),fun l4 n4=>?_⟩⟩
   ·rw [Aq,Aa]
    exact AH (qL (by simp;omega))
   rw [c4]
   have sn:=kI (o:=.lst (List.drop (at' + 1) (List.map (fun x=>V.ref x.fst) cs))) n4
   refine ⟨_,sn _ _ e8,?_,fun l5 H9 n9 s9 e9=>?_⟩
   ·rw [Aj,Aq,Bv,Aa]
    exact AH (qL (by simp;omega))
   have e9':H9 l5=some (.lst ((cs.take at' ++ [(t1,(r.2.1,r.2.2.1,r.2.2.2)),(t2,(r.2.1,r.2.2.1,2 * r.2.2.2))] ++ cs.drop (at' + 1)).map fun r=>V.ref r.1)):=by
    rw [e9,Ae,Ae,CB,CS]
    rfl
   have S69:=((s7.trans s8).trans sn).trans s9
   have S59:=s6.trans S69
   have S49:=(sd.trans s5).trans S59
   have S39:=s4.trans S49
   have th9:=th3.same S39
   have en9:=th9.en
   have eg9:=th9.eg
   have nl:=th9.nl
   have gl:=th9.gl
   (simp only [qE])
   (push_cast only [e9',en9,eg9])
   refine ⟨.inl ⟨by decide,by decide⟩,fun k3' H10 n10 s10 e10=>⟨_,s10 _ _ en9,fun c4' n4'=>dX (.inr rfl) (s10 _ _ en9) (by omega) n4' fun σ4 H11 s11 e11=>⟨_,e11,fun k5 H12 n12 s12 e12=>?_⟩⟩⟩
   have eg12:=s12 _ _ (s11 _ _ (s10 _ _ eg9))
   refine ⟨_,eg12,fun c6 n6'=>dX (.inr rfl) eg12 (by omega) n6' fun σ6 H13 s13 e13=>⟨_,e13,fun k7 H14 n14 s14 e14=>⟨by decide,fun p8 H15 n15 s15 e15=>?_⟩⟩⟩
   have Sc:=(s13.trans s14).trans s15
   have Sb:=(s11.trans s12).trans Sc
   have Sa:=s10.trans Sb
   have S:=S39.trans Sa
   refine q p8 k3' k5 k7 (3 * b) _ _ _ H15 ⟨e15,o5 hk (.inr rfl) th1.bb,th3.ro.sub hk S (Sb _ _ e10) (by rw [Aj,Aj,Aq,Bv];simp;omega) fun x hx=>.inr ?_,Sc _ _ e12,s15 _ _ e14,by rw [Aa,nl],by rw [Aa,gl],nQ hk (.inr rfl) th1.nb,nQ hk (.inr rfl) th1.gb⟩ (sp3.same S) ((sx2.trans sx3).trans S.x)
   have S415:=S49.trans Sa
   rcases A3.mp hx with z | z
   ·rcases A3.mp z with z | z
    ·exact nO th3.ro hk (.inr rfl) d4 (Bf z) (S415 _ _ (T4 x (Bf z)))
    ·rcases A4.mp z with z | z
     ·rw [z]
      exact ⟨(S59.trans Sa) _ _ e5,plr.1.up hk,plr.2.1.up hk,plr.2.2.up hk⟩
     ·rw [A5.mp z]
      exact ⟨(S69.trans Sa) _ _ e6,plr.1.up hk,plr.2.1.up hk,o5 hk (.inl rfl) plr.2.2⟩
   ·exact nO th3.ro hk (.inr rfl) d4 (B1 z) (S415 _ _ (T4 x (B1 z)))
  rw [Ah w77]
  (simp only [qE])
  (push_cast only [era3,c1])
  by_cases w55:way=5
  ·rw [Ai w55]
   refine fun p1 H4 s4 e4=>⟨_,s4 _ _ era3,fun p2 H5 s5 e5=>⟨_,s5 _ _ e4,_,e5,?_,fun p3 H6 s6 e6=>⟨by decide,fun o' H7 n7 s7 e7=>?_⟩⟩⟩
   ·rw [c2,Aq,Bv,Aa]
    exact AH (qL (by omega))
   ·rw [c2,← CB,← CS,← Ae] at e6
    have S:=((s4.trans s5).trans s6).trans s7
    have u:=(th3.up hk).same S
    refine q o' p3 na ga b _ ns gs H7 ⟨e7,u.bb,th3.ro.sub hk S (s7 _ _ e6) (by rw [Aj,Aq,Bv];omega) fun x hx=>.inl ?_,u.en,u.eg,u.nl,u.gl,u.nb,u.gb⟩ (sp3.same S) ((sx2.trans sx3).trans S.x)
    rcases A3.mp hx with z | z
    ·exact Bf z
    ·exact B1 z
  rw [Ah w55]
  (simp only [qE])
  (push_cast only [era3,c1,sq3,i3])
  refine fun p1 H4 s4 e4=>⟨_,kC (s4 _ _ era3),_,i3,p,l,r.1,k3 r.2,rfl,sp3.same s4,s4 _ _ er3,(show 1 ≤ 3 by decide),(show 3 ≤ 5 by decide),fun o2 ys H5 e5 yl yb sp5 sx5=>⟨by decide,fun p2 H6 n6 s6 e6=>?_⟩⟩
  have sp4:=sp3.same s4
  have th5:=(th3.same s4).sx sp4 sx5
  refine ⟨_,s6 _ _ (sx5 _ _ (sp4.netx e4) e4),_,e6,?_,fun p3 H7 s7 e7=>⟨_,s7 _ _ (s6 _ _ th5.ro.at'),fun p4 H8 s8 e8=>⟨_,s8 _ _ e7,_,e8,?_,fun p5 H9 s9 e9=>⟨by decide,fun p6 H10 n10 s10 e10=>?_⟩⟩⟩⟩
  ·rw [Aq,Aa]
   exact AH (qL (by simp;omega))
  ·rw [c2,Aj,Aq,Bv,Aa]
   exact AH (qL (by simp;omega))
  ·have S:=(((s6.trans s7).trans s8).trans s9).trans s10
   have u:=(th5.up hk).same S
   have e9':H9 p5=some (.tup ((rs.take at' ++ [(o2,r3 ys)] ++ rs.drop (at' + 1)).map fun r=>V.ref r.1)):=by
    rw [e9,c2,Ae,Ae,CB,CS]
    rfl
   refine q p6 p5 na ga b _ ns gs H10 ⟨e10,u.bb,th5.ro.sub hk S (s10 _ _ e9') (by rw [Aj,Aj,Aq,Bv];simp;omega) fun x hx=>?_,u.en,u.eg,u.nl,u.gl,u.nb,u.gb⟩ (sp5.same S) ((((sx2.trans sx3).trans s4.x).trans sx5).trans S.x)
   rcases A3.mp hx with z | z
   ·rcases A3.mp z with z | z
    ·exact .inl (Bf z)
    ·rw [A5.mp z]
     refine .inr ⟨?_,bent_row hk plr yl yb⟩
     show H10 o2=some (.tup ((k3 (r3 ys)).map V.int))
     rw [r3k yl]
     exact S _ _ e5
   ·exact .inl (B1 z)
noncomputable def lP:Sp:=fun vs H Q _=>∃ b c:Bool,vs=[.bl b,.bl c]∧Q (.bl (decide (b=c))) H
theorem gQ:FnScope ["_law_found", "_law_due"] ["_law_found", "_law_due"] (qI s__law_truth):=⟨rfl,rfl,rfl,by decide +kernel,rfl,by decide +kernel,by decide +kernel⟩
theorem oR (F:Fun K "_law_truth" "_law_truth" s__law_truth f fd) (hm:mg "_law_truth" = some (.ref f)) (hb:Binds K fd ["_law_found", "_law_due"] []) (T:Txt mg):j4 P w K mg base "_law_truth" ["_law_found", "_law_due"] 1 lP:=by
 refine kU F hm hb gQ (fun vs H Q E h=>?_) (fun cdv A outer s H vs Q E hr h=>?_)
 ·obtain ⟨_,_,rfl,_⟩:=h;rfl
 ·obtain ⟨b,c,rfl,q⟩:=h
  have sc:=gQ
  refine ⟨_,qM (q8 (zY (qK vX rfl T.isinstance_ kG (qA (pv 0) (qA (jX (v:=.ty "bool") rfl T.bool_ d6 rfl) qB))) (yL (jK jR (pv 0) (pv 1) (kA _))))),?_⟩
  rw [show L2.start ["_law_found", "_law_due"] [.bl b,.bl c] = [some (.bl b),some (.bl c)] from rfl]
  (push_cast only [])
  exact q
noncomputable def hG (rs:List (Addr × List Int)):List (Addr × R3):=rs.map fun x=>(x.1,r3 x.2)
theorem dC {α:Type}(p:α→Bool)(g:α→Int):∀ l:List α,((l.filter p).map g).sum=(l.map fun x=>if p x=true then g x else 0).sum
 | []=>rfl
 | x :: l=>by
  have ih:=dC p g l
  rw [AN,Bw,← ih]
  by_cases h:p x=true
  ·rw [BH h,Ai h,AN,Bw]
  ·rw [Cj h,Ah h,Int.zero_add]
theorem hand_is {rs:List (Addr × List Int)}(j:Nat):(xE (hG rs) j).sum=(rs.map fun x=>hX j x.2).sum:=by
 unfold xE hG
 rw [dC,AF]
 congr 1
 refine Bj fun x _=>?_
 show (if decide ((r3 x.2).1=(j:Int))=true then (r3 x.2).2.2 else 0)=hX j x.2
 unfold hX r3
 by_cases h:x.2.getD 0 0=(j:Int)
 ·rw [Ai (Ax h),Ai h]
 ·rw [Ah (by rw [Aw h];decide),Ah h]
theorem pX (ts:List (Addr × List Int))(k:Nat):(ts.map fun t=>t.2).getD k [] = (ts.getD k (0,[])).2:=by
 rw [Ab,Ad,Ab]
 cases ts[k]? <;> rfl
theorem told_of {H:Hp}{t sd wt o ra na ga:Addr}{m:Nat}{ss:List Int}{ts:List (Addr × List Int)}{rs:List (Addr × List Int)}{y:Int}{gs ns:List Int}(W:TownW H t sd wt m ss ts)(m1:1 ≤ m)(l1:1 ≤ ts.length)(kw:∀ t ∈ ts,KW m t.2)(eo:H o=some (.tup [.int y,.ref ra,.ref na,.ref ga]))(ena:H na=some (.tup (ns.map V.int)))(ega:H ga=some (.tup (gs.map V.int)))
  (sh:Sh (ts.map fun t=>t.2) m y gs ns) (R:ShR (ts.map fun t=>t.2) m H ra rs y (gs.sum + ns.sum)):ThK H ts.length m 0 o ra na ga y (hG rs) ns gs∧fI m y ts (hG rs) ns gs=true:=by
 have lw:(ts.map fun t=>t.2).length=ts.length:=Aa _
 have p32:=yN W.m5
 have row:∀ r ∈ hG rs,∃ (x:Addr × List Int) (i S:Nat) (part:Int),x ∈ rs∧r=(x.1,((i:Int),(S:Int),part))∧x.2=[(i:Int),(S:Int),part]∧i < ts.length∧1 ≤ S∧S < 2 ^ m∧0 < part∧part ≤ 3628800∧H x.1=some (.tup [.int i,.int S,.int part]):=fun r hr=>by
  obtain ⟨x,hx,rfl⟩:=Au.mp hr
  obtain ⟨h1,i,S,part,e,h2,h3,h4,h5,h6⟩:=R.row x hx
  refine ⟨x,i,S,part,hx,?_,e,lw ▸ h2,h3,h4,h5,h6,?_⟩
  ·rw [e];rfl
  ·rw [h1,e];rfl
 have era:H ra=some (.tup ((hG rs).map fun r=>V.ref r.1)):=by
  rw [R.at']
  unfold hG
  rw [AF]
  rfl
 have Rw':Rw H (hG rs):=fun r hr=>by
  obtain ⟨x,i,S,part,_,rfl,_,_,_,_,_,_,e⟩:=row r hr
  exact e
 have few:(hG rs).length ≤ 10:=by unfold hG;rw [Aa];exact R.few
 have ok:∀ r ∈ hG rs,yI m ts.length r.2.1 r.2.2.1 r.2.2.2=true:=fun r hr=>by
  obtain ⟨x,i,S,part,_,rfl,_,h2,h3,h4,h5,_,_⟩:=row r hr
  unfold yI
  simp only [Bt,AU]
  generalize 2 ^ m=z at h4 ⊢
  omega
 have bd:BdR (hG rs):=fun r hr=>by
  obtain ⟨x,i,S,part,_,rfl,_,h2,h3,h4,h5,h6,_⟩:=row r hr
  show 0 ≤ (S:Int)∧(S:Int) < 32∧-34359738368 ≤ part∧part ≤ 34359738368
  omega
 have ri:vT (hG rs):=by
  have:=R.ris
  unfold vT
  have e:((hG rs).map fun r=>K50.k2 r.2)=rs.map fun x=>x.2.take 2:=by
   unfold hG
   rw [AF]
   refine Bj fun x hx=>?_
   obtain ⟨_,i,S,part,e,_⟩:=R.row x hx
   show K50.k2 (r3 x.2)=x.2.take 2
   rw [e]
   rfl
  rw [e]
  exact this
 have thg:∀ j:Nat,j < m→(zR (hG rs) j).sum ≤ y:=fun j hj=>by
  have e:(zR (hG rs) j).sum=(rs.map fun x=>vL j x.2).sum:=by
   unfold zR hG
   rw [dC,AF]
   congr 1
   refine Bj fun x hx=>?_
   obtain ⟨_,i,S,part,e,_,_,h4,_⟩:=R.row x hx
   show (if fO (r3 x.2).2.1 (j:Int)=true then (r3 x.2).2.2 else 0)=vL j x.2
   unfold vL
   rw [e]
   show (if fO (S:Int) (j:Int)=true then part else 0)=if Nat.testBit (S:Int).toNat j=true then part else 0
   have m5:=W.m5
   rw [uD (by omega) (by omega),Ap]
  rw [e]
  exact R.thg j hj
 have t5:=W.t5
 have m5:=W.m5
 have big:=sh.big 10000 (by decide) (fun ws hws x hx=>by
  obtain ⟨t,ht,rfl⟩:=Au.mp hws
  exact (kw t ht).bd x hx) (by omega)
 have y1:=sh.y1
 have y2:=sh.y2
 have B0:Bk 0=4000000:=by decide
 have N0:Nk 0=1099511627776:=by decide
 have gl:gs.length=ts.length:=by rw [sh.gl,lw]
 have cov:∀ (i S:Nat),i < ts.length→S < 2 ^ m→y * (ts.getD i (0,[])).2.getD S 0 ≤ gs.getD i 0 + zB m S fun t=>ns.getD t 0:=by
  intro i S hi s2
  rcases BP S with z | z
  ·subst z
   have hw:(ts.getD i (0,[])).2.getD 0 0=0:=by
    rw [Ab (l:=ts),Af hi]
    exact (kw _ (AE hi)).zero
   have hc:zB m 0 (fun t=>ns.getD t 0)=0:=dH fun t _=>by rw [Nat.zero_testBit];rfl
   rw [hw,hc,Bo]
   have gl:gs.length=ts.length:=by rw [sh.gl,lw]
   rw [Ab,Af (by omega)]
   have:=sh.g0 _ (AE (l:=gs) (n:=i) (by omega))
   show 0 ≤ gs[i] + 0
   omega
  ·have c:=sh.cov i S (lw ▸ hi) z s2
   rw [pX ts i] at c
   exact c
 refine ⟨⟨eo,?_,⟨era,Rw',few,fun r hr=>?_⟩,ena,ega,sh.nl,gl,fun x hx=>?_,fun x hx=>?_⟩,?_⟩
 ·unfold In
  rw [B0]
  exact ⟨by omega,by omega⟩
 ·obtain ⟨x,i,S,part,_,rfl,_,h2,h3,h4,h5,h6,_⟩:=row r hr
  unfold In
  rw [B0]
  exact ⟨⟨by show _ ≤ (i:Int);omega,by show (i:Int) ≤ _;omega⟩,⟨by show _ ≤ (S:Int);omega,by show (S:Int) ≤ _;omega⟩,⟨by show _ ≤ part;omega,by show part ≤ _;omega⟩⟩
 ·unfold In
  rw [N0]
  have:=big x (.inr hx)
  have:=sh.n0 x hx
  exact ⟨by omega,by omega⟩
 ·unfold In
  rw [N0]
  have:=big x (.inl hx)
  have:=sh.g0 x hx
  exact ⟨by omega,by omega⟩
 unfold fI yD
 have kb:mI ts.length m (hG rs) y=true:=by
  unfold mI
  rw [AU]
  intro x hx
  rcases A3.mp hx with z | z
  ·obtain ⟨j,hj,rfl⟩:=Au.mp z
   rw [hand_is]
   exact R.hnd j (lw ▸ AD.mp hj)
  ·obtain ⟨j,hj,rfl⟩:=Au.mp z
   exact thg j (AD.mp hj)
 have en:yT y ts ns gs=true:=AR.mpr fun p hp=>by
  obtain ⟨i,hi⟩:=Bm.mp hp
  obtain ⟨h1,h2⟩:=Bb.mp hi
  have il:i < ts.length:=(Ag.mp h1).1
  have row:=W.row p.1 (An h1)
  refine (uF (by rw [row.2,sh.nl])).mpr fun S hS=>?_
  rw [sh.nl] at hS ⊢
  have c:=cov i S il hS
  rw [Ab (l:=ts),h1,Ab (l:=gs),h2] at c
  have c':y * p.1.2.getD S 0 ≤ p.2 + zB m S fun t=>ns.getD t 0:=c
  omega
 have eq:(zP ts (hG rs)).sum=gs.sum + ns.sum:=by
  rw [← R.wor]
  unfold zP hG
  rw [AF]
  congr 1
  refine Bj fun x hx=>?_
  show (r3 x.2).2.2 * (ts.getD (r3 x.2).1.toNat (0,[])).2.getD (r3 x.2).2.1.toNat 0=gU _ x.2
  unfold gU r3
  rw [pX ts]
 rw [Ax sh.y1,(dR _).mpr ri,kb,en,Ax eq,show okB ts.length m (hG rs)=true from AR.mpr ok,show z7 ns=true from AR.mpr fun x hx=>Ax (sh.n0 x hx),show z7 gs=true from AR.mpr fun x hx=>Ax (sh.g0 x hx)]
 rfl
theorem TownW.sx {H H':Hp}{p l t sd wt:Addr}{m:Nat}{ss:List Int}{ts:List (Addr × List Int)}(W:TownW H t sd wt m ss ts)(sp:Spool H p l)(s:SameX p H H'):TownW H' t sd wt m ss ts:=⟨s _ _ (sp.netx W.at') W.at',s _ _ (sp.netx W.sd) W.sd,s _ _ (sp.netx W.wt) W.wt,W.m5,W.slen,W.t5,fun u hu=>⟨s _ _ (sp.netx (W.row u hu).1) (W.row u hu).1,(W.row u hu).2⟩⟩
noncomputable def m9 (K:PySem.W.Frag):Sp:=fun vs H Q _=>∃ (a:Addr) (ns:List Int),vs=[.ref a]∧Scr K a ns H∧ns.length ≤ 63∧∀ H',Q (.bl true) H'
noncomputable def J0 (a p l t sd wt o ra na ga:Addr)(ss:List Int)(ts:List (Addr × List Int))(b:Int)(rs:List (Addr × R3))(ns gs:List Int)(_:Nat)(σ:St)(H:Hp):Prop:=∃ v4 v5 v6:Option V,σ=[some (.ref a),some (.ref p),some (.ref t),some (.ref o),v4,v5,v6]∧Spool H p l∧TownW H t sd wt ss.length ss ts∧ThK H ts.length ss.length 0 o ra na ga b rs ns gs
noncomputable def J1 (a p l t sd wt o ra na ga:Addr)(ss:List Int)(ts:List (Addr × List Int))(b:Int)(rs:List (Addr × R3))(ns gs:List Int)(kk:Int)(i:Nat)(σ:St)(H:Hp):Prop:=∃ (o' ra' na' ga':Addr) (b':Int) (rs':List (Addr × R3)) (ns' gs':List Int) (v6:Option V),σ=[some (.ref a),some (.ref p),some (.ref t),some (.ref o),some (.int kk),some (.ref o'),v6]∧Spool H p l∧TownW H t sd wt ss.length ss ts∧ThK H ts.length ss.length 0 o ra na ga b rs ns gs∧ThK H ts.length ss.length i o' ra' na' ga' b' rs' ns' gs'
theorem i7:FnScope ["_law_script", "_law_spool_here", "_law_town_here", "_law_told", "_law_k", "_law_thing", "_law_turn"] ["_law_script"] (qI s_law):=⟨rfl,rfl,rfl,by decide +kernel,rfl,by decide +kernel,by decide +kernel⟩
theorem ok_law (F:Fun K "law" "law" s_law f fd) (T:Txt mg) (c__law_spool:j4 P w K mg base "_law_spool" ["_law_script"] 1 (lR K)) (c__law_any_town:j4 P w K mg base "_law_any_town" ["_law_spool_here"] 5 wD) (c_shares:j4 P w K mg base "shares" ["town"] 4 cR) (c__law_draw:j4 P w K mg base "_law_draw" ["_law_spool_here", "_law_many"] 2 vO) (c__law_otherwise:j4 P w K mg base "_law_otherwise" ["_law_spool_here", "_law_thing"] 4 iU) (c__law_right:j4 P w K mg base "_law_right" ["_law_town_here", "_law_thing"] 3 cT) (c_shows_shares:j4 P w K mg base "shows_shares" ["town", "thing"] 5 sp_ss) (c__law_truth:j4 P w K mg base "_law_truth" ["_law_found", "_law_due"] 1 lP) :
  FnOk P w K mg base CX0 6 f fd ["_law_script"] (m9 K):=by
 refine F.ok i7 (fun vs H Q E h=>?_) (fun cdv A outer s H vs Q E hr h=>?_)
 ·obtain ⟨_,_,rfl,_⟩:=h;rfl
 ·obtain ⟨a,ns,rfl,hq,hlen,q⟩:=h
  have sc:=i7
  refine ⟨_,qG (kQ (i:=1) sc.nd rfl (Or.inl rfl) (qU c__law_spool hr (qA (pv 0) qB))) (qG (kQ (i:=2) sc.nd rfl (Or.inl rfl) (qU c__law_any_town hr (qA (pv 1) qB))) (qG (kQ (i:=3) sc.nd rfl (Or.inl rfl) (qU c_shares hr (qA (pv 2) qB))) (qG (yK Bs rfl (kT rfl T.range_ (qA qD qB)) (qH (i:=4) sc.nd rfl (Or.inl rfl)) (qG (kQ (i:=5) sc.nd rfl (Or.inl rfl) (pv 3)) (qM (yK Bs rfl (kT rfl T.range_ (qA (qN jD qD (qU c__law_draw hr (qA (pv 1) (qA qD qB)))) qB)) (qH (i:=6) sc.nd rfl (Or.inl rfl)) (qG (kQ (i:=5) sc.nd rfl (Or.inl rfl) (qU c__law_otherwise hr (qA (pv 1) (qA (pv 5) qB)))) (qM (jV (j3 (jQ (qU c__law_truth hr (qA (qU c_shows_shares hr (qA (pv 2) (qA (pv 5) qB))) (qA (qU c__law_right hr (qA (pv 2) (qA (pv 5) qB))) qB))))) (qM (q8 yB)) kW))))))) (qM (q8 (jK is_bl (qU c_shows_shares hr (qA (pv 2) (qA (pv 3) qB))) yB (kA _))))))),?_⟩
  rw [show L2.start ["_law_script", "_law_spool_here", "_law_town_here", "_law_told", "_law_k", "_law_thing", "_law_turn"] [.ref a] = [some (.ref a),none,none,none,none,none,none] from rfl]
  (push_cast only [])
  refine ⟨a,ns,rfl,hq,fun p l H1 np nl s1 sp1=>?_⟩
  (simp only [qE])
  (push_cast only [])
  refine ⟨p,l,rfl,sp1,fun t sd wt m ss ts H2 W m1 l1 kw sp2 sx2=>?_⟩
  have sl:=W.slen
  subst sl
  have wb:∀ t ∈ ts,∀ x ∈ t.2,0 ≤ x∧x ≤ 10000:=fun t ht x hx=>(kw t ht).bd x hx
  have t5:=W.t5
  have m5:=W.m5
  (simp only [qE])
  (push_cast only [])
  refine ⟨t,sd,wt,ss.length,ss,ts,rfl,W,l1,fun o ra na ga rs y gs ns' H3 s3 eo ena ega sh R=>?_⟩
  obtain ⟨th,right⟩:=told_of (W.keep s3) m1 l1 kw eo ena ega sh R
  (simp only [qE])
  (push_cast only [])
  refine ⟨by decide,by decide,xX (J0 a p l t sd wt o ra na ga ss ts y (hG rs) ns' gs) ⟨_,_,_,rfl,sp2.same s3,W.keep s3,th⟩ ?_ ?_⟩
  ·rintro i σ H4 hi ⟨v4,v5,v6,rfl,sp4,W4,th4⟩
   (push_cast only [])
   (simp only [qE])
   (push_cast only [])
   refine ⟨p,l,3,rfl,sp4,by decide,by decide,fun d H5 d0 d1 sp5 sx5=>?_⟩
   refine ⟨d,rfl,by omega,by omega,xX (J1 a p l t sd wt o ra na ga ss ts y (hG rs) ns' gs (i:Int)) ⟨o,ra,na,ga,y,hG rs,ns',gs,_,rfl,sp5,W4.sx sp4 sx5,th4.sx sp4 sx5,th4.sx sp4 sx5⟩ ?_ ?_⟩
   ·rintro j σ H6 hj ⟨o',ra',na',ga',b',rs',ns2,gs2,v6',rfl,sp6,W6,th6,tk6⟩
    have j2:j ≤ 2:=by omega
    (push_cast only [])
    refine ⟨p,l,o',ra',na',ga',ts.length,ss.length,j,b',rs',ns2,gs2,rfl,sp6,tk6,j2,m1,m5,l1,t5,fun o2 ra2 na2 ga2 b2 rs2 ns3 gs3 H7 tk7 sp7 sx7=>?_⟩
    have W7:=W6.sx sp6 sx7
    have tp:=tk7.thp (show j + 1 ≤ 3 by omega)
    (simp only [qE])
    (push_cast only [])
    refine ⟨t,sd,wt,o2,ra2,na2,ga2,ss,ts,b2,rs2,ns3,gs3,rfl,⟨W7,l1⟩,wb,tp,fun H8 s8=>⟨t,sd,wt,o2,ra2,na2,ga2,ss,ts,b2,rs2,ns3,gs3,rfl,⟨W7.keep s8,l1⟩,wb,tp.same s8,fun H9 s9=>⟨_,_,rfl,_,rfl,?_⟩⟩⟩
    rw [Ax rfl,Ah (by decide)]
    have S:=s8.trans s9
    exact ⟨o2,ra2,na2,ga2,b2,rs2,ns3,gs3,_,rfl,sp7.same S,W7.keep S,(th6.sx sp6 sx7).same S,tk7.same S⟩
   ·rintro σ H6 ⟨o',ra',na',ga',b',rs',ns2,gs2,v6',rfl,sp6,W6,th6,tk6⟩
    exact ⟨_,_,_,rfl,sp6,W6,th6⟩
  ·rintro σ H4 ⟨v4,v5,v6,rfl,sp4,W4,th4⟩
   (simp only [qE])
   (push_cast only [])
   refine ⟨t,sd,wt,o,ra,na,ga,ss,ts,y,hG rs,ns',gs,rfl,⟨W4,l1⟩,wb,th4.thp (by decide),fun H5 s5=>?_⟩
   rw [right]
   exact ⟨true,rfl,q H5⟩
end
theorem all_mk {l:W.OpenLaw}{w:World}{K:W.Frag}{h:Heap}{mg:Str→Option Value}{fa:Addr}(X:K.In h)(G:h.Ns mainGlobals mg)(hfa:mg "law"=some (.ref fa))
  {f0:Addr} {od0 an0:Option Addr} {sl0:Array (Option Value)} {oc0 kV0 dc0 pm0 cd0 ct0:Value}
  (a0:W.nsIn K mainGlobals "has"=some (some (.ref f0))) (l0:K.lookup f0=some ⟨oc0,od0,.func (W.fnOf "has" "has" (kE s_has) (kB s_has) (qI s_has) .none kV0 dc0 pm0 an0 cd0 ct0),sl0⟩) (c0:W.codeIn K cd0 "has"=true) (k0:W.keepIn K (.ref f0)=true)
  {f1:Addr} {od1 an1:Option Addr} {sl1:Array (Option Value)} {oc1 kV1 dc1 pm1 cd1 ct1:Value}
  (a1:W.nsIn K mainGlobals "is_whole"=some (some (.ref f1))) (l1:K.lookup f1=some ⟨oc1,od1,.func (W.fnOf "is_whole" "is_whole" (kE s_is_whole) (kB s_is_whole) (qI s_is_whole) .none kV1 dc1 pm1 an1 cd1 ct1),sl1⟩) (c1:W.codeIn K cd1 "is_whole"=true) (k1:W.keepIn K (.ref f1)=true)
  {f2:Addr} {od2 an2:Option Addr} {sl2:Array (Option Value)} {oc2 kV2 dc2 pm2 cd2 ct2:Value}
  (a2:W.nsIn K mainGlobals "is_whole_from"=some (some (.ref f2))) (l2:K.lookup f2=some ⟨oc2,od2,.func (W.fnOf "is_whole_from" "is_whole_from" (kE s_is_whole_from) (kB s_is_whole_from) (qI s_is_whole_from) .none kV2 dc2 pm2 an2 cd2 ct2),sl2⟩) (c2:W.codeIn K cd2 "is_whole_from"=true) (k2:W.keepIn K (.ref f2)=true)
  {f3:Addr} {od3 an3:Option Addr} {sl3:Array (Option Value)} {oc3 kV3 dc3 pm3 cd3 ct3:Value}
  (a3:W.nsIn K mainGlobals "are_wholes"=some (some (.ref f3))) (l3:K.lookup f3=some ⟨oc3,od3,.func (W.fnOf "are_wholes" "are_wholes" (kE s_are_wholes) (kB s_are_wholes) (qI s_are_wholes) .none kV3 dc3 pm3 an3 cd3 ct3),sl3⟩) (c3:W.codeIn K cd3 "are_wholes"=true) (k3:W.keepIn K (.ref f3)=true)
  {f4:Addr} {od4 an4:Option Addr} {sl4:Array (Option Value)} {oc4 kV4 dc4 pm4 cd4 ct4:Value}
  (a4:W.nsIn K mainGlobals "are_wholes_from"=some (some (.ref f4))) (l4:K.lookup f4=some ⟨oc4,od4,.func (W.fnOf "are_wholes_from" "are_wholes_from" (kE s_are_wholes_from) (kB s_are_wholes_from) (qI s_are_wholes_from) .none kV4 dc4 pm4 an4 cd4 ct4),sl4⟩) (c4:W.codeIn K cd4 "are_wholes_from"=true) (k4:W.keepIn K (.ref f4)=true)
  {f5:Addr} {od5 an5:Option Addr} {sl5:Array (Option Value)} {oc5 kV5 dc5 pm5 cd5 ct5:Value}
  (a5:W.nsIn K mainGlobals "costs"=some (some (.ref f5))) (l5:K.lookup f5=some ⟨oc5,od5,.func (W.fnOf "costs" "costs" (kE s_costs) (kB s_costs) (qI s_costs) .none kV5 dc5 pm5 an5 cd5 ct5),sl5⟩) (c5:W.codeIn K cd5 "costs"=true) (k5:W.keepIn K (.ref f5)=true)
  {f6:Addr} {od6 an6:Option Addr} {sl6:Array (Option Value)} {oc6 kV6 dc6 pm6 cd6 ct6:Value}
  (a6:W.nsIn K mainGlobals "gains"=some (some (.ref f6))) (l6:K.lookup f6=some ⟨oc6,od6,.func (W.fnOf "gains" "gains" (kE s_gains) (kB s_gains) (qI s_gains) .none kV6 dc6 pm6 an6 cd6 ct6),sl6⟩) (c6:W.codeIn K cd6 "gains"=true) (k6:W.keepIn K (.ref f6)=true)
  {f7:Addr} {od7 an7:Option Addr} {sl7:Array (Option Value)} {oc7 kV7 dc7 pm7 cd7 ct7:Value}
  (a7:W.nsIn K mainGlobals "greatest_gain"=some (some (.ref f7))) (l7:K.lookup f7=some ⟨oc7,od7,.func (W.fnOf "greatest_gain" "greatest_gain" (kE s_greatest_gain) (kB s_greatest_gain) (qI s_greatest_gain) .none kV7 dc7 pm7 an7 cd7 ct7),sl7⟩) (c7:W.codeIn K cd7 "greatest_gain"=true) (k7:W.keepIn K (.ref f7)=true)
  {f8:Addr} {od8 an8:Option Addr} {sl8:Array (Option Value)} {oc8 kV8 dc8 pm8 cd8 ct8:Value}
  (a8:W.nsIn K mainGlobals "in_parts"=some (some (.ref f8))) (l8:K.lookup f8=some ⟨oc8,od8,.func (W.fnOf "in_parts" "in_parts" (kE s_in_parts) (kB s_in_parts) (qI s_in_parts) .none kV8 dc8 pm8 an8 cd8 ct8),sl8⟩) (c8:W.codeIn K cd8 "in_parts"=true) (k8:W.keepIn K (.ref f8)=true)
  {f9:Addr} {od9 an9:Option Addr} {sl9:Array (Option Value)} {oc9 kV9 dc9 pm9 cd9 ct9:Value}
  (a9:W.nsIn K mainGlobals "shows_shares"=some (some (.ref f9))) (l9:K.lookup f9=some ⟨oc9,od9,.func (W.fnOf "shows_shares" "shows_shares" (kE s_shows_shares) (kB s_shows_shares) (qI s_shows_shares) .none kV9 dc9 pm9 an9 cd9 ct9),sl9⟩) (c9:W.codeIn K cd9 "shows_shares"=true) (k9:W.keepIn K (.ref f9)=true)
  {f10:Addr} {od10 an10:Option Addr} {sl10:Array (Option Value)} {oc10 kV10 dc10 pm10 cd10 ct10:Value}
  (a10:W.nsIn K mainGlobals "are_shares"=some (some (.ref f10))) (l10:K.lookup f10=some ⟨oc10,od10,.func (W.fnOf "are_shares" "are_shares" (kE s_are_shares) (kB s_are_shares) (qI s_are_shares) .none kV10 dc10 pm10 an10 cd10 ct10),sl10⟩) (c10:W.codeIn K cd10 "are_shares"=true) (k10:W.keepIn K (.ref f10)=true)
  {f11:Addr} {od11 an11:Option Addr} {sl11:Array (Option Value)} {oc11 kV11 dc11 pm11 cd11 ct11:Value}
  (a11:W.nsIn K mainGlobals "is_share"=some (some (.ref f11))) (l11:K.lookup f11=some ⟨oc11,od11,.func (W.fnOf "is_share" "is_share" (kE s_is_share) (kB s_is_share) (qI s_is_share) .none kV11 dc11 pm11 an11 cd11 ct11),sl11⟩) (c11:W.codeIn K cd11 "is_share"=true) (k11:W.keepIn K (.ref f11)=true)
  {f12:Addr} {od12 an12:Option Addr} {sl12:Array (Option Value)} {oc12 kV12 dc12 pm12 cd12 ct12:Value}
  (a12:W.nsIn K mainGlobals "rise_by_place"=some (some (.ref f12))) (l12:K.lookup f12=some ⟨oc12,od12,.func (W.fnOf "rise_by_place" "rise_by_place" (kE s_rise_by_place) (kB s_rise_by_place) (qI s_rise_by_place) .none kV12 dc12 pm12 an12 cd12 ct12),sl12⟩) (c12:W.codeIn K cd12 "rise_by_place"=true) (k12:W.keepIn K (.ref f12)=true)
  {f13:Addr} {od13 an13:Option Addr} {sl13:Array (Option Value)} {oc13 kV13 dc13 pm13 cd13 ct13:Value}
  (a13:W.nsIn K mainGlobals "keep_bounds"=some (some (.ref f13))) (l13:K.lookup f13=some ⟨oc13,od13,.func (W.fnOf "keep_bounds" "keep_bounds" (kE s_keep_bounds) (kB s_keep_bounds) (qI s_keep_bounds) .none kV13 dc13 pm13 an13 cd13 ct13),sl13⟩) (c13:W.codeIn K cd13 "keep_bounds"=true) (k13:W.keepIn K (.ref f13)=true)
  {f14:Addr} {od14 an14:Option Addr} {sl14:Array (Option Value)} {oc14 kV14 dc14 pm14 cd14 ct14:Value}
  (a14:W.nsIn K mainGlobals "shares_worth"=some (some (.ref f14))) (l14:K.lookup f14=some ⟨oc14,od14,.func (W.fnOf "shares_worth" "shares_worth" (kE s_shares_worth) (kB s_shares_worth) (qI s_shares_worth) .none kV14 dc14 pm14 an14 cd14 ct14),sl14⟩) (c14:W.codeIn K cd14 "shares_worth"=true) (k14:W.keepIn K (.ref f14)=true)
  {f15:Addr} {od15 an15:Option Addr} {sl15:Array (Option Value)} {oc15 kV15 dc15 pm15 cd15 ct15:Value}
  (a15:W.nsIn K mainGlobals "solved"=some (some (.ref f15))) (l15:K.lookup f15=some ⟨oc15,od15,.func (W.fnOf "solved" "solved" (kE s_solved) (kB s_solved) (qI s_solved) .none kV15 dc15 pm15 an15 cd15 ct15),sl15⟩) (c15:W.codeIn K cd15 "solved"=true) (k15:W.keepIn K (.ref f15)=true)
  {f16:Addr} {od16 an16:Option Addr} {sl16:Array (Option Value)} {oc16 kV16 dc16 pm16 cd16 ct16:Value}
  (a16:W.nsIn K mainGlobals "entering"=some (some (.ref f16))) (l16:K.lookup f16=some ⟨oc16,od16,.func (W.fnOf "entering" "entering" (kE s_entering) (kB s_entering) (qI s_entering) .none kV16 dc16 pm16 an16 cd16 ct16),sl16⟩) (c16:W.codeIn K cd16 "entering"=true) (k16:W.keepIn K (.ref f16)=true)
  {f17:Addr} {od17 an17:Option Addr} {sl17:Array (Option Value)} {oc17 kV17 dc17 pm17 cd17 ct17:Value}
  (a17:W.nsIn K mainGlobals "leaving"=some (some (.ref f17))) (l17:K.lookup f17=some ⟨oc17,od17,.func (W.fnOf "leaving" "leaving" (kE s_leaving) (kB s_leaving) (qI s_leaving) .none kV17 dc17 pm17 an17 cd17 ct17),sl17⟩) (c17:W.codeIn K cd17 "leaving"=true) (k17:W.keepIn K (.ref f17)=true)
  {f18:Addr} {od18 an18:Option Addr} {sl18:Array (Option Value)} {oc18 kV18 dc18 pm18 cd18 ct18:Value}
  (a18:W.nsIn K mainGlobals "bounds_more"=some (some (.ref f18))) (l18:K.lookup f18=some ⟨oc18,od18,.func (W.fnOf "bounds_more" "bounds_more" (kE s_bounds_more) (kB s_bounds_more) (qI s_bounds_more) .none kV18 dc18 pm18 an18 cd18 ct18),sl18⟩) (c18:W.codeIn K cd18 "bounds_more"=true) (k18:W.keepIn K (.ref f18)=true)
  {f19:Addr} {od19 an19:Option Addr} {sl19:Array (Option Value)} {oc19 kV19 dc19 pm19 cd19 ct19:Value}
  (a19:W.nsIn K mainGlobals "pivoted"=some (some (.ref f19))) (l19:K.lookup f19=some ⟨oc19,od19,.func (W.fnOf "pivoted" "pivoted" (kE s_pivoted) (kB s_pivoted) (qI s_pivoted) .none kV19 dc19 pm19 an19 cd19 ct19),sl19⟩) (c19:W.codeIn K cd19 "pivoted"=true) (k19:W.keepIn K (.ref f19)=true)
  {f20:Addr} {od20 an20:Option Addr} {sl20:Array (Option Value)} {oc20 kV20 dc20 pm20 cd20 ct20:Value}
  (a20:W.nsIn K mainGlobals "shares"=some (some (.ref f20))) (l20:K.lookup f20=some ⟨oc20,od20,.func (W.fnOf "shares" "shares" (kE s_shares) (kB s_shares) (qI s_shares) .none kV20 dc20 pm20 an20 cd20 ct20),sl20⟩) (c20:W.codeIn K cd20 "shares"=true) (k20:W.keepIn K (.ref f20)=true)
  {f21:Addr} {od21 an21:Option Addr} {sl21:Array (Option Value)} {oc21 kV21 dc21 pm21 cd21 ct21:Value}
  (a21:W.nsIn K mainGlobals "share_places"=some (some (.ref f21))) (l21:K.lookup f21=some ⟨oc21,od21,.func (W.fnOf "share_places" "share_places" (kE s_share_places) (kB s_share_places) (qI s_share_places) .none kV21 dc21 pm21 an21 cd21 ct21),sl21⟩) (c21:W.codeIn K cd21 "share_places"=true) (k21:W.keepIn K (.ref f21)=true)
  {f22:Addr} {od22 an22:Option Addr} {sl22:Array (Option Value)} {oc22 kV22 dc22 pm22 cd22 ct22:Value}
  (a22:W.nsIn K mainGlobals "share_table"=some (some (.ref f22))) (l22:K.lookup f22=some ⟨oc22,od22,.func (W.fnOf "share_table" "share_table" (kE s_share_table) (kB s_share_table) (qI s_share_table) .none kV22 dc22 pm22 an22 cd22 ct22),sl22⟩) (c22:W.codeIn K cd22 "share_table"=true) (k22:W.keepIn K (.ref f22)=true)
  {f23:Addr} {od23 an23:Option Addr} {sl23:Array (Option Value)} {oc23 kV23 dc23 pm23 cd23 ct23:Value}
  (a23:W.nsIn K mainGlobals "_law_spool"=some (some (.ref f23))) (l23:K.lookup f23=some ⟨oc23,od23,.func (W.fnOf "_law_spool" "_law_spool" (kE s__law_spool) (kB s__law_spool) (qI s__law_spool) .none kV23 dc23 pm23 an23 cd23 ct23),sl23⟩) (c23:W.codeIn K cd23 "_law_spool"=true) (k23:W.keepIn K (.ref f23)=true)
  {f24:Addr} {od24 an24:Option Addr} {sl24:Array (Option Value)} {oc24 kV24 dc24 pm24 cd24 ct24:Value}
  (a24:W.nsIn K mainGlobals "_law_wound"=some (some (.ref f24))) (l24:K.lookup f24=some ⟨oc24,od24,.func (W.fnOf "_law_wound" "_law_wound" (kE s__law_wound) (kB s__law_wound) (qI s__law_wound) .none kV24 dc24 pm24 an24 cd24 ct24),sl24⟩) (c24:W.codeIn K cd24 "_law_wound"=true) (k24:W.keepIn K (.ref f24)=true)
  {f25:Addr} {od25 an25:Option Addr} {sl25:Array (Option Value)} {oc25 kV25 dc25 pm25 cd25 ct25:Value}
  (a25:W.nsIn K mainGlobals "_law_draw"=some (some (.ref f25))) (l25:K.lookup f25=some ⟨oc25,od25,.func (W.fnOf "_law_draw" "_law_draw" (kE s__law_draw) (kB s__law_draw) (qI s__law_draw) .none kV25 dc25 pm25 an25 cd25 ct25),sl25⟩) (c25:W.codeIn K cd25 "_law_draw"=true) (k25:W.keepIn K (.ref f25)=true)
  {f26:Addr} {od26 an26:Option Addr} {sl26:Array (Option Value)} {oc26 kV26 dc26 pm26 cd26 ct26:Value}
  (a26:W.nsIn K mainGlobals "_law_want"=some (some (.ref f26))) (l26:K.lookup f26=some ⟨oc26,od26,.func (W.fnOf "_law_want" "_law_want" (kE s__law_want) (kB s__law_want) (qI s__law_want) .none kV26 dc26 pm26 an26 cd26 ct26),sl26⟩) (c26:W.codeIn K cd26 "_law_want"=true) (k26:W.keepIn K (.ref f26)=true)
  {f27:Addr} {od27 an27:Option Addr} {sl27:Array (Option Value)} {oc27 kV27 dc27 pm27 cd27 ct27:Value}
  (a27:W.nsIn K mainGlobals "_law_town"=some (some (.ref f27))) (l27:K.lookup f27=some ⟨oc27,od27,.func (W.fnOf "_law_town" "_law_town" (kE s__law_town) (kB s__law_town) (qI s__law_town) .none kV27 dc27 pm27 an27 cd27 ct27),sl27⟩) (c27:W.codeIn K cd27 "_law_town"=true) (k27:W.keepIn K (.ref f27)=true)
  {f28:Addr} {od28 an28:Option Addr} {sl28:Array (Option Value)} {oc28 kV28 dc28 pm28 cd28 ct28:Value}
  (a28:W.nsIn K mainGlobals "_law_knot"=some (some (.ref f28))) (l28:K.lookup f28=some ⟨oc28,od28,.func (W.fnOf "_law_knot" "_law_knot" (kE s__law_knot) (kB s__law_knot) (qI s__law_knot) .none kV28 dc28 pm28 an28 cd28 ct28),sl28⟩) (c28:W.codeIn K cd28 "_law_knot"=true) (k28:W.keepIn K (.ref f28)=true)
  {f29:Addr} {od29 an29:Option Addr} {sl29:Array (Option Value)} {oc29 kV29 dc29 pm29 cd29 ct29:Value}
  (a29:W.nsIn K mainGlobals "_law_any_town"=some (some (.ref f29))) (l29:K.lookup f29=some ⟨oc29,od29,.func (W.fnOf "_law_any_town" "_law_any_town" (kE s__law_any_town) (kB s__law_any_town) (qI s__law_any_town) .none kV29 dc29 pm29 an29 cd29 ct29),sl29⟩) (c29:W.codeIn K cd29 "_law_any_town"=true) (k29:W.keepIn K (.ref f29)=true)
  {f30:Addr} {od30 an30:Option Addr} {sl30:Array (Option Value)} {oc30 kV30 dc30 pm30 cd30 ct30:Value}
  (a30:W.nsIn K mainGlobals "_law_cost"=some (some (.ref f30))) (l30:K.lookup f30=some ⟨oc30,od30,.func (W.fnOf "_law_cost" "_law_cost" (kE s__law_cost) (kB s__law_cost) (qI s__law_cost) .none kV30 dc30 pm30 an30 cd30 ct30),sl30⟩) (c30:W.codeIn K cd30 "_law_cost"=true) (k30:W.keepIn K (.ref f30)=true)
  {f31:Addr} {od31 an31:Option Addr} {sl31:Array (Option Value)} {oc31 kV31 dc31 pm31 cd31 ct31:Value}
  (a31:W.nsIn K mainGlobals "_law_are_shares"=some (some (.ref f31))) (l31:K.lookup f31=some ⟨oc31,od31,.func (W.fnOf "_law_are_shares" "_law_are_shares" (kE s__law_are_shares) (kB s__law_are_shares) (qI s__law_are_shares) .none kV31 dc31 pm31 an31 cd31 ct31),sl31⟩) (c31:W.codeIn K cd31 "_law_are_shares"=true) (k31:W.keepIn K (.ref f31)=true)
  {f32:Addr} {od32 an32:Option Addr} {sl32:Array (Option Value)} {oc32 kV32 dc32 pm32 cd32 ct32:Value}
  (a32:W.nsIn K mainGlobals "_law_worth"=some (some (.ref f32))) (l32:K.lookup f32=some ⟨oc32,od32,.func (W.fnOf "_law_worth" "_law_worth" (kE s__law_worth) (kB s__law_worth) (qI s__law_worth) .none kV32 dc32 pm32 an32 cd32 ct32),sl32⟩) (c32:W.codeIn K cd32 "_law_worth"=true) (k32:W.keepIn K (.ref f32)=true)
  {f33:Addr} {od33 an33:Option Addr} {sl33:Array (Option Value)} {oc33 kV33 dc33 pm33 cd33 ct33:Value}
  (a33:W.nsIn K mainGlobals "_law_enough"=some (some (.ref f33))) (l33:K.lookup f33=some ⟨oc33,od33,.func (W.fnOf "_law_enough" "_law_enough" (kE s__law_enough) (kB s__law_enough) (qI s__law_enough) .none kV33 dc33 pm33 an33 cd33 ct33),sl33⟩) (c33:W.codeIn K cd33 "_law_enough"=true) (k33:W.keepIn K (.ref f33)=true)
  {f34:Addr} {od34 an34:Option Addr} {sl34:Array (Option Value)} {oc34 kV34 dc34 pm34 cd34 ct34:Value}
  (a34:W.nsIn K mainGlobals "_law_right"=some (some (.ref f34))) (l34:K.lookup f34=some ⟨oc34,od34,.func (W.fnOf "_law_right" "_law_right" (kE s__law_right) (kB s__law_right) (qI s__law_right) .none kV34 dc34 pm34 an34 cd34 ct34),sl34⟩) (c34:W.codeIn K cd34 "_law_right"=true) (k34:W.keepIn K (.ref f34)=true)
  {f35:Addr} {od35 an35:Option Addr} {sl35:Array (Option Value)} {oc35 kV35 dc35 pm35 cd35 ct35:Value}
  (a35:W.nsIn K mainGlobals "_law_truth"=some (some (.ref f35))) (l35:K.lookup f35=some ⟨oc35,od35,.func (W.fnOf "_law_truth" "_law_truth" (kE s__law_truth) (kB s__law_truth) (qI s__law_truth) .none kV35 dc35 pm35 an35 cd35 ct35),sl35⟩) (c35:W.codeIn K cd35 "_law_truth"=true) (k35:W.keepIn K (.ref f35)=true)
  {f36:Addr} {od36 an36:Option Addr} {sl36:Array (Option Value)} {oc36 kV36 dc36 pm36 cd36 ct36:Value}
  (a36:W.nsIn K mainGlobals "_law_bent"=some (some (.ref f36))) (l36:K.lookup f36=some ⟨oc36,od36,.func (W.fnOf "_law_bent" "_law_bent" (kE s__law_bent) (kB s__law_bent) (qI s__law_bent) .none kV36 dc36 pm36 an36 cd36 ct36),sl36⟩) (c36:W.codeIn K cd36 "_law_bent"=true) (k36:W.keepIn K (.ref f36)=true)
  {f37:Addr} {od37 an37:Option Addr} {sl37:Array (Option Value)} {oc37 kV37 dc37 pm37 cd37 ct37:Value}
  (a37:W.nsIn K mainGlobals "_law_otherwise"=some (some (.ref f37))) (l37:K.lookup f37=some ⟨oc37,od37,.func (W.fnOf "_law_otherwise" "_law_otherwise" (kE s__law_otherwise) (kB s__law_otherwise) (qI s__law_otherwise) .none kV37 dc37 pm37 an37 cd37 ct37),sl37⟩) (c37:W.codeIn K cd37 "_law_otherwise"=true) (k37:W.keepIn K (.ref f37)=true)
  {f38:Addr} {od38 an38:Option Addr} {sl38:Array (Option Value)} {oc38 kV38 dc38 pm38 cd38 ct38:Value}
  (a38:W.nsIn K mainGlobals "law"=some (some (.ref f38))) (l38:K.lookup f38=some ⟨oc38,od38,.func (W.fnOf "law" "law" (kE s_law) (kB s_law) (qI s_law) .none kV38 dc38 pm38 an38 cd38 ct38),sl38⟩) (c38:W.codeIn K cd38 "law"=true) (k38:W.keepIn K (.ref f38)=true)
  (z_len:W.nsIn K mainGlobals "len"=some none)
  (z_sum:W.nsIn K mainGlobals "sum"=some none)
  (z_max:W.nsIn K mainGlobals "max"=some none)
  (z_range:W.nsIn K mainGlobals "range"=some none)
  (z_tuple:W.nsIn K mainGlobals "tuple"=some none)
  (z_list:W.nsIn K mainGlobals "list"=some none)
  (z_int:W.nsIn K mainGlobals "int"=some none)
  (z_bool:W.nsIn K mainGlobals "bool"=some none)
  (z_zip:W.nsIn K mainGlobals "zip"=some none)
  (z_enumerate:W.nsIn K mainGlobals "enumerate"=some none)
  (z_isinstance:W.nsIn K mainGlobals "isinstance"=some none)
  (z_all:W.nsIn K mainGlobals "all"=some none)
  (z_set:W.nsIn K mainGlobals "set"=some none)
  (z_sorted:W.nsIn K mainGlobals "sorted"=some none)
  : ∃ fd:FuncData,(∀ (s:Shared) (v:Value),BindsTo s fd ⟨[v],[]⟩ [("_law_script",v)])∧∀ base:Heap,K.In base→base.Ns mainGlobals mg→FnOk l.prog w K mg base CX0 6 fa fd ["_law_script"] (m9 K):=by
 have e:=hfa.symm.trans (Be X G a38)
 cases e
 have T:Txt mg:=⟨B5 X G z_len,B5 X G z_sum,B5 X G z_max,B5 X G z_range,B5 X G z_tuple,B5 X G z_list,B5 X G z_int,B5 X G z_bool,B5 X G z_zip,B5 X G z_enumerate,B5 X G z_isinstance,B5 X G z_all,B5 X G z_set,B5 X G z_sorted⟩
 have F_has:=kR (st:=s_has) l0 c0 k0
 have m_has:=Be X G a0
 have b_has:=F_has.binds (ps:=["heap", "thing"]) fun _ _ _ _ _ _=>mX (fun _ _=>rfl)
 have F_is_whole:=kR (st:=s_is_whole) l1 c1 k1
 have m_is_whole:=Be X G a1
 have b_is_whole:=F_is_whole.binds (ps:=["thing"]) fun _ _ _ _ _ _=>iA (fun _=>rfl)
 have F_is_whole_from:=kR (st:=s_is_whole_from) l2 c2 k2
 have m_is_whole_from:=Be X G a2
 have b_is_whole_from:=F_is_whole_from.binds (ps:=["thing", "least"]) fun _ _ _ _ _ _=>mX (fun _ _=>rfl)
 have F_are_wholes:=kR (st:=s_are_wholes) l3 c3 k3
 have m_are_wholes:=Be X G a3
 have b_are_wholes:=F_are_wholes.binds (ps:=["thing", "many"]) fun _ _ _ _ _ _=>mX (fun _ _=>rfl)
 have F_are_wholes_from:=kR (st:=s_are_wholes_from) l4 c4 k4
 have m_are_wholes_from:=Be X G a4
 have b_are_wholes_from:=F_are_wholes_from.binds (ps:=["thing", "many", "least"]) fun _ _ _ _ _ _=>us3 (fun _ _ _=>rfl)
 have F_costs:=kR (st:=s_costs) l5 c5 k5
 have m_costs:=Be X G a5
 have b_costs:=F_costs.binds (ps:=["prices"]) fun _ _ _ _ _ _=>iA (fun _=>rfl)
 have F_gains:=kR (st:=s_gains) l6 c6 k6
 have m_gains:=Be X G a6
 have b_gains:=F_gains.binds (ps:=["want", "prices"]) fun _ _ _ _ _ _=>mX (fun _ _=>rfl)
 have F_greatest_gain:=kR (st:=s_greatest_gain) l7 c7 k7
 have m_greatest_gain:=Be X G a7
 have b_greatest_gain:=F_greatest_gain.binds (ps:=["want", "prices"]) fun _ _ _ _ _ _=>mX (fun _ _=>rfl)
 have F_in_parts:=kR (st:=s_in_parts) l8 c8 k8
 have m_in_parts:=Be X G a8
 have b_in_parts:=F_in_parts.binds (ps:=["want", "by"]) fun _ _ _ _ _ _=>mX (fun _ _=>rfl)
 have F_shows_shares:=kR (st:=s_shows_shares) l9 c9 k9
 have m_shows_shares:=Be X G a9
 have b_shows_shares:=F_shows_shares.binds (ps:=["town", "thing"]) fun _ _ _ _ _ _=>mX (fun _ _=>rfl)
 have F_are_shares:=kR (st:=s_are_shares) l10 c10 k10
 have m_are_shares:=Be X G a10
 have b_are_shares:=F_are_shares.binds (ps:=["town", "by", "rows"]) fun _ _ _ _ _ _=>us3 (fun _ _ _=>rfl)
 have F_is_share:=kR (st:=s_is_share) l11 c11 k11
 have m_is_share:=Be X G a11
 have b_is_share:=F_is_share.binds (ps:=["row", "many", "hands"]) fun _ _ _ _ _ _=>us3 (fun _ _ _=>rfl)
 have F_rise_by_place:=kR (st:=s_rise_by_place) l12 c12 k12
 have m_rise_by_place:=Be X G a12
 have b_rise_by_place:=F_rise_by_place.binds (ps:=["rows"]) fun _ _ _ _ _ _=>iA (fun _=>rfl)
 have F_keep_bounds:=kR (st:=s_keep_bounds) l13 c13 k13
 have m_keep_bounds:=Be X G a13
 have b_keep_bounds:=F_keep_bounds.binds (ps:=["town", "by", "rows"]) fun _ _ _ _ _ _=>us3 (fun _ _ _=>rfl)
 have F_shares_worth:=kR (st:=s_shares_worth) l14 c14 k14
 have m_shares_worth:=Be X G a14
 have b_shares_worth:=F_shares_worth.binds (ps:=["town", "rows"]) fun _ _ _ _ _ _=>mX (fun _ _=>rfl)
 have F_solved:=kR (st:=s_solved) l15 c15 k15
 have m_solved:=Be X G a15
 have b_solved:=F_solved.binds (ps:=["table", "chosen"]) fun _ _ _ _ _ _=>mX (fun _ _=>rfl)
 have F_entering:=kR (st:=s_entering) l16 c16 k16
 have m_entering:=Be X G a16
 have b_entering:=F_entering.binds (ps:=["table"]) fun _ _ _ _ _ _=>iA (fun _=>rfl)
 have F_leaving:=kR (st:=s_leaving) l17 c17 k17
 have m_leaving:=Be X G a17
 have b_leaving:=F_leaving.binds (ps:=["table", "chosen", "column"]) fun _ _ _ _ _ _=>us3 (fun _ _ _=>rfl)
 have F_bounds_more:=kR (st:=s_bounds_more) l18 c18 k18
 have m_bounds_more:=Be X G a18
 have b_bounds_more:=F_bounds_more.binds (ps:=["table", "chosen", "column", "one", "other"]) fun _ _ _ _ _ _=>us5 (fun _ _ _ _ _=>rfl)
 have F_pivoted:=kR (st:=s_pivoted) l19 c19 k19
 have m_pivoted:=Be X G a19
 have b_pivoted:=F_pivoted.binds (ps:=["table", "at", "column", "by"]) fun _ _ _ _ _ _=>us4 (fun _ _ _ _=>rfl)
 have F_shares:=kR (st:=s_shares) l20 c20 k20
 have m_shares:=Be X G a20
 have b_shares:=F_shares.binds (ps:=["town"]) fun _ _ _ _ _ _=>iA (fun _=>rfl)
 have F_share_places:=kR (st:=s_share_places) l21 c21 k21
 have m_share_places:=Be X G a21
 have b_share_places:=F_share_places.binds (ps:=["town"]) fun _ _ _ _ _ _=>iA (fun _=>rfl)
 have F_share_table:=kR (st:=s_share_table) l22 c22 k22
 have m_share_table:=Be X G a22
 have b_share_table:=F_share_table.binds (ps:=["town", "places"]) fun _ _ _ _ _ _=>mX (fun _ _=>rfl)
 have FLspool:=kR (st:=s__law_spool) l23 c23 k23
 have mLspool:=Be X G a23
 have bLspool:=FLspool.binds (ps:=["_law_script"]) fun _ _ _ _ _ _=>iA (fun _=>rfl)
 have FLwound:=kR (st:=s__law_wound) l24 c24 k24
 have mLwound:=Be X G a24
 have bLwound:=FLwound.binds (ps:=["_law_number", "_law_turn"]) fun _ _ _ _ _ _=>mX (fun _ _=>rfl)
 have FLdraw:=kR (st:=s__law_draw) l25 c25 k25
 have mLdraw:=Be X G a25
 have bLdraw:=FLdraw.binds (ps:=["_law_spool_here", "_law_many"]) fun _ _ _ _ _ _=>mX (fun _ _=>rfl)
 have FLwant:=kR (st:=s__law_want) l26 c26 k26
 have mLwant:=Be X G a26
 have bLwant:=FLwant.binds (ps:=["_law_spool_here", "_law_many", "_law_most"]) fun _ _ _ _ _ _=>us3 (fun _ _ _=>rfl)
 have FLtown:=kR (st:=s__law_town) l27 c27 k27
 have mLtown:=Be X G a27
 have bLtown:=FLtown.binds (ps:=["_law_spool_here"]) fun _ _ _ _ _ _=>iA (fun _=>rfl)
 have FLknot:=kR (st:=s__law_knot) l28 c28 k28
 have mLknot:=Be X G a28
 have bLknot:=FLknot.binds (ps:=["_law_spool_here"]) fun _ _ _ _ _ _=>iA (fun _=>rfl)
 have FLany_town:=kR (st:=s__law_any_town) l29 c29 k29
 have mLany_town:=Be X G a29
 have bLany_town:=FLany_town.binds (ps:=["_law_spool_here"]) fun _ _ _ _ _ _=>iA (fun _=>rfl)
 have FLcost:=kR (st:=s__law_cost) l30 c30 k30
 have mLcost:=Be X G a30
 have bLcost:=FLcost.binds (ps:=["_law_numbers", "_law_heap"]) fun _ _ _ _ _ _=>mX (fun _ _=>rfl)
 have FLare_shares:=kR (st:=s__law_are_shares) l31 c31 k31
 have mLare_shares:=Be X G a31
 have bLare_shares:=FLare_shares.binds (ps:=["_law_town_here", "_law_by", "_law_rows"]) fun _ _ _ _ _ _=>us3 (fun _ _ _=>rfl)
 have FLworth:=kR (st:=s__law_worth) l32 c32 k32
 have mLworth:=Be X G a32
 have bLworth:=FLworth.binds (ps:=["_law_town_here", "_law_rows"]) fun _ _ _ _ _ _=>mX (fun _ _=>rfl)
 have FLenough:=kR (st:=s__law_enough) l33 c33 k33
 have mLenough:=Be X G a33
 have bLenough:=FLenough.binds (ps:=["_law_town_here", "_law_by", "_law_numbers", "_law_gains"]) fun _ _ _ _ _ _=>us4 (fun _ _ _ _=>rfl)
 have FLright:=kR (st:=s__law_right) l34 c34 k34
 have mLright:=Be X G a34
 have bLright:=FLright.binds (ps:=["_law_town_here", "_law_thing"]) fun _ _ _ _ _ _=>mX (fun _ _=>rfl)
 have FLtruth:=kR (st:=s__law_truth) l35 c35 k35
 have mLtruth:=Be X G a35
 have bLtruth:=FLtruth.binds (ps:=["_law_found", "_law_due"]) fun _ _ _ _ _ _=>mX (fun _ _=>rfl)
 have FLbent:=kR (st:=s__law_bent) l36 c36 k36
 have mLbent:=Be X G a36
 have bLbent:=FLbent.binds (ps:=["_law_spool_here", "_law_some"]) fun _ _ _ _ _ _=>mX (fun _ _=>rfl)
 have FLotherwise:=kR (st:=s__law_otherwise) l37 c37 k37
 have mLotherwise:=Be X G a37
 have bLotherwise:=FLotherwise.binds (ps:=["_law_spool_here", "_law_thing"]) fun _ _ _ _ _ _=>mX (fun _ _=>rfl)
 have F_law:=kR (st:=s_law) l38 c38 k38
 have m_law:=Be X G a38
 have b_law:=F_law.binds (ps:=["_law_script"]) fun _ _ _ _ _ _=>iA (fun _=>rfl)
 refine ⟨W.fnOf "law" "law" (kE s_law) (kB s_law) (qI s_law) .none kV38 dc38 pm38 an38 cd38 ct38,fun s v=>.of_eq rfl,fun base _ _=>?_⟩
 have c_has:=ok_has (P:=l.prog) (w:=w) (base:=base) F_has m_has b_has T
 have c_entering:=pM (P:=l.prog) (w:=w) (base:=base) F_entering m_entering b_entering T
 have c_more:=ok_more (P:=l.prog) (w:=w) (base:=base) F_bounds_more m_bounds_more b_bounds_more T
 have c_leaving:=sH (P:=l.prog) (w:=w) (base:=base) F_leaving m_leaving b_leaving T c_more
 have c_pivoted:=sG (P:=l.prog) (w:=w) (base:=base) F_pivoted m_pivoted b_pivoted T
 have c_solved:=aQ (P:=l.prog) (w:=w) (base:=base) F_solved m_solved b_solved T c_entering c_leaving c_pivoted
 have c_places:=aS (P:=l.prog) (w:=w) (base:=base) F_share_places m_share_places b_share_places T
 have c_table:=oS (P:=l.prog) (w:=w) (base:=base) F_share_table m_share_table b_share_table T c_has
 have c_shares:=aR (P:=l.prog) (w:=w) (base:=base) F_shares m_shares b_shares T c_places c_table c_solved
 have c_costs:=o3 (P:=l.prog) (w:=w) (base:=base) F_costs m_costs b_costs T
 have c_gains:=oZ (P:=l.prog) (w:=w) (base:=base) F_gains m_gains b_gains T c_costs
 have fn_great:=oY (P:=l.prog) (w:=w) (base:=base) F_greatest_gain T c_gains
 have c_great:=cal_fn (P:=l.prog) (w:=w) (base:=base) F_greatest_gain fn_great m_greatest_gain b_greatest_gain
 have c_parts:=oU (P:=l.prog) (w:=w) (base:=base) F_in_parts m_in_parts b_in_parts T
 have c_whole:=oQ (P:=l.prog) (w:=w) (base:=base) F_is_whole m_is_whole b_is_whole T
 have c_wholes:=aP (P:=l.prog) (w:=w) (base:=base) F_are_wholes m_are_wholes b_are_wholes T c_whole
 have c_from:=ok_from (P:=l.prog) (w:=w) (base:=base) F_are_wholes_from m_are_wholes_from b_are_wholes_from T c_wholes
 have c_isfrom:=aV (P:=l.prog) (w:=w) (base:=base) F_is_whole_from m_is_whole_from b_is_whole_from T c_whole
 have c_iss:=ok_iss (P:=l.prog) (w:=w) (base:=base) F_is_share m_is_share b_is_share T c_wholes
 have c_rise:=ok_rise (P:=l.prog) (w:=w) (base:=base) F_rise_by_place m_rise_by_place b_rise_by_place T
 have c_keep:=ok_keep (P:=l.prog) (w:=w) (base:=base) F_keep_bounds m_keep_bounds b_keep_bounds T c_has
 have c_worthQ:=aO (P:=l.prog) (w:=w) (base:=base) F_shares_worth m_shares_worth b_shares_worth T
 have c_ars:=ok_ars (P:=l.prog) (w:=w) (base:=base) F_are_shares m_are_shares b_are_shares T c_isfrom c_iss c_rise c_keep
 have c_ss:=ok_ss (P:=l.prog) (w:=w) (base:=base) F_shows_shares m_shows_shares b_shows_shares T c_ars c_from c_great c_parts c_worthQ
 have c_wound:=oP (P:=l.prog) (w:=w) (base:=base) FLwound mLwound bLwound T
 have c_draw:=ok_draw (P:=l.prog) (w:=w) (base:=base) FLdraw mLdraw bLdraw T c_wound
 have c_spool:=oT (P:=l.prog) (w:=w) (base:=base) FLspool mLspool bLspool T
 have c_lwant:=oV (P:=l.prog) (w:=w) (base:=base) FLwant mLwant bLwant T c_draw
 have c_ltown:=oW (P:=l.prog) (w:=w) (base:=base) FLtown mLtown bLtown T c_draw c_lwant
 have c_knot:=ok_knot (P:=l.prog) (w:=w) (base:=base) FLknot mLknot bLknot T c_draw
 have c_any:=ok_any (P:=l.prog) (w:=w) (base:=base) FLany_town mLany_town bLany_town T c_draw c_knot c_ltown
 have c_lars:=ok_lars (P:=l.prog) (w:=w) (base:=base) FLare_shares mLare_shares bLare_shares T
 have c_lcost:=oX (P:=l.prog) (w:=w) (base:=base) FLcost mLcost bLcost T
 have c_len:=ok_len (P:=l.prog) (w:=w) (base:=base) FLenough mLenough bLenough T c_lcost
 have c_lworth:=aT (P:=l.prog) (w:=w) (base:=base) FLworth mLworth bLworth T
 have c_lright:=aU (P:=l.prog) (w:=w) (base:=base) FLright mLright bLright T c_lars c_len c_lworth
 have c_truth:=oR (P:=l.prog) (w:=w) (base:=base) FLtruth mLtruth bLtruth T
 have c_bent:=ok_bent (P:=l.prog) (w:=w) (base:=base) FLbent mLbent bLbent T c_draw
 have c_oth:=ok_oth (P:=l.prog) (w:=w) (base:=base) FLotherwise mLotherwise bLotherwise T c_draw c_bent
 exact ok_law (P:=l.prog) (w:=w) (base:=base) F_law T c_spool c_any c_shares c_draw c_oth c_lright c_ss c_truth
theorem walk {l:PySem.W.OpenLaw}{q:Program}{loose:List Str}{XP:(Str→Option Value)→Heap→Prop}{YP:World→Heap→Prop}{d:DefRec}{K:Params→PySem.W.Frag}(hn:l.most=some 63)(hdf:d.params.defaults=[])
  (hY:∀ (w:World) (h:Heap),YP w h→(K w.params).In h)
  (F:∀ (w:World) (mg:Str→Option Value) (fa:Addr) (h:Heap),(K w.params).In h→h.Ns mainGlobals mg→mg d.name=some (.ref fa) →
   ∃ fd:FuncData,(∀ (s:Shared) (u:Value),BindsTo s fd ⟨[u],[]⟩ [("_law_script",u)])∧∀ base:Heap,(K w.params).In base→base.Ns mainGlobals mg→FnOk l.prog w (K w.params) mg base CX0 6 fa fd ["_law_script"] (m9 (K w.params))) :
  PySem.W.WalkO q loose XP YP l.row.toRowW d [] (fun f vs=>PySem.call f vs) :=
 L2.walk_of (n:=63) (k:=6) (x := "_law_script") (CX:=fun _=>CX0) (sp:=fun w=>m9 (K w.params)) hn (by decide) hdf ⟨rfl,by decide,by decide,rfl⟩ hY F (fun w H a ns hl hO hS=>⟨a,ns,rfl,hS,hl,fun _=>rfl⟩) fun _ _ _ _ _ z=>z
theorem toX {q:Program}{loose:List Str}{XP:(Str→Option Value)→Heap→Prop}{r:PySem.W.RowW}{d:DefRec}{kwd:List (Str × PySem.Expr)}{run:Value→List Value→Sem Value}{K:Params→PySem.W.Frag}{as:List Addr}{n t:Nat}(e:∀ P,as=(K P).map (·.1))(h:PySem.W.WalkO q loose XP (fun w h=>(K w.params).In h) r d kwd run):PySem.W.WalkX q loose XP (PySem.W.X.obsZ as) (PySem.W.X.valZ K n t) r d kwd run :=
 fun w s₀ s₁ mg mb G y a o pm cd doc dV kV ho hd hcd hD hmg hg args vals as2 L hpre hl hrd hwl hlo=>h w s₀ s₁ mg mb G (PySem.W.InK.keeps w _ _ (PySem.W.X.z_facts e y).2.1 L.keeps) a o pm cd doc dV kV ho hd hcd hD hmg hg args vals as2 hpre hl hrd hwl hlo
end K50
end
end
end
section
namespace PySem.W.Tw
noncomputable def st (i:Nat):PySem.Stmt:=PySem.Challenge.pw_wantprices_k50_shares_judged.main.body.getD i (.Pass ⟨0,0,0,0⟩)
noncomputable def view:PySem.Program:={ PySem.Challenge.pw_wantprices_k50_shares_judged with main:={ PySem.Challenge.pw_wantprices_k50_shares_judged.main with body:=[st 1,st 3,st 4,st 5,st 6,st 8,st 9,st 10,st 12,st 14,st 15,st 16,st 17,st 18,st 19,st 21,st 22,st 23,st 24,st 25,st 27,st 28,st 29,st 31,st 32,st 33,st 34,st 35,st 36,st 37,st 38,st 39,st 40,st 41,st 42,st 43,st 44,st 45,st 46] } }
noncomputable def sts0:List PySem.Stmt:=[st 0,st 1,st 2,st 3,st 4,st 5,st 6,st 7,st 8,st 9,st 10,st 11,st 12,st 13,st 14,st 15,st 16]
noncomputable def sts1:List PySem.Stmt:=[st 17,st 18,st 19,st 20,st 21,st 22,st 23,st 24,st 25,st 26,st 27,st 28,st 29,st 30,st 31]
noncomputable def sts2:List PySem.Stmt:=[st 32,st 33,st 34,st 35,st 36,st 37,st 38,st 39,st 40,st 41,st 42,st 43,st 44,st 45]
noncomputable def sts3:List PySem.Stmt:=[st 46]
end PySem.W.Tw
noncomputable def PySem.W.Fast.tw13477027349477929558:PySem.Program:=PySem.Challenge.pw_wantprices_k50_shares_judged
theorem PySem.W.Fast.te13477027349477929558:PySem.Challenge.pw_wantprices_k50_shares_judged=PySem.W.Fast.tw13477027349477929558:=rfl
noncomputable def PySem.W.Fast.tw4317348747818421203:PySem.Program:=PySem.W.Tw.view
theorem PySem.W.Fast.te4317348747818421203:PySem.W.Tw.view=PySem.W.Fast.tw4317348747818421203:=rfl
noncomputable def PySem.W.Fast.tw1972606852927247577:List PySem.Stmt:=PySem.W.Tw.sts0
theorem PySem.W.Fast.te1972606852927247577:PySem.W.Tw.sts0=PySem.W.Fast.tw1972606852927247577:=rfl
noncomputable def PySem.W.Fast.tw7537747325688344134:List PySem.Stmt:=PySem.W.Tw.sts1
theorem PySem.W.Fast.te7537747325688344134:PySem.W.Tw.sts1=PySem.W.Fast.tw7537747325688344134:=rfl
noncomputable def PySem.W.Fast.tw16679530313327661549:List PySem.Stmt:=PySem.W.Tw.sts2
theorem PySem.W.Fast.te16679530313327661549:PySem.W.Tw.sts2=PySem.W.Fast.tw16679530313327661549:=rfl
noncomputable def PySem.W.Fast.tw12114225758579829903:List PySem.Stmt:=PySem.W.Tw.sts3
theorem PySem.W.Fast.te12114225758579829903:PySem.W.Tw.sts3=PySem.W.Fast.tw12114225758579829903:=rfl
noncomputable def PySem.W.Fast.tw6834146743985277724:Nat:=0
noncomputable def PySem.W.Fast.tw17423347415504718701:Nat:=0
noncomputable def PySem.W.Fast.tw331021955820311373:Nat:=0
noncomputable def PySem.W.Fast.tw7107996000635063899:Nat:=0
noncomputable def PySem.W.Fast.tw16248373630417823494:Nat:=0
noncomputable def PySem.W.Fast.tw7472518989014583927:Nat:=0
noncomputable def PySem.W.Fast.tw17200652786649041361:Nat:=0
end
section
set_option Elab.async false
set_option linter.all false
open PySem PySem.W PyProof.Rows
set_option maxRecDepth 100000 in
set_option maxHeartbeats 0 in
theorem PySem.Challenge.cw_wantprices_k50_shares_judged_holds : PySem.Challenge.rw_wantprices_k50_shares_judged.Holds := by
 w_on;o_law;z_head;(case hw=>w_witness2)
 k_fill
 refine K50.toX (fun _=>by kernel_rfl) ?_
 refine K50.walk (l:=PySem.Challenge.rw_wantprices_k50_shares_judged) rfl rfl (fun w h Y=>Y) ?F
 case F =>
  intro w mg fa h KX G hmg
  refine' K50.all_mk KX G hmg ?a0 ?l0 ?c0 ?k0 ?a1 ?l1 ?c1 ?k1 ?a2 ?l2 ?c2 ?k2 ?a3 ?l3 ?c3 ?k3 ?a4 ?l4 ?c4 ?k4 ?a5 ?l5 ?c5 ?k5 ?a6 ?l6 ?c6 ?k6 ?a7 ?l7 ?c7 ?k7 ?a8 ?l8 ?c8 ?k8 ?a9 ?l9 ?c9 ?k9 ?a10 ?l10 ?c10 ?k10 ?a11 ?l11 ?c11 ?k11 ?a12 ?l12 ?c12 ?k12 ?a13 ?l13 ?c13 ?k13 ?a14 ?l14 ?c14 ?k14 ?a15 ?l15 ?c15 ?k15 ?a16 ?l16 ?c16 ?k16 ?a17 ?l17 ?c17 ?k17 ?a18 ?l18 ?c18 ?k18 ?a19 ?l19 ?c19 ?k19 ?a20 ?l20 ?c20 ?k20 ?a21 ?l21 ?c21 ?k21 ?a22 ?l22 ?c22 ?k22 ?a23 ?l23 ?c23 ?k23 ?a24 ?l24 ?c24 ?k24 ?a25 ?l25 ?c25 ?k25 ?a26 ?l26 ?c26 ?k26 ?a27 ?l27 ?c27 ?k27 ?a28 ?l28 ?c28 ?k28 ?a29 ?l29 ?c29 ?k29 ?a30 ?l30 ?c30 ?k30 ?a31 ?l31 ?c31 ?k31 ?a32 ?l32 ?c32 ?k32 ?a33 ?l33 ?c33 ?k33 ?a34 ?l34 ?c34 ?k34 ?a35 ?l35 ?c35 ?k35 ?a36 ?l36 ?c36 ?k36 ?a37 ?l37 ?c37 ?k37 ?a38 ?l38 ?c38 ?k38 ?z_len ?z_sum ?z_max ?z_range ?z_tuple ?z_list ?z_int ?z_bool ?z_zip ?z_enumerate ?z_isinstance ?z_all ?z_set ?z_sorted
  (case a0=>k_is)
  (case l0=>k_is)
  (case c0=>k_is)
  (case k0=>k_is)
  (case a1=>k_is)
  (case l1=>k_is)
  (case c1=>k_is)
  (case k1=>k_is)
  (case a2=>k_is)
  (case l2=>k_is)
  (case c2=>k_is)
  (case k2=>k_is)
  (case a3=>k_is)
  (case l3=>k_is)
  (case c3=>k_is)
  (case k3=>k_is)
  (case a4=>k_is)
  (case l4=>k_is)
  (case c4=>k_is)
  (case k4=>k_is)
  (case a5=>k_is)
  (case l5=>k_is)
  (case c5=>k_is)
  (case k5=>k_is)
  (case a6=>k_is)
  (case l6=>k_is)
  (case c6=>k_is)
  (case k6=>k_is)
  (case a7=>k_is)
  (case l7=>k_is)
  (case c7=>k_is)
  (case k7=>k_is)
  (case a8=>k_is)
  (case l8=>k_is)
  (case c8=>k_is)
  (case k8=>k_is)
  (case a9=>k_is)
  (case l9=>k_is)
  (case c9=>k_is)
  (case k9=>k_is)
  (case a10=>k_is)
  (case l10=>k_is)
  (case c10=>k_is)
  (case k10=>k_is)
  (case a11=>k_is)
  (case l11=>k_is)
  (case c11=>k_is)
  (case k11=>k_is)
  (case a12=>k_is)
  (case l12=>k_is)
  (case c12=>k_is)
  (case k12=>k_is)
  (case a13=>k_is)
  (case l13=>k_is)
  (case c13=>k_is)
  (case k13=>k_is)
  (case a14=>k_is)
  (case l14=>k_is)
  (case c14=>k_is)
  (case k14=>k_is)
  (case a15=>k_is)
  (case l15=>k_is)
  (case c15=>k_is)
  (case k15=>k_is)
  (case a16=>k_is)
  (case l16=>k_is)
  (case c16=>k_is)
  (case k16=>k_is)
  (case a17=>k_is)
  (case l17=>k_is)
  (case c17=>k_is)
  (case k17=>k_is)
  (case a18=>k_is)
  (case l18=>k_is)
  (case c18=>k_is)
  (case k18=>k_is)
  (case a19=>k_is)
  (case l19=>k_is)
  (case c19=>k_is)
  (case k19=>k_is)
  (case a20=>k_is)
  (case l20=>k_is)
  (case c20=>k_is)
  (case k20=>k_is)
  (case a21=>k_is)
  (case l21=>k_is)
  (case c21=>k_is)
  (case k21=>k_is)
  (case a22=>k_is)
  (case l22=>k_is)
  (case c22=>k_is)
  (case k22=>k_is)
  (case a23=>k_is)
  (case l23=>k_is)
  (case c23=>k_is)
  (case k23=>k_is)
  (case a24=>k_is)
  (case l24=>k_is)
  (case c24=>k_is)
  (case k24=>k_is)
  (case a25=>k_is)
  (case l25=>k_is)
  (case c25=>k_is)
  (case k25=>k_is)
  (case a26=>k_is)
  (case l26=>k_is)
  (case c26=>k_is)
  (case k26=>k_is)
  (case a27=>k_is)
  (case l27=>k_is)
  (case c27=>k_is)
  (case k27=>k_is)
  (case a28=>k_is)
  (case l28=>k_is)
  (case c28=>k_is)
  (case k28=>k_is)
  (case a29=>k_is)
  (case l29=>k_is)
  (case c29=>k_is)
  (case k29=>k_is)
  (case a30=>k_is)
  (case l30=>k_is)
  (case c30=>k_is)
  (case k30=>k_is)
  (case a31=>k_is)
  (case l31=>k_is)
  (case c31=>k_is)
  (case k31=>k_is)
  (case a32=>k_is)
  (case l32=>k_is)
  (case c32=>k_is)
  (case k32=>k_is)
  (case a33=>k_is)
  (case l33=>k_is)
  (case c33=>k_is)
  (case k33=>k_is)
  (case a34=>k_is)
  (case l34=>k_is)
  (case c34=>k_is)
  (case k34=>k_is)
  (case a35=>k_is)
  (case l35=>k_is)
  (case c35=>k_is)
  (case k35=>k_is)
  (case a36=>k_is)
  (case l36=>k_is)
  (case c36=>k_is)
  (case k36=>k_is)
  (case a37=>k_is)
  (case l37=>k_is)
  (case c37=>k_is)
  (case k37=>k_is)
  (case a38=>k_is)
  (case l38=>k_is)
  (case c38=>k_is)
  (case k38=>k_is)
  (case z_len=>k_is)
  (case z_sum=>k_is)
  (case z_max=>k_is)
  (case z_range=>k_is)
  (case z_tuple=>k_is)
  (case z_list=>k_is)
  (case z_int=>k_is)
  (case z_bool=>k_is)
  (case z_zip=>k_is)
  (case z_enumerate=>k_is)
  (case z_isinstance=>k_is)
  (case z_all=>k_is)
  (case z_set=>k_is)
  (case z_sorted=>k_is)
end
