import PyProof.Rows.All
import Wide.All
import OpenK.AllK
import Wide.FinOn
import HandS.ForMost
import HandS.Flow
import HandS.IsInst
import HandS.TupAny
import KE.GoesEnum
import HandS.SetFor
import HandS.RaiseMore
import HandS.ForExc
import HandS.ExcIs
import HandS.ExcField
import HandS.ExcInit
import HandS.HotCalls
import KE.KTryMore
import HandS.Codes
import HandS.Defaults
import PyProof.ReprRoads
import HandS.Lambda
import HandS.MakeKw
import HandS.MakeKwOnly
import HandS.NoneIn
import HandS.EndTab
import HandS.HeadWalk
import KE.KStateDown
import HandS.Head0
import HandS.Head1
import HandS.Head2
import HandS.HeadEnd
import HandS.HeadHook1
import HandS.HeadHook2
import HandS.HeadHook3
import HandS.HeadHook4
import PySem.Challenge.RW_cornersure_k04_tables_refused
set_option Elab.async false
set_option linter.all false
set_option maxRecDepth 100000
set_option maxHeartbeats 4000000
/-! Rules of my own beside the layer: enumerate of a tuple; a chain of three comparisons; count of flat items. -/
namespace PySem
open AutoSeq1 (wpAny_loadPart')
theorem cs_enum_newT (l : Addr) (items : Array Value) (n : Nat) (dct : Option Addr) (sl : Array (Option Value)) :
    Meets (Builtin.«enumerate.__new__» ⟨[.type "enumerate", .ref l], []⟩)
      (fun _ R s => s.heap.get? l = some { cls := .type "tuple", dict := dct, data := .seq items n, slots := sl } ∧
        R (.ok (.ret (.ref (s.heap.push { cls := .type "tuple_iterator", data := .fields #[.ref l, .int 0 0] }).objs.size)))
          { s with heap := ((s.heap.push { cls := .type "tuple_iterator", data := .fields #[.ref l, .int 0 0] }).push { cls := .type "enumerate", data := .fields #[.none, .bool false, .ref s.heap.objs.size, rawInt 0, .none, .none] }) }) := .of_wp fun prog w A R s h => by
  obtain ⟨hp, g, d, tk, os⟩ := s
  obtain ⟨hl, h⟩ := h
  have hsub := sub_enumerate
  have hT : Heap.IsTuple (Shared.heap ⟨hp, g, d, tk, os⟩) l items := ⟨_, hl, rfl, n, rfl⟩
  wp_walk using wpAny_loadPart' hl
  refine wpAny_stack_any fun _ => wpAny_pure ?_
  split
  · rename_i c _ _ _ _ _
    cases (c == Value.type "enumerate") <;> (wp_walk using wpAny_loadPart' hl, wpAny_pyIter_tuple hT; exact ⟨_, rfl, h⟩)
  · wp_walk using wpAny_loadPart' hl, wpAny_pyIter_tuple hT
    exact ⟨_, rfl, h⟩
theorem cs_call_enumT {prog : Program} {w : World} {A : Around} {E : Value → Shared → Prop} {s : Shared} {l : Addr} {items : Array Value} {Q : Value → Shared → Prop} (hL : s.heap.IsTuple l items)
    (h : ∀ h', IsEnum h' (s.heap.objs.size + 1) s.heap.objs.size 0 .none → h'.IsTupleIter s.heap.objs.size l 0 →
      (∀ b o, s.heap.get? b = some o → h'.get? b = some o) → Q (.ref (s.heap.objs.size + 1)) { s with heap := h' }) :
    wpAny (model prog w) A (call (.type "enumerate") [.ref l]) Q E s := by
  obtain ⟨⟨c, dct, dt, sl⟩, hl, hc, n, hd⟩ := hL
  obtain rfl : c = .type "tuple" := hc
  obtain rfl : dt = .seq items n := hd
  refine callType_new F.called_enumerate (by decide) (F.typeCall_enumerate_1 _) (F.newCall_enumerate_1 _)
    (fun obj => F.args_object_init_2 obj _) F.entry_enumerate_new (cs_enum_newT l items n dct sl) ⟨hl, ?_⟩
  generalize ho1 : ({ cls := .type "tuple_iterator", data := .fields #[.ref l, .int 0 0] } : Obj) = o1
  generalize ho2 : ({ cls := .type "enumerate", data := .fields #[.none, .bool false, .ref s.heap.objs.size, rawInt 0, .none, .none] } : Obj) = o2
  have f1 : o1.isFreed = false := by rw [← ho1]; rfl
  have f2 : o2.isFreed = false := by rw [← ho2]; rfl
  have z1 : (s.heap.push o1).objs.size = s.heap.objs.size + 1 := Heap.size_push ..
  have he : ((s.heap.push o1).push o2).get? (s.heap.objs.size + 1) = some o2 := by
    rw [← z1]
    exact Heap.get?_push_size _ f2
  have hi : ((s.heap.push o1).push o2).get? s.heap.objs.size = some o1 := Heap.get?_push_of_some _ (Heap.get?_push_size _ f1)
  rw [z1]
  refine ⟨⟨o2, he, by rw [← ho2]⟩, h _ ?_ ⟨o1, hi, by rw [← ho1], by rw [← ho1]; rfl⟩ fun b o x => Heap.get?_push_of_some _ (Heap.get?_push_of_some _ x)⟩
  rw [← ho2] at he ⊢
  exact he
end PySem
namespace Cs
open PySem L2 PyProof.Rows
/-- the tuple at a, each item in a new pair -/
def EtT (K : PySem.W.Frag) (a : Addr) : It :=
  ⟨fun i H => ∃ (xs : List V) (x : V), SqT K H a xs ∧ xs[i]? = some x,
    fun i H v H' => ∃ T x, v = .ref T ∧ H T = none ∧ H' = upd H T (.tup [.int (i : Nat), x]) ∧ ∀ xs, SqT K H a xs → xs[i]? = some x,
    fun i H => ∃ xs : List V, SqT K H a xs ∧ xs.length = i⟩
theorem turn_enumT {P : Program} {w : World} {K : PySem.W.Frag} {elts : List Expr} {kk : Nat} {tpos : Pos} (a e it : Addr) :
    Turn P w K (.Tuple elts kk tpos) (EtT K a) [e, it] e (fun i h => (∃ old, IsEnum h e it ((i : Nat) : Int) old) ∧ h.IsTupleIter it a i ∧ e ≠ it) where
  mem := List.mem_cons_self
  obj := fun i h st b hb => by
    obtain ⟨⟨old, he⟩, ⟨o, ho, _, hd⟩, _⟩ := st
    rcases List.mem_cons.mp hb with rfl | hb
    · exact ⟨_, he, fun v q => nomatch q⟩
    · obtain rfl : b = it := by simpa using hb
      exact ⟨o, ho, fun v q => by rw [hd] at q; cases q⟩
  keep := fun i h h' st k => by
    obtain ⟨⟨old, he⟩, hi, hne⟩ := st
    exact ⟨⟨old, k _ (by simp) _ he⟩, hi.at fun o q => k _ (by simp) o q, hne⟩
  item := by
    rintro X rfl rfl rfl hc i pins s σ H E I hf ⟨⟨old, he⟩, hit, hne⟩ ⟨xs, x, hq, hx⟩
    obtain ⟨its, rv, p, hz⟩ := I.tuple hq
    obtain ⟨u, hu, ru⟩ := rv.get hx
    have p' : s.heap.IsTuple a its.toArray := p
    have hel := Heap.lt_size he
    have hil : it < s.heap.objs.size := by
      obtain ⟨_, q, _⟩ := hit
      exact Heap.lt_size q
    have nat : a ≠ it := fun z => by
      obtain ⟨o1, q1, c1, _⟩ := p'
      obtain ⟨o2, q2, c2, _⟩ := hit
      rw [z, q2] at q1
      cases q1
      rw [c2] at c1
      exact absurd (Value.type.inj c1) (by decide)
    have nae : a ≠ e := fun z => by
      obtain ⟨o1, q1, c1, _⟩ := p'
      have he' := he
      rw [← z] at he'
      unfold IsEnum at he'
      rw [q1] at he'
      cases he'
      exact absurd (Value.type.inj c1) (by decide)
    have hh : X.A.in1.handled = none := I.ok.hd hc
    have D := Draws.tuple (prog := X.prog) (w := X.w) hh it a nat its.toArray
    have hi2 : i < its.toArray.size := by
      have q := (List.getElem?_eq_some_iff.mp hu).1
      simpa using q
    refine wpAny_pyNext_enum_itemD D he ⟨hit, p'⟩ hi2 hne (by simp [hne, Ne.symm nae]) fun y h' tk hy ho hst hT hsz hk => ?_
    have ey : y = u := by
      have q : its.toArray[i]? = some y := hy
      rw [List.getElem?_toArray, hu] at q
      exact (Option.some.inj q).symm
    subst ey
    refine ⟨_, rfl, wpAny_letOwnedTupleGo_enum (s := { s with heap := h', toks := tk + 1 }) ho fun h2 he2 sb => ?_⟩
    have ne0 : s.heap.objs.size ≠ e := Nat.ne_of_gt hel
    have hT2 : h2.get? s.heap.objs.size = some { cls := .type "tuple", data := .seq #[.int i tk, y] } := (sb.2 _ ne0).trans hT
    have new : ObjOk X.prog X.w (upd H s.heap.objs.size (.tup [.int (i : Nat), x])) h2 s.heap.objs.size (.tup [.int (i : Nat), x]) :=
      ⟨(by show 2 ≤ sizeLine; decide), [.int i tk, y], .cons ⟨_, rfl⟩ (.cons ru .nil), _, hT2, rfl, _, rfl⟩
    have kk2 : ∀ b ob, b ∉ [e, it] → s.heap.get? b = some ob → h2.get? b = some ob := fun b ob hb q => by
      have b1 : b ≠ e := fun z => hb (by simp [z])
      have b2 : b ≠ it := fun z => hb (by simp [z])
      exact (sb.2 b b1).trans (hk b ob b1 b2 q)
    have J := I.turnedNew (t' := tk + 1) (ch := [e, it]) kk2 hf (Nat.le_refl _) new
    refine ⟨.ref s.heap.objs.size, _, J, rfl, ⟨_, x, rfl, I.hok.fresh (Nat.le_refl _), rfl, fun ys hy2 => ?_⟩, ⟨⟨y, ?_⟩, hst.1.at fun o q => (sb.2 it (Ne.symm hne)).trans q, hne⟩, fun b hb => ?_⟩
    · rw [I.tuple_inj hy2 hq]
      exact hx
    · have e1 : ((i + 1 : Nat) : Int) = (i : Int) + 1 := by omega
      rw [e1]
      exact he2
    · have hb' : b < s.heap.objs.size := by
        rcases List.mem_cons.mp hb with rfl | hb
        · exact hel
        · obtain rfl : b = it := by simpa using hb
          exact hil
      rw [upd_ne (Nat.ne_of_lt hb')]
      exact (hf b hb).1
  done := by
    rintro X rfl rfl rfl hc i pins s σ H E I hf ⟨⟨old, he⟩, hit, hne⟩ ⟨xs, hq, hx⟩
    obtain ⟨its, rv, p, hz⟩ := I.tuple hq
    have p' : s.heap.IsTuple a its.toArray := p
    have nat : a ≠ it := fun z => by
      obtain ⟨o1, q1, c1, _⟩ := p'
      obtain ⟨o2, q2, c2, _⟩ := hit
      rw [z, q2] at q1
      cases q1
      rw [c2] at c1
      exact absurd (Value.type.inj c1) (by decide)
    have D := Draws.tuple (prog := X.prog) (w := X.w) (A := X.A.in1) (I.ok.hd hc) it a nat its.toArray
    have ei : i = its.toArray.size := by
      have q := rv.length
      simp
      omega
    obtain ⟨f0, f1, f2, f3, f4, f5⟩ := hf it (by simp)
    exact wpAny_pyNext_enum_endD D he (by rw [← ei]; exact ⟨hit, p'⟩) fun h' eb => ⟨rfl, I.turned (t' := s.toks) (fun b o hb q => eb b o hb q) f0 f1 f3 f4 f5⟩
  self := fun A i s Q E st h => let ⟨⟨_, he⟩, _⟩ := st; wpAny_pyIter_enum he h
def iEnT (K : PySem.W.Frag) (ta : TA) : TI := fun σ H R => ta σ H fun vs H1 => ∃ a, vs = [.ref a] ∧ (∃ xs, SqT K H1 a xs) ∧ R (EtT K a) H1
theorem pi_enumT {X : Cx} {e : Expr} {ta : TA} {p pos tpos : Pos} {elts : List Expr} {kk : Nat} (hg : Gl X "enumerate") (hm : X.mg "enumerate" = none) (ha : PA X [e] ta)
    (hs : starEach [e] X.env = [(false, eval e X.env)] := by rfl) : PI X (.Tuple elts kk tpos) (.Call (.Name "enumerate" p) [e] [] pos) (iEnT X.K ta) := by
  refine ⟨fun pins s σ H R I h => ?_⟩
  refine Call_ (ld_blt I hg hm boot_enumerate (callWith_type1 (thn (ha.run pos pins s σ H _ I h) fun us s1 hh => ?_) hs rfl))
  obtain ⟨vs, H1, I1, r1, a, rfl, ⟨xs, hq⟩, q⟩ := hh
  cases r1 with
  | cons r rr =>
    cases rr
    cases r
    obtain ⟨its, rv, p1, hz⟩ := I1.tuple hq
    refine cs_call_enumT (items := its.toArray) p1 fun h' he hit hk => wpAny_pyIter_enum he ?_
    have I2 : Inv X pins σ H1 { s1 with heap := h' } := I1.kept (t' := s1.toks) hk
    refine ⟨_, [s1.heap.objs.size + 1, s1.heap.objs.size], _, _, H1, rfl, I2, turn_enumT a (s1.heap.objs.size + 1) s1.heap.objs.size, ⟨⟨.none, he⟩, hit, Nat.succ_ne_self _⟩, fun b hb => ?_, q⟩
    have hle : s1.heap.objs.size ≤ b := by
      rcases List.mem_cons.mp hb with rfl | hb
      · omega
      · obtain rfl : b = s1.heap.objs.size := by simpa using hb
        omega
    exact I1.fpOk hle (I1.hok.fresh hle)
theorem for_enumT {K : PySem.W.Frag} {a : Addr} {xs : List V} {g : TG} {tb : TS} {D : Ends} {σ : L2.St} {H : Hp} (Pv : Nat → L2.St → Hp → Prop) (h0 : Pv 0 σ H)
    (hl : ∀ i σ H, i ≤ xs.length → Pv i σ H → SqT K H a xs)
    (hs : ∀ i x T σ H, xs[i]? = some x → Pv i σ H → H T = none → g (.ref T) σ (upd H T (.tup [.int (i : Nat), x])) fun σ2 H2 => tb { D with nx := Pv (i + 1), ct := Pv (i + 1), bk := D.nx } σ2 H2)
    (hd : ∀ σ H, Pv xs.length σ H → D.nx σ H) :
    ∃ W : Nat → Nat → L2.St → Hp → Prop, (∃ m, W 0 m σ H) ∧ ∀ i m σ H, W i m σ H →
      ((EtT K a).stop i H ∧ D.nx σ H) ∨ ((EtT K a).go i H ∧ ∃ N : L2.St → Hp → Prop, (∀ σ' H', N σ' H' → ∃ m', m' < m ∧ W (i + 1) m' σ' H') ∧
        ∀ x H', (EtT K a).yld i H x H' → g x σ H' fun σ2 H2 => tb { D with nx := N, ct := N, bk := D.nx } σ2 H2) := by
  refine ⟨fun i m σ H => m + i = xs.length ∧ Pv i σ H, ⟨xs.length, rfl, h0⟩, fun i m σ H ⟨hm, p⟩ => ?_⟩
  have q := hl i σ H (by omega) p
  cases e : xs[i]? with
  | none =>
    have hi : i = xs.length := by
      have := List.getElem?_eq_none_iff.mp e
      omega
    subst hi
    exact .inl ⟨⟨xs, q, rfl⟩, hd σ H p⟩
  | some x =>
    have hi := (List.getElem?_eq_some_iff.mp e).1
    refine .inr ⟨⟨xs, x, q, e⟩, Pv (i + 1), fun σ' H' p' => ⟨m - 1, by omega, by omega, p'⟩, fun v H' ⟨T, y, hv, hT, hH, hy⟩ => ?_⟩
    subst hv hH
    have ey := hy xs q
    rw [e] at ey
    cases ey
    exact hs i x T σ H e p hT
end Cs
set_option maxHeartbeats 4000000
namespace Cs
open PySem L2 PyProof.Rows
section
variable {X : Cx} {a b c d : Expr} {ta tb tc td : TE} {pos : Pos}
def tChain3 (r r' r'' : R2) (ta tb tc td : TE) : TE := fun σ H Q => ta σ H fun x H1 => tb σ H1 fun y H2 => r x y H2 fun z H3 => ∃ k, z = .bl k ∧
  if k = true then tc σ H3 fun w H4 => r' y w H4 fun z2 H5 => ∃ k2, z2 = .bl k2 ∧ if k2 = true then td σ H5 fun u H6 => r'' w u H6 Q else Q (.bl false) H5
  else Q (.bl false) H3
theorem pe_chain3 {op op' op'' : CmpOp} {r r' r'' : R2} (ho : OpR X (compareOp op) r) (ho' : OpR X (compareOp op') r') (ho'' : OpR X (compareOp op'') r'') (ha : PE X a ta) (hb : PE X b tb) (hc : PE X c tc) (hd : PE X d td)
    (hm : lastMarks [op, op', op''] [b, c, d] = false := by with_unfolding_all rfl) : PE X (.Compare a [op, op', op''] [b, c, d] pos) (tChain3 r r' r'' ta tb tc td) := by
  refine ⟨fun pins s σ H Q I h => Compare_chain (thn (ha.run pins s σ H _ I h) fun v s1 ⟨x, H1, I1, r1, q1⟩ => chain_link (thn (hb.run pins s1 σ H1 _ I1 q1) fun u s2 ⟨y, H2, I2, r2, q2⟩ => ?_)) hm⟩
  refine thn (ho pins s2 σ H2 x y v u _ I2 r1 r2 q2) fun e s3 ⟨z, H3, I3, r3, k, ez, q3⟩ => ?_
  subst ez
  cases r3
  refine wpAny_truthy_bool ?_
  cases k with
  | false => exact ite_ff ⟨.bl false, H3, I3, rfl, q3⟩
  | true =>
    refine ite_tt (chain_link (thn (hc.run pins s3 σ H3 _ I3 q3) fun u4 s4 ⟨z4, H4, I4, r4, q4⟩ => ?_))
    refine thn (ho' pins s4 σ H4 y z4 u u4 _ I4 r2 r4 q4) fun e5 s5 ⟨z5, H5, I5, r5, k5, ez5, q5⟩ => ?_
    subst ez5
    cases r5
    refine wpAny_truthy_bool ?_
    cases k5 with
    | false => exact ite_ff ⟨.bl false, H5, I5, rfl, q5⟩
    | true => exact ite_tt (chain_last (thn (hd.run pins s5 σ H5 _ I5 q5) fun u6 s6 ⟨z6, H6, I6, r6, q6⟩ => ho'' pins s6 σ H6 z4 z6 u4 u6 Q I6 r4 r6 q6))
/-- how often a flat thing stands among flat ones -/
def rCntF (K : PySem.W.Frag) : V → List V → Hp → VK → Prop := fun x vs H Q => ∃ (p : Addr) (xs : List V) (y : V), x = .ref p ∧ vs = [y] ∧ SqL K H p xs ∧ flatV y = true ∧ xs.all flatV = true ∧ Q (.int (xs.countP fun z => eqV z y : Nat)) H
theorem cnt_eqU {x : V} : ∀ {xs : List V} {us : List Value}, Vals xs us → xs.all flatV = true → us.countP (eqU x) = xs.countP fun y => eqV y x
  | _, _, .nil, _ => rfl
  | y :: xs, u :: us, .cons r t, f => by
    rw [List.all_cons, Bool.and_eq_true] at f
    rw [List.countP_cons, List.countP_cons, eqU_of r f.1, cnt_eqU t f.2]
theorem mt_countF : MtR X "list.count" (rCntF X.K) := by
  rintro pins s σ H x vs v us Q I rx rvs ⟨p, xs, y, rfl, rfl, hq, fy, fx, q⟩
  cases rx
  obtain ⟨u, rfl, ru⟩ := rvs.one
  obtain ⟨its, rv, ⟨⟨cls, dd, data, sl⟩, n, ho, hc, _, hd⟩, _⟩ := I.list hq
  obtain rfl : cls = .type "list" := hc
  obtain rfl : data = .seq its.toArray n := hd
  refine call_meets PySem.F.slot_list_count ⟨_, ho, rfl⟩ PySem.F.entry_list_count (PySem.F.args_list_count_2 _ _)
    (SeqAt.list_countAt p its.toArray n dd sl u (eqU y)) ⟨ho, fun z hz => mem_eqAt ru fy rv fx z (by simpa using hz), .int _, H, I.tok _, ⟨s.toks, ?_⟩, q⟩
  rw [show its.toArray.toList = its from rfl, cnt_eqU rv fx]

/-! one rule for each operator, whatever kind it meets -/
end
section
variable {X : Cx}
def opAdd := (op_add (X := X)).or ((op_add_str (X := X)).or ((op_cat (X := X)).or (op_catT (X := X))))
def opMul := (op_mul (X := X)).or (op_rep (X := X))
def opLe := (op_le (X := X)).or (op_le_str (X := X))
def opLt := (op_lt (X := X)).or (op_lt_str (X := X))
def opEq (hu : X.A.units + 64 < cLine) := (op_eq (X := X)).or (op_eqD hu)
def opNe (hu : X.A.units + 64 < cLine) := (op_ne (X := X)).or (op_neD hu)
def opIn := (op_in_seq (X := X)).or (op_in_sign (X := X))
def opNotIn := (op_notIn_seq (X := X)).or (op_notIn_sign (X := X))
def call_lenA := (call_len_seq (X := X)).or (call_len_str (X := X))
def callInt := (call_int1 (X := X)).or (call_int_str (X := X))
def slAny := (sl_list (X := X)).or ((sl_tupA (X := X)).or (sl_str (X := X)))
end

/-! ### heaps -/
def ExB (p : Addr) (H H' : Hp) : Prop := ∀ b o, b ≠ p → H b = some o → H' b = some o
theorem ExB.refl (p : Addr) (H : Hp) : ExB p H H := fun _ _ _ h => h
theorem ExB.trans {p : Addr} {H H1 H2 : Hp} (a : ExB p H H1) (b : ExB p H1 H2) : ExB p H H2 := fun c o n h => b c o n (a c o n h)
theorem ExB.of {p : Addr} {H H1 : Hp} (a : Same H H1) : ExB p H H1 := fun c o _ h => a c o h
theorem ExB.new {p t : Addr} {H : Hp} {o : HO} (h : H t = none) : ExB p H (upd H t o) := fun c u _ e => by
  rw [upd_ne (ne_of_none e h)]
  exact e
theorem ExB.put {p : Addr} {H : Hp} {o : HO} : ExB p H (upd H p o) := fun c u n e => by
  rw [upd_ne n]
  exact e
theorem same_new {t : Addr} {H : Hp} {o : HO} (h : H t = none) : Same H (upd H t o) := fun c u e => by
  rw [upd_ne (ne_of_none e h)]
  exact e
theorem upd_old {H : Hp} {t a : Addr} {o u : HO} (hn : H t = none) (h : H a = some u) : upd H t o a = some u := by
  rw [upd_ne (ne_of_none h hn)]
  exact h
theorem upd_mut {H : Hp} {t a : Addr} {o u v : HO} (ht : H t = some v) (d : u ≠ v) (h : H a = some u) : upd H t o a = some u := by
  rw [upd_ne (ne_of h ht d)]
  exact h
theorem upd_new {H : Hp} {t a : Addr} {o : HO} (h : upd H t o a = none) : H a = none := by
  unfold upd at h
  split at h
  · cases h
  · exact h
theorem sz1000 {n : Nat} (h : n ≤ 1000) : n ≤ sizeLine := Nat.le_trans h (by decide)
theorem fin_b {Q : VK} {H H' : Hp} {b c : Bool} (k : ∀ H', Same H H' → Q (.bl b) H') (e : b = c) (s : Same H H') : Q (.bl c) H' := e ▸ k H' s
theorem same_tr {H H1 H2 : Hp} (b : Same H1 H2) (a : Same H H1) : Same H H2 := a.trans b
theorem same_none {H H' : Hp} {a : Addr} (s : Same H H') (h : H' a = none) : H a = none := s.free h

/-! ### data -/
mutual
/-- v tells the data d; lists and tuples stand at addresses that H knows, none of them p -/
inductive Rp (p : Addr) (H : Hp) : V → PyData → Prop
  | non : Rp p H .non .none
  | bl (b : Bool) : Rp p H (.bl b) (.bool b)
  | int (i : Int) : Rp p H (.int i) (.int i)
  | str (x : Str) (h : x.length ≤ 1000) : Rp p H (.str x) (.str x)
  | lst {a : Addr} {xs : List V} {ds : List PyData} (n : a ≠ p) (h : H a = some (.lst xs)) (z : xs.length ≤ 1000) (r : RpA p H xs ds) : Rp p H (.ref a) (.list ds)
  | tup {a : Addr} {xs : List V} {ds : List PyData} (n : a ≠ p) (h : H a = some (.tup xs)) (z : xs.length ≤ 1000) (r : RpA p H xs ds) : Rp p H (.ref a) (.tuple ds)
  | dct {a : Addr} (n : a ≠ p) (h : H a = some (.dK [])) : Rp p H (.ref a) (.dict [])
inductive RpA (p : Addr) (H : Hp) : List V → List PyData → Prop
  | nil : RpA p H [] []
  | cons {v : V} {vs : List V} {d : PyData} {ds : List PyData} (h : Rp p H v d) (t : RpA p H vs ds) : RpA p H (v :: vs) (d :: ds)
end
mutual
theorem Rp.keep {p : Addr} {H H' : Hp} (e : ExB p H H') : ∀ {v : V} {d : PyData}, Rp p H v d → Rp p H' v d
  | _, _, .non => .non
  | _, _, .bl b => .bl b
  | _, _, .int i => .int i
  | _, _, .str x h => .str x h
  | _, _, .lst n h z r => .lst n (e _ _ n h) z (RpA.keep e r)
  | _, _, .tup n h z r => .tup n (e _ _ n h) z (RpA.keep e r)
  | _, _, .dct n h => .dct n (e _ _ n h)
theorem RpA.keep {p : Addr} {H H' : Hp} (e : ExB p H H') : ∀ {vs : List V} {ds : List PyData}, RpA p H vs ds → RpA p H' vs ds
  | _, _, .nil => .nil
  | _, _, .cons h t => .cons (Rp.keep e h) (RpA.keep e t)
end
theorem RpA.length {p : Addr} {H : Hp} : ∀ {vs : List V} {ds : List PyData}, RpA p H vs ds → vs.length = ds.length
  | _, _, .nil => rfl
  | _, _, .cons _ t => by rw [List.length_cons, List.length_cons, RpA.length t]
theorem RpA.get {p : Addr} {H : Hp} : ∀ {vs : List V} {ds : List PyData} {i : Nat} {v : V}, RpA p H vs ds → vs[i]? = some v → ∃ d, ds[i]? = some d ∧ Rp p H v d
  | _, _, _, _, .nil, e => by simp at e
  | _, _, 0, _, .cons h _, e => by
    obtain rfl := Option.some.inj e
    exact ⟨_, rfl, h⟩
  | _, _, i + 1, v, .cons _ t, e => RpA.get (i := i) t e
theorem RpA.append {p : Addr} {H : Hp} : ∀ {vs ws : List V} {ds es : List PyData}, RpA p H vs ds → RpA p H ws es → RpA p H (vs ++ ws) (ds ++ es)
  | _, _, _, _, .nil, s => s
  | _, _, _, _, .cons h t, s => .cons h (RpA.append t s)
/-- the built-in class of data -/
def tyD : PyData → String
  | .none => "NoneType" | .bool _ => "bool" | .int _ => "int" | .str _ => "str" | .list _ => "list" | .tuple _ => "tuple" | .dict _ => "dict"
theorem Rp.ty {K : PySem.W.Frag} {p : Addr} {H : Hp} {v : V} {d : PyData} (r : Rp p H v d) : TyX K H v (.type (tyD d)) := by
  cases r with
  | non => exact .base .non
  | bl b => exact .base (.bl b)
  | int i => exact .base (.int i)
  | str x => exact .base (.str x)
  | lst n h z r => exact .base (.lst h)
  | tup n h z r => exact .base (.tup h)
  | dct n h => exact .base (.dK h)
def isInt : PyData → Bool
  | .int _ => true
  | _ => false
def isBl : PyData → Bool
  | .bool _ => true
  | _ => false
def isStr : PyData → Bool
  | .str _ => true
  | _ => false
def isTup : PyData → Bool
  | .tuple _ => true
  | _ => false
theorem kit_int {K : PySem.W.Frag} {d : PyData} : PySem.W.kitOne K (.type (tyD d)) (.type "int") = some (isInt d || isBl d) := by cases d <;> exact kit_ty (by show L2.kitB _ _ = some _; simp only [tyD, isInt, isBl]; decide +kernel)
theorem kit_bool {K : PySem.W.Frag} {d : PyData} : PySem.W.kitOne K (.type (tyD d)) (.type "bool") = some (isBl d) := by cases d <;> exact kit_ty (by simp only [tyD, isBl]; decide +kernel)
theorem kit_str {K : PySem.W.Frag} {d : PyData} : PySem.W.kitOne K (.type (tyD d)) (.type "str") = some (isStr d) := by cases d <;> exact kit_ty (by simp only [tyD, isStr]; decide +kernel)
theorem kit_tup {K : PySem.W.Frag} {d : PyData} : PySem.W.kitOne K (.type (tyD d)) (.type "tuple") = some (isTup d) := by cases d <;> exact kit_ty (by simp only [tyD, isTup]; decide +kernel)
def isTupN (n : Nat) : PyData → Bool
  | .tuple ds => decide (ds.length = n)
  | _ => false
def isPair : PyData → Bool
  | .tuple [a, b] => isInt a && isInt b
  | _ => false
def letterC (c : Nat) : Bool := decide (97 ≤ c) && decide (c ≤ 122)
def isName : PyData → Bool
  | .str x => (decide (1 ≤ x.length) && decide (x.length ≤ 8)) && x.cps.toList.all letterC
  | _ => false
def isSpan (lo hi : Int) : PyData → Bool
  | .tuple [.int a, .int b] => decide (lo ≤ a) && (decide (a ≤ b) && decide (b ≤ hi))
  | _ => false
def isRow (n : Nat) : PyData → Bool
  | .tuple [nm, .tuple ss] => isName nm && (decide (ss.length = n) && ss.all (isSpan (-10000) 10000))
  | _ => false
def SpTN : Sp := fun vs H Q _ => ∃ p v d n, vs = [v, .int ((n : Nat) : Int)] ∧ Rp p H v d ∧ ∀ H', Same H H' → Q (.bl (isTupN n d)) H'
def SpSpan : Sp := fun vs H Q _ => ∃ p v d lo hi, vs = [v, .int lo, .int hi] ∧ Rp p H v d ∧ ∀ H', Same H H' → Q (.bl (isSpan lo hi d)) H'
def SpRow : Sp := fun vs H Q _ => ∃ p v d n, vs = [v, .int ((n : Nat) : Int)] ∧ Rp p H v d ∧ ∀ H', Same H H' → Q (.bl (isRow n d)) H'
theorem isPair_not {d : PyData} (h : isPair d = false) (lo hi : Int) : isSpan lo hi d = false := by
  unfold isSpan
  split
  · simp [isPair, isInt] at h
  · rfl
theorem vint_eq {a b : Nat} : decide (V.int ((a : Nat) : Int) = V.int ((b : Nat) : Int)) = decide (a = b) := by
  by_cases h : a = b
  · subst h
    rw [decide_eq_true rfl, decide_eq_true rfl]
  · rw [decide_eq_false h, decide_eq_false fun e => h (by injection e with e; omega)]
theorem one_lt {a b : Nat} : (([a] : List Nat) < [b]) ↔ a < b := by
  rw [List.cons_lt_cons_iff]
  constructor
  · rintro (h | ⟨_, h⟩)
    · exact h
    · exact absurd h (List.not_lt_nil _)
  · exact .inl
theorem letter_lo (c : Nat) : (!decide (([c] : List Nat) < [97])) = decide (97 ≤ c) := by
  rw [decide_eq_decide.mpr one_lt]
  by_cases h : 97 ≤ c
  · rw [decide_eq_true h, decide_eq_false (by omega)]; rfl
  · rw [decide_eq_false h, decide_eq_true (by omega)]; rfl
theorem letter_hi (c : Nat) : (!decide (([122] : List Nat) < [c])) = decide (c ≤ 122) := by
  rw [decide_eq_decide.mpr one_lt]
  by_cases h : c ≤ 122
  · rw [decide_eq_true h, decide_eq_false (by omega)]; rfl
  · rw [decide_eq_false h, decide_eq_true (by omega)]; rfl
/-- a value that is just given back -/
def SpB (f : PyData → Bool) : Sp := fun vs H Q _ => ∃ p v d, vs = [v] ∧ Rp p H v d ∧ ∀ H', Same H H' → Q (.bl (f d)) H'

/-! ### comprehensions that keep what there was -/
section
variable {K : PySem.W.Frag} {a : Addr} {te : TE} {vs : List Nat} {σ : L2.St} {H1 : Hp} {Q : VK} {g : TG} {tl : TE}
theorem lc_txt {x : Str} {ys : List V} (hl : ys.length = x.cps.size) (hz : x.length ≤ 1000) (ht : ∀ R : VK, R (.str x) H1 → tl σ H1 R)
    (hs : ∀ (j : Nat) (c : Nat) (y : V) (H : Hp), x.cps[j]? = some c → ys[j]? = some y → Same H1 H → ∀ R : VK, (∀ H3, Same H H3 → R y H3) →
      g (.str ⟨#[c]⟩) (wipe σ vs) H fun σ2 H2 => wipe σ2 vs = wipe σ vs ∧ te σ2 H2 R)
    (k : ∀ D H', H1 D = none → Same H1 H' → H' D = some (.lst ys) → Q (.ref D) H') : tLc (iStr tl) g tYes te vs σ H1 Q := by
  refine ht _ ⟨x, rfl, fun D hD => ?_⟩
  refine ⟨fun i m H => m + i = x.cps.size ∧ Same H1 H ∧ H D = some (.lst (ys.take i)), ⟨x.cps.size, rfl, same_new hD, upd_same⟩, fun i m H ⟨hm, sm, hd⟩ => ?_⟩
  by_cases hi : i < x.cps.size
  · refine .inr ⟨hi, fun H' => Same H1 H' ∧ H' D = some (.lst (ys.take (i + 1))), fun H' ⟨s', d'⟩ => ⟨m - 1, by omega, by omega, s', d'⟩, fun v H' ⟨e1, c, e2, e3⟩ => ?_⟩
    subst e1 e3
    have hy : i < ys.length := by omega
    have key := hs i c ys[i] H' e2 (List.getElem?_eq_getElem hy) sm (fun y H4 => ∃ acc, H4 D = some (.lst acc) ∧ acc.length < sizeLine ∧ Same H1 (upd H4 D (.lst (acc ++ [y]))) ∧ upd H4 D (.lst (acc ++ [y])) D = some (.lst (ys.take (i + 1)))) fun H3 s3 => ?_
    · exact key
    · refine ⟨ys.take i, s3 _ _ hd, ?_, fun b o e => ?_, ?_⟩
      · have q : x.length = x.cps.size := rfl
        rw [List.length_take]
        exact Nat.lt_of_le_of_lt (Nat.le_trans (Nat.min_le_right _ _) (by omega : ys.length ≤ 1000)) (by decide)
      · rw [upd_ne (ne_of_none e hD)]
        exact s3 _ _ (sm _ _ e)
      · rw [upd_same, List.take_succ, List.getElem?_eq_getElem hy]
        rfl
  · have e : i = x.cps.size := by omega
    subst e
    refine .inl ⟨Nat.le_refl _, k D H hD sm ?_⟩
    rw [hd, List.take_of_length_le (by omega)]
theorem lc_tupM {xs ys : List V} (hx : SqT K H1 a xs) (hl : ys.length = xs.length) (hz : xs.length ≤ 1000) (ht : ∀ R : VK, R (.ref a) H1 → tl σ H1 R)
    (hs : ∀ (j : Nat) (z y : V) (H : Hp), xs[j]? = some z → ys[j]? = some y → Same H1 H → ∀ R : VK, (∀ H3, Same H H3 → R y H3) →
      g z (wipe σ vs) H fun σ2 H2 => wipe σ2 vs = wipe σ vs ∧ te σ2 H2 R)
    (k : ∀ D H', H1 D = none → Same H1 H' → H' D = some (.lst ys) → Q (.ref D) H') : tLc (iTup K tl) g tYes te vs σ H1 Q := by
  have hT : ∀ {H}, Same H1 H → SqT K H a xs := fun {H} e => by
    rcases hx with (h | ⟨o, h⟩) | h
    · exact .inl (.inl (e _ _ h))
    · exact .inl (.inr ⟨o, e _ _ h⟩)
    · exact .inr h
  refine ht _ ⟨a, rfl, ⟨xs, hx⟩, fun D hD => ?_⟩
  refine lc_tup (K := K) (a := a) (xs := xs) (fun i H => Same H1 H ∧ H D = some (.lst (ys.take i))) ⟨same_new hD, upd_same⟩ (fun i H _ p => hT p.1) (fun i z H hi ⟨sm, hd⟩ => ?_) (fun H ⟨sm, hd⟩ => k D H hD sm ?_)
  · have hi2 := (List.getElem?_eq_some_iff.mp hi).1
    have hy : i < ys.length := by omega
    have key := hs i z ys[i] H hi (List.getElem?_eq_getElem hy) sm (fun y H4 => ∃ acc, H4 D = some (.lst acc) ∧ acc.length < sizeLine ∧ Same H1 (upd H4 D (.lst (acc ++ [y]))) ∧ upd H4 D (.lst (acc ++ [y])) D = some (.lst (ys.take (i + 1)))) fun H3 s3 => ?_
    · exact key
    · refine ⟨ys.take i, s3 _ _ hd, ?_, fun b o e => ?_, ?_⟩
      · rw [List.length_take]
        exact Nat.lt_of_le_of_lt (Nat.le_trans (Nat.min_le_right _ _) (by omega : ys.length ≤ 1000)) (by decide)
      · rw [upd_ne (ne_of_none e hD)]
        exact s3 _ _ (sm _ _ e)
      · rw [upd_same, List.take_succ, List.getElem?_eq_getElem hy]
        rfl
  · rw [hd, List.take_of_length_le (by omega)]
end
end Cs
set_option maxHeartbeats 4000000
/-! Rules of my own: isinstance and fields of a caught error that keeps something, also in a def called in the suite; three classes in one except. -/
namespace Cs
open PySem L2 PyProof.Rows
open PySem.W (KitX InstAt)
theorem cs_check {M : Model} {A : Around} {E : Value → Shared → Prop} {s : Shared} {self u : Value} {i o n : String} {Q : Unit → Shared → Prop} (k2 : builtinKind i = some Manifest.AttrKind.slot)
    (k3 : splitId i = some (o, n)) (sub : PySem.W.Looks M s.heap (isInstance self (.type o)) true) (ao : argsOk i ⟨[self, u], []⟩) (q : Q () s) : wpAny M A (checkBuiltinCall i ⟨[self, u], []⟩) Q E s :=
  PySem.W.check_slot k2 k3 sub ao q
theorem cs_classX {prog : Program} {w : World} {A : Around} {E : Value → Shared → Prop} {s : Shared} {K : PySem.W.Frag} {x D : Addr} {ox od : Obj} {Q : Option Value → Shared → Prop} (C : ExcC K D)
    (X : K.In s.heap) (I : InstAt s.heap x ox D (some od)) (h : Q (some (.ref D)) { s with toks := s.toks + 1 }) : wpAny (model prog w) A (getAttr? (.ref x) "__class__") Q E s := by
  have hf : PySem.W.findObj K D (some od) "__class__" = _ := PySem.W.findObj_data (by
    obtain ⟨cd, hc, _⟩ := PySem.W.any_some C.hd
    rw [hc]; rfl) C.ha C.hn C.ht
  obtain ⟨hp, g, d, t, os⟩ := s
  have L0 := fun M => InstAt.type (M := M) I
  have L1 := fun M => PySem.W.looks_findIn (M := M) X C.hg
  have L2 := fun M => PySem.W.looks_findIn (M := M) X C.hk
  have L3 := fun M => PySem.W.looks_find (M := M) X I hf
  have sub : PySem.W.Looks (model prog w) hp (isInstance (.ref x) (.type "BaseException")) true := PySem.W.Looks.andThen (L0 (model prog w)) (PySem.W.looks_subIn X C.hs)
  refine wpAny_bind (wpAny_mkText ?_)
  refine wpAny_bind (wpAny_attempt (wpAny_holding (wpAny_bind ((L0 _).at (wpAny_bind ((L1 _).at ?_))))))
  have hx1 : (onTheHeap (.ref D) && (Value.builtin "BaseException.__getattribute__" == Value.builtin "object.__getattribute__")) = false := by
    rw [PySem.W.kin_classE._proof_1, Bool.and_false]
  dsimp only
  rw [hx1, if_neg Bool.false_ne_true]
  refine wpAny_bind ?_
  unfold hookBefore
  rw [if_pos (by rfl)]
  refine (L2 _).at (wpAny_bind (wpAny_attempt (wpAny_holding ?_)))
  dsimp only [Option.toList]
  unfold callGetattribute
  rw [if_neg (by decide)]
  unfold boundAndCalled
  refine wpAny_bind ?_
  rw [F.excAttr_ValueError.ga.bind (.ref x)]
  refine wpAny_pure ?_
  refine wpAny_call ?_
  refine codeAny_call_builtin F.excAttr_ValueError.ga.plain F.entry_bexc_ga ?_
  dsimp only [List.cons_append, List.nil_append]
  have ao := F.args_bexc_ga (.ref x) (.str "__class__" t)
  have z := fun Q E => @cs_check (model prog w) A.in1 E ⟨hp, g, d, t + 1, os⟩ (.ref x) (.str "__class__" t) _ _ _ Q PySem.W.kin_classE._proof_2 PySem.W.kin_classE._proof_3 sub ao
  refine z _ _ ?_
  refine wpAny_bind (wpAny_of_eq (Eq.refl (slotArgs "__getattribute__" 1 ⟨[.ref x, .str "__class__" t], []⟩)) (wpAny_bind (wpAny_pure ?_)))
  refine wpAny_bind ((L0 _).at ?_)
  refine wpAny_bind ((L3 _).at ?_)
  refine wpAny_bind (wpAny_holding ?_)
  refine wpAny_call (PySem.W.class_get X I C.hm (wpAny_pure ?_))
  dsimp only
  rw [PySem.W.handedOut_of rfl]
  exact wpAny_pure (wpAny_pure h)
theorem cs_cls {K : PySem.W.Frag} {D : Addr} (h : PySem.W.hasDictIn K D = true) : ∃ cls dict cd sl, K.lookup D = some ⟨cls, dict, .cls cd, sl⟩ := by
  obtain ⟨cd, hc, _⟩ := PySem.W.any_some h
  unfold PySem.W.clsIn at hc
  split at hc
  · rename_i e
    exact ⟨_, _, _, _, e⟩
  · cases hc
theorem cs_kitx {K : PySem.W.Frag} {x D : Addr} {ox od : Obj} (C : ExcC K D) : KitX K (.ref x) (.ref D) fun h => InstAt h x ox D (some od) := by
  obtain ⟨cls, dict, cd, sl, e⟩ := cs_cls C.hd
  refine ⟨fun M h X I => I.type, fun M h X _ A Q E s k q => ?_, fun h tp dd its n sl' X ht => ?_, fun X I q => cs_classX C X I q⟩
  · exact wpAny_bind (wpAny_loadPart (k D _ (X D _ e)) (wpAny_pure q))
  · refine Bool.eq_false_iff.mpr fun q => ?_
    have e1 := Value.ref.inj (beq_iff_eq.mp q)
    subst e1
    rw [X D _ e] at ht
    cases ht
/-- a caught error of the class C, whose own dict stands at dd, is pinned at a -/
def ExPin (X : Cx) (a C dd : Addr) : Prop := ∃ oe, (a, oe) ∈ X.pn ∧ Zc (.ref C) (some dd) oe ∧ ∃ vs, oe.data = .fields vs
theorem ExPin.inst {X : Cx} {a C dd : Addr} (P : ExPin X a C dd) {pins : List (Addr × Obj)} {s : Shared} {σ : L2.St} {H : Hp} (I : L2.Inv X pins σ H s) {fs : List (Str × V)} (h : H dd = some (.xd fs)) :
    ∃ ox od, InstAt s.heap a ox C (some od) ∧ ∀ f v, fs.lookup f = some v → ∃ u, PySem.W.lookIn f od = some (some u) ∧ RelV v u := by
  obtain ⟨oe, hm, ⟨hc, hd⟩, vs, hv⟩ := P
  obtain ⟨hg, _⟩ := I.pin (a, oe) (List.mem_append_left pins hm)
  obtain ⟨mA, hns, hr⟩ := I.hok dd _ h
  obtain ⟨od, ho, hl⟩ := lookIn_ns hns
  refine ⟨oe, od, ⟨hg, hc, ?_, ?_⟩, fun f v hf => ?_⟩
  · unfold PySem.W.notCls
    rw [hv]
  · rw [hd]
    exact ho
  · have r := hr f
    rw [hf] at r
    obtain ⟨u, e, ru⟩ := RelO.some_of r
    exact ⟨u, by rw [hl f, e], ru⟩
section
variable {X : Cx} {a C dd : Addr}
def rIsX (K : PySem.W.Frag) (C a dd : Addr) : List V → Hp → VK → Prop := fun xs H Q => ∃ (c : V) (cv : Value) (b : Bool) (fs : List (Str × V)), xs = [.ref a, c] ∧ ClsV c cv ∧ H dd = some (.xd fs) ∧ PySem.W.kitOne K (.ref C) cv = some b ∧ Q (.bl b) H
theorem call_isX (P : ExPin X a C dd) (T : ExcC X.K C) : CallR X (.builtin "isinstance") (rIsX X.K C a dd) := by
  rintro pins s σ H xs us Q I r ⟨c, cv, b, fs, rfl, hc, hd, e, q⟩
  obtain ⟨ox, od, i, _⟩ := P.inst I hd
  obtain ⟨u1, u2, rfl, r1, r2⟩ := vals2 r
  have e2 := hc.eq r2
  subst e2
  cases r1
  exact PySem.W.kia_one (cs_kitx T) I.kIn i e (by intro z; cases z) fun tk => ⟨.bl b, H, I.tok tk, rfl, q⟩
def tXfX (a dd : Addr) (f : Str) (te : TE) : TE := fun σ H Q => te σ H fun x H1 => x = .ref a ∧ ∃ (fs : List (Str × V)) (v : V), H1 dd = some (.xd fs) ∧ fs.lookup f = some v ∧ Q v H1
theorem pe_xfX {e : Expr} {te : TE} {pos : Pos} {n : Str} (P : ExPin X a C dd) (T : XfC X.K C) (hno : PySem.W.findIn X.K (.ref C) n = some none) (he : PE X e te)
    (hb : attributeBase e n X.env (eval e X.env) = eval e X.env := by rfl) : PE X (.Attribute e n pos) (tXfX a dd n te) := by
  refine ⟨fun pins s σ H Q I h => attr_of hb (thn (he.run pins s σ H _ I h) ?_)⟩
  rintro u s1 ⟨x, H1, I1, rx, rfl, fs, v, hd, hf, q⟩
  cases rx
  obtain ⟨ox, od, i, k⟩ := P.inst I1 hd
  obtain ⟨u, hl, ru⟩ := k n v hf
  exact PySem.HandSPX.exc_get I1.kIn i T.ga T.gg T.exC (PySem.W.findObj_own T.hdC hno rfl hl) (handed_of ru) ⟨v, H1, I1.tok _, ru, q⟩
end
end Cs
set_option maxHeartbeats 4000000
/-! A def called in an except suite with the caught error: its promise may speak of the error. Three classes in one except. -/
namespace Cs
open PySem L2 L2H PyProof.Rows
structure FnE (P : Program) (w : World) (K : PySem.W.Frag) (mg : Str → Option Value) (base : Heap) (k : Nat) (f : Addr) (fd : FuncData) (ps : List Str) (sp : Addr × Obj → Sp) : Prop where
  len : ∀ p vs H Q E, sp p vs H Q E → vs.length = ps.length
  run : ∀ (A : Around) (outer : List Env) (s : Shared) (H : Hp) (args : Args) (us : List Value) (vs : List V) (Q : VK) (E : XK) (p : Addr × Obj),
    RoomH k A → PinOk outer H s p → Env0 P w K mg base A outer s H → BindsTo s fd args (ps.zip us) → Vals vs us → sp p vs H Q E → codeAny (model P w) A (.call (.ref f) args) (CR CX0 outer P w H s Q E) s
theorem fn_ofE {P : Program} {w : World} {K : PySem.W.Frag} {mg : Str → Option Value} {base : Heap} {k : Nat} {f : Addr} {name qual : Str} {params : Arguments} {body : List Stmt} {scope : Scope}
    {dV kV doc pm cdv ct oc : Value} {an od : Option Addr} {osl : Array (Option Value)} {N ps : List Str} {sp : Addr × Obj → Sp}
    (lk : K.lookup f = some ⟨oc, od, .func (PySem.W.fnOf name qual params body scope dV kV doc pm an cdv ct), osl⟩) (hcd : PySem.W.codeIn K cdv qual = true) (S : FnScope N ps scope)
    (len : ∀ p vs H Q E, sp p vs H Q E → vs.length = ps.length)
    (hbody : ∀ (A : Around) (outer : List Env) (s : Shared) (H : Hp) (vs : List V) (Q : VK) (E : XK) (p : Addr × Obj), RoomH k (A.deeper (envOfC qual scope s.heap.objs.size f cdv)) → sp p vs H Q E →
      ∃ t, PSs (cxH CX0 P w K mg base N qual scope f cdv A outer s H E p) body t ∧ t { nx := fun _ H' => Q .non H', rt := Q } (L2.start N vs) H) :
    FnE P w K mg base (k + 1) f (PySem.W.fnOf name qual params body scope dV kV doc pm an cdv ct) ps sp := by
  refine ⟨len, fun A outer s H args us vs Q E p hr hpin e0 hb r hsp => ?_⟩
  have hl := len p vs H Q E hsp
  have KX := PySem.W.Frag.In.keeps e0.mod.kin fun b o e => (e0.bs b o e).1
  have lim := Heap.NoLimit.keeps e0.mod.nolimit fun b o e => (e0.bs b o e).1
  refine codeAny_call_function hr.depth (KX f _ lk) rfl S.co S.gen rfl (PySem.W.codeRec_of KX hcd) ?_
  refine hb (model P w) A.in1 _ _ ?_
  refine wpAny_newFunctionEnv_cells S.kind (fun y hy => ?_) fun env he s1 x => ?_
  · obtain ⟨n, v⟩ := y
    rcases S.par n (List.of_mem_zip hy).1 with q | q
    · exact .inl q
    · exact .inr ⟨q, PySem.W.cellsFrom_some scope.names (s.heap.objs.size + 1) [] (.inl q)⟩
  · subst he
    refine ⟨lim.keeps x.toInCall.keep, codeAny_func ?_⟩
    obtain ⟨t, ht, hq⟩ := hbody A outer s H vs Q E p (hr.deeper _) hsp
    have I := inv_startH (CX := CX0) (w := w) (E := E) S hpin e0 hl r x
    refine wpAny_mono (ht.run [] s1 (L2.start N vs) H _ I hq) (fun fl s' hs => ?_) (fun e s' hs => hs)
    cases fl with
    | next =>
      obtain ⟨σ', H', J, q⟩ := hs
      exact ⟨V.non, H', J.os, J.bare, J.base, J.hok, rfl, q⟩
    | brk =>
      obtain ⟨_, _, _, q⟩ := hs
      exact q.elim
    | cont =>
      obtain ⟨_, _, _, q⟩ := hs
      exact q.elim
    | ret u =>
      obtain ⟨v, σ', H', J, rv, q⟩ := hs
      exact ⟨v, H', J.os, J.bare, J.base, J.hok, rv, q⟩
section
variable {X : Cx}
theorem pe_callE {k : Nat} {f : Addr} {fd : FuncData} {ps : List Str} {sp : Addr × Obj → Sp} {x : Str} {q pos : Pos} {e : Expr} {es : List Expr} {t : TA} {p : Addr × Obj}
    (F : FnE X.prog X.w X.K X.mg X.base k f fd ps sp) (hr : RoomH k X.A) (hp : p ∈ X.pn) (hg : Gl X x) (hm : X.mg x = some (.ref f)) (hk : PySem.W.keepIn X.K (.ref f) = true) (hb : Binds X.K fd ps [])
    (ha : PA X (e :: es) t) (hdb : (x == ("__debug__" : Str)) = false := by rfl) (he : starEach (e :: es) X.env = (false, eval e X.env) :: starEach es X.env := by rfl)
    (hpl : ((backTo pos (starEach es X.env)).any fun x => x.1) = false := by rfl) : PE X (.Call (.Name x q) (e :: es) [] pos) (fun σ H Q => t σ H fun vs H1 => sp p vs H1 Q fun _ _ _ => False) := by
  refine ⟨fun pins s σ H Q I h => wpAny_Call_Name_kw (ld_glob I hg hm (PySem.W.callWith_K I.ok.mod.kin hk (thn (ha.run pos pins s σ H _ I h) ?_) he hpl) hdb)⟩
  rintro us s1 ⟨vs, H1, I1, r, q1⟩
  refine ⟨I1.kIn, ?_⟩
  have hl : us.length = ps.length := by
    rw [← r.length]
    exact F.len p vs H1 Q _ q1
  have b := hb s1 us I1.kIn (by rw [List.append_nil]; exact hl)
  have P1 := I1.pin p (List.mem_append_left pins hp)
  have hpin : PinOk X.stack H1 s1 p := ⟨P1.1, P1.2.1, fun hm => (List.mem_cons.mp (I1.stkSub p.1 hm)).elim P1.2.2.1 P1.2.2.2.1, P1.2.2.2.2⟩
  rw [List.append_nil] at b
  refine wpAny_call (codeAny_mono (F.run X.A X.stack s1 H1 ⟨us, []⟩ us vs Q _ p hr hpin I1.env0 b r q1) fun rr s' hq => ?_)
  cases rr with
  | error e => exact hq.elim
  | ok fl =>
    cases fl with
    | next => exact hq.elim
    | brk => exact hq.elim
    | cont => exact hq.elim
    | ret u => exact I1.after hq
end
theorem funFrames_keep {h h' base : Heap} (k : ∀ b o, h.get? b = some o → h'.get? b = some o) : ∀ {l : List Env}, h.FunFrames base l → h'.FunFrames base l
  | [], f => f
  | e :: l, f => by
    unfold Heap.FunFrames at f ⊢
    obtain ⟨f1, ⟨L, o, e1, e2, e3, e4⟩, f3⟩ := f
    exact ⟨f1, ⟨L, o, e1, e2, k _ _ e3, e4⟩, funFrames_keep k f3⟩
theorem flying_keep {base h h' : Heap} {l : List Env} {e : Addr} {Z : Obj → Prop} (F : HandSPX.FlyingZ base l e Z h) (k : ∀ b o, h.get? b = some o → h'.get? b = some o) : HandSPX.FlyingZ base l e Z h' := by
  obtain ⟨f1, f2, f3, oe, vs, T, oT, ts, g1, g2, g3, g4, g5, g6, g7, g8, g9⟩ := F
  exact ⟨fun b o q => k _ _ (f1 b o q), f2, funFrames_keep k f3, oe, vs, T, oT, ts, k _ _ g1, g2, g3, g4, g5, g6, k _ _ g7, g8, g9⟩
theorem upTo_keep {h h' : Heap} (k : ∀ b o, h.get? b = some o → h'.get? b = some o) : h.UpToSlots h' := fun b o e _ => ⟨o.slots, k b o e⟩
def wAs3 (K : PySem.W.Frag) (cs : List Value) (m i : Nat) (ts : Addr → Value → Option Addr → TS) (D : Ends) : WX := fun cls d σ H => σ.length = m → PySem.W.exmAny K cls cs = some true ∧ ∀ a, H a = none →
  ts a cls d { nx := fun σ' H' => D.nx (σ'.set i none) H', rt := D.rt, bk := fun σ' H' => D.bk (σ'.set i none) H', ct := fun σ' H' => D.ct (σ'.set i none) H' } (σ.set i (some (.ref a))) H
theorem name_ok {X : Cx} {x : Str} {c : Value} (hc : Names X x c) {a : Addr} {pn : List (Addr × Obj)} {pins : List (Addr × Obj)} {s : Shared} {σ : L2.St} {H : Hp} (I : L2.Inv (X.suite a pn) pins σ H s)
    {p : Pos} {Q : Value → Shared → Prop} {E : Value → Shared → Prop} (q : Q c s) : wpAny (model X.prog X.w) (X.A.mark (some (.ref a))) (eval (.Name x p) X.env) Q E s := by
  obtain ⟨hg, hd, hm | ⟨hm, hv, hn⟩⟩ := hc
  · exact ld_glob I hg hm q hd
  · exact ld_blt I hg hm hv q hn hd
theorem ps_try_as3 {X : Cx} {x1 x2 x3 n : Str} {c1 c2 c3 : Value} {i : Nat} {body suite : List Stmt} {b₀ : Stmt} {p1 p2 p3 tp pos pos' : Pos} {kk m : Nat} {tb : WX → TS} {ts : Addr → Value → Option Addr → TS}
    (hs : X.stack = X.env :: X.outer) (hf : X.env.frame = some X.env.locals) (hN : X.N.Nodup) (hi : X.N[i]? = some n) (hln : X.env.kindOf n = some .local)
    (hm : X.N.length = m) (hc1 : Names X x1 c1) (hc2 : Names X x2 c2) (hc3 : Names X x3 c3)
    (hb : ∀ (W : WX) (pn : List (Addr × Obj)) (xe : Value → Shared → Prop), Takes (X.tr pn xe) W → PassesOwn (model X.prog X.w) X.A X.env xe → PSs (X.tr pn xe) body (tb W))
    (hsu : ∀ (a : Addr) (oe : Obj) (cls : Value) (d : Option Addr) (pn : List (Addr × Obj)), Zc cls d oe → (∃ vs, oe.data = .fields vs) → PSs (X.suite a ((a, oe) :: pn)) (b₀ :: suite) (ts a cls d)) :
    PS X (.Try body [.ExceptHandler (some (.Tuple [.Name x1 p1, .Name x2 p2, .Name x3 p3] kk tp)) (some n) (b₀ :: suite) pos'] [] [] pos) (fun D σ H => tb (wAs3 X.K [c1, c2, c3] m i ts D) D σ H) := by
  refine ⟨fun pins s σ H D I h => ?_⟩
  have ok := I.ok
  have hfr : X.A.frames = some (X.env :: X.outer) := by rw [ok.frames, hs]
  refine wpAny_Try_except (wpAny_mono ((hb (wAs3 X.K [c1, c2, c3] m i ts D) (X.pn ++ pins) _ ?_ PassesOwn.looking).run [] s σ H D (I.toTry _) h) (fun f s1 hsp => ?_) (fun e s1 he => he))
  · rintro u s' ⟨a, B, sI, pins', σ', H', cls, d, rfl, J', nb, up, sky, na, os, ag, hW⟩
    obtain ⟨hb1, hyes⟩ := hW (J'.len.trans hm)
    have J := J'.ofTry ok
    have sky' : L2.Sky B (X.env :: X.outer) a (Zc cls d) X.env.locals s'.heap := by
      rw [← hs]
      exact sky
    refine L2.Sky.land Zc.steady hfr hf sky' fun h3 fl3 up3 => ?_
    have J3 : L2.Inv X pins σ' H' { s' with heap := h3 } := J.landed nb fl3.1 (up.trans up3) os ag
    obtain ⟨oe3, vs3, he3, hz3, hd3⟩ := fl3.there
    have nfr : a ∉ frs (X.env :: X.outer) := fun hm => by
      obtain ⟨_, o', e', hnf⟩ := Heap.FunFrames.mem fl3.2.2.1 hm
      have e2 := e'.symm.trans he3
      cases e2
      exact hnf vs3 hd3
    have nL : a ≠ X.env.locals := fun z => nfr (List.mem_filterMap.mpr ⟨X.env, List.mem_cons_self, by rw [hf, z]⟩)
    have nF : a ∉ X.fs := fun hm => by
      obtain ⟨e, he, q⟩ := List.mem_filterMap.mp hm
      exact nfr (List.mem_filterMap.mpr ⟨e, List.mem_cons_of_mem _ he, q⟩)
    have S3 := J3.suite he3 hd3 na nL nF
    refine wpAny_handleBy_cons (codeAny_handlers_test ?_) (by intro q; cases q)
    refine wpAny_Tuple ?_
    refine Calls.spliced_cons (name_ok hc1 S3 (Calls.spliced_cons (name_ok hc2 S3 (Calls.spliced_cons (name_ok hc3 S3 (Calls.spliced_nil ?_))))))
    refine ⟨(by show 3 ≤ sizeLine; decide), ?_⟩
    have kp : ∀ b o, h3.get? b = some o → (h3.push { cls := .type "tuple", data := .seq #[c1, c2, c3] }).get? b = some o := fun b o e => Heap.get?_push_of_some _ e
    have fl5 := flying_keep fl3 kp
    have up5 := upTo_keep kp
    have LT : PySem.W.Looks (model X.prog X.w) (h3.push { cls := .type "tuple", data := .seq #[c1, c2, c3] }) (typeOf (.ref a)) cls := fun A Q E s k q => wpAny_typeOf_ref (k a oe3 (kp _ _ he3)) (by
      rw [hz3.1]
      exact q)
    have K5 : X.K.In (h3.push { cls := .type "tuple", data := .seq #[c1, c2, c3] }) := PySem.W.Frag.In.keeps J3.kIn kp
    have LM := PySem.W.exm_tup3 K5 LT (Heap.get?_push_size h3 rfl) hb1
    refine PySem.W.Looks.here LM ?_
    refine codeAny_handlers_suite_as (HandSPX.lands_againZ fl5 fun h4 fl4 up4 => ?_)
    have J4 : L2.Inv X pins σ' H' { s' with heap := h4 } := J.landed nb fl4.1 (((up.trans up3).trans up5).trans up4) os ag
    obtain ⟨oe4, vs4, he4, hz4, hd4⟩ := fl4.there
    have S4 := J4.suite he4 hd4 na nL nF
    refine store_ok (X := X.suite a ((a, oe4) :: (X.pn ++ pins))) (pins := []) (σ := σ') (H := H') (v := .ref a) S4 hN hi (.inl hln) rfl (fun s5 S5 => ?_) (.inr hln)
    refine wpAny_mono ((hsu a oe4 cls d (X.pn ++ pins) hz4 ⟨vs4, hd4⟩).run [] s5 _ H' _ S5 (hyes a na)) (fun f s6 hsp => ?_) (fun _ _ z => z.elim)
    cases f with
    | next =>
      obtain ⟨σ6, H6, S6, q6⟩ := hsp
      exact gone_ok (S6.unsuite ok) hN hi hln fun s7 J7 => ⟨_, H6, J7, q6⟩
    | brk =>
      obtain ⟨σ6, H6, S6, q6⟩ := hsp
      exact gone_ok (S6.unsuite ok) hN hi hln fun s7 J7 => ⟨_, H6, J7, q6⟩
    | cont =>
      obtain ⟨σ6, H6, S6, q6⟩ := hsp
      exact gone_ok (S6.unsuite ok) hN hi hln fun s7 J7 => ⟨_, H6, J7, q6⟩
    | ret u =>
      obtain ⟨v6, σ6, H6, S6, r6, q6⟩ := hsp
      exact gone_ok (S6.unsuite ok) hN hi hln fun s7 J7 => ⟨v6, _, H6, J7, r6, q6⟩
  · cases f with
    | next =>
      obtain ⟨σ', H', J', q⟩ := hsp
      exact wpAny_execs_nil ⟨σ', H', J'.ofTry ok, q⟩
    | brk =>
      obtain ⟨σ', H', J', q⟩ := hsp
      exact ⟨σ', H', J'.ofTry ok, q⟩
    | cont =>
      obtain ⟨σ', H', J', q⟩ := hsp
      exact ⟨σ', H', J'.ofTry ok, q⟩
    | ret u =>
      obtain ⟨v, σ', H', J', r, q⟩ := hsp
      exact ⟨v, σ', H', J'.ofTry ok, r, q⟩
theorem pe_weak {X : Cx} {e : Expr} {t t' : TE} (h : PE X e t) (w : ∀ σ H Q, t' σ H Q → t σ H Q) : PE X e t' := ⟨fun pins s σ H Q I q => h.run pins s σ H Q I (w σ H Q q)⟩
end Cs
set_option maxHeartbeats 4000000
local macro_rules | `(tactic| walk_at "hp") => `(tactic| first
  | assumption
  | with_reducible exact L2.upd_same
  | with_reducible exact Cs.upd_old (by assumption) (by assumption)
  | (with_reducible refine Cs.upd_old (by first | assumption | exact Cs.upd_new (by assumption)) ?_; walk_at "hp")
  | (with_reducible refine Cs.upd_mut (by walk_at "hp") (by intro z; cases z) ?_; walk_at "hp")
  | exact (by assumption : L2.Same _ _) _ _ (by walk_at "hp"))
local macro_rules | `(tactic| walk_at "rp") => `(tactic| first
  | assumption
  | exact Cs.Rp.keep (Cs.ExB.of (by assumption)) (by walk_at "rp"))
local macro_rules | `(tactic| walk_at "sm") => `(tactic| first
  | assumption
  | exact L2.Same.refl _
  | exact Cs.same_new (by assumption)
  | exact Cs.same_tr (by assumption) (by walk_at "sm")
  | exact Cs.same_tr (Cs.same_new (by assumption)) (by walk_at "sm"))
local macro_rules | `(tactic| walk_at "e") => `(tactic| first
  | refine ⟨_, rfl, ?_⟩
  | refine ⟨_, _, rfl, rfl, ?_⟩
  | refine ⟨_, _, _, _, rfl, rfl, L2.SqL.of (by walk_at "hp"), rfl, ?_⟩
  | refine ⟨_, _, _, _, rfl, rfl, (by walk_at "hp"), rfl, ?_⟩
  | refine Or.inl ⟨_, rfl, ?_⟩
  | refine Or.inl ⟨rfl, ?_⟩
  | refine Or.inl ⟨_, _, rfl, rfl, ?_⟩
  | refine Or.inl ⟨_, _, _, _, rfl, rfl, L2.SqL.of (by walk_at "hp"), rfl, ?_⟩
  | refine Or.inr (Or.inl ⟨_, _, _, _, rfl, rfl, L2.SqT.of (by walk_at "hp"), rfl, ?_⟩)
  | refine Or.inr ⟨_, rfl, Cs.sz1000 (by assumption), ?_⟩
  | refine Or.inr ⟨_, _, rfl, rfl, ?_⟩
  | refine Or.inl ⟨_, _, rfl, Or.inr (L2.SqT.of (by walk_at "hp")), ?_⟩
  | refine Or.inl ⟨_, _, rfl, Or.inl (L2.SqL.of (by walk_at "hp")), ?_⟩
  | refine ⟨_, _, rfl, L2.SqT.of (by walk_at "hp"), rfl, ?_⟩
  | refine ⟨_, _, _, _, _, rfl, .ty _, Cs.Rp.ty (by walk_at "rp"), (by first | exact Cs.kit_int | exact Cs.kit_bool | exact Cs.kit_str | exact Cs.kit_tup), ?_⟩
  | refine ⟨_, _, _, rfl, (by walk_at "rp"), fun _ _ => ?_⟩
  | refine ⟨_, _, _, _, rfl, (by walk_at "rp"), fun _ _ => ?_⟩
  | refine ⟨_, _, _, _, _, rfl, (by walk_at "rp"), fun _ _ => ?_⟩
  | refine ⟨_, _, rfl, ?_⟩
  | refine And.intro rfl ?_
  | refine And.intro (by first | decide | (dsimp only; decide)) ?_
  | refine And.intro (by first | assumption | (dsimp only; assumption)) ?_
  | refine And.intro (Or.inr ⟨by decide, by decide⟩) ?_
  | refine And.intro (Or.inl ⟨by omega, by omega⟩) ?_
  | refine And.intro ⟨by decide, by decide⟩ ?_
  | refine And.intro ⟨by assumption, by assumption⟩ ?_)
local macro_rules | `(tactic| walk_at "es") => `(tactic| repeat (walk_at "e"))
namespace Cs
open PySem L2 PyProof.Rows
def topS (i : Nat) : Stmt := PySem.Challenge.pw_cornersure_k04_tables_refused.main.body.getD i (.Pass ⟨0, 0, 0, 0⟩)
structure DefAt (K : PySem.W.Frag) (mg : Str → Option Value) (x : Str) (st : Stmt) (ps : List Str) : Prop where
  ex : ∃ (f : Addr) (fd : FuncData), FunD K x x (defArgs st) (defBody st) (defScope st) [] [] f fd ∧ mg x = some (.ref f) ∧ Binds K fd ps []
/-- what the module has not, so that a built-in is meant; its numbers -/
structure Txt (mg : Str → Option Value) : Prop where
  len_ : mg "len" = none
  isinstance_ : mg "isinstance" = none
  int_ : mg "int" = none
  str_ : mg "str" = none
  bool_ : mg "bool" = none
  tuple_ : mg "tuple" = none
  list_ : mg "list" = none
  all_ : mg "all" = none
  abs_ : mg "abs" = none
  divmod_ : mg "divmod" = none
  range_ : mg "range" = none
  enumerate_ : mg "enumerate" = none
  repr_ : mg "repr" = none
  c__MOST_LETTERS : ∃ u, mg "_MOST_LETTERS" = some u ∧ RelV (.int 8) u
  c_MOST_END : ∃ u, mg "MOST_END" = some u ∧ RelV (.int 10000) u
  c_MOST_COLUMNS : ∃ u, mg "MOST_COLUMNS" = some u ∧ RelV (.int 4) u
  c_MOST_ROWS : ∃ u, mg "MOST_ROWS" = some u ∧ RelV (.int 8) u
section
variable {P : Program} {w : World} {K : PySem.W.Frag} {mg : Str → Option Value} {base : Heap}
theorem DefAt.cal {x : Str} {st : Stmt} {N ps : List Str} {k : Nat} {sp : Sp} (D : DefAt K mg x st ps) (S : FnScope N ps (defScope st)) (len : ∀ vs H Q E, sp vs H Q E → vs.length = ps.length)
    (hbody : ∀ (f : Addr) (cdv : Value) (A : Around) (outer : List Env) (s : Shared) (H : Hp) (vs : List V) (Q : VK) (E : XK), Room k (A.deeper (envOfC x (defScope st) s.heap.objs.size f cdv)) → sp vs H Q E →
      ∃ t, PSs (cxOf CX0 P w K mg base N x (defScope st) f cdv A outer s H E).nox (defBody st) t ∧ t { nx := fun _ H' => Q .non H', rt := Q } (start N vs) H) : C8.Cal P w K mg base (k + 1) x sp [] := by
  obtain ⟨f, fd, F, g, b⟩ := D.ex
  refine ⟨f, fd, ps, [], F.ok S len fun cdv A outer s H vs Q E hr h => ?_, g, F.kp, b, .nil⟩
  obtain ⟨t, h1, h2⟩ := hbody f cdv A outer s H vs Q E hr h
  exact ⟨t, h1.nox, h2⟩
/-! ### kinds -/
theorem sc_is_integer : FnScope ["value"] ["value"] (defScope (topS 22)) := ⟨rfl, rfl, rfl, by decide +kernel, rfl, by decide +kernel, by decide +kernel⟩
theorem ok_is_integer (D : DefAt K mg "is_integer" (topS 22) ["value"]) (T : Txt mg) : C8.Cal P w K mg base 1 "is_integer" (SpB isInt) [] := by
  refine D.cal sc_is_integer (fun vs H Q E h => by obtain ⟨p, v, d, rfl, _⟩ := h; rfl) fun f cdv A outer s H vs Q E hr h => ?_
  obtain ⟨p, v, d, rfl, r, k⟩ := h
  refine ⟨_, (pss_one (ps_ret (pe_and (pe_callB call_isi (by rfl) T.isinstance_ (by decide +kernel) (pa_cons (pv 0) (pa_cons (pe_bltn (v := .ty "int") (u := .type "int") (by rfl) T.int_ (by decide +kernel) rfl) pa_nil))) (pe_one (pe_not (pe_callB call_isi (by rfl) T.isinstance_ (by decide +kernel) (pa_cons (pv 0) (pa_cons (pe_bltn (v := .ty "bool") (u := .type "bool") (by rfl) T.bool_ (by decide +kernel) rfl) pa_nil)))))))), ?_⟩
  walk_at "es"
  have e : isInt d = (if isInt d || isBl d then !isBl d else false) := by cases d <;> rfl
  refine ite2 (fun h => ?_) (fun h => ?_)
  · walk_at "es"
    have q := k H (Same.refl H)
    rw [e, if_pos h] at q
    exact q
  · have q := k H (Same.refl H)
    rw [e, if_neg h] at q
    exact q
theorem sc_is_tuple_of : FnScope ["value", "many"] ["value", "many"] (defScope (topS 23)) := ⟨rfl, rfl, rfl, by decide +kernel, rfl, by decide +kernel, by decide +kernel⟩
theorem ok_is_tuple_of (D : DefAt K mg "is_tuple_of" (topS 23) ["value", "many"]) (T : Txt mg) : C8.Cal P w K mg base 1 "is_tuple_of" SpTN [] := by
  refine D.cal sc_is_tuple_of (fun vs H Q E h => by obtain ⟨p, v, d, n, rfl, _⟩ := h; rfl) fun f cdv A outer s H vs Q E hr h => ?_
  obtain ⟨p, v, d, n, rfl, r, k⟩ := h
  have hu64 := hr.units
  refine ⟨_, (pss_one (ps_ret (pe_and (pe_callB call_isi (by rfl) T.isinstance_ (by decide +kernel) (pa_cons (pv 0) (pa_cons (pe_bltn (v := .ty "tuple") (u := .type "tuple") (by rfl) T.tuple_ (by decide +kernel) rfl) pa_nil))) (pe_one (pe_cmpR (opEq hu64) (pe_callB call_lenA (by rfl) T.len_ (by decide +kernel) (pa_cons (pv 0) pa_nil)) (pv 1) (nomark _)))))), ?_⟩
  walk_at "es"
  have q := k H (Same.refl H)
  cases r with
  | @tup a xs ds nn h z ra =>
    refine iteT ?_
    walk_at "es"
    show Q (V.bl (decide (V.int ((xs.length : Nat) : Int) = V.int ((n : Nat) : Int)))) H
    rw [vint_eq, ra.length]
    exact q
  | _ => exact iteF q
theorem sc_is_pair_of_integers : FnScope ["value"] ["value"] (defScope (topS 24)) := ⟨rfl, rfl, rfl, by decide +kernel, rfl, by decide +kernel, by decide +kernel⟩
theorem ok_is_pair_of_integers (D : DefAt K mg "is_pair_of_integers" (topS 24) ["value"]) (T : Txt mg) (cis_tuple_of : C8.Cal P w K mg base 1 "is_tuple_of" SpTN []) (cis_integer : C8.Cal P w K mg base 1 "is_integer" (SpB isInt) []) :
    C8.Cal P w K mg base 2 "is_pair_of_integers" (SpB isPair) [] := by
  refine D.cal sc_is_pair_of_integers (fun vs H Q E h => by obtain ⟨p, v, d, rfl, _⟩ := h; rfl) fun f cdv A outer s H vs Q E hr h => ?_
  obtain ⟨p, v, d, rfl, r, k⟩ := h
  have hu64 := hr.units
  refine ⟨_, (pss_one (ps_ret (pe_and (C8.pe_c cis_tuple_of hr (by decide) rfl (pa_cons (pv 0) (pa_cons pe_int pa_nil))) (pe_and (C8.pe_c cis_integer hr (by decide) rfl (pa_cons (pe_ix ix_seq (pv 0) pe_int (fun _ _ => rfl)) pa_nil)) (pe_one (C8.pe_c cis_integer hr (by decide) rfl (pa_cons (pe_ix ix_seq (pv 0) pe_int (fun _ _ => rfl)) pa_nil))))))), ?_⟩
  walk_at "e"
  refine ⟨p, v, d, 2, rfl, r, fun H1 s1 => ?_⟩
  walk_at "es"
  cases hd : isTupN 2 d with
  | false =>
    have e : isPair d = false := by
      unfold isPair
      split
      · simp [isTupN] at hd
      · rfl
    have q := k H1 s1
    rw [e] at q
    exact iteF q
  | true =>
    cases r with
    | @tup a xs ds nn h z ra =>
      cases ra with
      | nil => simp [isTupN] at hd
      | @cons v1 vs1 d1 ds1 r1 ra =>
        cases ra with
        | nil => simp [isTupN] at hd
        | @cons v2 vs2 d2 ds2 r2 ra =>
          cases ra with
          | cons _ _ => simp [isTupN] at hd
          | nil =>
            refine iteT ?_
            walk_at "es"
            walk_at "es"
            refine ite2 (fun e1 => ?_) (fun e1 => ?_)
            · walk_at "es"
              exact fin_b k (by simp_all [isPair]) (by walk_at "sm")
            · exact fin_b k (by simp_all [isPair]) (by walk_at "sm")
    | _ => simp [isTupN] at hd
theorem sc_is_stretch : FnScope ["value", "least", "most", "low", "high"] ["value", "least", "most"] (defScope (topS 26)) := ⟨rfl, rfl, rfl, by decide +kernel, rfl, by decide +kernel, by decide +kernel⟩
theorem ok_is_stretch (D : DefAt K mg "is_stretch" (topS 26) ["value", "least", "most"]) (cis_pair_of_integers : C8.Cal P w K mg base 2 "is_pair_of_integers" (SpB isPair) []) :
    C8.Cal P w K mg base 3 "is_stretch" SpSpan [] := by
  refine D.cal sc_is_stretch (fun vs H Q E h => by obtain ⟨p, v, d, lo, hi, rfl, _⟩ := h; rfl) fun f cdv A outer s H vs Q E hr h => ?_
  obtain ⟨p, v, d, lo, hi, rfl, r, k⟩ := h
  have nd := sc_is_stretch.nd
  refine ⟨_, (pss_cons (ps_if (pt_not (pt_val (C8.pe_c cis_pair_of_integers hr (by decide) rfl (pa_cons (pv 0) pa_nil)))) (pss_one (ps_ret pe_bl)) pss_nil)
      (pss_cons (ps_asg (pv 0) (pg_tup (by rfl) (pgs_cons (pg_name (i := 3) nd rfl (.inl rfl)) (pgs_cons (pg_name (i := 4) nd rfl (.inl rfl)) pgs_nil))))
      (pss_one (ps_ret (pe_chain3 opLe opLe opLe (pv 1) (pv 3) (pv 4) (pv 2)))))), ?_⟩
  walk_at "es"
  cases hd : isPair d with
  | false =>
    refine iteT ?_
    exact fin_b k (isPair_not hd _ _) (by walk_at "sm")
  | true =>
    refine iteF ?_
    cases r with
    | @tup a xs ds nn h z ra =>
      cases ra with
      | nil => simp [isPair] at hd
      | @cons v1 vs1 d1 ds1 r1 ra =>
        cases ra with
        | nil => simp [isPair] at hd
        | @cons v2 vs2 d2 ds2 r2 ra =>
          cases ra with
          | cons _ _ => simp [isPair] at hd
          | nil =>
            cases r1 with
            | int i =>
              cases r2 with
              | int j =>
                walk_at "es"
                refine ite2 (fun e1 => ?_) (fun e1 => ?_)
                · walk_at "es"
                  refine ite2 (fun e2 => ?_) (fun e2 => ?_)
                  · walk_at "es"
                    exact fin_b k (by show (decide _ && (decide _ && decide _)) = _; rw [e1, e2]; rfl) (by walk_at "sm")
                  · exact fin_b k (by show (decide _ && (decide _ && decide _)) = _; rw [e1, eq_false_of_ne_true e2]; rfl) (by walk_at "sm")
                · exact fin_b k (by show (decide _ && (decide _ && decide _)) = _; rw [eq_false_of_ne_true e1]; rfl) (by walk_at "sm")
              | _ => simp [isPair, isInt] at hd
            | _ => simp [isPair, isInt] at hd
    | _ => simp [isPair] at hd
theorem sc__is_end_pair : FnScope ["value"] ["value"] (defScope (topS 35)) := ⟨rfl, rfl, rfl, by decide +kernel, rfl, by decide +kernel, by decide +kernel⟩
theorem ok__is_end_pair (D : DefAt K mg "_is_end_pair" (topS 35) ["value"]) (T : Txt mg) (cis_stretch : C8.Cal P w K mg base 3 "is_stretch" SpSpan []) :
    C8.Cal P w K mg base 4 "_is_end_pair" (SpB (isSpan (-10000) 10000)) [] := by
  refine D.cal sc__is_end_pair (fun vs H Q E h => by obtain ⟨p, v, d, rfl, _⟩ := h; rfl) fun f cdv A outer s H vs Q E hr h => ?_
  obtain ⟨p, v, d, rfl, r, k⟩ := h
  refine ⟨_, (pss_one (ps_ret (C8.pe_c cis_stretch hr (by decide) rfl (pa_cons (pv 0) (pa_cons (pe_un un_neg (C8.pe_gc rfl T.c_MOST_END)) (pa_cons (C8.pe_gc rfl T.c_MOST_END) pa_nil)))))), ?_⟩
  walk_at "es"
  exact k _ (by walk_at "sm")
end
end Cs
set_option maxHeartbeats 4000000
namespace Cs
open PySem L2 PyProof.Rows
section
variable {P : Program} {w : World} {K : PySem.W.Frag} {mg : Str → Option Value} {base : Heap}
theorem sc_is_name : FnScope ["value", "letter"] ["value"] (defScope (topS 25)) := ⟨rfl, rfl, rfl, by decide +kernel, rfl, by decide +kernel, by decide +kernel⟩
theorem ok_is_name (D : DefAt K mg "is_name" (topS 25) ["value"]) (T : Txt mg) : C8.Cal P w K mg base 1 "is_name" (SpB isName) [] := by
  refine D.cal sc_is_name (fun vs H Q E h => by obtain ⟨p, v, d, rfl, _⟩ := h; rfl) fun f cdv A outer s H vs Q E hr h => ?_
  obtain ⟨p, v, d, rfl, r, k⟩ := h
  have nd := sc_is_name.nd
  refine ⟨_, (pss_cons (ps_if (PW.pt (pw_or (pt_not (pt_val (pe_callB call_isi (by rfl) T.isinstance_ (by decide +kernel) (pa_cons (pv 0) (pa_cons (pe_bltn (v := .ty "str") (u := .type "str") (by rfl) T.str_ (by decide +kernel) rfl) pa_nil))))) (pw_or1 (pt_not (pt_chain opLe opLe pe_int (pe_callB call_lenA (by rfl) T.len_ (by decide +kernel) (pa_cons (pv 0) pa_nil)) (C8.pe_gc rfl T.c__MOST_LETTERS)))))) (pss_one (ps_ret pe_bl)) pss_nil)
      (pss_one (ps_ret (pe_callB (cr_all rfl) (by rfl) T.all_ (by decide +kernel) (pa_cons (pe_lc (own := [("letter", 1)]) rfl nd (pi_str (pv 0)) (blkOk_by (N := ["value", "letter"]) (sc := defScope (topS 25)) (by decide +kernel)) (fun _ _ _ _ _ => (pg_name (i := 1) nd rfl (.inl rfl))) (fun _ _ _ _ _ => pts_nil) (fun _ _ _ _ _ => (pe_chain opLe opLe pe_str (pv 1) pe_str))) pa_nil))))), ?_⟩
  walk_at "es"
  have q := k _ (Same.refl H)
  cases r with
  | str x hx =>
    refine iteF ?_
    walk_at "es"
    have il : (x.length : Int) = x.cps.toList.length := rfl
    refine ite2 (fun e1 => ?_) (fun e1 => ?_)
    · walk_at "es"
      refine ite2 (fun e2 => ?_) (fun e2 => ?_)
      · exact fin_b k (by
          have q : ¬ ((x.length : Int) ≤ 8) := of_decide_eq_false (by simpa using e2)
          have q2 : decide (x.length ≤ 8) = false := decide_eq_false (by omega)
          show ((_ && decide (x.length ≤ 8)) && _) = false
          rw [q2, Bool.and_false, Bool.false_and]) (by walk_at "sm")
      · dsimp only [tNext, tRet, tCB, tCons]
        refine lc_txt (x := x) (ys := x.cps.toList.map fun c => V.bl (letterC c)) (by rw [List.length_map]; rfl) hx (fun R hR => ⟨_, rfl, hR⟩) (fun j c y H1 hc hy s1 R hR => ?_) (fun D H1 hD s1 h1 => ?_)
        · have ey : y = V.bl (letterC c) := by
            have q2 : x.cps.toList[j]? = some c := by rw [Array.getElem?_toList]; exact hc
            rw [List.getElem?_map, q2] at hy
            exact (Option.some.inj hy).symm
          subst ey
          refine ⟨rfl, ?_⟩
          walk_at "es"
          refine ite2 (fun e3 => ?_) (fun e3 => ?_)
          · walk_at "es"
            refine fin_b (b := letterC c) hR ?_ (Same.refl _)
            have q : decide (97 ≤ c) = true := (letter_lo c).symm.trans e3
            exact (show (decide (97 ≤ c) && decide (c ≤ 122)) = _ by rw [q, Bool.true_and]; exact (letter_hi c).symm)
          · refine fin_b (b := letterC c) hR ?_ (Same.refl _)
            have q : decide (97 ≤ c) = false := (letter_lo c).symm.trans (eq_false_of_ne_true e3)
            exact (show (decide (97 ≤ c) && decide (c ≤ 122)) = _ by rw [q, Bool.false_and])
        · refine ⟨D, x.cps.toList.map letterC, rfl, SqL.of (by rw [List.map_map]; exact h1), ?_⟩
          refine fin_b k ?_ (by walk_at "sm")
          have q : (x.length : Int) ≤ 8 := of_decide_eq_true (by simpa using e2)
          have q2 : (1 : Int) ≤ x.length := of_decide_eq_true e1
          show ((decide (1 ≤ x.length) && decide (x.length ≤ 8)) && _) = _
          rw [decide_eq_true (by omega), decide_eq_true (by omega), Bool.true_and, Bool.true_and, List.all_map]
          rfl
    · have q : ¬ ((1 : Int) ≤ x.length) := of_decide_eq_false (eq_false_of_ne_true e1)
      refine ⟨_, rfl, iteT ?_⟩
      refine fin_b k ?_ (by walk_at "sm")
      show ((decide (1 ≤ x.length) && _) && _) = false
      rw [decide_eq_false (by omega)]
      rfl
  | _ => exact iteT q
end
end Cs
set_option maxHeartbeats 4000000
namespace Cs
open PySem L2 PyProof.Rows
section
variable {P : Program} {w : World} {K : PySem.W.Frag} {mg : Str → Option Value} {base : Heap}
theorem sc__is_row : FnScope ["value", "many", "name", "stretches", "part"] ["value", "many"] (defScope (topS 36)) := ⟨rfl, rfl, rfl, by decide +kernel, rfl, by decide +kernel, by decide +kernel⟩
theorem ok__is_row (D : DefAt K mg "_is_row" (topS 36) ["value", "many"]) (T : Txt mg) (cis_tuple_of : C8.Cal P w K mg base 1 "is_tuple_of" SpTN []) (cis_name : C8.Cal P w K mg base 1 "is_name" (SpB isName) [])
    (c_is_end_pair : C8.Cal P w K mg base 4 "_is_end_pair" (SpB (isSpan (-10000) 10000)) []) : C8.Cal P w K mg base 5 "_is_row" SpRow [] := by
  refine D.cal sc__is_row (fun vs H Q E h => by obtain ⟨p, v, d, n, rfl, _⟩ := h; rfl) fun f cdv A outer s H vs Q E hr h => ?_
  obtain ⟨p, v, d, n, rfl, r, k⟩ := h
  have nd := sc__is_row.nd
  refine ⟨_, (pss_cons (ps_if (pt_not (pt_val (C8.pe_c cis_tuple_of hr (by decide) rfl (pa_cons (pv 0) (pa_cons pe_int pa_nil))))) (pss_one (ps_ret pe_bl)) pss_nil)
      (pss_cons (ps_asg (pv 0) (pg_tup (by rfl) (pgs_cons (pg_name (i := 2) nd rfl (.inl rfl)) (pgs_cons (pg_name (i := 3) nd rfl (.inl rfl)) pgs_nil))))
      (pss_one (ps_ret (pe_and (C8.pe_c cis_name hr (by decide) rfl (pa_cons (pv 2) pa_nil)) (pe_and (C8.pe_c cis_tuple_of hr (by decide) rfl (pa_cons (pv 3) (pa_cons (pv 1) pa_nil))) (pe_one (pe_callB (cr_all rfl) (by rfl) T.all_ (by decide +kernel) (pa_cons (pe_lc (own := [("part", 4)]) rfl nd (pi_tup (pv 3)) (blkOk_by (N := ["value", "many", "name", "stretches", "part"]) (sc := defScope (topS 36)) (by decide +kernel)) (fun _ _ _ _ _ => (pg_name (i := 4) nd rfl (.inl rfl))) (fun _ _ _ _ _ => pts_nil) (fun _ _ _ _ _ => (C8.pe_c c_is_end_pair hr (by decide) rfl (pa_cons (pv 4) pa_nil)))) pa_nil))))))))), ?_⟩
  walk_at "e"
  refine ⟨p, v, d, 2, rfl, r, fun H1 s1 => ?_⟩
  walk_at "es"
  cases hd : isTupN 2 d with
  | false =>
    refine iteT (fin_b k ?_ (by walk_at "sm"))
    unfold isRow
    split
    · simp [isTupN] at hd
    · rfl
  | true =>
    refine iteF ?_
    cases r with
    | @tup a xs ds nn h z ra =>
      cases ra with
      | nil => simp [isTupN] at hd
      | @cons v1 vs1 d1 ds1 r1 ra =>
        cases ra with
        | nil => simp [isTupN] at hd
        | @cons v2 vs2 d2 ds2 r2 ra =>
          cases ra with
          | cons _ _ => simp [isTupN] at hd
          | nil =>
            walk_at "es"
            refine ite2 (fun e1 => ?_) (fun e1 => ?_)
            · walk_at "es"
              cases e2 : isTupN n d2 with
              | false =>
                refine iteF (fin_b k ?_ (by walk_at "sm"))
                unfold isRow
                split
                · rename_i q
                  cases q
                  have e3 : decide (_ = n) = false := e2
                  rw [e3, Bool.false_and, Bool.and_false]
                · rfl
              | true =>
                cases r2 with
                | @tup a2 xs2 ds2 nn2 h2 z2 ra2 =>
                  refine iteT ?_
                  dsimp only [tCB, tCons]
                  refine lc_tupM (xs := xs2) (ys := ds2.map fun d => V.bl (isSpan (-10000) 10000 d)) (L2.SqT.of (by walk_at "hp")) (by rw [List.length_map, ra2.length]) z2 (fun R hR => ⟨_, rfl, hR⟩) (fun j y b H3 hy hb s3 R hR => ?_) (fun D' H3 hD s3 h3 => ?_)
                  · obtain ⟨d3, hd3, r3⟩ := ra2.get hy
                    have eb : b = V.bl (isSpan (-10000) 10000 d3) := by
                      rw [List.getElem?_map, hd3] at hb
                      exact (Option.some.inj hb).symm
                    subst eb
                    refine ⟨rfl, ?_⟩
                    walk_at "e"
                    refine ⟨p, y, d3, rfl, (by walk_at "rp"), fun H4 s4 => hR H4 s4⟩
                  · refine ⟨D', ds2.map (isSpan (-10000) 10000), rfl, SqL.of (by rw [List.map_map]; exact h3), fin_b k ?_ (by walk_at "sm")⟩
                    have e3 : decide (ds2.length = n) = true := e2
                    show (isName d1 && (decide (ds2.length = n) && _)) = _
                    rw [e1, e3, Bool.true_and, Bool.true_and, List.all_map]
                    rfl
                | _ => simp [isTupN] at e2
            · refine fin_b k ?_ (by walk_at "sm")
              unfold isRow
              split
              · rename_i q
                cases q
                rw [eq_false_of_ne_true e1, Bool.false_and]
              · rfl
    | _ => simp [isTupN] at hd
end
end Cs
set_option maxHeartbeats 4000000
namespace Cs
open PySem L2 PyProof.Rows
def idxV : Option Nat → V
  | none => .non
  | some i => .int ((i : Nat) : Int)
/-- __init__ of an exception that keeps what it is made with under the name f -/
def SpXInit (C : Addr) (f : Str) : Sp := fun vs H Q _ => ∃ (a : Addr) (y : V), vs = [.ref a, y] ∧ H a = some (exo a C none) ∧
  ∀ d, H d = none → d ≠ a → Q .non (upd (upd H d (exd d [(f, y)])) a (exo a C (some d)))
/-- what is known of the class x at C, which keeps one thing under f -/
structure ExAt (K : PySem.W.Frag) (mg : Str → Option Value) (x : Str) (C : Addr) (f : Str) (st : Stmt) : Prop where
  T : OexC K C
  g : mg x = some (.ref C)
  no : PySem.W.findIn K (.ref C) f = some none
  ini : ∃ (fI : Addr) (fd : FuncData) (q : Str), PySem.W.findIn K (.ref C) "__init__" = some (some (.ref fI)) ∧ PySem.W.typeIn K (.ref fI) = some (.type "function") ∧
    FunD K "__init__" q (defArgs st) (defBody st) (defScope st) [] [] fI fd ∧ Binds K fd ["self", f] []
section
variable {P : Program} {w : World} {K : PySem.W.Frag} {mg : Str → Option Value} {base : Heap}
theorem ok_xinit {C fI : Addr} {fd : FuncData} {q : Str} (F : FunD K "__init__" q (defArgs (inClass (topS 11) 0)) (defBody (inClass (topS 11) 0)) (defScope (inClass (topS 11) 0)) [] [] fI fd)
    (T : OexC K C) (no : PySem.W.findIn K (.ref C) "index" = some none) : FnOk P w K mg base CX0 1 fI fd ["self", "index"] (SpXInit C "index") := by
  refine F.ok (N := ["self", "index"]) ⟨rfl, rfl, rfl, by decide +kernel, rfl, by decide +kernel, by decide +kernel⟩ (fun vs H Q E h => by obtain ⟨a, y, rfl, _⟩ := h; rfl) fun cdv A outer s H vs Q E hr h => ?_
  obtain ⟨a, y, rfl, ha, k⟩ := h
  refine ⟨_, PSs.nox (pss_one (ps_ost (pv 0) (pv 1))), ?_⟩
  walk_at "es"
  exact ⟨a, C, rfl, T, no, .inl ⟨ha, fun dx h1 h2 => k dx h1 h2⟩⟩
end
section
variable {X : Cx} {x f : Str} {C : Addr} {st : Stmt} {e : Expr} {te : TE} {p pos : Pos}
theorem pmk_ix (A : ExAt X.K X.mg x C f st) (hI : ∀ (fI : Addr) (fd : FuncData) (q : Str), FunD X.K "__init__" q (defArgs st) (defBody st) (defScope st) [] [] fI fd → FnOk X.prog X.w X.K X.mg X.base CX0 1 fI fd ["self", f] (SpXInit C f))
    (hr : Room 2 X.A) (hg : Gl X x) (he : PE X e te) (hdb : (x == ("__debug__" : Str)) = false) (hs : starEach [e] X.env = (false, eval e X.env) :: starEach [] X.env) :
    PMk X (.Call (.Name x p) [e] [] pos) (tMkO C (SpXInit C f) [] (tCons te tNil)) := by
  obtain ⟨fI, fd, q, h1, h2, F, b⟩ := A.ini
  exact pmk_oex (k := 1) (dvs := []) A.T h1 h2 (hI fI fd q F) hr b .nil pass0 hg A.g (pa_cons he pa_nil hs) hdb hs rfl
/-- behind the argument -/
theorem xmk {v : V} {H1 : Hp} {Q : XK} (k : ∀ d H', H1 d = none → Same H1 H' → H' d = some (.xd [(f, v)]) → Q (.ref C) (some d) H') :
    [v].length ≤ 1000 ∧ ∀ a, H1 a = none → SpXInit C f (.ref a :: ([v] ++ [])) (upd H1 a (exo a C none))
      (fun u H2 => u = .non ∧ ∃ (d : Addr) (fs : List (Str × V)), H2 a = some (exo a C (some d)) ∧ H2 d = some (exd d fs) ∧ H1 d = none ∧ Q (.ref C) (some d) (upd (del H2 a) d (.xd fs))) (fun _ _ _ => False) := by
  refine ⟨(by show 1 ≤ 1000; decide), fun a ha => ⟨a, v, rfl, upd_same, fun d hd hda => ⟨rfl, d, [(f, v)], upd_same, ?_, ?_, k d _ ?_ (fun b o e => ?_) upd_same⟩⟩⟩
  · rw [upd_ne hda, upd_same]
  · rw [upd_ne hda] at hd
    exact hd
  · rw [upd_ne hda] at hd
    exact hd
  · rw [upd_ne hda] at hd
    have nb : b ≠ d := ne_of_none e hd
    have na : b ≠ a := ne_of_none e ha
    rw [upd_ne nb, del_ne na, upd_ne na, upd_ne nb, upd_ne na]
    exact e
end
/-! ### what is wrong of columns, of rows: none for nothing, some none for what is no tuple or empty -/
def colsBad : Nat → List Str → List PyData → Option Nat
  | _, _, [] => none
  | i, seen, .str x :: r => if i = 4 then some i else if isName (.str x) && !seen.contains x then colsBad (i + 1) (seen ++ [x]) r else some i
  | i, _, _ :: _ => some i
def colsErr : PyData → Option (Option Nat)
  | .tuple [] => some none
  | .tuple ds => (colsBad 0 [] ds).map some
  | _ => some none
theorem colsBad_4 {seen : List Str} {d : PyData} {r : List PyData} : colsBad 4 seen (d :: r) = some 4 := by cases d <;> simp [colsBad]
theorem colsBad_bad {i : Nat} {seen : List Str} {d : PyData} {r : List PyData} (h : isName d = false) : colsBad i seen (d :: r) = some i := by
  cases d <;> first | rfl | (simp only [colsBad, h, Bool.false_and]; split <;> rfl)
theorem colsBad_in {i : Nat} {seen : List Str} {x : Str} {r : List PyData} (h : seen.contains x = true) : colsBad i seen (.str x :: r) = some i := by
  simp only [colsBad, h, Bool.not_true, Bool.and_false]
  split <;> rfl
theorem colsBad_ok {i : Nat} {seen : List Str} {x : Str} {r : List PyData} (h4 : i ≠ 4) (hn : isName (.str x) = true) (h : seen.contains x = false) : colsBad i seen (.str x :: r) = colsBad (i + 1) (seen ++ [x]) r := by
  simp only [colsBad, h, hn, Bool.not_false, Bool.and_true]
  rw [if_neg h4, if_pos trivial]
theorem inV_str {x : Str} : ∀ {l : List Str}, inV (.str x) (l.map V.str) = l.contains x
  | [] => rfl
  | y :: l => by
    have ih := inV_str (x := x) (l := l)
    unfold inV at ih ⊢
    rw [List.map_cons, List.any_cons, ih, List.contains_cons]
    have e : eqV (.str y) (.str x) = (x == y) := Bool.beq_comm
    rw [e]
theorem flat_str : ∀ {l : List Str}, (l.map V.str).all flatV = true
  | [] => rfl
  | y :: l => by rw [List.map_cons, List.all_cons, flat_str]; rfl
theorem cutV_to {xs : List V} {i : Nat} (h : i ≤ xs.length) : cutV xs none (some ((i : Nat) : Int)) = xs.take i := by
  unfold cutV
  rw [HT.sIx_none, HT.sIx_nat, List.drop_zero, Nat.min_eq_left h, Nat.sub_zero]
def SpCC (C : Addr) : Sp := fun vs H Q E => ∃ (p : Addr) (v : V) (d : PyData), vs = [v] ∧ Rp p H v d ∧ (colsErr d = none → ∀ H', Same H H' → Q .non H') ∧
  ∀ e, colsErr d = some e → ∀ dd H', H dd = none → Same H H' → H' dd = some (.xd [("index", idxV e)]) → E (.ref C) (some dd) H'
/-- a def that may raise -/
structure CalX (P : Program) (w : World) (K : PySem.W.Frag) (mg : Str → Option Value) (base : Heap) (k : Nat) (x : Str) (sp : Sp) : Prop where
  ex : ∃ (f : Addr) (fd : FuncData) (ps : List Str), FnOk P w K mg base (L2.CX P w) k f fd ps sp ∧ mg x = some (.ref f) ∧ PySem.W.keepIn K (.ref f) = true ∧ Binds K fd ps []
section
variable {P : Program} {w : World} {K : PySem.W.Frag} {mg : Str → Option Value} {base : Heap}
theorem DefAt.calX {x : Str} {st : Stmt} {N ps : List Str} {k : Nat} {sp : Sp} (D : DefAt K mg x st ps) (S : FnScope N ps (defScope st)) (len : ∀ vs H Q E, sp vs H Q E → vs.length = ps.length)
    (hbody : ∀ (f : Addr) (cdv : Value) (A : Around) (outer : List Env) (s : Shared) (H : Hp) (vs : List V) (Q : VK) (E : XK), Room k (A.deeper (envOfC x (defScope st) s.heap.objs.size f cdv)) → sp vs H Q E →
      ∃ t, PSs (cxOf (L2.CX P w) P w K mg base N x (defScope st) f cdv A outer s H E) (defBody st) t ∧ t { nx := fun _ H' => Q .non H', rt := Q } (start N vs) H) : CalX P w K mg base (k + 1) x sp := by
  obtain ⟨f, fd, F, g, b⟩ := D.ex
  exact ⟨⟨f, fd, ps, F.ok S len fun cdv A outer s H vs Q E hr h => hbody f cdv A outer s H vs Q E hr h, g, F.kp, b⟩⟩
theorem sc_check_columns : FnScope ["columns", "index", "name"] ["columns"] (defScope (topS 33)) := ⟨rfl, rfl, rfl, by decide +kernel, rfl, by decide +kernel, by decide +kernel⟩
theorem ok_check_columns {C : Addr} (D : DefAt K mg "check_columns" (topS 33) ["columns"]) (T : Txt mg) (cis_name : C8.Cal P w K mg base 1 "is_name" (SpB isName) [])
    (xInvalidColumns : ExAt K mg "InvalidColumns" C "index" (inClass (topS 11) 0)) : CalX P w K mg base 4 "check_columns" (SpCC C) := by
  refine D.calX sc_check_columns (fun vs H Q E h => by obtain ⟨p, v, d, rfl, _⟩ := h; rfl) fun f cdv A outer s H vs Q E hr h => ?_
  obtain ⟨p, v, d, rfl, r, kn, kx⟩ := h
  have nd := sc_check_columns.nd
  have hu64 := hr.units
  have iInvalidColumns : ∀ (fI : Addr) (fd : FuncData) (q : Str), FunD K "__init__" q (defArgs (inClass (topS 11) 0)) (defBody (inClass (topS 11) 0)) (defScope (inClass (topS 11) 0)) [] [] fI fd → FnOk P w K mg base CX0 1 fI fd ["self", "index"] (SpXInit C "index") :=
    fun fI fd q F => ok_xinit F xInvalidColumns.T xInvalidColumns.no
  refine ⟨_, (pss_cons (ps_if (PW.pt (pw_or (pt_not (pt_val (pe_callB call_isi (by rfl) T.isinstance_ (by decide +kernel) (pa_cons (pv 0) (pa_cons (pe_bltn (v := .ty "tuple") (u := .type "tuple") (by rfl) T.tuple_ (by decide +kernel) rfl) pa_nil))))) (pw_or1 (pt_not (pt_truth (pv 0) (by intro _; rfl)))))) (pss_one (ps_raise rfl (takes_of rfl rfl rfl rfl) (pmk_ix xInvalidColumns iInvalidColumns (hr.mono (by decide)) rfl pe_non (by decide) rfl))) pss_nil)
      (pss_one (ps_for (passes_of rfl) rfl (pi_enumT rfl T.enumerate_ (pa_cons (pv 0) pa_nil)) (pg_tup (by rfl) (pgs_cons (pg_name (i := 1) nd rfl (.inl rfl)) (pgs_cons (pg_name (i := 2) nd rfl (.inl rfl)) pgs_nil))) (pss_one (ps_if (PW.pt (pw_or (pt_cmpR (opEq hu64) (pv 1) (C8.pe_gc rfl T.c_MOST_COLUMNS) (nomark _)) (pw_or (pt_not (pt_val (C8.pe_c cis_name hr (by decide) rfl (pa_cons (pv 2) pa_nil)))) (pw_or1 (pt_cmpR opIn (pv 2) (pe_slice slAny (pv 0) po_none (po_some (pv 1))) (by rfl)))))) (pss_one (ps_raise rfl (takes_of rfl rfl rfl rfl) (pmk_ix xInvalidColumns iInvalidColumns (hr.mono (by decide)) rfl (pv 1) (by decide) rfl))) pss_nil))))), ?_⟩
  walk_at "es"
  cases r with
  | @tup a xs ds nn h z ra =>
    refine iteF ?_
    walk_at "e"
    refine ⟨!xs.isEmpty, .inr (.inl ⟨xs, SqT.of h, rfl⟩), ?_⟩
    cases ra with
    | nil => exact iteT (xmk fun dd H' n s e => kx none rfl dd H' n s e)
    | @cons v1 vs1 d1 ds1 r1 ra =>
      refine iteF ?_
      generalize hxs : v1 :: vs1 = xs at *
      generalize hds : d1 :: ds1 = ds at *
      have ra : RpA p H xs ds := by rw [← hxs, ← hds]; exact .cons r1 ra
      have ce : colsErr (.tuple ds) = (colsBad 0 [] ds).map some := by rw [← hds]; rfl
      refine ⟨_, rfl, a, rfl, ⟨xs, SqT.of h⟩, for_enumT (xs := xs) (fun i σ H' => ∃ u1 u2 seen, σ = [some (.ref a), u1, u2] ∧ Same H H' ∧ seen.length = i ∧ xs.take i = seen.map V.str ∧ colsBad 0 [] ds = colsBad i seen (ds.drop i))
        ⟨none, none, [], rfl, Same.refl H, rfl, rfl, rfl⟩ (fun i σ H' _ ⟨_, _, _, _, sm, _⟩ => SqT.of (sm _ _ h)) ?_ ?_⟩
      · rintro i x t σ H' hi ⟨u1, u2, seen, rfl, sm, sl, e1, e2⟩ ht
        obtain ⟨d, hd, rd⟩ := ra.get hi
        have hdrop : ds.drop i = d :: ds.drop (i + 1) := (List.drop_eq_getElem?_toList_append).trans (by rw [hd]; rfl)
        rw [hdrop] at e2
        have s2 : Same H (upd H' t (.tup [.int ((i : Nat) : Int), x])) := same_tr (same_new ht) sm
        walk_at "es"
        have il := (List.getElem?_eq_some_iff.mp hi).1
        refine ite2 (fun q1 => ?_) (fun q1 => ?_)
        · have i4 : i = 4 := by
            have z := of_decide_eq_true q1
            injection z with z
            omega
          subst i4
          exact iteT ⟨_, rfl, xmk fun dd H2 n s3 e => kx (some _) (by rw [ce, e2, colsBad_4]; rfl) dd H2 (s2.free n) (s2.trans s3) e⟩
        · have i4 : i ≠ 4 := fun z => q1 (by rw [z]; rfl)
          walk_at "e"
          refine ⟨p, x, d, rfl, Rp.keep (ExB.of s2) rd, fun H2 s3 => ?_⟩
          walk_at "es"
          have s4 : Same H H2 := s2.trans s3
          cases q2 : isName d with
          | false => exact iteT (iteT ⟨_, rfl, xmk fun dd H2 n s3 e => kx (some i) (by rw [ce, e2, colsBad_bad q2]; rfl) dd H2 (s4.free n) (s4.trans s3) e⟩)
          | true =>
            refine iteF ?_
            cases rd with
            | str y hy =>
              walk_at "es"
              refine .inr (.inl ⟨_, xs, rfl, SqT.of (s4 _ _ h), fun hw => ?_, fun _ p2 hp2 => ?_⟩)
              · have z := hw.2
                rw [HT.sIx_nat] at z
                omega
              · rw [cutV_to (by omega), e1]
                refine .inl ⟨p2, _, rfl, .inr (SqT.of upd_same), rfl, flat_str, ?_⟩
                walk_at "es"
                have s5 : Same H (upd H2 p2 (.tup (seen.map V.str))) := same_tr (same_new hp2) s4
                show (if inV (.str y) (seen.map V.str) = true then _ else _)
                rw [inV_str]
                cases q3 : seen.contains y with
                | true => exact iteT ⟨_, rfl, xmk fun dd H2 n s3 e => kx (some i) (by rw [ce, e2, colsBad_in q3]; rfl) dd H2 (s5.free n) (s5.trans s3) e⟩
                | false =>
                  refine iteF ⟨_, _, seen ++ [y], rfl, s5, by rw [List.length_append, sl]; rfl, ?_, ?_⟩
                  · rw [List.take_succ, hi, e1, List.map_append]
                    rfl
                  · rw [e2, colsBad_ok i4 q2 q3]
            | _ => simp [isName] at q2
      · rintro σ H' ⟨u1, u2, seen, rfl, sm, sl, e1, e2⟩
        rw [ra.length, List.drop_length] at e2
        exact kn (by rw [ce, e2]; rfl) H' sm
  | _ => exact iteT (iteT (xmk fun dd H' n s e => kx none rfl dd H' n s e))
end
end Cs
set_option maxHeartbeats 4000000
namespace Cs
open PySem L2 PyProof.Rows
def nameOf : PyData → Option Str
  | .tuple (.str x :: _) => some x
  | _ => none
def rowsBad (n : Nat) : Nat → List Str → List PyData → Option Nat
  | _, _, [] => none
  | i, seen, d :: r => if i = 8 then some i else if isRow n d then (match nameOf d with
    | some x => if seen.contains x then some i else rowsBad n (i + 1) (seen ++ [x]) r
    | none => some i) else some i
def rowsErr (n : Nat) : PyData → Option (Option Nat)
  | .tuple [] => some none
  | .tuple ds => (rowsBad n 0 [] ds).map some
  | _ => some none
theorem isRow_name {n : Nat} {d : PyData} (h : isRow n d = true) : ∃ x r, d = .tuple (.str x :: r) := by
  unfold isRow at h
  split at h
  · rename_i nm ss
    cases nm <;> first | exact ⟨_, _, rfl⟩ | simp [isName] at h
  · cases h
def SpCR (C : Addr) : Sp := fun vs H Q E => ∃ (p : Addr) (vc v : V) (cs : List PyData) (d : PyData), vs = [vc, v] ∧ Rp p H vc (.tuple cs) ∧ Rp p H v d ∧ (rowsErr cs.length d = none → ∀ H', Same H H' → Q .non H') ∧
  ∀ e, rowsErr cs.length d = some e → ∀ dd H', H dd = none → Same H H' → H' dd = some (.xd [("index", idxV e)]) → E (.ref C) (some dd) H'
section
variable {P : Program} {w : World} {K : PySem.W.Frag} {mg : Str → Option Value} {base : Heap}
theorem ok_xinit2 {C fI : Addr} {fd : FuncData} {q : Str} (F : FunD K "__init__" q (defArgs (inClass (topS 12) 0)) (defBody (inClass (topS 12) 0)) (defScope (inClass (topS 12) 0)) [] [] fI fd)
    (T : OexC K C) (no : PySem.W.findIn K (.ref C) "index" = some none) : FnOk P w K mg base CX0 1 fI fd ["self", "index"] (SpXInit C "index") := by
  refine F.ok (N := ["self", "index"]) ⟨rfl, rfl, rfl, by decide +kernel, rfl, by decide +kernel, by decide +kernel⟩ (fun vs H Q E h => by obtain ⟨a, y, rfl, _⟩ := h; rfl) fun cdv A outer s H vs Q E hr h => ?_
  obtain ⟨a, y, rfl, ha, k⟩ := h
  refine ⟨_, PSs.nox (pss_one (ps_ost (pv 0) (pv 1))), ?_⟩
  walk_at "es"
  exact ⟨a, C, rfl, T, no, .inl ⟨ha, fun dx h1 h2 => k dx h1 h2⟩⟩
theorem sc_check_rows : FnScope ["columns", "rows", "names", "index", "row"] ["columns", "rows"] (defScope (topS 34)) := ⟨rfl, rfl, rfl, by decide +kernel, rfl, by decide +kernel, by decide +kernel⟩
theorem ok_check_rows {C : Addr} (D : DefAt K mg "check_rows" (topS 34) ["columns", "rows"]) (T : Txt mg) (c_is_row : C8.Cal P w K mg base 5 "_is_row" SpRow [])
    (xInvalidRows : ExAt K mg "InvalidRows" C "index" (inClass (topS 12) 0)) : CalX P w K mg base 6 "check_rows" (SpCR C) := by
  refine D.calX sc_check_rows (fun vs H Q E h => by obtain ⟨p, vc, v, cs, d, rfl, _⟩ := h; rfl) fun f cdv A outer s H vs Q E hr h => ?_
  obtain ⟨p, vc, v, cs, d, rfl, rc, r, kn, kx⟩ := h
  have nd := sc_check_rows.nd
  have hu64 := hr.units
  have iInvalidRows : ∀ (fI : Addr) (fd : FuncData) (q : Str), FunD K "__init__" q (defArgs (inClass (topS 12) 0)) (defBody (inClass (topS 12) 0)) (defScope (inClass (topS 12) 0)) [] [] fI fd → FnOk P w K mg base CX0 1 fI fd ["self", "index"] (SpXInit C "index") :=
    fun fI fd q F => ok_xinit2 F xInvalidRows.T xInvalidRows.no
  refine ⟨_, (pss_cons (ps_if (PW.pt (pw_or (pt_not (pt_val (pe_callB call_isi (by rfl) T.isinstance_ (by decide +kernel) (pa_cons (pv 1) (pa_cons (pe_bltn (v := .ty "tuple") (u := .type "tuple") (by rfl) T.tuple_ (by decide +kernel) rfl) pa_nil))))) (pw_or1 (pt_not (pt_truth (pv 1) (by intro _; rfl)))))) (pss_one (ps_raise rfl (takes_of rfl rfl rfl rfl) (pmk_ix xInvalidRows iInvalidRows (hr.mono (by decide)) rfl pe_non (by decide) rfl))) pss_nil)
      (pss_cons (ps_set (i := 2) nd rfl (.inl rfl) (pe_lst pa_nil))
      (pss_one (ps_for (passes_of rfl) rfl (pi_enumT rfl T.enumerate_ (pa_cons (pv 1) pa_nil)) (pg_tup (by rfl) (pgs_cons (pg_name (i := 3) nd rfl (.inl rfl)) (pgs_cons (pg_name (i := 4) nd rfl (.inl rfl)) pgs_nil))) (pss_cons (ps_if (PW.pt (pw_or (pt_cmpR (opEq hu64) (pv 3) (C8.pe_gc rfl T.c_MOST_ROWS) (nomark _)) (pw_or (pt_not (pt_val (C8.pe_c c_is_row hr (by decide) rfl (pa_cons (pv 4) (pa_cons (pe_callB call_lenA (by rfl) T.len_ (by decide +kernel) (pa_cons (pv 0) pa_nil)) pa_nil))))) (pw_or1 (pt_cmpR opIn (pe_ix ix_seq (pv 4) pe_int (fun _ _ => rfl)) (pv 2) (by rfl)))))) (pss_one (ps_raise rfl (takes_of rfl rfl rfl rfl) (pmk_ix xInvalidRows iInvalidRows (hr.mono (by decide)) rfl (pv 3) (by decide) rfl))) pss_nil)
      (pss_one (ps_expr (pe_bm PySem.F.plainAttrs_list PySem.F.slot_list_append PySem.F.type_list_append mt_append (pv 2) (pa_cons (pe_ix ix_seq (pv 4) pe_int (fun _ _ => rfl)) pa_nil))))))))), ?_⟩
  refine ⟨_, rfl, _, _, _, _, _, rfl, .ty _, Cs.Rp.ty r, Cs.kit_tup, ?_⟩
  walk_at "es"
  cases rc with
  | @tup ac xc _ nc hc zc rac =>
    cases r with
    | @tup a xs ds nn h z ra =>
      refine iteF ?_
      walk_at "e"
      refine ⟨!xs.isEmpty, .inr (.inl ⟨xs, SqT.of h, rfl⟩), ?_⟩
      cases ra with
      | nil => exact iteT (xmk fun dd H' n s e => kx none rfl dd H' n s e)
      | @cons v1 vs1 d1 ds1 r1 ra =>
        refine iteF ?_
        generalize hxs : v1 :: vs1 = xs at *
        generalize hds : d1 :: ds1 = ds at *
        have ra : RpA p H xs ds := by rw [← hxs, ← hds]; exact .cons r1 ra
        have ce : rowsErr cs.length (.tuple ds) = (rowsBad cs.length 0 [] ds).map some := by rw [← hds]; rfl
        refine ⟨Nat.zero_le _, fun l hl => ?_⟩
        have s0 : Same H (upd H l (.lst [])) := same_new hl
        refine ⟨_, rfl, a, rfl, ⟨xs, SqT.of (s0 _ _ h)⟩, for_enumT (xs := xs) (fun i σ H' => ∃ u1 u2 seen, σ = [some (.ref ac), some (.ref a), some (.ref l), u1, u2] ∧ Same H H' ∧ H' l = some (.lst (seen.map V.str)) ∧ seen.length = i ∧ rowsBad cs.length 0 [] ds = rowsBad cs.length i seen (ds.drop i))
          ⟨none, none, [], rfl, s0, upd_same, rfl, rfl⟩ (fun i σ H' _ ⟨_, _, _, _, sm, _⟩ => SqT.of (sm _ _ h)) ?_ ?_⟩
        · rintro i x t σ H' hi ⟨u1, u2, seen, rfl, sm, hl', sl, e2⟩ ht
          obtain ⟨d, hd, rd⟩ := ra.get hi
          have hdrop : ds.drop i = d :: ds.drop (i + 1) := (List.drop_eq_getElem?_toList_append).trans (by rw [hd]; rfl)
          rw [hdrop] at e2
          have s2 : Same H (upd H' t (.tup [.int ((i : Nat) : Int), x])) := same_tr (same_new ht) sm
          walk_at "es"
          refine ite2 (fun q1 => ?_) (fun q1 => ?_)
          · have i4 : i = 8 := by
              have z := of_decide_eq_true q1
              injection z with z
              omega
            subst i4
            exact iteT ⟨_, rfl, xmk fun dd H2 n s3 e => kx (some _) (by rw [ce, e2]; simp [rowsBad]) dd H2 (s2.free n) (s2.trans s3) e⟩
          · have i4 : i ≠ 8 := fun z => q1 (by rw [z]; rfl)
            walk_at "e"
            walk_at "e"
            walk_at "e"
            refine ⟨p, x, d, xc.length, rfl, Rp.keep (ExB.of s2) rd, fun H2 s3 => ?_⟩
            have s4 : Same H H2 := s2.trans s3
            have hl2 : H2 l = some (.lst (seen.map V.str)) := s3 _ _ (upd_old ht hl')
            rw [rac.length]
            walk_at "es"
            cases q2 : isRow cs.length d with
            | false => exact iteT (iteT ⟨_, rfl, xmk fun dd H2 n s3 e => kx (some i) (by rw [ce, e2]; simp [rowsBad, i4, q2, idxV]) dd H2 (s4.free n) (s4.trans s3) e⟩)
            | true =>
              refine iteF ?_
              obtain ⟨y, rr, rfl⟩ := isRow_name q2
              cases rd with
              | @tup ar xr _ nr hr2 zr rr =>
                cases rr with
                | @cons v2 vs2 _ _ r2 rr =>
                  cases r2 with
                  | str _ hy =>
                    walk_at "es"
                    refine .inr (.inl ⟨ar, _, 0, V.str y, rfl, rfl, SqT.of (s4 _ _ hr2), atI_nat (j := 0) rfl, ?_⟩)
                    walk_at "es"
                    refine And.intro flat_str ?_
                    walk_at "es"
                    show (if inV (.str y) (seen.map V.str) = true then _ else _)
                    rw [inV_str]
                    cases q3 : seen.contains y with
                    | true => exact iteT ⟨_, rfl, xmk fun dd H2 n s3 e => kx (some i) (by rw [ce, e2]; simp only [rowsBad, q2, nameOf, q3, if_neg i4]; rfl) dd H2 (s4.free n) (s4.trans s3) e⟩
                    | false =>
                      refine iteF ?_
                      walk_at "e"
                      refine And.intro (.inl ⟨rfl, _, SqL.of hl2⟩) ?_
                      walk_at "e"
                      refine .inr (.inl ⟨ar, _, 0, V.str y, rfl, rfl, SqT.of (s4 _ _ hr2), atI_nat (j := 0) rfl, ?_⟩)
                      refine ⟨l, _, _, rfl, rfl, hl2, ?_, ?_⟩
                      · rw [List.length_map, sl]
                        exact Nat.lt_of_lt_of_le (Nat.lt_of_lt_of_le (List.getElem?_eq_some_iff.mp hi).1 z) (by decide)
                      · have nl : ∀ b o, H b = some o → b ≠ l := fun b o e => ne_of_none e hl
                        refine ⟨_, _, seen ++ [y], rfl, fun b o e => ?_, ?_, by rw [List.length_append, sl]; rfl, ?_⟩
                        · rw [upd_ne (nl b o e)]
                          exact s4 _ _ e
                        · rw [upd_same, List.map_append]
                          rfl
                        · rw [e2]
                          simp only [rowsBad, q2, nameOf, q3, if_neg i4]
                          rfl
        · rintro σ H' ⟨u1, u2, seen, rfl, sm, hl', sl, e2⟩
          rw [ra.length, List.drop_length] at e2
          exact kn (by rw [ce, e2]; rfl) H' sm
    | _ => exact iteT (iteT (xmk fun dd H' n s e => kx none rfl dd H' n s e))
end
end Cs
set_option maxHeartbeats 4000000
namespace Cs
open PySem L2 L2H PyProof.Rows
def idxT : Option Nat → Str
  | none => "None"
  | some i => toString ((i : Nat) : Int)
theorem callReprI {X : Cx} : CallR X (.builtin "repr") (fun xs H Q => ∃ e : Option Nat, xs = [idxV e] ∧ (∀ i, e = some i → i ≤ 1000) ∧ Q (.str (idxT e)) H) := by
  rintro pins s σ H xs us Q I r ⟨e, rfl, hb, q⟩
  cases e with
  | none =>
    obtain ⟨u, rfl, ru⟩ := r.one
    have eu : u = .none := ru
    subst eu
    exact PySem.P.repr_of_none ⟨V.str "None", H, I.tok _, ⟨_, rfl⟩, q⟩
  | some i =>
    refine SkE.call_repr_int pins s σ H _ us Q I r ⟨_, rfl, ?_, q⟩
    have h := hb i rfl
    show (i : Nat).log2 < 1920
    exact Nat.lt_of_le_of_lt (Nat.log2_le_self i) (by omega)
/-- where the classes stand -/
structure ClsT (mg : Str → Option Value) (cl : Str → Addr) : Prop where
  v_InvalidColumns : ∃ u, mg "InvalidColumns" = some u ∧ RelV (.ref (cl "InvalidColumns")) u
  v_InvalidRows : ∃ u, mg "InvalidRows" = some u ∧ RelV (.ref (cl "InvalidRows")) u
  v_InvalidText : ∃ u, mg "InvalidText" = some u ∧ RelV (.ref (cl "InvalidText")) u
  v_InvalidColumn : ∃ u, mg "InvalidColumn" = some u ∧ RelV (.ref (cl "InvalidColumn")) u
  v_InvalidStretch : ∃ u, mg "InvalidStretch" = some u ∧ RelV (.ref (cl "InvalidStretch")) u
  v_InvalidSigns : ∃ u, mg "InvalidSigns" = some u ∧ RelV (.ref (cl "InvalidSigns")) u
  v_InvalidMember : ∃ u, mg "InvalidMember" = some u ∧ RelV (.ref (cl "InvalidMember")) u
  v_InvalidWeights : ∃ u, mg "InvalidWeights" = some u ∧ RelV (.ref (cl "InvalidWeights")) u
  v_NotATable : ∃ u, mg "NotATable" = some u ∧ RelV (.ref (cl "NotATable")) u
  v_InvalidCommand : ∃ u, mg "InvalidCommand" = some u ∧ RelV (.ref (cl "InvalidCommand")) u
  v_UnknownName : ∃ u, mg "UnknownName" = some u ∧ RelV (.ref (cl "UnknownName")) u
  v_TooFew : ∃ u, mg "TooFew" = some u ∧ RelV (.ref (cl "TooFew")) u
  v_TooMany : ∃ u, mg "TooMany" = some u ∧ RelV (.ref (cl "TooMany")) u
  v_NotWhole : ∃ u, mg "NotWhole" = some u ∧ RelV (.ref (cl "NotWhole")) u
  v_NothingToUndo : ∃ u, mg "NothingToUndo" = some u ∧ RelV (.ref (cl "NothingToUndo")) u
  v_WrongValue : ∃ u, mg "WrongValue" = some u ∧ RelV (.ref (cl "WrongValue")) u
  v_WrongName : ∃ u, mg "WrongName" = some u ∧ RelV (.ref (cl "WrongName")) u
  v_NotPossible : ∃ u, mg "NotPossible" = some u ∧ RelV (.ref (cl "NotPossible")) u
  ValueError_ : mg "ValueError" = none
  LookupError_ : mg "LookupError" = none
  ArithmeticError_ : mg "ArithmeticError" = none
/-- what an error of the class C is told to be, n its number -/
structure ExW (K : PySem.W.Frag) (cl : Str → Addr) (C : Addr) (n : Nat) : Prop where
  x : ExcC K C
  f : XfC K C
  em : PySem.W.exmAny K (.ref C) [.ref (cl "WrongValue"), .ref (cl "WrongName"), .ref (cl "NotPossible")] = some true
  nf_index : PySem.W.findIn K (.ref C) "index" = some none
  nf_given : PySem.W.findIn K (.ref C) "given" = some none
  k_InvalidColumns : PySem.W.kitOne K (.ref C) (.ref (cl "InvalidColumns")) = some (n == 0)
  k_InvalidRows : PySem.W.kitOne K (.ref C) (.ref (cl "InvalidRows")) = some (n == 1)
  k_InvalidText : PySem.W.kitOne K (.ref C) (.ref (cl "InvalidText")) = some (n == 2)
  k_InvalidColumn : PySem.W.kitOne K (.ref C) (.ref (cl "InvalidColumn")) = some (n == 3)
  k_InvalidStretch : PySem.W.kitOne K (.ref C) (.ref (cl "InvalidStretch")) = some (n == 4)
  k_InvalidSigns : PySem.W.kitOne K (.ref C) (.ref (cl "InvalidSigns")) = some (n == 5)
  k_InvalidMember : PySem.W.kitOne K (.ref C) (.ref (cl "InvalidMember")) = some (n == 6)
  k_InvalidWeights : PySem.W.kitOne K (.ref C) (.ref (cl "InvalidWeights")) = some (n == 7)
  k_NotATable : PySem.W.kitOne K (.ref C) (.ref (cl "NotATable")) = some (n == 8)
  k_InvalidCommand : PySem.W.kitOne K (.ref C) (.ref (cl "InvalidCommand")) = some (n == 9)
  k_UnknownName : PySem.W.kitOne K (.ref C) (.ref (cl "UnknownName")) = some (n == 10)
  k_TooFew : PySem.W.kitOne K (.ref C) (.ref (cl "TooFew")) = some (n == 11)
  k_TooMany : PySem.W.kitOne K (.ref C) (.ref (cl "TooMany")) = some (n == 12)
  k_NotWhole : PySem.W.kitOne K (.ref C) (.ref (cl "NotWhole")) = some (n == 13)
  k_NothingToUndo : PySem.W.kitOne K (.ref C) (.ref (cl "NothingToUndo")) = some (n == 14)
  k_WrongValue : PySem.W.kitOne K (.ref C) (.ref (cl "WrongValue")) = some (decide (n < 10))
  k_WrongName : PySem.W.kitOne K (.ref C) (.ref (cl "WrongName")) = some (decide (n = 10))
  k_NotPossible : PySem.W.kitOne K (.ref C) (.ref (cl "NotPossible")) = some (decide (10 < n))
  k_ValueError : PySem.W.kitOne K (.ref C) (.type "ValueError") = some (decide (n < 10))
  k_LookupError : PySem.W.kitOne K (.ref C) (.type "LookupError") = some (decide (n = 10))
  k_ArithmeticError : PySem.W.kitOne K (.ref C) (.type "ArithmeticError") = some (decide (10 < n))
theorem same_of {H H' : Hp} {l : Addr} {o : HO} (e : upd H l o = H') (n : H l = none) : Same H H' := e ▸ same_new n
theorem at_new {H H' : Hp} {l : Addr} {o : HO} (e : upd H l o = H') : H' l = some o := e ▸ upd_same
theorem len_le {xs : List V} {n : Nat} (h : xs.length = n) (z : n ≤ 1000) : xs.length ≤ sizeLine := by rw [h]; exact sz1000 z
theorem len2_le {xs ys : List V} {n : Nat} (h : xs.length + ys.length = n) (z : n ≤ 1000) : xs.length + ys.length ≤ sizeLine := by rw [h]; exact sz1000 z
def bl3 (a b c : Bool) : PyData := .list [.bool a, .bool b, .bool c]
theorem dp3 {K : PySem.W.Frag} {H : Hp} {l : Addr} {a b c : Bool} (h : H l = some (.lst [.bl a, .bl b, .bl c])) : Dp K H (.ref l) (bl3 a b c) := .lst (SqL.of h) (.cons (.bl a) (.cons (.bl b) (.cons (.bl c) .nil)))
theorem eqv3 (a b c : Bool) : (bl3 a b c).eqv (bl3 a b c) = true := by cases a <;> cases b <;> cases c <;> rfl
theorem iteNe {p q : Prop} {d e : PyData} (h : d.eqv e = true) (k : q) : if (!d.eqv e) = true then p else q := by
  rw [h]
  exact k
def wordOf : Nat → Str
  | 0 => "columns" | _ => "rows"
def SpWord (K : PySem.W.Frag) (cl : Str → Addr) : Addr × Obj → Sp := fun p vs H Q _ => ∃ (C dd : Addr) (n : Nat) (e : Option Nat), vs = [.ref p.1] ∧ Zc (.ref C) (some dd) p.2 ∧ (∃ us, p.2.data = .fields us) ∧ ExW K cl C n ∧ n < 2 ∧
  H dd = some (.xd [("index", idxV e)]) ∧ (∀ i, e = some i → i ≤ 1000) ∧ ∀ l H', H l = none → Same H H' → H' l = some (.lst [.str (wordOf n), .str (idxT e)]) → Q (.ref l) H'
section
variable {P : Program} {w : World} {K : PySem.W.Frag} {mg : Str → Option Value} {base : Heap}
theorem sc__law_word : FnScope ["_law_e", "_law_flags", "_law_bases", "_law_plain", "_law_at", "_law_words"] ["_law_e"] (defScope (topS 45)) := ⟨rfl, rfl, rfl, by decide +kernel, rfl, by decide +kernel, by decide +kernel⟩
theorem DefAt.hot {x : Str} {st : Stmt} {N ps : List Str} {k : Nat} {sp : Addr × Obj → Sp} (D : DefAt K mg x st ps) (S : FnScope N ps (defScope st)) (len : ∀ p vs H Q E, sp p vs H Q E → vs.length = ps.length)
    (hbody : ∀ (f : Addr) (cdv : Value) (A : Around) (outer : List Env) (s : Shared) (H : Hp) (vs : List V) (Q : VK) (E : XK) (p : Addr × Obj), RoomH k (A.deeper (envOfC x (defScope st) s.heap.objs.size f cdv)) → sp p vs H Q E →
      ∃ t, PSs (cxH CX0 P w K mg base N x (defScope st) f cdv A outer s H E p) (defBody st) t ∧ t { nx := fun _ H' => Q .non H', rt := Q } (L2.start N vs) H) :
    ∃ f fd, FnE P w K mg base (k + 1) f fd ps sp ∧ mg x = some (.ref f) ∧ PySem.W.keepIn K (.ref f) = true ∧ Binds K fd ps [] := by
  obtain ⟨f, fd, F, g, b⟩ := D.ex
  refine ⟨f, fd, ?_, g, F.kp, b⟩
  obtain ⟨oc, od, dV, kV, doc, pm, an, cdv, ct, osl, rfl, lk, hcd, _, _⟩ := F.ex
  exact fn_ofE lk hcd S len fun A outer s H vs Q E p hr h => hbody f cdv A outer s H vs Q E p hr h
theorem ok__law_word {cl : Str → Addr} (D : DefAt K mg "_law_word" (topS 45) ["_law_e"]) (T : Txt mg) (G : ClsT mg cl) :
    ∃ f fd, FnE P w K mg base 1 f fd ["_law_e"] (SpWord K cl) ∧ mg "_law_word" = some (.ref f) ∧ PySem.W.keepIn K (.ref f) = true ∧ Binds K fd ["_law_e"] [] := by
  refine D.hot sc__law_word (fun p vs H Q E h => by obtain ⟨C, dd, n, e, rfl, _⟩ := h; rfl) fun f cdv A outer s H vs Q E p hr h => ?_
  obtain ⟨C, dd, n, e, rfl, hz, hf, B, hn, hd, hb, k⟩ := h
  have nd := sc__law_word.nd
  have hu64 : (A.deeper (envOfC "_law_word" (defScope (topS 45)) s.heap.objs.size f cdv)).units + 64 < cLine := Nat.lt_of_le_of_lt (by omega) hr.un
  have hP : ExPin (cxH CX0 P w K mg base ["_law_e", "_law_flags", "_law_bases", "_law_plain", "_law_at", "_law_words"] "_law_word" (defScope (topS 45)) f cdv A outer s H E p) p.1 C dd := ⟨p.2, List.mem_cons_self, hz, hf⟩
  have hT := B.x
  have hXf := B.f
  refine ⟨_, (pss_cons (ps_set (i := 1) nd rfl (.inl rfl) (pe_lst (pa_cons (pe_callB (call_isX hP hT) (by rfl) T.isinstance_ (by decide +kernel) (pa_cons (pv 0) (pa_cons (C8.pe_gc rfl G.v_InvalidColumns) pa_nil))) (pa_cons (pe_callB (call_isX hP hT) (by rfl) T.isinstance_ (by decide +kernel) (pa_cons (pv 0) (pa_cons (C8.pe_gc rfl G.v_InvalidRows) pa_nil))) (pa_cons (pe_callB (call_isX hP hT) (by rfl) T.isinstance_ (by decide +kernel) (pa_cons (pv 0) (pa_cons (C8.pe_gc rfl G.v_InvalidText) pa_nil))) pa_nil)))))
      (pss_cons (ps_set (i := 1) nd rfl (.inl rfl) (pe_op opAdd (pv 1) (pe_lst (pa_cons (pe_callB (call_isX hP hT) (by rfl) T.isinstance_ (by decide +kernel) (pa_cons (pv 0) (pa_cons (C8.pe_gc rfl G.v_InvalidColumn) pa_nil))) (pa_cons (pe_callB (call_isX hP hT) (by rfl) T.isinstance_ (by decide +kernel) (pa_cons (pv 0) (pa_cons (C8.pe_gc rfl G.v_InvalidStretch) pa_nil))) (pa_cons (pe_callB (call_isX hP hT) (by rfl) T.isinstance_ (by decide +kernel) (pa_cons (pv 0) (pa_cons (C8.pe_gc rfl G.v_InvalidSigns) pa_nil))) pa_nil))))))
      (pss_cons (ps_set (i := 1) nd rfl (.inl rfl) (pe_op opAdd (pv 1) (pe_lst (pa_cons (pe_callB (call_isX hP hT) (by rfl) T.isinstance_ (by decide +kernel) (pa_cons (pv 0) (pa_cons (C8.pe_gc rfl G.v_InvalidMember) pa_nil))) (pa_cons (pe_callB (call_isX hP hT) (by rfl) T.isinstance_ (by decide +kernel) (pa_cons (pv 0) (pa_cons (C8.pe_gc rfl G.v_InvalidWeights) pa_nil))) (pa_cons (pe_callB (call_isX hP hT) (by rfl) T.isinstance_ (by decide +kernel) (pa_cons (pv 0) (pa_cons (C8.pe_gc rfl G.v_NotATable) pa_nil))) pa_nil))))))
      (pss_cons (ps_set (i := 1) nd rfl (.inl rfl) (pe_op opAdd (pv 1) (pe_lst (pa_cons (pe_callB (call_isX hP hT) (by rfl) T.isinstance_ (by decide +kernel) (pa_cons (pv 0) (pa_cons (C8.pe_gc rfl G.v_InvalidCommand) pa_nil))) (pa_cons (pe_callB (call_isX hP hT) (by rfl) T.isinstance_ (by decide +kernel) (pa_cons (pv 0) (pa_cons (C8.pe_gc rfl G.v_UnknownName) pa_nil))) (pa_cons (pe_callB (call_isX hP hT) (by rfl) T.isinstance_ (by decide +kernel) (pa_cons (pv 0) (pa_cons (C8.pe_gc rfl G.v_TooFew) pa_nil))) pa_nil))))))
      (pss_cons (ps_set (i := 1) nd rfl (.inl rfl) (pe_op opAdd (pv 1) (pe_lst (pa_cons (pe_callB (call_isX hP hT) (by rfl) T.isinstance_ (by decide +kernel) (pa_cons (pv 0) (pa_cons (C8.pe_gc rfl G.v_TooMany) pa_nil))) (pa_cons (pe_callB (call_isX hP hT) (by rfl) T.isinstance_ (by decide +kernel) (pa_cons (pv 0) (pa_cons (C8.pe_gc rfl G.v_NotWhole) pa_nil))) (pa_cons (pe_callB (call_isX hP hT) (by rfl) T.isinstance_ (by decide +kernel) (pa_cons (pv 0) (pa_cons (C8.pe_gc rfl G.v_NothingToUndo) pa_nil))) pa_nil))))))
      (pss_cons (ps_set (i := 2) nd rfl (.inl rfl) (pe_lst (pa_cons (pe_callB (call_isX hP hT) (by rfl) T.isinstance_ (by decide +kernel) (pa_cons (pv 0) (pa_cons (C8.pe_gc rfl G.v_WrongValue) pa_nil))) (pa_cons (pe_callB (call_isX hP hT) (by rfl) T.isinstance_ (by decide +kernel) (pa_cons (pv 0) (pa_cons (C8.pe_gc rfl G.v_WrongName) pa_nil))) (pa_cons (pe_callB (call_isX hP hT) (by rfl) T.isinstance_ (by decide +kernel) (pa_cons (pv 0) (pa_cons (C8.pe_gc rfl G.v_NotPossible) pa_nil))) pa_nil)))))
      (pss_cons (ps_set (i := 3) nd rfl (.inl rfl) (pe_lst (pa_cons (pe_callB (call_isX hP hT) (by rfl) T.isinstance_ (by decide +kernel) (pa_cons (pv 0) (pa_cons (pe_bltn (v := .ty "ValueError") (u := .type "ValueError") (by rfl) G.ValueError_ (by decide +kernel) rfl) pa_nil))) (pa_cons (pe_callB (call_isX hP hT) (by rfl) T.isinstance_ (by decide +kernel) (pa_cons (pv 0) (pa_cons (pe_bltn (v := .ty "LookupError") (u := .type "LookupError") (by rfl) G.LookupError_ (by decide +kernel) rfl) pa_nil))) (pa_cons (pe_callB (call_isX hP hT) (by rfl) T.isinstance_ (by decide +kernel) (pa_cons (pv 0) (pa_cons (pe_bltn (v := .ty "ArithmeticError") (u := .type "ArithmeticError") (by rfl) G.ArithmeticError_ (by decide +kernel) rfl) pa_nil))) pa_nil)))))
      (pss_cons (ps_set (i := 4) nd rfl (.inl rfl) (pe_ifExp (pt_cmpR (opEq hu64) (pe_bm PySem.F.plainAttrs_list PySem.F.slot_list_count PySem.F.type_list_count mt_countF (pv 1) (pa_cons pe_bl pa_nil)) pe_int (nomark _)) (pe_bm PySem.F.plainAttrs_list PySem.F.slot_list_index PySem.F.type_list_index mt_index (pv 1) (pa_cons pe_bl pa_nil)) (pe_un un_neg pe_int)))
      (pss_cons (ps_if (PW.pt (pw_or (pt_cmpR opLt (pv 4) pe_int (nomark _)) (pw_or (pt_cmpR (opNe hu64) (pv 2) (pv 3) (nomark _)) (pw_or1 (pt_cmpR (opNe hu64) (pv 2) (pe_lst (pa_cons (pe_cmpR opLt (pv 4) pe_int (nomark _)) (pa_cons (pe_cmpR (opEq hu64) (pv 4) pe_int (nomark _)) (pa_cons (pe_cmpR op_gt (pv 4) pe_int (nomark _)) pa_nil)))) (nomark _)))))) (pss_one (ps_ret (pe_lst (pa_cons pe_str (pa_cons pe_str pa_nil))))) pss_nil)
      (pss_cons (ps_set (i := 5) nd rfl (.inl rfl) (pe_lst (pa_cons pe_str (pa_cons pe_str (pa_cons pe_str (pa_cons pe_str (pa_cons pe_str (pa_cons pe_str (pa_cons pe_str (pa_cons pe_str (pa_cons pe_str (pa_cons pe_str (pa_cons pe_str pa_nil)))))))))))))
      (pss_cons (ps_if (pt_cmpR (opEq hu64) (pv 4) pe_int (nomark _)) (pss_one (ps_ret (pe_lst (pa_cons pe_str (pa_cons pe_str pa_nil))))) pss_nil)
      (pss_one (ps_ret (pe_lst (pa_cons (pe_ix ix_seq (pe_op opAdd (pv 5) (pe_lst (pa_cons pe_str (pa_cons pe_str (pa_cons pe_str pa_nil))))) (pv 4) (fun _ _ => rfl)) (pa_cons (pe_callB callReprI (by rfl) T.repr_ (by decide +kernel) (pa_cons (pe_ifExp (pt_cmpR opLt (pv 4) pe_int (nomark _)) (pe_xfX hP hXf B.nf_index (pv 0)) (pe_xfX hP hXf B.nf_given (pv 0))) pa_nil)) pa_nil)))))))))))))))), ?_⟩
  walk_at "e"
  refine ⟨_, _, _, _, rfl, .own _, (by walk_at "hp"), B.k_InvalidColumns, ?_⟩
  walk_at "e"
  refine ⟨_, _, _, _, rfl, .own _, (by walk_at "hp"), B.k_InvalidRows, ?_⟩
  walk_at "e"
  refine ⟨_, _, _, _, rfl, .own _, (by walk_at "hp"), B.k_InvalidText, ?_⟩
  refine ⟨len_le (n := 3) rfl (by decide), ?_⟩
  (intro l1 n1; generalize hh : upd _ l1 _ = H1; have s1 := same_of hh n1; have h1 := at_new hh; clear hh)
  walk_at "e"
  walk_at "e"
  refine ⟨_, _, _, _, rfl, .own _, (by walk_at "hp"), B.k_InvalidColumn, ?_⟩
  walk_at "e"
  refine ⟨_, _, _, _, rfl, .own _, (by walk_at "hp"), B.k_InvalidStretch, ?_⟩
  walk_at "e"
  refine ⟨_, _, _, _, rfl, .own _, (by walk_at "hp"), B.k_InvalidSigns, ?_⟩
  refine ⟨len_le (n := 3) rfl (by decide), ?_⟩
  (intro l2 n2; generalize hh : upd _ l2 _ = H2; have s2 := same_of hh n2; have h2 := at_new hh; clear hh)
  refine .inr (.inr (.inl ⟨_, _, _, _, rfl, rfl, (by walk_at "hp"), (by walk_at "hp"), len2_le (n := 6) rfl (by decide), ?_⟩))
  (intro l3 n3; generalize hh : upd _ l3 _ = H3; have s3 := same_of hh n3; have h3 := at_new hh; clear hh)
  walk_at "e"
  walk_at "e"
  refine ⟨_, _, _, _, rfl, .own _, (by walk_at "hp"), B.k_InvalidMember, ?_⟩
  walk_at "e"
  refine ⟨_, _, _, _, rfl, .own _, (by walk_at "hp"), B.k_InvalidWeights, ?_⟩
  walk_at "e"
  refine ⟨_, _, _, _, rfl, .own _, (by walk_at "hp"), B.k_NotATable, ?_⟩
  refine ⟨len_le (n := 3) rfl (by decide), ?_⟩
  (intro l4 n4; generalize hh : upd _ l4 _ = H4; have s4 := same_of hh n4; have h4 := at_new hh; clear hh)
  refine .inr (.inr (.inl ⟨_, _, _, _, rfl, rfl, (by walk_at "hp"), (by walk_at "hp"), len2_le (n := 9) rfl (by decide), ?_⟩))
  (intro l5 n5; generalize hh : upd _ l5 _ = H5; have s5 := same_of hh n5; have h5 := at_new hh; clear hh)
  walk_at "e"
  walk_at "e"
  refine ⟨_, _, _, _, rfl, .own _, (by walk_at "hp"), B.k_InvalidCommand, ?_⟩
  walk_at "e"
  refine ⟨_, _, _, _, rfl, .own _, (by walk_at "hp"), B.k_UnknownName, ?_⟩
  walk_at "e"
  refine ⟨_, _, _, _, rfl, .own _, (by walk_at "hp"), B.k_TooFew, ?_⟩
  refine ⟨len_le (n := 3) rfl (by decide), ?_⟩
  (intro l6 n6; generalize hh : upd _ l6 _ = H6; have s6 := same_of hh n6; have h6 := at_new hh; clear hh)
  refine .inr (.inr (.inl ⟨_, _, _, _, rfl, rfl, (by walk_at "hp"), (by walk_at "hp"), len2_le (n := 12) rfl (by decide), ?_⟩))
  (intro l7 n7; generalize hh : upd _ l7 _ = H7; have s7 := same_of hh n7; have h7 := at_new hh; clear hh)
  walk_at "e"
  walk_at "e"
  refine ⟨_, _, _, _, rfl, .own _, (by walk_at "hp"), B.k_TooMany, ?_⟩
  walk_at "e"
  refine ⟨_, _, _, _, rfl, .own _, (by walk_at "hp"), B.k_NotWhole, ?_⟩
  walk_at "e"
  refine ⟨_, _, _, _, rfl, .own _, (by walk_at "hp"), B.k_NothingToUndo, ?_⟩
  refine ⟨len_le (n := 3) rfl (by decide), ?_⟩
  (intro l8 n8; generalize hh : upd _ l8 _ = H8; have s8 := same_of hh n8; have h8 := at_new hh; clear hh)
  refine .inr (.inr (.inl ⟨_, _, _, _, rfl, rfl, (by walk_at "hp"), (by walk_at "hp"), len2_le (n := 15) rfl (by decide), ?_⟩))
  (intro l9 n9; generalize hh : upd _ l9 _ = H9; have s9 := same_of hh n9; have h9 := at_new hh; clear hh)
  walk_at "e"
  refine ⟨_, _, _, _, rfl, .own _, (by walk_at "hp"), B.k_WrongValue, ?_⟩
  walk_at "e"
  refine ⟨_, _, _, _, rfl, .own _, (by walk_at "hp"), B.k_WrongName, ?_⟩
  walk_at "e"
  refine ⟨_, _, _, _, rfl, .own _, (by walk_at "hp"), B.k_NotPossible, ?_⟩
  refine ⟨len_le (n := 3) rfl (by decide), ?_⟩
  (intro l10 n10; generalize hh : upd _ l10 _ = H10; have s10 := same_of hh n10; have h10 := at_new hh; clear hh)
  walk_at "e"
  refine ⟨_, _, _, _, rfl, .ty _, (by walk_at "hp"), B.k_ValueError, ?_⟩
  walk_at "e"
  refine ⟨_, _, _, _, rfl, .ty _, (by walk_at "hp"), B.k_LookupError, ?_⟩
  walk_at "e"
  refine ⟨_, _, _, _, rfl, .ty _, (by walk_at "hp"), B.k_ArithmeticError, ?_⟩
  refine ⟨len_le (n := 3) rfl (by decide), ?_⟩
  (intro l11 n11; generalize hh : upd _ l11 _ = H11; have s11 := same_of hh n11; have h11 := at_new hh; clear hh)
  walk_at "e"
  have hl9 := s11 _ _ (s10 _ _ h9)
  have hl10 := s11 _ _ h10
  have hd11 : H11 dd = some (.xd [("index", idxV e)]) := by walk_at "hp"
  have s11' : Same H H11 := by walk_at "sm"
  clear h1 h2 h3 h4 h5 h6 h7 h8 n1 n2 n3 n4 n5 n6 n7 n8 s1 s2 s3 s4 s5 s6 s7 s8 n9 n10 n11 s9 s10 s11 h9 h10
  obtain rfl | rfl : n = 0 ∨ n = 1 := by omega
  all_goals
    refine ⟨.inl ⟨rfl, _, SqL.of hl9⟩, ?_⟩
    refine ⟨_, _, _, rfl, rfl, SqL.of hl9, rfl, rfl, ?_⟩
    walk_at "es"
    refine ⟨.inl ⟨rfl, _, SqL.of hl9⟩, ?_⟩
  · refine ⟨_, _, _, 0, V.bl true, rfl, rfl, SqL.of hl9, rfl, rfl, rfl, rfl, (fun m z' h _ => absurd h (by omega)), ?_⟩
    walk_at "es"
    refine .inr ⟨_, _, dp3 hl10, dp3 h11, rfl, rfl, _, rfl, iteNe (eqv3 _ _ _) ?_⟩
    walk_at "es"
    (intro l12 n12; generalize hh : upd _ l12 _ = H12; have s12 := same_of hh n12; have h12 := at_new hh; clear hh)
    refine .inr ⟨_, _, dp3 (s12 _ _ hl10), dp3 h12, rfl, rfl, _, rfl, iteNe (eqv3 _ _ _) ?_⟩
    refine ⟨len_le (n := 11) rfl (by decide), ?_⟩
    (intro l13 n13; generalize hh : upd _ l13 _ = H13; have s13 := same_of hh n13; have h13 := at_new hh; clear hh)
    walk_at "es"
    (intro l14 n14; generalize hh : upd _ l14 _ = H14; have s14 := same_of hh n14; have h14 := at_new hh; clear hh)
    refine .inr (.inr (.inl ⟨_, _, _, _, rfl, rfl, (s14 _ _ h13), h14, len2_le (n := 14) rfl (by decide), ?_⟩))
    (intro l15 n15; generalize hh : upd _ l15 _ = H15; have s15 := same_of hh n15; have h15 := at_new hh; clear hh)
    walk_at "e"
    refine .inl ⟨_, _, 0, _, rfl, rfl, SqL.of h15, atI_nat (j := 0) rfl, ?_⟩
    walk_at "e"
    walk_at "e"
    walk_at "e"
    refine iteT ?_
    walk_at "e"
    refine ⟨rfl, _, _, (by walk_at "hp"), rfl, ?_⟩
    refine ⟨e, rfl, hb, ?_⟩
    refine ⟨len_le (n := 2) rfl (by decide), ?_⟩
    (intro l16 n16; generalize hh : upd _ l16 _ = H16; have s16 := same_of hh n16; have h16 := at_new hh; clear hh)
    have sz : Same H H15 := same_tr s15 (same_tr s14 (same_tr s13 (same_tr s12 s11')))
    exact k l16 H16 (same_none sz n16) (same_tr s16 sz) h16
  · refine ⟨_, _, _, 1, V.bl true, rfl, rfl, SqL.of hl9, rfl, rfl, rfl, rfl, (fun m z' h e => by
      obtain rfl : m = 0 := by omega
      cases e
      rfl), ?_⟩
    walk_at "es"
    refine .inr ⟨_, _, dp3 hl10, dp3 h11, rfl, rfl, _, rfl, iteNe (eqv3 _ _ _) ?_⟩
    walk_at "es"
    (intro l12 n12; generalize hh : upd _ l12 _ = H12; have s12 := same_of hh n12; have h12 := at_new hh; clear hh)
    refine .inr ⟨_, _, dp3 (s12 _ _ hl10), dp3 h12, rfl, rfl, _, rfl, iteNe (eqv3 _ _ _) ?_⟩
    refine ⟨len_le (n := 11) rfl (by decide), ?_⟩
    (intro l13 n13; generalize hh : upd _ l13 _ = H13; have s13 := same_of hh n13; have h13 := at_new hh; clear hh)
    walk_at "es"
    (intro l14 n14; generalize hh : upd _ l14 _ = H14; have s14 := same_of hh n14; have h14 := at_new hh; clear hh)
    refine .inr (.inr (.inl ⟨_, _, _, _, rfl, rfl, (s14 _ _ h13), h14, len2_le (n := 14) rfl (by decide), ?_⟩))
    (intro l15 n15; generalize hh : upd _ l15 _ = H15; have s15 := same_of hh n15; have h15 := at_new hh; clear hh)
    walk_at "e"
    refine .inl ⟨_, _, 1, _, rfl, rfl, SqL.of h15, atI_nat (j := 1) rfl, ?_⟩
    walk_at "e"
    walk_at "e"
    walk_at "e"
    refine iteT ?_
    walk_at "e"
    refine ⟨rfl, _, _, (by walk_at "hp"), rfl, ?_⟩
    refine ⟨e, rfl, hb, ?_⟩
    refine ⟨len_le (n := 2) rfl (by decide), ?_⟩
    (intro l16 n16; generalize hh : upd _ l16 _ = H16; have s16 := same_of hh n16; have h16 := at_new hh; clear hh)
    have sz : Same H H15 := same_tr s15 (same_tr s14 (same_tr s13 (same_tr s12 s11')))
    exact k l16 H16 (same_none sz n16) (same_tr s16 sz) h16
end
end Cs
set_option maxHeartbeats 4000000
namespace Cs
open PySem L2 L2H PyProof.Rows
/-- what heard makes of an error that keeps an index -/
def HE (K : PySem.W.Frag) (cl : Str → Addr) (Q : VK) : XK := fun cls d H => ∃ (C dd : Addr) (n : Nat) (e : Option Nat), cls = .ref C ∧ d = some dd ∧ ExW K cl C n ∧ n < 2 ∧ H dd = some (.xd [("index", idxV e)]) ∧ (∀ i, e = some i → i ≤ 1000) ∧
  ∀ l H', H l = none → Same H H' → H' l = some (.lst [.str (wordOf n), .str (idxT e)]) → Q (.ref l) H'
def TTh (K : PySem.W.Frag) (cl : Str → Addr) : (XK → Hp → VK → Prop) → Hp → VK → Prop := fun tl H Q => ∀ (E : XK) (Q' : VK), (∀ cls d H', HE K cl Q cls d H' → E cls d H') → tl E H Q'
/-- the word's def, where it stands -/
def WordAt (P : Program) (w : World) (K : PySem.W.Frag) (mg : Str → Option Value) (base : Heap) (cl : Str → Addr) : Prop :=
  ∃ f fd, FnE P w K mg base 1 f fd ["_law_e"] (SpWord K cl) ∧ mg "_law_word" = some (.ref f) ∧ PySem.W.keepIn K (.ref f) = true ∧ Binds K fd ["_law_e"] []
theorem names_cl {X : Cx} {x : Str} {a : Addr} (hg : Gl X x) (hd : (x == ("__debug__" : Str)) = false) (h : ∃ u, X.mg x = some u ∧ RelV (.ref a) u) : Names X x (.ref a) := by
  obtain ⟨u, e, r⟩ := h
  cases r
  exact ⟨hg, hd, .inl e⟩
theorem room_h {k : Nat} {A : Around} (h : Room k A) : RoomH k A := ⟨h.dp, h.un⟩
theorem sc__law_heard : FnScope ["_law_act", "_law_back", "_law_e"] ["_law_act"] (defScope (topS 46)) := ⟨rfl, rfl, rfl, by decide +kernel, rfl, by decide +kernel, by decide +kernel⟩
theorem pss_weak {X : Cx} {st : List Stmt} {t t' : TS} (h : PSs X st t) (w : ∀ D σ H, t' D σ H → t D σ H) : PSs X st t' := ⟨fun pins s σ H D I q => h.run pins s σ H D I (w D σ H q)⟩
abbrev hX (X : Cx) (g : Addr) (cdg : Value) (s : Shared) (H : Hp) : Cx := cxOf C8.CX0 X.prog X.w X.K X.mg X.base ["_law_act", "_law_back", "_law_e"] "_law_heard" (defScope (topS 46)) g cdg X.A X.stack s H C8.E0
theorem gives_heard {X : Cx} {cl : Str → Addr} {g : Addr} {cdg : Value} {qq : Str} (T : Txt X.mg) (G : ClsT X.mg cl) (W : WordAt X.prog X.w X.K X.mg X.base cl) (hr : Room 2 X.A) :
    LamX.GivesTo X ["_law_act", "_law_back", "_law_e"] "_law_heard" (defScope (topS 46)) g cdg (defBody (topS 46)) "_law_act" qq (TTh X.K cl) := by
  intro f c' s H Q tl hact hc' hT
  obtain ⟨fw, fdw, Fw, gw, kw, bw⟩ := W
  have nd := sc__law_heard.nd
  have hrw : RoomH 1 ((X.A).deeper (envOfC "_law_heard" (defScope (topS 46)) s.heap.objs.size g cdg)) := room_h (hr.deeper _)
  refine ⟨_, PSs.nox (pss_cons (ps_try_as3 (i := 2) (m := 3) rfl rfl nd rfl rfl rfl (names_cl rfl rfl G.v_WrongValue) (names_cl rfl rfl G.v_WrongName) (names_cl rfl rfl G.v_NotPossible)
      (fun W pn xe tk _ => pss_one (ps_set (i := 1) nd rfl (.inl rfl) (hact W pn xe (fun cls d H' => ∀ σ', W cls d σ' H') _ _ tk (fun cls d σ' H' h => h σ'))))
      (ts := fun a cls d D σ H => ∃ x, σ[2]? = some (some x) ∧ x = .ref a ∧ ∃ (C dd : Addr) (n : Nat) (e : Option Nat), cls = .ref C ∧ d = some dd ∧ ExW X.K cl C n ∧ n < 2 ∧ H dd = some (.xd [("index", idxV e)]) ∧ (∀ i, e = some i → i ≤ 1000) ∧
        ∀ l H', H l = none → Same H H' → H' l = some (.lst [.str (wordOf n), .str (idxT e)]) → D.rt (.ref l) H')
      (fun a oe cls d pn hz hf => pss_weak (pss_one (ps_ret (pe_callE (X := Cx.suite (hX X g cdg s H) a ((a, oe) :: pn)) (p := (a, oe)) Fw ⟨hrw.dp, hrw.un⟩ List.mem_cons_self rfl gw kw bw (pa_cons (pv 2) pa_nil)))) (fun D σ H' h => by
        obtain ⟨x, hx, rfl, C, dd, n, e, rfl, rfl, B, hn, hd, hb, k⟩ := h
        exact ⟨_, hx, C, dd, n, e, rfl, hz, hf, B, hn, hd, hb, k⟩)))
    (pss_one (ps_ret (pe_lst (pa_cons pe_str (pa_cons (pe_callB callReprI (by rfl) T.repr_ (by decide +kernel) (pa_cons (pv 1) pa_nil)) pa_nil)))))), ⟨rfl, hc', hT _ _ fun cls d H' h σ' hl => ?_⟩⟩
  obtain ⟨C, dd, n, e, rfl, rfl, B, hn, hd, hb, k⟩ := h
  refine ⟨B.em, fun a ha => ⟨.ref a, ?_, rfl, C, dd, n, e, rfl, rfl, B, hn, hd, hb, k⟩⟩
  rw [List.getElem?_set_self (by omega)]
end Cs
set_option maxHeartbeats 4000000
namespace Cs
open PySem L2 PyProof.Rows
/-- what is wrong of columns and rows: 0 for the columns, 1 for the rows, with the index -/
def tabErr (dc dr : PyData) : Option (Nat × Option Nat) := match colsErr dc with
  | some e => some (0, e)
  | none => match dc with
    | .tuple cs => (rowsErr cs.length dr).map fun e => (1, e)
    | _ => none
def SpTI (c : Nat → Addr) : Sp := fun vs H Q E => ∃ (p a : Addr) (vc vr : V) (dc dr : PyData) (n : Nat) (e : Option Nat), vs = [.ref a, vc, vr] ∧ Rp p H vc dc ∧ Rp p H vr dr ∧ tabErr dc dr = some (n, e) ∧
  ∀ dd H', H dd = none → Same H H' → H' dd = some (.xd [("index", idxV e)]) → E (.ref (c n)) (some dd) H'
section
variable {P : Program} {w : World} {K : PySem.W.Frag} {mg : Str → Option Value} {base : Heap} {c : Nat → Addr}
abbrev sTI : Stmt := inClass (topS 32) 0
theorem sc_tinit : FnScope ["self", "columns", "rows"] ["self", "columns", "rows"] (defScope sTI) := ⟨rfl, rfl, rfl, by decide +kernel, rfl, by decide +kernel, by decide +kernel⟩
theorem ok_tinit {f : Addr} {fd : FuncData} {q : Str} (F : FunD K "__init__" q (defArgs sTI) (defBody sTI) (defScope sTI) [] [] f fd)
    (cC : CalX P w K mg base 4 "check_columns" (SpCC (c 0))) (cR : CalX P w K mg base 6 "check_rows" (SpCR (c 1))) : FnOk P w K mg base (L2.CX P w) 7 f fd ["self", "columns", "rows"] (SpTI c) := by
  refine F.ok sc_tinit (fun vs H Q E h => by obtain ⟨p, a, vc, vr, dc, dr, n, e, rfl, _⟩ := h; rfl) fun cdv A outer s H vs Q E hr h => ?_
  obtain ⟨p, a, vc, vr, dc, dr, n, e, rfl, rc, rr, he, k⟩ := h
  obtain ⟨f1, fd1, ps1, F1, g1, k1, b1⟩ := cC.ex
  obtain ⟨f2, fd2, ps2, F2, g2, k2, b2⟩ := cR.ex
  refine ⟨_, pss_cons (ps_expr (pe_call F1 (hr.mono (by decide)) rfl g1 k1 b1 .nil (passes_call (takes_of rfl rfl rfl rfl) (fun _ _ _ _ h => h)) (pa_cons (pv 1) pa_nil)))
    (pss_cons (ps_expr (pe_call F2 hr rfl g2 k2 b2 .nil (passes_call (takes_of rfl rfl rfl rfl) (fun _ _ _ _ h => h)) (pa_cons (pv 1) (pa_cons (pv 2) pa_nil))))
    (pss_cons (ps_fld (pv 0) (pv 1) rfl) (pss_one (ps_fld (pv 0) (pv 2) rfl)))), ?_⟩
  refine ⟨_, rfl, p, vc, dc, rfl, rc, fun hn H1 s1 => ?_, fun e' he' dd H' hd s hx => ?_⟩
  · unfold tabErr at he
    rw [hn] at he
    dsimp only at he
    · split at he
      · rename_i cs
        obtain ⟨e2, he2, hq⟩ := Option.map_eq_some_iff.mp he
        cases hq
        refine ⟨_, rfl, _, rfl, p, vc, vr, cs, dr, rfl, Rp.keep (ExB.of s1) rc, Rp.keep (ExB.of s1) rr, fun hz => ?_, fun e' he' dd H' hd s hx => ?_⟩
        · rw [hz] at he2
          cases he2
        · rw [he'] at he2
          cases he2
          exact k dd H' (s1.free hd) (s1.trans s) hx
      · cases he
  · unfold tabErr at he
    rw [he'] at he
    cases he
    exact k dd H' hd s hx
/-- the class Table -/
structure TabAt (K : PySem.W.Frag) (mg : Str → Option Value) (C f : Addr) (fd : FuncData) : Prop where
  mkT : Mk K C f
  g : mg "Table" = some (.ref C)
  F : ∃ q, FunD K "__init__" q (defArgs sTI) (defBody sTI) (defScope sTI) [] [] f fd
  b : Binds K fd ["self", "columns", "rows"] []
  kb : KBn K fd ["self", "columns", "rows"] 1 ["rows", "columns"] (fun us ws => us ++ ws.reverse) (fun vs zs => vs ++ zs.reverse)
theorem make_err {H1 : Hp} {p C : Addr} {vc vr : V} {dc dr : PyData} {n : Nat} {e : Option Nat} {E : XK} {R : Addr → V → Hp → Prop} (rc : Rp p H1 vc dc) (rr : Rp p H1 vr dr) (he : tabErr dc dr = some (n, e))
    (k : ∀ dd H', H1 dd = none → Same H1 H' → H' dd = some (.xd [("index", idxV e)]) → E (.ref (c n)) (some dd) H') :
    ∀ x dx, H1 x = none → H1 dx = none → dx ≠ x → SpTI c [.ref x, vc, vr] (upd (upd H1 dx (.own x)) x (.ins C dx [])) (R x) E := fun x dx hx hd hne => by
  have s : Same H1 (upd (upd H1 dx (.own x)) x (.ins C dx [])) := fun b o hb => by
    rw [upd_ne (ne_of_none hb hx), upd_ne (ne_of_none hb hd)]
    exact hb
  exact ⟨p, x, vc, vr, dc, dr, n, e, rfl, Rp.keep (ExB.of s) rc, Rp.keep (ExB.of s) rr, he, fun dd H' h1 h2 h3 => k dd H' (s.free h1) (s.trans h2) h3⟩
end
end Cs
set_option maxHeartbeats 4000000
namespace Cs
open PySem L2 PyProof.Rows
def PailAt (H : Hp) (p : Addr) (n : Nat) : Prop := ∃ a b c : Int, 0 ≤ c ∧ c ≤ n ∧ H p = some (.lst [.int a, .int b, .int c])
theorem PailAt.keep {H H' : Hp} {p : Addr} {n : Nat} (h : PailAt H p n) (s : Same H H') : PailAt H' p n := by
  obtain ⟨a, b, c, h1, h2, h3⟩ := h
  exact ⟨a, b, c, h1, h2, s _ _ h3⟩
theorem PailAt.more {H : Hp} {p : Addr} {n m : Nat} (h : PailAt H p n) (z : n ≤ m) : PailAt H p m := by
  obtain ⟨a, b, c, h1, h2, h3⟩ := h
  exact ⟨a, b, c, h1, by omega, h3⟩
def SpScoop : Sp := fun vs H Q _ => ∃ (p : Addr) (m : Int) (n : Nat), vs = [.ref p, .int m] ∧ 0 < m ∧ m < 1073741824 ∧ PailAt H p n ∧ n < 1000000000 ∧
  ∀ (r : Int) (H' : Hp), 0 ≤ r → r < m → ExB p H H' → PailAt H' p (n + 1) → Q (.int r) H'
def SpAny : Sp := fun vs H Q _ => ∃ (p : Addr) (v : V) (ds : List PyData) (n : Nat), vs = [.ref p, v] ∧ Rp p H v (.list ds) ∧ 1 ≤ ds.length ∧ PailAt H p n ∧ n < 1000000000 ∧
  ∀ (u : V) (d : PyData) (H' : Hp), d ∈ ds → Rp p H' u d → ExB p H H' → PailAt H' p (n + 1) → Q u H'
def SpPail (K : PySem.W.Frag) : Sp := fun vs H Q _ => ∃ (a : Addr) (ns : List Int) (i : Nat), vs = [.ref a, .int (i : Nat)] ∧ SqL K H a (ns.map V.int) ∧ ns.length ≤ 1000 ∧ i ≤ 1 ∧
  ∀ p H', H p = none → Same H H' → PailAt H' p 0 → Q (.ref p) H'
section
variable {P : Program} {w : World} {K : PySem.W.Frag} {mg : Str → Option Value} {base : Heap}
theorem sc__law_scoop : FnScope ["_law_pail_here", "_law_most", "_law_figure", "_law_mixed"] ["_law_pail_here", "_law_most"] (defScope (topS 40)) := ⟨rfl, rfl, rfl, by decide +kernel, rfl, by decide +kernel, by decide +kernel⟩
theorem ok__law_scoop (D : DefAt K mg "_law_scoop" (topS 40) ["_law_pail_here", "_law_most"]) (T : Txt mg) : C8.Cal P w K mg base 1 "_law_scoop" SpScoop [] := by
  refine D.cal sc__law_scoop (fun vs H Q E h => by obtain ⟨p, m, n, rfl, _⟩ := h; rfl) fun f cdv A outer s H vs Q E hr h => ?_
  obtain ⟨p, m, n, rfl, m0, m1, ⟨a, b, c, c0, c1, hp⟩, hn, k⟩ := h
  have nd := sc__law_scoop.nd
  refine ⟨_, (pss_cons (ps_if (pt_cmpR op_gt (pe_ix ix_seq (pv 0) pe_int (fun _ _ => rfl)) pe_int (nomark _)) (pss_cons (ps_asg (pe_callB call_divmod (by rfl) T.divmod_ (by decide +kernel) (pa_cons (pe_ix ix_seq (pv 0) pe_int (fun _ _ => rfl)) (pa_cons (pv 1) pa_nil))) (pg_tup (by rfl) (pgs_cons (pg_sub (pv 0) pe_int set_list) (pgs_cons (pg_name (i := 2) nd rfl (.inl rfl)) pgs_nil))))
      (pss_one (ps_ret (pv 2)))) pss_nil)
      (pss_cons (ps_asg (pe_op opAdd (pe_ix ix_seq (pv 0) pe_int (fun _ _ => rfl)) pe_int) (pg_sub (pv 0) pe_int set_list))
      (pss_cons (ps_set (i := 3) nd rfl (.inl rfl) (pe_op op_mod (pe_callTy call_int1 (by rfl) T.int_ (by decide +kernel) (pa_cons (pe_op opAdd (pe_op opAdd (pe_op opMul (pe_ix ix_seq (pv 0) pe_int (fun _ _ => rfl)) pe_int) (pe_op opMul (pe_op opMul (pe_ix ix_seq (pv 0) pe_int (fun _ _ => rfl)) (pe_ix ix_seq (pv 0) pe_int (fun _ _ => rfl))) pe_int)) pe_int) pa_nil)) pe_int))
      (pss_cons (ps_asg (pe_op op_mod (pe_callTy call_int1 (by rfl) T.int_ (by decide +kernel) (pa_cons (pe_op opAdd (pe_op opMul (pv 3) (pe_op opAdd pe_int (pe_op op_mod (pe_callTy call_int1 (by rfl) T.int_ (by decide +kernel) (pa_cons (pv 3) pa_nil)) pe_int))) pe_int) pa_nil)) pe_int) (pg_sub (pv 0) pe_int set_list))
      (pss_one (ps_ret (pe_op op_mod (pe_callTy call_int1 (by rfl) T.int_ (by decide +kernel) (pa_cons (pe_op op_fdiv (pe_ix ix_seq (pv 0) pe_int (fun _ _ => rfl)) pe_int) pa_nil)) (pv 1)))))))), ?_⟩
  walk_at "es"
  refine ite2 (fun e1 => ?_) (fun e1 => ?_)
  · walk_at "es"
    intro t ht
    walk_at "es"
    refine k _ _ (Int.emod_nonneg _ (by omega)) (Int.emod_lt_of_pos _ m0) (fun b o nb e => ?_) ⟨_, _, _, c0, by omega, L2.upd_same⟩
    rw [upd_ne nb]
    exact upd_old ht e
  · walk_at "es"
    refine k _ _ (Int.emod_nonneg _ (by omega)) (Int.emod_lt_of_pos _ m0) (fun b o nb e => ?_) ⟨_, _, _, ?_, ?_, L2.upd_same⟩
    · rw [upd_ne nb, upd_ne nb]
      exact e
    · omega
    · omega
theorem sc__law_any : FnScope ["_law_pail_here", "_law_menu"] ["_law_pail_here", "_law_menu"] (defScope (topS 41)) := ⟨rfl, rfl, rfl, by decide +kernel, rfl, by decide +kernel, by decide +kernel⟩
theorem ok__law_any (D : DefAt K mg "_law_any" (topS 41) ["_law_pail_here", "_law_menu"]) (T : Txt mg) (c_law_scoop : C8.Cal P w K mg base 1 "_law_scoop" SpScoop []) : C8.Cal P w K mg base 2 "_law_any" SpAny [] := by
  refine D.cal sc__law_any (fun vs H Q E h => by obtain ⟨p, v, ds, n, rfl, _⟩ := h; rfl) fun f cdv A outer s H vs Q E hr h => ?_
  obtain ⟨p, v, ds, n, rfl, r, hl, hp, hn, k⟩ := h
  refine ⟨_, (pss_one (ps_ret (pe_ix ix_seq (pv 1) (C8.pe_c c_law_scoop hr (by decide) rfl (pa_cons (pv 0) (pa_cons (pe_callB call_lenA (by rfl) T.len_ (by decide +kernel) (pa_cons (pv 1) pa_nil)) pa_nil))) (fun _ _ => rfl)))), ?_⟩
  cases r with
  | @lst a xs _ na h z ra =>
    walk_at "es"
    have ln := ra.length
    refine ⟨p, (xs.length : Nat), n, rfl, by omega, by omega, hp, hn, fun i H' i0 i1 eb hp' => ?_⟩
    obtain ⟨j, rfl⟩ : ∃ j : Nat, i = (j : Nat) := ⟨i.toNat, by omega⟩
    have hi : j < xs.length := by omega
    obtain ⟨d, hd, rd⟩ := ra.get (List.getElem?_eq_getElem hi)
    refine .inl ⟨a, _, _, xs[j], rfl, rfl, SqL.of (eb _ _ na h), atI_nat (List.getElem?_eq_getElem hi), ?_⟩
    exact k _ d H' (List.mem_of_getElem? hd) (rd.keep eb) eb hp'
theorem sc__law_pail : FnScope ["_law_script", "_law_at", "_law_mixed", "_law_cell", "_law_own"] ["_law_script", "_law_at"] (defScope (topS 39)) := ⟨rfl, rfl, rfl, by decide +kernel, rfl, by decide +kernel, by decide +kernel⟩
theorem ok__law_pail (D : DefAt K mg "_law_pail" (topS 39) ["_law_script", "_law_at"]) (T : Txt mg) : C8.Cal P w K mg base 1 "_law_pail" (SpPail K) [] := by
  refine D.cal sc__law_pail (fun vs H Q E h => by obtain ⟨a, ns, i, rfl, _⟩ := h; rfl) fun f cdv A outer s H vs Q E hr h => ?_
  obtain ⟨a, ns, i, rfl, hq, hl, hi, k⟩ := h
  have nd := sc__law_pail.nd
  refine ⟨_, (pss_cons (ps_set (i := 2) nd rfl (.inl rfl) (pe_op opAdd pe_int (pe_op opMul pe_int (pv 1))))
      (pss_cons (ps_for PassesOwn.never rfl (pi_list (pe_slice slAny (pv 0) po_none (po_some pe_int))) (pg_name (i := 3) nd rfl (.inl rfl)) (pss_one (ps_set (i := 2) nd rfl (.inl rfl) (pe_op op_mod (pe_callTy call_int1 (by rfl) T.int_ (by decide +kernel) (pa_cons (pe_op opAdd (pe_op opMul (pv 2) pe_int) (pv 3)) pa_nil)) pe_int))))
      (pss_cons (ps_set (i := 4) nd rfl (.inl rfl) (pe_ifExp (pt_cmpR opLt (pv 1) (pe_callB call_lenA (by rfl) T.len_ (by decide +kernel) (pa_cons (pv 0) pa_nil)) (nomark _)) (pe_ix ix_seq (pv 0) (pv 1) (fun _ _ => rfl)) (pe_op opAdd (pe_op opMul pe_int (pv 1)) pe_int)))
      (pss_one (ps_ret (pe_lst (pa_cons (pe_ifExp (pt_cmpR op_ge (pe_callB call_abs (by rfl) T.abs_ (by decide +kernel) (pa_cons (pv 4) pa_nil)) (pe_op op_pow pe_int pe_int) (nomark _)) (pe_callB call_abs (by rfl) T.abs_ (by decide +kernel) (pa_cons (pv 4) pa_nil)) pe_int) (pa_cons (pe_op op_mod (pe_callTy call_int1 (by rfl) T.int_ (by decide +kernel) (pa_cons (pe_op opAdd (pe_op opAdd (pe_op opMul (pv 2) pe_int) (pe_op opMul (pv 4) pe_int)) pe_int) pa_nil)) pe_int) (pa_cons pe_int pa_nil))))))))), ?_⟩
  walk_at "es"
  refine .inl ⟨a, _, rfl, hq, fun l hl0 => ?_⟩
  have s0 : Same H (upd H l (.lst (cutV (ns.map V.int) none (some 6)))) := same_new hl0
  have hcut : cutV (ns.map V.int) none (some 6) = (ns.take 6).map V.int := by
    unfold cutV
    rw [HT.sIx_none, List.drop_zero, List.map_take]
    by_cases h6 : 6 ≤ ns.length
    · rw [show (6 : Int) = ((6 : Nat) : Int) from rfl, HT.sIx_nat, List.length_map, Nat.min_eq_left h6, Nat.sub_zero]
    · rw [show (6 : Int) = ((6 : Nat) : Int) from rfl, HT.sIx_nat, List.length_map, Nat.min_eq_right (by omega), Nat.sub_zero, List.take_of_length_le (by rw [List.length_map]; omega), List.take_of_length_le (by rw [List.length_map]; omega)]
  rw [hcut] at s0 ⊢
  refine ⟨l, rfl, ⟨_, SqL.of upd_same⟩, for_list (xs := (ns.take 6).map V.int) (fun j σ H' => ∃ m u, σ = [some (.ref a), some (.int (i : Nat)), some (.int m), u, none] ∧ 0 ≤ m ∧ m < 2147479971 ∧ Same (upd H l (.lst ((ns.take 6).map V.int))) H')
    ⟨_, none, rfl, by omega, by omega, Same.refl _⟩ (fun j σ H' _ ⟨_, _, _, _, _, sm⟩ => SqL.of (sm _ _ upd_same)) ?_ ?_⟩
  · rintro j x σ H' hx ⟨m, u, rfl, m0, m1, sm⟩
    rw [List.getElem?_map] at hx
    obtain ⟨y, hy, rfl⟩ := Option.map_eq_some_iff.mp hx
    walk_at "es"
    exact ⟨Int.emod_nonneg _ (by decide), Int.emod_lt_of_pos _ (by decide), sm⟩
  · rintro σ H' ⟨m, u, rfl, m0, m1, sm⟩
    have s1 := s0.trans sm
    have hq' : SqL K H' a (ns.map V.int) := by
      rcases hq with (h | ⟨o, h⟩) | h
      · exact .inl (.inl (s1 _ _ h))
      · exact .inl (.inr ⟨o, s1 _ _ h⟩)
      · exact .inr h
    walk_at "e"
    walk_at "e"
    refine .inl ⟨a, _, rfl, .inl hq', ?_⟩
    refine .inl ⟨_, _, rfl, rfl, _, rfl, ?_⟩
    have fin : ∀ x : Int, ∀ b : Int, ∀ p, H' p = none → Q (.ref p) (upd H' p (.lst [.int x, .int b, .int 0])) := fun x b p hp => k p _ (s1.free hp) (s1.trans (same_new hp)) ⟨x, b, 0, by decide, by decide, upd_same⟩
    have hl2 : (List.map V.int ns).length = ns.length := List.length_map ..
    refine ite2 (fun e1 => ?_) (fun e1 => ?_)
    · have e2 : i < ns.length := by
        have z := of_decide_eq_true e1
        rw [hl2] at z
        omega
      walk_at "e"
      walk_at "e"
      refine .inl ⟨a, _, _, .int ns[i], rfl, rfl, hq', atI_nat (by rw [List.getElem?_map, List.getElem?_eq_getElem e2]; rfl), ?_⟩
      walk_at "e"
      walk_at "e"
      walk_at "e"
      walk_at "e"
      refine ⟨_, _, rfl, rfl, _, rfl, ?_⟩
      refine ite2 (fun e5 => ?_) (fun e5 => ?_) <;> clear e5
      · walk_at "es"
        exact ⟨len_le (n := 3) rfl (by decide), fin _ _⟩
      · walk_at "es"
        exact ⟨len_le (n := 3) rfl (by decide), fin _ _⟩
    · walk_at "e"
      walk_at "e"
      walk_at "e"
      walk_at "e"
      walk_at "e"
      walk_at "e"
      walk_at "e"
      walk_at "e"
      refine ⟨_, _, rfl, rfl, _, rfl, ?_⟩
      refine ite2 (fun e5 => ?_) (fun e5 => ?_) <;> clear e5
      · walk_at "es"
        exact ⟨len_le (n := 3) rfl (by decide), fin _ _⟩
      · walk_at "es"
        exact ⟨len_le (n := 3) rfl (by decide), fin _ _⟩
end
end Cs
set_option maxHeartbeats 4000000
/-! Expressions that are data: what they tell, while the pail at p and all else stand. -/
namespace Cs
open PySem L2 PyProof.Rows
def Has (p : Addr) (H : Hp) : Prop := ∃ o, H p = some o
theorem Has.keep {p : Addr} {H H' : Hp} (h : Has p H) (s : Same H H') : Has p H' := by
  obtain ⟨o, e⟩ := h
  exact ⟨o, s _ _ e⟩
theorem Has.ne {p t : Addr} {H : Hp} (h : Has p H) (n : H t = none) : t ≠ p := by
  obtain ⟨o, e⟩ := h
  intro z
  rw [z, e] at n
  cases n
abbrev DF := L2.St → Hp → PyData → Prop
abbrev DFs := L2.St → Hp → List PyData → Prop
def tDat (p : Addr) (f : DF) : TE := fun σ H Q => Has p H ∧ ∃ d, f σ H d ∧ ∀ v H', Same H H' → Rp p H' v d → Q v H'
def tDats (p : Addr) (f : DFs) : TA := fun σ H Q => Has p H ∧ ∃ ds, f σ H ds ∧ ∀ vs H', Same H H' → RpA p H' vs ds → Q vs H'
theorem tdat {p : Addr} {f : DF} {σ : L2.St} {H : Hp} {Q : VK} {d : PyData} (hp : Has p H) (hf : f σ H d) (k : ∀ v H', Same H H' → Rp p H' v d → Q v H') : tDat p f σ H Q := ⟨hp, d, hf, k⟩
structure PD (X : Cx) (e : Expr) (p : Addr) (f : DF) : Prop where
  pe : PE X e (tDat p f)
  mono : ∀ σ H H' d, Same H H' → f σ H d → f σ H' d
structure PDs (X : Cx) (es : List Expr) (p : Addr) (f : DFs) : Prop where
  pa : PA X es (tDats p f)
  mono : ∀ σ H H' d, Same H H' → f σ H d → f σ H' d
theorem pe_wk {X : Cx} {e : Expr} {t t' : TE} (h : PE X e t) (w : ∀ σ H Q, t' σ H Q → t σ H Q) : PE X e t' := ⟨fun pins s σ H Q I q => h.run pins s σ H Q I (w σ H Q q)⟩
theorem pa_wk {X : Cx} {es : List Expr} {t t' : TA} (h : PA X es t) (w : ∀ σ H Q, t' σ H Q → t σ H Q) : PA X es t' := ⟨fun pos pins s σ H Q I q => h.run pos pins s σ H Q I (w σ H Q q)⟩
theorem Rp.int_inv {p : Addr} {H : Hp} {v : V} {i : Int} (r : Rp p H v (.int i)) : v = .int i := by cases r; rfl
theorem Rp.str_inv {p : Addr} {H : Hp} {v : V} {x : Str} (r : Rp p H v (.str x)) : v = .str x := by cases r; rfl
theorem Rp.lst_inv {p : Addr} {H : Hp} {v : V} {ds : List PyData} (r : Rp p H v (.list ds)) : ∃ a xs, v = .ref a ∧ a ≠ p ∧ H a = some (.lst xs) ∧ xs.length ≤ 1000 ∧ RpA p H xs ds := by
  cases r with
  | lst n h z r => exact ⟨_, _, rfl, n, h, z, r⟩
theorem Rp.tup_inv {p : Addr} {H : Hp} {v : V} {ds : List PyData} (r : Rp p H v (.tuple ds)) : ∃ a xs, v = .ref a ∧ a ≠ p ∧ H a = some (.tup xs) ∧ xs.length ≤ 1000 ∧ RpA p H xs ds := by
  cases r with
  | tup n h z r => exact ⟨_, _, rfl, n, h, z, r⟩
theorem RpA.take {p : Addr} {H : Hp} : ∀ {vs : List V} {ds : List PyData} (n : Nat), RpA p H vs ds → RpA p H (vs.take n) (ds.take n)
  | _, _, 0, _ => .nil
  | _, _, n + 1, .nil => .nil
  | _, _, n + 1, .cons h t => .cons h (RpA.take n t)
theorem RpA.drop {p : Addr} {H : Hp} : ∀ {vs : List V} {ds : List PyData} (n : Nat), RpA p H vs ds → RpA p H (vs.drop n) (ds.drop n)
  | _, _, 0, h => h
  | _, _, n + 1, .nil => .nil
  | _, _, n + 1, .cons h t => RpA.drop n t
theorem RpA.rep {p : Addr} {H : Hp} {vs : List V} {ds : List PyData} (r : RpA p H vs ds) : ∀ (n : Nat), RpA p H (List.replicate n vs).flatten (List.replicate n ds).flatten
  | 0 => .nil
  | n + 1 => by
    rw [List.replicate_succ, List.replicate_succ, List.flatten_cons, List.flatten_cons]
    exact RpA.append r (RpA.rep r n)
section
variable {X : Cx} {p : Addr}
theorem pd_var {e : Expr} {t : TE} {i : Nat} (h : PE X e t) (w : ∀ σ H Q, (∃ v, σ[i]? = some (some v) ∧ Q v H) → t σ H Q) : PD X e p (fun σ H d => ∃ v, σ[i]? = some (some v) ∧ Rp p H v d) :=
  ⟨pe_wk h fun σ H Q q => by
    obtain ⟨hp, d, ⟨v, hv, r⟩, k⟩ := q
    exact w σ H Q ⟨v, hv, k v H (Same.refl H) r⟩,
  fun σ H H' d s f => by
    obtain ⟨v, hv, r⟩ := f
    exact ⟨v, hv, r.keep (ExB.of s)⟩⟩
theorem pd_c {e : Expr} {v : V} {d0 : PyData} (h : PE X e (tC v)) (r : ∀ H, Rp p H v d0) : PD X e p (fun _ _ d => d = d0) :=
  ⟨pe_wk h fun σ H Q q => by
    obtain ⟨hp, d, rfl, k⟩ := q
    exact k v H (Same.refl H) (r H),
  fun σ H H' d s f => f⟩
theorem pds_nil : PDs X [] p (fun _ _ ds => ds = []) :=
  ⟨pa_wk pa_nil fun σ H Q q => by
    obtain ⟨hp, d, rfl, k⟩ := q
    exact k [] H (Same.refl H) .nil,
  fun σ H H' d s f => f⟩
theorem pds_cons {e : Expr} {es : List Expr} {f : DF} {g : DFs} (a : PD X e p f) (b : PDs X es p g) (hs : starEach (e :: es) X.env = (false, eval e X.env) :: starEach es X.env := by rfl) :
    PDs X (e :: es) p (fun σ H l => ∃ d ds, f σ H d ∧ g σ H ds ∧ l = d :: ds) :=
  ⟨pa_wk (pa_cons a.pe b.pa hs) fun σ H Q q => by
    obtain ⟨hp, _, ⟨d, ds, hf, hg, rfl⟩, k⟩ := q
    refine ⟨hp, d, hf, fun v H1 s1 r1 => ⟨hp.keep s1, ds, b.mono σ H H1 ds s1 hg, fun vs H2 s2 r2 => k _ H2 (s1.trans s2) (.cons (r1.keep (ExB.of s2)) r2)⟩⟩,
  fun σ H H' d s f => by
    obtain ⟨d, ds, hf, hg, rfl⟩ := f
    exact ⟨d, ds, a.mono _ _ _ _ s hf, b.mono _ _ _ _ s hg, rfl⟩⟩
theorem pd_tup {es : List Expr} {k : Nat} {pos : Pos} {g : DFs} (b : PDs X es p g) : PD X (.Tuple es k pos) p (fun σ H d => ∃ ds, g σ H ds ∧ ds.length ≤ 1000 ∧ d = .tuple ds) :=
  ⟨pe_wk (pe_tup b.pa) fun σ H Q q => by
    obtain ⟨hp, _, ⟨ds, hg, hl, rfl⟩, k⟩ := q
    refine ⟨hp, ds, hg, fun vs H1 s1 r1 => ⟨by rw [r1.length]; exact sz1000 hl, fun t ht => ?_⟩⟩
    have s2 : Same H1 (upd H1 t (.tup vs)) := same_new ht
    exact k _ _ (s1.trans s2) (.tup ((hp.keep s1).ne ht) upd_same (by rw [r1.length]; exact hl) (r1.keep (ExB.of s2))),
  fun σ H H' d s f => by
    obtain ⟨ds, hg, hl, rfl⟩ := f
    exact ⟨ds, b.mono _ _ _ _ s hg, hl, rfl⟩⟩
theorem pd_lst {es : List Expr} {k : Pos} {g : DFs} (b : PDs X es p g) (hl : PE X (.List es k) (tLst (tDats p g))) : PD X (.List es k) p (fun σ H d => ∃ ds, g σ H ds ∧ ds.length ≤ 1000 ∧ d = .list ds) :=
  ⟨pe_wk hl fun σ H Q q => by
    obtain ⟨hp, _, ⟨ds, hg, hl, rfl⟩, k⟩ := q
    refine ⟨hp, ds, hg, fun vs H1 s1 r1 => ⟨by rw [r1.length]; exact sz1000 hl, fun t ht => ?_⟩⟩
    have s2 : Same H1 (upd H1 t (.lst vs)) := same_new ht
    exact k _ _ (s1.trans s2) (.lst ((hp.keep s1).ne ht) upd_same (by rw [r1.length]; exact hl) (r1.keep (ExB.of s2))),
  fun σ H H' d s f => by
    obtain ⟨ds, hg, hl, rfl⟩ := f
    exact ⟨ds, b.mono _ _ _ _ s hg, hl, rfl⟩⟩
theorem pd_lst' {es : List Expr} {k : Pos} {g : DFs} (b : PDs X es p g) : PD X (.List es k) p (fun σ H d => ∃ ds, g σ H ds ∧ ds.length ≤ 1000 ∧ d = .list ds) := pd_lst b (pe_lst b.pa)
theorem pd_bin {a b : Expr} {op : Operator} {r : R2} {pos : Pos} {f g : DF} (ho : OpR X (binaryOp op) r) (ha : PD X a p f) (hb : PD X b p g) (F : PyData → PyData → PyData → Prop)
    (w : ∀ x y d e c H Q, Has p H → Rp p H x d → Rp p H y e → F d e c → (∀ v H', Same H H' → Rp p H' v c → Q v H') → r x y H Q) (he : PE X (.BinOp a op b pos) (tOp r (tDat p f) (tDat p g))) :
    PD X (.BinOp a op b pos) p (fun σ H c => ∃ d e, f σ H d ∧ g σ H e ∧ F d e c) :=
  ⟨pe_wk he fun σ H Q q => by
    obtain ⟨hp, c, ⟨d, e, hf, hg, hF⟩, k⟩ := q
    refine ⟨hp, d, hf, fun x H1 s1 r1 => ⟨hp.keep s1, e, hb.mono _ _ _ _ s1 hg, fun y H2 s2 r2 => ?_⟩⟩
    exact w x y d e c H2 Q (hp.keep (s1.trans s2)) (r1.keep (ExB.of s2)) r2 hF fun v H3 s3 r3 => k v H3 (s1.trans (s2.trans s3)) r3,
  fun σ H H' c s f => by
    obtain ⟨d, e, hf, hg, hF⟩ := f
    exact ⟨d, e, ha.mono _ _ _ _ s hf, hb.mono _ _ _ _ s hg, hF⟩⟩
def FAdd (d e c : PyData) : Prop := ∃ i j : Int, d = .int i ∧ e = .int j ∧ c = .int (i + j)
def FSub (d e c : PyData) : Prop := ∃ i j : Int, d = .int i ∧ e = .int j ∧ c = .int (i - j)
def FCat (d e c : PyData) : Prop := ∃ xs ys, d = .list xs ∧ e = .list ys ∧ xs.length + ys.length ≤ 1000 ∧ c = .list (xs ++ ys)
def FCatT (d e c : PyData) : Prop := ∃ xs ys, d = .tuple xs ∧ e = .tuple ys ∧ xs.length + ys.length ≤ 1000 ∧ c = .tuple (xs ++ ys)
def FRep (d e c : PyData) : Prop := ∃ xs n, d = .list xs ∧ e = .int ((n : Nat) : Int) ∧ n ≤ 1000 ∧ xs.length * n ≤ 1000 ∧ c = .list (List.replicate n xs).flatten
theorem w_add {x y : V} {d e c : PyData} {H : Hp} {Q : VK} (rx : Rp p H x d) (ry : Rp p H y e) (hF : FAdd d e c) (k : ∀ v H', Same H H' → Rp p H' v c → Q v H') : rI0 (fun i j => V.int (i + j)) x y H Q := by
  obtain ⟨i, j, rfl, rfl, rfl⟩ := hF
  exact ⟨i, j, rx.int_inv, ry.int_inv, k _ _ (Same.refl H) (.int _)⟩
theorem w_sub {x y : V} {d e c : PyData} {H : Hp} {Q : VK} (rx : Rp p H x d) (ry : Rp p H y e) (hF : FSub d e c) (k : ∀ v H', Same H H' → Rp p H' v c → Q v H') : rI0 (fun i j => V.int (i - j)) x y H Q := by
  obtain ⟨i, j, rfl, rfl, rfl⟩ := hF
  exact ⟨i, j, rx.int_inv, ry.int_inv, k _ _ (Same.refl H) (.int _)⟩
theorem w_cat {x y : V} {d e c : PyData} {H : Hp} {Q : VK} (hp : Has p H) (rx : Rp p H x d) (ry : Rp p H y e) (hF : FCat d e c) (k : ∀ v H', Same H H' → Rp p H' v c → Q v H') : rCat x y H Q := by
  obtain ⟨ds, es, rfl, rfl, hl, rfl⟩ := hF
  obtain ⟨a, xs, rfl, na, ha, za, ra⟩ := rx.lst_inv
  obtain ⟨b, ys, rfl, nb, hb, zb, rb⟩ := ry.lst_inv
  refine ⟨a, b, xs, ys, rfl, rfl, ha, hb, by rw [ra.length, rb.length]; exact sz1000 hl, fun t ht => k _ _ (same_new ht) (.lst (hp.ne ht) upd_same ?_ (RpA.keep (ExB.of (same_new ht)) (ra.append rb)))⟩
  rw [List.length_append, ra.length, rb.length]
  exact hl
theorem w_catT {K : PySem.W.Frag} {x y : V} {d e c : PyData} {H : Hp} {Q : VK} (hp : Has p H) (rx : Rp p H x d) (ry : Rp p H y e) (hF : FCatT d e c) (k : ∀ v H', Same H H' → Rp p H' v c → Q v H') : rCatA K x y H Q := by
  obtain ⟨ds, es, rfl, rfl, hl, rfl⟩ := hF
  obtain ⟨a, xs, rfl, na, ha, za, ra⟩ := rx.tup_inv
  obtain ⟨b, ys, rfl, nb, hb, zb, rb⟩ := ry.tup_inv
  refine ⟨a, b, xs, ys, rfl, rfl, SqT.of ha, SqT.of hb, by rw [ra.length, rb.length]; exact sz1000 hl, fun e0 => ?_, fun _ e0 => ?_, fun _ _ t ht => k _ _ (same_new ht) (.tup (hp.ne ht) upd_same ?_ (RpA.keep (ExB.of (same_new ht)) (ra.append rb)))⟩
  · subst e0
    cases ra
    exact k _ _ (Same.refl H) (.tup nb hb zb rb)
  · subst e0
    cases rb
    rw [List.append_nil] at k
    exact k _ _ (Same.refl H) (.tup na ha za ra)
  · rw [List.length_append, ra.length, rb.length]
    exact hl
theorem w_rep {x y : V} {d e c : PyData} {H : Hp} {Q : VK} (hp : Has p H) (rx : Rp p H x d) (ry : Rp p H y e) (hF : FRep d e c) (k : ∀ v H', Same H H' → Rp p H' v c → Q v H') : rRep x y H Q := by
  obtain ⟨ds, n, rfl, rfl, hn, hl, rfl⟩ := hF
  obtain ⟨a, xs, rfl, na, ha, za, ra⟩ := rx.lst_inv
  have hl2 : xs.length * n ≤ 1000 := by rw [ra.length]; exact hl
  refine ⟨a, n, xs, rfl, ry.int_inv, ha, by omega, by omega, sz1000 hl2, fun t ht => k _ _ (same_new ht) (.lst (hp.ne ht) upd_same ?_ (RpA.keep (ExB.of (same_new ht)) (ra.rep n)))⟩
  show (List.replicate n xs).flatten.length ≤ 1000
  rw [List.length_flatten, List.map_replicate, List.sum_replicate_nat, Nat.mul_comm]
  exact hl2
theorem pd_add {a b : Expr} {pos : Pos} {f g : DF} (ha : PD X a p f) (hb : PD X b p g) : PD X (.BinOp a .Add b pos) p (fun σ H c => ∃ d e, f σ H d ∧ g σ H e ∧ FAdd d e c) :=
  pd_bin op_add ha hb FAdd (fun x y d e c H Q hp rx ry hF k => w_add rx ry hF k) (pe_op op_add ha.pe hb.pe)
theorem pd_sub {a b : Expr} {pos : Pos} {f g : DF} (ha : PD X a p f) (hb : PD X b p g) : PD X (.BinOp a .Sub b pos) p (fun σ H c => ∃ d e, f σ H d ∧ g σ H e ∧ FSub d e c) :=
  pd_bin op_sub ha hb FSub (fun x y d e c H Q hp rx ry hF k => w_sub rx ry hF k) (pe_op op_sub ha.pe hb.pe)
theorem pd_cat {a b : Expr} {pos : Pos} {f g : DF} (ha : PD X a p f) (hb : PD X b p g) : PD X (.BinOp a .Add b pos) p (fun σ H c => ∃ d e, f σ H d ∧ g σ H e ∧ FCat d e c) :=
  pd_bin op_cat ha hb FCat (fun x y d e c H Q hp rx ry hF k => w_cat hp rx ry hF k) (pe_op op_cat ha.pe hb.pe)
theorem pd_catT {a b : Expr} {pos : Pos} {f g : DF} (ha : PD X a p f) (hb : PD X b p g) : PD X (.BinOp a .Add b pos) p (fun σ H c => ∃ d e, f σ H d ∧ g σ H e ∧ FCatT d e c) :=
  pd_bin op_catA ha hb FCatT (fun x y d e c H Q hp rx ry hF k => w_catT hp rx ry hF k) (pe_op op_catA ha.pe hb.pe)
theorem pd_rep {a b : Expr} {pos : Pos} {f g : DF} (ha : PD X a p f) (hb : PD X b p g) : PD X (.BinOp a .Mult b pos) p (fun σ H c => ∃ d e, f σ H d ∧ g σ H e ∧ FRep d e c) :=
  pd_bin op_rep ha hb FRep (fun x y d e c H Q hp rx ry hF k => w_rep hp rx ry hF k) (pe_op op_rep ha.pe hb.pe)
/-! slices -/
structure PDO (X : Cx) (e : Option Expr) (p : Addr) (f : L2.St → Hp → Option Int → Prop) (t : TO) : Prop where
  po : PO X e t
  w : ∀ σ H (Q : Option Int → Hp → Prop) i, Has p H → f σ H i → (∀ H', Same H H' → Q i H') → t σ H Q
  mono : ∀ σ H H' d, Same H H' → f σ H d → f σ H' d
def cutD (ds : List PyData) (lo hi : Option Int) : List PyData := (ds.drop (HT.sIx ds.length 0 lo)).take (HT.sIx ds.length ds.length hi - HT.sIx ds.length 0 lo)
theorem RpA.cut {H : Hp} {vs : List V} {ds : List PyData} (r : RpA p H vs ds) (lo hi : Option Int) : RpA p H (cutV vs lo hi) (cutD ds lo hi) := by
  unfold cutV cutD
  rw [r.length]
  exact (r.drop _).take _
theorem pdo_none : PDO X none p (fun _ _ i => i = none) tNoPart :=
  ⟨po_none, fun σ H Q i _ hf k => by
    subst hf
    exact k H (Same.refl H), fun _ _ _ _ _ f => f⟩
theorem pdo_some {e : Expr} {f : DF} (h : PD X e p f) : PDO X (some e) p (fun σ H i => ∃ j : Int, f σ H (.int j) ∧ i = some j) (tPart (tDat p f)) :=
  ⟨po_some h.pe, fun σ H Q i hp hf k => by
    obtain ⟨j, hj, rfl⟩ := hf
    exact ⟨hp, .int j, hj, fun v H' s r => ⟨j, r.int_inv, k H' s⟩⟩, fun σ H H' i s hf => by
    obtain ⟨j, hj, rfl⟩ := hf
    exact ⟨j, h.mono _ _ _ _ s hj, rfl⟩⟩
theorem w_slL {K : PySem.W.Frag} {x : V} {ds : List PyData} {lo hi : Option Int} {H : Hp} {Q : VK} (hp : Has p H) (rx : Rp p H x (.list ds)) (hl : (cutD ds lo hi).length ≤ 1000)
    (k : ∀ v H', Same H H' → Rp p H' v (.list (cutD ds lo hi)) → Q v H') : rSlL K x lo hi H Q := by
  obtain ⟨a, xs, rfl, na, ha, za, ra⟩ := rx.lst_inv
  have rc := ra.cut lo hi
  exact ⟨a, xs, rfl, SqL.of ha, fun t ht => k _ _ (same_new ht) (.lst (hp.ne ht) upd_same (by rw [rc.length]; exact hl) (rc.keep (ExB.of (same_new ht))))⟩
theorem w_slT {K : PySem.W.Frag} {x : V} {ds : List PyData} {lo hi : Option Int} {H : Hp} {Q : VK} (hp : Has p H) (rx : Rp p H x (.tuple ds)) (hl : (cutD ds lo hi).length ≤ 1000)
    (k : ∀ v H', Same H H' → Rp p H' v (.tuple (cutD ds lo hi)) → Q v H') : rSlA K x lo hi H Q := by
  obtain ⟨a, xs, rfl, na, ha, za, ra⟩ := rx.tup_inv
  have rc := ra.cut lo hi
  refine ⟨a, xs, rfl, SqT.of ha, fun e => ?_, fun _ t ht => k _ _ (same_new ht) (.tup (hp.ne ht) upd_same (by rw [rc.length]; exact hl) (rc.keep (ExB.of (same_new ht))))⟩
  have e2 : cutD ds lo hi = ds := by
    unfold cutD
    rw [← ra.length, e.1, e.2, List.drop_zero, Nat.sub_zero, List.take_of_length_le (by rw [ra.length]; exact Nat.le_refl _)]
  rw [e2] at k
  exact k _ _ (Same.refl H) (.tup na ha za ra)
theorem pd_slL {e : Expr} {lo hi : Option Expr} {pos p2 : Pos} {f : DF} {fl fh : L2.St → Hp → Option Int → Prop} {tl th : TO} (h : PD X e p f) (hl : PDO X lo p fl tl) (hh : PDO X hi p fh th) :
    PD X (.Subscript e (.Slice lo hi none p2) pos) p (fun σ H c => ∃ ds i j, f σ H (.list ds) ∧ fl σ H i ∧ fh σ H j ∧ (cutD ds i j).length ≤ 1000 ∧ c = .list (cutD ds i j)) :=
  ⟨pe_wk (pe_slice sl_list h.pe hl.po hh.po) fun σ H Q q => by
    obtain ⟨hp, _, ⟨ds, i, j, h1, h2, h3, h4, rfl⟩, k⟩ := q
    exact ⟨hp, _, h1, fun v H1 s1 r1 => hl.w σ H1 _ i (hp.keep s1) (hl.mono _ _ _ _ s1 h2) fun H2 s2 => hh.w σ H2 _ j (hp.keep (s1.trans s2)) (hh.mono _ _ _ _ (s1.trans s2) h3) fun H3 s3 =>
      w_slL (hp.keep (s1.trans (s2.trans s3))) (r1.keep (ExB.of (s2.trans s3))) h4 fun u H4 s4 r4 => k u H4 (s1.trans (s2.trans (s3.trans s4))) r4⟩,
  fun σ H H' c s q => by
    obtain ⟨ds, i, j, h1, h2, h3, h4, rfl⟩ := q
    exact ⟨ds, i, j, h.mono _ _ _ _ s h1, hl.mono _ _ _ _ s h2, hh.mono _ _ _ _ s h3, h4, rfl⟩⟩
theorem pd_slT {e : Expr} {lo hi : Option Expr} {pos p2 : Pos} {f : DF} {fl fh : L2.St → Hp → Option Int → Prop} {tl th : TO} (h : PD X e p f) (hl : PDO X lo p fl tl) (hh : PDO X hi p fh th) :
    PD X (.Subscript e (.Slice lo hi none p2) pos) p (fun σ H c => ∃ ds i j, f σ H (.tuple ds) ∧ fl σ H i ∧ fh σ H j ∧ (cutD ds i j).length ≤ 1000 ∧ c = .tuple (cutD ds i j)) :=
  ⟨pe_wk (pe_slice sl_tupA h.pe hl.po hh.po) fun σ H Q q => by
    obtain ⟨hp, _, ⟨ds, i, j, h1, h2, h3, h4, rfl⟩, k⟩ := q
    exact ⟨hp, _, h1, fun v H1 s1 r1 => hl.w σ H1 _ i (hp.keep s1) (hl.mono _ _ _ _ s1 h2) fun H2 s2 => hh.w σ H2 _ j (hp.keep (s1.trans s2)) (hh.mono _ _ _ _ (s1.trans s2) h3) fun H3 s3 =>
      w_slT (hp.keep (s1.trans (s2.trans s3))) (r1.keep (ExB.of (s2.trans s3))) h4 fun u H4 s4 r4 => k u H4 (s1.trans (s2.trans (s3.trans s4))) r4⟩,
  fun σ H H' c s q => by
    obtain ⟨ds, i, j, h1, h2, h3, h4, rfl⟩ := q
    exact ⟨ds, i, j, h.mono _ _ _ _ s h1, hl.mono _ _ _ _ s h2, hh.mono _ _ _ _ s h3, h4, rfl⟩⟩
/-! items -/
theorem RpA.at_ {H : Hp} {vs : List V} {ds : List PyData} {i : Int} {d : PyData} (r : RpA p H vs ds) (h : atI ds i = some d) : ∃ v, atI vs i = some v ∧ Rp p H v d := by
  unfold atI at h ⊢
  rw [← r.length] at h
  obtain ⟨j, hj, hd⟩ := Option.bind_eq_some_iff.mp h
  have hv : j < vs.length := by
    rw [r.length]
    exact (List.getElem?_eq_some_iff.mp hd).1
  obtain ⟨d2, h2, rd⟩ := r.get (List.getElem?_eq_getElem hv)
  rw [hd] at h2
  cases h2
  exact ⟨vs[j], by rw [hj]; exact List.getElem?_eq_getElem hv, rd⟩
theorem pd_ixT {e i : Expr} {pos : Pos} {f g : DF} (h : PD X e p f) (hi : PD X i p g) (pl : PlainIx i) :
    PD X (.Subscript e i pos) p (fun σ H c => ∃ ds j, f σ H (.tuple ds) ∧ g σ H (.int j) ∧ atI ds j = some c) :=
  ⟨pe_wk (pe_ix ix_seq h.pe hi.pe pl) fun σ H Q q => by
    obtain ⟨hp, c, ⟨ds, j, h1, h2, h3⟩, k⟩ := q
    refine ⟨hp, _, h1, fun x H1 s1 r1 => ⟨hp.keep s1, _, hi.mono _ _ _ _ s1 h2, fun y H2 s2 r2 => ?_⟩⟩
    obtain ⟨a, xs, rfl, na, ha, za, ra⟩ := (r1.keep (ExB.of s2)).tup_inv
    obtain ⟨v, hv, rv⟩ := ra.at_ h3
    exact .inr (.inl ⟨a, xs, j, v, rfl, r2.int_inv, SqT.of ha, hv, k v H2 (s1.trans s2) rv⟩),
  fun σ H H' c s q => by
    obtain ⟨ds, j, h1, h2, h3⟩ := q
    exact ⟨ds, j, h.mono _ _ _ _ s h1, hi.mono _ _ _ _ s h2, h3⟩⟩
/-! list(t), str(i) -/
theorem pd_list {e : Expr} {q pos : Pos} {f : DF} (h : PD X e p f) (hg : Gl X "list") (hm : X.mg "list" = none) (hs : starEach [e] X.env = (false, eval e X.env) :: starEach [] X.env := by rfl)
    (hpl : ((backTo pos (starEach [] X.env)).any fun x => x.1) = false := by rfl) : PD X (.Call (.Name "list" q) [e] [] pos) p (fun σ H c => ∃ ds, f σ H (.tuple ds) ∧ c = .list ds) :=
  ⟨pe_wk (pe_callTy call_list_of hg hm (by decide +kernel) (pa_cons h.pe pa_nil hs) (by decide) (by decide) hs hpl) fun σ H Q q => by
    obtain ⟨hp, _, ⟨ds, h1, rfl⟩, k⟩ := q
    refine ⟨hp, _, h1, fun x H1 s1 r1 => ?_⟩
    obtain ⟨a, xs, rfl, na, ha, za, ra⟩ := r1.tup_inv
    exact ⟨a, xs, rfl, .inr (SqT.of ha), fun t ht => k _ _ (s1.trans (same_new ht)) (.lst ((hp.keep s1).ne ht) upd_same za (ra.keep (ExB.of (same_new ht))))⟩,
  fun σ H H' c s q => by
    obtain ⟨ds, h1, rfl⟩ := q
    exact ⟨ds, h.mono _ _ _ _ s h1, rfl⟩⟩
theorem pd_str {e : Expr} {q pos : Pos} {f : DF} (h : PD X e p f) (hg : Gl X "str") (hm : X.mg "str" = none) (hs : starEach [e] X.env = (false, eval e X.env) :: starEach [] X.env := by rfl)
    (hpl : ((backTo pos (starEach [] X.env)).any fun x => x.1) = false := by rfl) : PD X (.Call (.Name "str" q) [e] [] pos) p (fun σ H c => ∃ n : Nat, f σ H (.int (n : Nat)) ∧ n ≤ 20 ∧ c = .str (toString ((n : Nat) : Int))) :=
  ⟨pe_wk (pe_callTy call_str_int hg hm (by decide +kernel) (pa_cons h.pe pa_nil hs) (by decide) (by decide) hs hpl) fun σ H Q q => by
    obtain ⟨hp, _, ⟨n, h1, hn, rfl⟩, k⟩ := q
    refine ⟨hp, _, h1, fun x H1 s1 r1 => ?_⟩
    refine ⟨n, by rw [r1.int_inv], Nat.lt_of_le_of_lt (Nat.log2_le_self n) (by omega), k _ _ s1 (.str _ ?_)⟩
    exact (by decide +kernel : ∀ n, n < 21 → (Str.ofString (toString ((n : Nat) : Int))).length ≤ 1000) n (by omega),
  fun σ H H' c s q => by
    obtain ⟨n, h1, hn, rfl⟩ := q
    exact ⟨n, h.mono _ _ _ _ s h1, hn, rfl⟩⟩
theorem pd_neg {e : Expr} {pos : Pos} {f : DF} (h : PD X e p f) : PD X (.UnaryOp .USub e pos) p (fun σ H c => ∃ i : Int, f σ H (.int i) ∧ c = .int (-i)) :=
  ⟨pe_wk (pe_un un_neg h.pe) fun σ H Q q => by
    obtain ⟨hp, _, ⟨i, h1, rfl⟩, k⟩ := q
    exact ⟨hp, _, h1, fun x H1 s1 r1 => ⟨i, r1.int_inv, k _ _ s1 (.int _)⟩⟩,
  fun σ H H' c s q => by
    obtain ⟨i, h1, rfl⟩ := q
    exact ⟨i, h.mono _ _ _ _ s h1, rfl⟩⟩
theorem pd_ifGt {a b c e : Expr} {pos pos2 : Pos} {fa fb fc fe : DF} (hc : PD X c p fc) (he : PD X e p fe) (ha : PD X a p fa) (hb : PD X b p fb) :
    PD X (.IfExp (.Compare c [.Gt] [e] pos2) a b pos) p (fun σ H d => ∃ i j : Int, fc σ H (.int i) ∧ fe σ H (.int j) ∧ (j < i → fa σ H d) ∧ (¬ j < i → fb σ H d)) :=
  ⟨pe_wk (pe_ifExp (pt_cmpR op_gt hc.pe he.pe (nomark _)) ha.pe hb.pe) fun σ H Q q => by
    obtain ⟨hp, d, ⟨i, j, h1, h2, h3, h4⟩, k⟩ := q
    refine ⟨hp, _, h1, fun x H1 s1 r1 => ⟨hp.keep s1, _, he.mono _ _ _ _ s1 h2, fun y H2 s2 r2 => ⟨i, j, (r1.keep (ExB.of s2)).int_inv, r2.int_inv, _, rfl, ?_⟩⟩⟩
    have s3 := s1.trans s2
    refine ite2 (fun e => ?_) (fun e => ?_)
    · exact ⟨hp.keep s3, d, ha.mono _ _ _ _ s3 (h3 (of_decide_eq_true e)), fun v H4 s4 r4 => k v H4 (s3.trans s4) r4⟩
    · exact ⟨hp.keep s3, d, hb.mono _ _ _ _ s3 (h4 (of_decide_eq_false (eq_false_of_ne_true e))), fun v H4 s4 r4 => k v H4 (s3.trans s4) r4⟩,
  fun σ H H' d s q => by
    obtain ⟨i, j, h1, h2, h3, h4⟩ := q
    exact ⟨i, j, hc.mono _ _ _ _ s h1, he.mono _ _ _ _ s h2, fun z => ha.mono _ _ _ _ s (h3 z), fun z => hb.mono _ _ _ _ s (h4 z)⟩⟩
theorem pd_dict {pos : Pos} : PD X (.Dict [] [] pos) p (fun _ _ d => d = .dict []) :=
  ⟨pe_wk pe_dnewK fun σ H Q q => by
    obtain ⟨hp, _, rfl, k⟩ := q
    exact fun t ht => k _ _ (same_new ht) (.dct (hp.ne ht) upd_same),
  fun σ H H' d s f => f⟩
end
/-! data of tuples alone -/
mutual
inductive RpT (p : Addr) (H : Hp) : V → PyData → Prop
  | int (i : Int) : RpT p H (.int i) (.int i)
  | str (x : Str) (h : x.length ≤ 1000) : RpT p H (.str x) (.str x)
  | tup {a : Addr} {xs : List V} {ds : List PyData} (n : a ≠ p) (h : H a = some (.tup xs)) (z : xs.length ≤ 1000) (r : RpTA p H xs ds) : RpT p H (.ref a) (.tuple ds)
inductive RpTA (p : Addr) (H : Hp) : List V → List PyData → Prop
  | nil : RpTA p H [] []
  | cons {v : V} {vs : List V} {d : PyData} {ds : List PyData} (h : RpT p H v d) (t : RpTA p H vs ds) : RpTA p H (v :: vs) (d :: ds)
end
def ExT (p : Addr) (H H' : Hp) : Prop := ∀ b xs, b ≠ p → H b = some (.tup xs) → H' b = some (.tup xs)
theorem ExT.of {p : Addr} {H H' : Hp} (e : ExB p H H') : ExT p H H' := fun b _ n h => e b _ n h
theorem ExT.trans {p : Addr} {H H1 H2 : Hp} (a : ExT p H H1) (b : ExT p H1 H2) : ExT p H H2 := fun c xs n h => b c xs n (a c xs n h)
theorem ExT.put {p l : Addr} {H : Hp} {xs : List V} {o : HO} (h : H l = some (.lst xs)) : ExT p H (upd H l o) := fun b ys n e => by
  rw [upd_ne (fun z => by rw [z, h] at e; cases e)]
  exact e
mutual
theorem RpT.keep {p : Addr} {H H' : Hp} (e : ExT p H H') : ∀ {v : V} {d : PyData}, RpT p H v d → RpT p H' v d
  | _, _, .int i => .int i
  | _, _, .str x h => .str x h
  | _, _, .tup n h z r => .tup n (e _ _ n h) z (RpTA.keep e r)
theorem RpTA.keep {p : Addr} {H H' : Hp} (e : ExT p H H') : ∀ {vs : List V} {ds : List PyData}, RpTA p H vs ds → RpTA p H' vs ds
  | _, _, .nil => .nil
  | _, _, .cons h t => .cons (RpT.keep e h) (RpTA.keep e t)
end
mutual
theorem RpT.rp {p : Addr} {H : Hp} : ∀ {v : V} {d : PyData}, RpT p H v d → Rp p H v d
  | _, _, .int i => .int i
  | _, _, .str x h => .str x h
  | _, _, .tup n h z r => .tup n h z (RpTA.rp r)
theorem RpTA.rp {p : Addr} {H : Hp} : ∀ {vs : List V} {ds : List PyData}, RpTA p H vs ds → RpA p H vs ds
  | _, _, .nil => .nil
  | _, _, .cons h t => .cons (RpT.rp h) (RpTA.rp t)
end
theorem RpTA.append {p : Addr} {H : Hp} : ∀ {vs ws : List V} {ds es : List PyData}, RpTA p H vs ds → RpTA p H ws es → RpTA p H (vs ++ ws) (ds ++ es)
  | _, _, _, _, .nil, s => s
  | _, _, _, _, .cons h t, s => .cons h (RpTA.append t s)
theorem RpTA.length {p : Addr} {H : Hp} {vs : List V} {ds : List PyData} (r : RpTA p H vs ds) : vs.length = ds.length := r.rp.length
/-! how what is told is found -/
theorem x_tup {g : List PyData → Prop} {ds : List PyData} (h : g ds) (hl : ds.length ≤ 1000) : ∃ es, g es ∧ es.length ≤ 1000 ∧ PyData.tuple ds = .tuple es := ⟨ds, h, hl, rfl⟩
theorem x_lst {g : List PyData → Prop} {ds : List PyData} (h : g ds) (hl : ds.length ≤ 1000) : ∃ es, g es ∧ es.length ≤ 1000 ∧ PyData.list ds = .list es := ⟨ds, h, hl, rfl⟩
theorem x_cons {f : PyData → Prop} {g : List PyData → Prop} {d : PyData} {ds : List PyData} (h : f d) (k : g ds) : ∃ e es, f e ∧ g es ∧ d :: ds = e :: es := ⟨d, ds, h, k, rfl⟩
theorem x_neg {f : Int → Prop} {i : Int} (h : f i) : ∃ j, f j ∧ PyData.int (-i) = .int (-j) := ⟨i, h, rfl⟩
theorem x_var {σ : L2.St} {i : Nat} {p : Addr} {H : Hp} {v : V} {d : PyData} (h : σ[i]? = some (some v)) (r : Rp p H v d) : ∃ u, σ[i]? = some (some u) ∧ Rp p H u d := ⟨v, h, r⟩
theorem x_bin {f g : PyData → Prop} {F : PyData → PyData → PyData → Prop} {d e c : PyData} (h : f d) (k : g e) (l : F d e c) : ∃ d e, f d ∧ g e ∧ F d e c := ⟨d, e, h, k, l⟩
theorem x_add {i j : Int} : FAdd (.int i) (.int j) (.int (i + j)) := ⟨i, j, rfl, rfl, rfl⟩
theorem x_sub {i j : Int} : FSub (.int i) (.int j) (.int (i - j)) := ⟨i, j, rfl, rfl, rfl⟩
theorem x_cat {xs ys : List PyData} (h : xs.length + ys.length ≤ 1000) : FCat (.list xs) (.list ys) (.list (xs ++ ys)) := ⟨xs, ys, rfl, rfl, h, rfl⟩
theorem x_catT {xs ys : List PyData} (h : xs.length + ys.length ≤ 1000) : FCatT (.tuple xs) (.tuple ys) (.tuple (xs ++ ys)) := ⟨xs, ys, rfl, rfl, h, rfl⟩
theorem x_rep {xs : List PyData} {n : Nat} (h1 : n ≤ 1000) (h : xs.length * n ≤ 1000) : FRep (.list xs) (.int (n : Nat)) (.list (List.replicate n xs).flatten) := ⟨xs, n, rfl, rfl, h1, h, rfl⟩
theorem x_sl {f : List PyData → Prop} {fl fh : Option Int → Prop} {C : List PyData → PyData} {ds : List PyData} {i j : Option Int} (h : f ds) (h1 : fl i) (h2 : fh j) (hl : (cutD ds i j).length ≤ 1000) :
    ∃ es a b, f es ∧ fl a ∧ fh b ∧ (cutD es a b).length ≤ 1000 ∧ C (cutD ds i j) = C (cutD es a b) := ⟨ds, i, j, h, h1, h2, hl, rfl⟩
theorem x_po {f : Int → Prop} {j : Int} (h : f j) : ∃ k, f k ∧ some j = some k := ⟨j, h, rfl⟩
theorem x_ix {f : List PyData → Prop} {g : Int → Prop} {ds : List PyData} {j : Int} {c : PyData} (h : f ds) (k : g j) (e : atI ds j = some c) : ∃ es i, f es ∧ g i ∧ atI es i = some c := ⟨ds, j, h, k, e⟩
theorem x_list {f : List PyData → Prop} {ds : List PyData} (h : f ds) : ∃ es, f es ∧ PyData.list ds = .list es := ⟨ds, h, rfl⟩
theorem x_str {f : Nat → Prop} {n : Nat} (h : f n) (k : n ≤ 20) : ∃ m, f m ∧ m ≤ 20 ∧ PyData.str (toString ((n : Nat) : Int)) = .str (toString ((m : Nat) : Int)) := ⟨n, h, k, rfl⟩
end Cs
set_option maxHeartbeats 4000000
local macro_rules | `(tactic| walk_at "pd") => `(tactic| repeat' first
  | exact Nat.le_of_ble_eq_true rfl
  | rfl
  | (apply Cs.x_var; (focus rfl); first | exact Cs.Rp.int _ | walk_at "rp")
  | apply Cs.x_tup
  | apply Cs.x_lst
  | apply Cs.x_cons
  | apply Cs.x_neg
  | exact Cs.x_add
  | exact Cs.x_sub
  | apply Cs.x_cat
  | apply Cs.x_catT
  | apply Cs.x_rep
  | apply Cs.x_bin
  | apply Cs.x_sl (C := PyData.tuple)
  | apply Cs.x_sl (C := PyData.list)
  | apply Cs.x_po
  | apply Cs.x_ix
  | apply Cs.x_list
  | apply Cs.x_str
  | fail "pd")
namespace Cs
open PySem L2 PyProof.Rows
theorem PailAt.has {H : Hp} {p : Addr} {n : Nat} (h : PailAt H p n) : Has p H := by
  obtain ⟨a, b, c, _, _, e⟩ := h
  exact ⟨_, e⟩
theorem span_inv {lo hi : Int} {d : PyData} (h : isSpan lo hi d = true) : ∃ a b : Int, d = .tuple [.int a, .int b] ∧ lo ≤ a ∧ a ≤ b ∧ b ≤ hi := by
  unfold isSpan at h
  split at h
  · rw [Bool.and_eq_true, Bool.and_eq_true, decide_eq_true_eq, decide_eq_true_eq, decide_eq_true_eq] at h
    exact ⟨_, _, rfl, h.1, h.2.1, h.2.2⟩
  · cases h
theorem span_t {p : Addr} {H : Hp} {v : V} {lo hi : Int} {d : PyData} (h : isSpan lo hi d = true) (r : Rp p H v d) : RpT p H v d := by
  obtain ⟨a, b, rfl, _⟩ := span_inv h
  obtain ⟨t, xs, rfl, n, ht, z, ra⟩ := r.tup_inv
  cases ra with
  | cons r1 ra =>
    cases ra with
    | cons r2 ra =>
      cases ra with
      | nil =>
        cases r1
        cases r2
        exact .tup n ht z (.cons (.int _) (.cons (.int _) .nil))
def SpStretch : Sp := fun vs H Q _ => ∃ (p : Addr) (n : Nat), vs = [.ref p] ∧ PailAt H p n ∧ n < 1000000 ∧
  ∀ (v : V) (d : PyData) (H' : Hp), isSpan (-10000) 10000 d = true → RpT p H' v d → ExB p H H' → PailAt H' p (n + 3) → Q v H'
section
variable {P : Program} {w : World} {K : PySem.W.Frag} {mg : Str → Option Value} {base : Heap}
theorem sc__law_stretch : FnScope ["_law_pail_here", "_law_low"] ["_law_pail_here"] (defScope (topS 42)) := ⟨rfl, rfl, rfl, by decide +kernel, rfl, by decide +kernel, by decide +kernel⟩
theorem ok__law_stretch (D : DefAt K mg "_law_stretch" (topS 42) ["_law_pail_here"]) (T : Txt mg) (c_law_scoop : C8.Cal P w K mg base 1 "_law_scoop" SpScoop []) (c_law_any : C8.Cal P w K mg base 2 "_law_any" SpAny []) :
    C8.Cal P w K mg base 3 "_law_stretch" SpStretch [] := by
  refine D.cal sc__law_stretch (fun vs H Q E h => by obtain ⟨p, n, rfl, _⟩ := h; rfl) fun f cdv A outer s H vs Q E hr h => ?_
  obtain ⟨p, n, rfl, hp, hn, k⟩ := h
  have nd := sc__law_stretch.nd
  have hu64 := hr.units
  refine ⟨_, (pss_cons (ps_set (i := 1) nd rfl (.inl rfl) (pe_op op_sub (C8.pe_c c_law_scoop hr (by decide) rfl (pa_cons (pv 0) (pa_cons pe_int pa_nil))) pe_int))
      (pss_cons (ps_if (pt_cmpR (opEq hu64) (C8.pe_c c_law_scoop hr (by decide) rfl (pa_cons (pv 0) (pa_cons pe_int pa_nil))) pe_int (nomark _)) (pss_one (ps_ret (C8.pe_c c_law_any hr (by decide) rfl (pa_cons (pv 0) (pa_cons (PD.pe (p := p) (pd_lst' (pds_cons (pd_tup (pds_cons (pd_neg (pd_c pe_int (fun _ => .int _))) (pds_cons (pd_c pe_int (fun _ => .int _)) pds_nil))) (pds_cons (pd_tup (pds_cons (pd_neg (pd_c pe_int (fun _ => .int _))) (pds_cons (pd_neg (pd_c pe_int (fun _ => .int _))) pds_nil))) (pds_cons (pd_tup (pds_cons (pd_c pe_int (fun _ => .int _)) (pds_cons (pd_c pe_int (fun _ => .int _)) pds_nil))) (pds_cons (pd_tup (pds_cons (pd_var (i := 1) (pv 1) (fun _ _ _ h => h)) (pds_cons (pd_c pe_int (fun _ => .int _)) pds_nil))) (pds_cons (pd_tup (pds_cons (pd_neg (pd_c pe_int (fun _ => .int _))) (pds_cons (pd_var (i := 1) (pv 1) (fun _ _ _ h => h)) pds_nil))) pds_nil))))))) pa_nil))))) pss_nil)
      (pss_one (ps_ret (pe_tup (pa_cons (pv 1) (pa_cons (pe_op opAdd (pv 1) (C8.pe_c c_law_any hr (by decide) rfl (pa_cons (pv 0) (pa_cons (PD.pe (p := p) (pd_lst' (pds_cons (pd_c pe_int (fun _ => .int _)) (pds_cons (pd_c pe_int (fun _ => .int _)) (pds_cons (pd_c pe_int (fun _ => .int _)) (pds_cons (pd_c pe_int (fun _ => .int _)) (pds_cons (pd_c pe_int (fun _ => .int _)) (pds_cons (pd_c pe_int (fun _ => .int _)) pds_nil)))))))) pa_nil)))) pa_nil))))))), ?_⟩
  walk_at "e"
  refine ⟨p, 15, n, rfl, by decide, by decide, hp, by omega, fun r H1 r0 r1 e1 hp1 => ?_⟩
  walk_at "es"
  refine ⟨p, 12, n + 1, rfl, by decide, by decide, hp1, by omega, fun r' H2 r0' r1' e2 hp2 => ?_⟩
  refine .inl ⟨rfl, _, rfl, ?_⟩
  have lo0 : -7 ≤ r - 7 := by omega
  have lo1 : r - 7 ≤ 7 := by omega
  refine ite2 (fun _ => ?_) (fun _ => ?_)
  · walk_at "e"
    apply tdat hp2.has
    · walk_at "pd"
    intro v H3 s3 r3
    refine ⟨p, v, _, n + 2, rfl, r3, (by exact Nat.le_of_ble_eq_true rfl), hp2.keep s3, by omega, fun u d H4 hd rd e4 hp4 => ?_⟩
    have hs : isSpan (-10000) 10000 d = true := by
      simp only [List.mem_cons, List.not_mem_nil, or_false] at hd
      rcases hd with rfl | rfl | rfl | rfl | rfl <;> simp only [isSpan, Bool.and_eq_true, decide_eq_true_eq] <;> omega
    exact k u d H4 hs (span_t hs rd) (e1.trans (e2.trans ((ExB.of s3).trans e4))) hp4
  · walk_at "e"
    walk_at "e"
    walk_at "e"
    apply tdat hp2.has
    · walk_at "pd"
    intro v H3 s3 r3
    refine ⟨p, v, _, n + 2, rfl, r3, (by exact Nat.le_of_ble_eq_true rfl), hp2.keep s3, by omega, fun u d H4 hd rd e4 hp4 => ?_⟩
    have hj : ∃ j : Int, d = .int j ∧ 0 ≤ j ∧ j ≤ 9 := by
      simp only [List.mem_cons, List.not_mem_nil, or_false] at hd
      rcases hd with rfl | rfl | rfl | rfl | rfl | rfl <;> exact ⟨_, rfl, by decide, by decide⟩
    obtain ⟨j, rfl, j0, j1⟩ := hj
    rw [rd.int_inv]
    refine .inl ⟨_, _, rfl, rfl, ?_⟩
    refine ⟨len_le (n := 2) rfl (by decide), fun t ht => ?_⟩
    have e5 : ExB p H H4 := e1.trans (e2.trans ((ExB.of s3).trans e4))
    refine k (.ref t) (.tuple [.int (r - 7), .int (r - 7 + j)]) _ ?_ (.tup (hp4.has.ne ht) upd_same (by exact Nat.le_of_ble_eq_true rfl) (.cons (.int _) (.cons (.int _) .nil))) (e5.trans (ExB.new ht)) (hp4.keep (same_new ht))
    simp only [isSpan, Bool.and_eq_true, decide_eq_true_eq]
    omega
end
end Cs
set_option maxHeartbeats 4000000
namespace Cs
open PySem L2 PyProof.Rows
theorem erase_perm {α : Type} : ∀ {xs : List α} {k : Nat} {y : α}, xs[k]? = some y → (y :: xs.eraseIdx k).Perm xs
  | [], k, y, h => by simp at h
  | x :: xs, 0, y, h => by
    cases h
    exact List.Perm.refl _
  | x :: xs, k + 1, y, h => by
    rw [List.eraseIdx_cons_succ]
    exact (List.Perm.swap ..).trans ((erase_perm (xs := xs) (k := k) h).cons x)
theorem erase_map {α β : Type} (f : α → β) : ∀ (xs : List α) (k : Nat), (xs.map f).eraseIdx k = (xs.eraseIdx k).map f
  | [], _ => rfl
  | _ :: _, 0 => rfl
  | x :: xs, k + 1 => by
    rw [List.map_cons, List.eraseIdx_cons_succ, List.eraseIdx_cons_succ, List.map_cons, erase_map f xs k]
structure Pool (N : Nat) (names rest : List Str) : Prop where
  len : names.length + rest.length = N
  nd : (names ++ rest).Nodup
  nm : ∀ x ∈ names ++ rest, isName (.str x) = true
theorem Pool.step {N k : Nat} {names rest : List Str} {y : Str} (h : Pool N names rest) (e : rest[k]? = some y) : Pool N (names ++ [y]) (rest.eraseIdx k) := by
  have hp : (names ++ [y] ++ rest.eraseIdx k).Perm (names ++ rest) := by
    rw [List.append_assoc]
    exact (erase_perm e).append_left names
  refine ⟨?_, hp.nodup_iff.mpr h.nd, fun x hx => h.nm x (hp.mem_iff.mp hx)⟩
  have l := hp.length_eq
  have l2 := h.len
  simp only [List.length_append] at l ⊢
  omega
theorem name_len {x : Str} (h : isName (.str x) = true) : x.length ≤ 8 := by
  unfold isName at h
  rw [Bool.and_eq_true, Bool.and_eq_true, decide_eq_true_eq, decide_eq_true_eq] at h
  exact h.1.2
theorem rp_names {p : Addr} {H : Hp} : ∀ {xs : List Str}, (∀ x ∈ xs, isName (.str x) = true) → RpTA p H (xs.map V.str) (xs.map PyData.str)
  | [], _ => .nil
  | x :: xs, h => .cons (.str x (Nat.le_trans (name_len (h x List.mem_cons_self)) (by decide))) (rp_names fun y hy => h y (List.mem_cons_of_mem _ hy))
theorem ExB.putN {p l : Addr} {H H' : Hp} {o : HO} (e : ExB p H H') (n : H l = none) : ExB p H (upd H' l o) := fun b u nb h => by
  rw [upd_ne (ne_of_none h n)]
  exact e b u nb h
theorem ixn {α : Type} {xs : List α} {k : Nat} (h : k < xs.length) : seqIndex? ((k : Nat) : Int) xs.length = some k := by
  have h1 : ¬ ((k : Nat) : Int) < 0 := by omega
  have h2 : ((k : Nat) : Int) < (xs.length : Nat) := by omega
  simp only [seqIndex?, if_neg h1, decide_eq_true h2, decide_eq_true (Int.natCast_nonneg k), Bool.and_self, if_true, Int.toNat_natCast]
def SpHeads : Sp := fun vs H Q _ => ∃ (p : Addr) (n : Nat), vs = [.ref p, .int 3] ∧ PailAt H p n ∧ n < 1000000 ∧
  ∀ (v : V) (names : List Str) (H' : Hp), 1 ≤ names.length → names.length ≤ 3 → names.Nodup → (∀ x ∈ names, isName (.str x) = true) → RpT p H' v (.tuple (names.map PyData.str)) → ExB p H H' → PailAt H' p (n + 4) → Q v H'
section
variable {P : Program} {w : World} {K : PySem.W.Frag} {mg : Str → Option Value} {base : Heap}
theorem sc__law_heads : FnScope ["_law_pail_here", "_law_most", "_law_found", "_law_left", "_law_k"] ["_law_pail_here", "_law_most"] (defScope (topS 43)) := ⟨rfl, rfl, rfl, by decide +kernel, rfl, by decide +kernel, by decide +kernel⟩
theorem ok__law_heads (D : DefAt K mg "_law_heads" (topS 43) ["_law_pail_here", "_law_most"]) (T : Txt mg) (c_law_scoop : C8.Cal P w K mg base 1 "_law_scoop" SpScoop []) : C8.Cal P w K mg base 2 "_law_heads" SpHeads [] := by
  refine D.cal sc__law_heads (fun vs H Q E h => by obtain ⟨p, n, rfl, _⟩ := h; rfl) fun f cdv A outer s H vs Q E hr h => ?_
  obtain ⟨p, n, rfl, hp, hn, k⟩ := h
  have nd := sc__law_heads.nd
  refine ⟨_, (pss_cons (ps_par (i := 2) (j := 3) (by rfl) nd rfl rfl (by decide) rfl rfl (pa_cons (pe_lst pa_nil) (pa_cons (pe_lst (pa_cons pe_str (pa_cons pe_str (pa_cons pe_str (pa_cons pe_str (pa_cons pe_str (pa_cons pe_str pa_nil))))))) pa_nil)) (by rfl))
      (pss_cons (ps_for PassesOwn.never rfl (pi_range1 rfl T.range_ (pa_cons (pe_op opAdd pe_int (C8.pe_c c_law_scoop hr (by decide) rfl (pa_cons (pv 0) (pa_cons (pv 1) pa_nil)))) pa_nil)) (pg_name (i := 4) nd rfl (.inl rfl)) (pss_one (ps_expr (pe_bm PySem.F.plainAttrs_list PySem.F.slot_list_append PySem.F.type_list_append mt_append (pv 2) (pa_cons (pe_bm PySem.F.plainAttrs_list PySem.F.slot_list_pop PySem.F.type_list_pop mt_popAt (pv 3) (pa_cons (C8.pe_c c_law_scoop hr (by decide) rfl (pa_cons (pv 0) (pa_cons (pe_callB call_lenA (by rfl) T.len_ (by decide +kernel) (pa_cons (pv 3) pa_nil)) pa_nil))) pa_nil)) pa_nil)))))
      (pss_one (ps_ret (pe_callTy call_tuple_of (by rfl) T.tuple_ (by decide +kernel) (pa_cons (pv 2) pa_nil)))))), ?_⟩
  refine ⟨Nat.zero_le _, fun lF hF => ?_⟩
  have pF := hp.keep (same_new (o := .lst []) hF)
  refine ⟨len_le (n := 6) rfl (by decide), fun lL hL => ?_⟩
  walk_at "e"
  walk_at "e"
  walk_at "e"
  refine ⟨p, 3, n, rfl, by decide, by decide, (pF.keep (same_new hL)), by omega, fun r H1 r0 r1 e1 hp1 => ?_⟩
  refine .inl ⟨_, _, rfl, rfl, ?_⟩
  refine ⟨_, rfl, by omega, by omega, ?_⟩
  have nF : lF ≠ p := hp.has.ne hF
  have nL : lL ≠ p := pF.has.ne hL
  have hL' : H lL = none := upd_new hL
  have nFL : lF ≠ lL := fun z => by
    rw [← z, upd_same] at hL
    cases hL
  have e0 : ExB p H H1 := ((ExB.new hF).trans (ExB.new hL)).trans e1
  refine for_range (fun i σ H' => ∃ u names rest, σ = [some (.ref p), some (.int 3), some (.ref lF), some (.ref lL), u] ∧ ExB p H H' ∧ PailAt H' p (n + 1 + i) ∧ H' lF = some (.lst (names.map V.str)) ∧ H' lL = some (.lst (rest.map V.str)) ∧ names.length = i ∧ Pool 6 names rest)
    ⟨none, [], ["dry", "wet", "a", "z", "sweetest", "none"], rfl, e0, hp1, e1 _ _ nF (by rw [upd_ne nFL]; exact upd_same), e1 _ _ nL upd_same, rfl, ⟨rfl, by decide, by decide⟩⟩ ?_ ?_
  · rintro i σ H' hi ⟨u, names, rest, rfl, eb, hp', hf, hl, hlen, hP⟩
    walk_at "e"
    refine ⟨.inl ⟨rfl, _, SqL.of hf⟩, ?_⟩
    walk_at "e"
    refine ⟨.inl ⟨rfl, _, SqL.of hl⟩, ?_⟩
    walk_at "e"
    walk_at "e"
    refine .inl ⟨lL, _, rfl, .inl (SqL.of hl), ?_⟩
    have hP' := hP.len
    have zr : (rest.map V.str).length = rest.length := List.length_map ..
    refine ⟨p, ((rest.map V.str).length : Nat), n + 1 + i, rfl, by omega, by omega, hp', by omega, fun r' H2 r0' r1' e2 hp2 => ?_⟩
    obtain ⟨j, rfl⟩ : ∃ j : Nat, r' = (j : Nat) := ⟨r'.toNat, by omega⟩
    have hj : j < rest.length := by omega
    have gj : rest[j]? = some rest[j] := List.getElem?_eq_getElem hj
    refine ⟨lL, rest.map V.str, _, j, .str rest[j], rfl, rfl, e2 _ _ nL hl, by omega, by omega, ixn (by omega), by rw [List.getElem?_map, gj]; rfl, ?_⟩
    refine ⟨lF, names.map V.str, _, rfl, rfl, by rw [upd_ne nFL]; exact e2 _ _ nF hf, ?_, ?_⟩
    · rw [List.length_map, hlen]
      exact Nat.lt_of_lt_of_le (by omega : i < 1000) (by decide)
    · have hPs := hP.step gj
      refine ⟨_, names ++ [rest[j]], rest.eraseIdx j, rfl, ((eb.trans e2).putN hL').putN hF, ?_, ?_, ?_, by rw [List.length_append, hlen]; rfl, hPs⟩
      · obtain ⟨a, b, c, c0, c1, c2⟩ := hp2
        exact ⟨a, b, c, c0, by omega, by rw [upd_ne nF.symm, upd_ne nL.symm]; exact c2⟩
      · rw [upd_same, List.map_append]
        rfl
      · rw [upd_ne nFL.symm, upd_same, erase_map]
  · rintro σ H' ⟨u, names, rest, rfl, eb, hp', hf, hl, hlen, hP⟩
    walk_at "e"
    refine ⟨lF, _, rfl, .inl ⟨SqL.of hf, fun t ht => ?_⟩⟩
    have hnm : ∀ x ∈ names, isName (.str x) = true := fun x hx => hP.nm x (List.mem_append_left _ hx)
    have z : (names.map V.str).length ≤ 1000 := by
      rw [List.length_map]
      omega
    refine k (.ref t) names _ (by omega) (by omega) (List.nodup_append.mp hP.nd).1 hnm (.tup (hp'.has.ne ht) upd_same z (rp_names hnm)) (eb.trans (ExB.new ht)) ((hp'.keep (same_new ht)).more (by omega))
end
end Cs
set_option maxHeartbeats 4000000
namespace Cs
open PySem L2 PyProof.Rows
theorem PailAt.put {H : Hp} {p l : Addr} {n : Nat} {o : HO} (h : PailAt H p n) (ne : l ≠ p) : PailAt (upd H l o) p n := by
  obtain ⟨a, b, c, h1, h2, h3⟩ := h
  exact ⟨a, b, c, h1, h2, by rw [upd_ne ne.symm]; exact h3⟩
theorem lc_spans {p : Addr} {n m g : Nat} {tl : TA} {te : TE} {vs : List Nat} {σ : L2.St} {H1 : Hp} {Q : VK} (hp : PailAt H1 p n) (hn : n + 3 * m < 1000000) (hm : m ≤ 8)
    (hw : ∀ x, wipe ((wipe σ vs).set g (some x)) vs = wipe σ vs) (ht : ∀ R, R [.int (m : Nat)] H1 → tl σ H1 R)
    (hs : ∀ (x : V) (H : Hp) (R : VK) (q : Nat), PailAt H p q → q < 1000000 → (∀ (v : V) (d : PyData) (H' : Hp), isSpan (-10000) 10000 d = true → RpT p H' v d → ExB p H H' → PailAt H' p (q + 3) → R v H') → te ((wipe σ vs).set g (some x)) H R)
    (k : ∀ D xs ds H', H1 D = none → H' D = some (.lst xs) → RpTA p H' xs ds → ds.length = m → (∀ d ∈ ds, isSpan (-10000) 10000 d = true) → ExB p H1 H' → PailAt H' p (n + 3 * m) → Q (.ref D) H') :
    tLc (iRng1 tl) (gName g) tYes te vs σ H1 Q := by
  refine ht _ ⟨_, rfl, by omega, by omega, fun D hD => ?_⟩
  have nD : D ≠ p := hp.has.ne hD
  refine lc_range (fun i H => ∃ xs ds, H D = some (.lst xs) ∧ RpTA p H xs ds ∧ ds.length = i ∧ (∀ d ∈ ds, isSpan (-10000) 10000 d = true) ∧ ExB p H1 H ∧ PailAt H p (n + 3 * i))
    ⟨[], [], upd_same, .nil, rfl, (fun _ h => by cases h), ExB.new hD, hp.put nD⟩ (fun i H hi ⟨xs, ds, h1, h2, h3, h4, h5, h6⟩ => ?_) (fun H ⟨xs, ds, h1, h2, h3, h4, h5, h6⟩ => k D xs ds H hD h1 h2 h3 h4 h5 h6)
  · refine ⟨hw _, ?_⟩
    have hi2 : i < m := hi
    refine hs _ H _ (n + 3 * i) h6 (by omega) fun v d H' s1 s2 s3 s4 => ?_
    have lx := h2.length
    have hD' := s3 D _ nD h1
    refine ⟨xs, hD', Nat.lt_of_lt_of_le (by omega : xs.length < 1000) (by decide), xs ++ [v], ds ++ [d], upd_same, ?_, by rw [List.length_append, h3]; rfl, fun d' hd' => ?_, (h5.trans s3).putN hD, ?_⟩
    · exact RpTA.append ((h2.keep (ExT.of s3)).keep (ExT.put hD')) (.cons (s2.keep (ExT.put hD')) .nil)
    · rcases List.mem_append.mp hd' with h | h
      · exact h4 d' h
      · rw [List.mem_singleton.mp h]
        exact s1
    · exact (s4.more (by omega)).put nD
/-- rows with these names, stretches for so many columns -/
def lineOk (m : Nat) (d : PyData) (x : Str) : Prop := ∃ ss, d = .tuple [.str x, .tuple ss] ∧ ss.length = m ∧ ∀ s ∈ ss, isSpan (-10000) 10000 s = true
inductive Lines (m : Nat) : List PyData → List Str → Prop
  | nil : Lines m [] []
  | snoc {ds : List PyData} {xs : List Str} {d : PyData} {x : Str} (h : Lines m ds xs) (l : lineOk m d x) : Lines m (ds ++ [d]) (xs ++ [x])
theorem Lines.len {m : Nat} {ds : List PyData} {xs : List Str} (h : Lines m ds xs) : ds.length = xs.length := by
  induction h with
  | nil => rfl
  | snoc h l ih => rw [List.length_append, List.length_append, ih]; rfl
def SpLines : Sp := fun vs H Q _ => ∃ (p : Addr) (n m : Nat), vs = [.ref p, .int (m : Nat), .int 4] ∧ m ≤ 3 ∧ PailAt H p n ∧ n < 900000 ∧
  ∀ (v : V) (ds : List PyData) (names : List Str) (H' : Hp), 1 ≤ names.length → names.length ≤ 4 → names.Nodup → (∀ x ∈ names, isName (.str x) = true) → Lines m ds names → RpT p H' v (.tuple ds) → ExB p H H' → PailAt H' p (n + 41) → Q v H'
section
variable {P : Program} {w : World} {K : PySem.W.Frag} {mg : Str → Option Value} {base : Heap}
theorem sc__law_lines : FnScope ["_law_pail_here", "_law_many", "_law_most", "_law_found", "_law_left", "_law_k", "_law_name_here", "_law_j"] ["_law_pail_here", "_law_many", "_law_most"] (defScope (topS 44)) := ⟨rfl, rfl, rfl, by decide +kernel, rfl, by decide +kernel, by decide +kernel⟩
theorem ok__law_lines (D : DefAt K mg "_law_lines" (topS 44) ["_law_pail_here", "_law_many", "_law_most"]) (T : Txt mg) (c_law_scoop : C8.Cal P w K mg base 1 "_law_scoop" SpScoop []) (c_law_stretch : C8.Cal P w K mg base 3 "_law_stretch" SpStretch []) :
    C8.Cal P w K mg base 4 "_law_lines" SpLines [] := by
  refine D.cal sc__law_lines (fun vs H Q E h => by obtain ⟨p, n, m, rfl, _⟩ := h; rfl) fun f cdv A outer s H vs Q E hr h => ?_
  obtain ⟨p, n, m, rfl, hm, hp, hn, k⟩ := h
  have nd := sc__law_lines.nd
  refine ⟨_, (pss_cons (ps_par (i := 3) (j := 4) (by rfl) nd rfl rfl (by decide) rfl rfl (pa_cons (pe_lst pa_nil) (pa_cons (pe_lst (pa_cons pe_str (pa_cons pe_str (pa_cons pe_str (pa_cons pe_str (pa_cons pe_str (pa_cons pe_str (pa_cons pe_str (pa_cons pe_str (pa_cons pe_str pa_nil)))))))))) pa_nil)) (by rfl))
      (pss_cons (ps_for PassesOwn.never rfl (pi_range1 rfl T.range_ (pa_cons (pe_op opAdd pe_int (C8.pe_c c_law_scoop hr (by decide) rfl (pa_cons (pv 0) (pa_cons (pv 2) pa_nil)))) pa_nil)) (pg_name (i := 5) nd rfl (.inl rfl)) (pss_cons (ps_set (i := 6) nd rfl (.inl rfl) (pe_bm PySem.F.plainAttrs_list PySem.F.slot_list_pop PySem.F.type_list_pop mt_popAt (pv 4) (pa_cons (C8.pe_c c_law_scoop hr (by decide) rfl (pa_cons (pv 0) (pa_cons (pe_callB call_lenA (by rfl) T.len_ (by decide +kernel) (pa_cons (pv 4) pa_nil)) pa_nil))) pa_nil)))
      (pss_one (ps_expr (pe_bm PySem.F.plainAttrs_list PySem.F.slot_list_append PySem.F.type_list_append mt_append (pv 3) (pa_cons (pe_tup (pa_cons (pv 6) (pa_cons (pe_callTy call_tuple_of (by rfl) T.tuple_ (by decide +kernel) (pa_cons (pe_lc (own := [("_law_j", 7)]) rfl nd (pi_range1 rfl T.range_ (pa_cons (pv 1) pa_nil)) (blkOk_by (N := ["_law_pail_here", "_law_many", "_law_most", "_law_found", "_law_left", "_law_k", "_law_name_here", "_law_j"]) (sc := defScope (topS 44)) (by decide +kernel)) (fun _ _ _ _ _ => (pg_name (i := 7) nd rfl (.inl rfl))) (fun _ _ _ _ _ => pts_nil) (fun _ _ _ _ _ => (C8.pe_c c_law_stretch hr (by decide) rfl (pa_cons (pv 0) pa_nil)))) pa_nil)) pa_nil))) pa_nil))))))
      (pss_one (ps_ret (pe_callTy call_tuple_of (by rfl) T.tuple_ (by decide +kernel) (pa_cons (pv 3) pa_nil)))))), ?_⟩
  refine ⟨Nat.zero_le _, fun lF hF => ?_⟩
  have pF := hp.keep (same_new (o := .lst []) hF)
  refine ⟨len_le (n := 9) rfl (by decide), fun lL hL => ?_⟩
  walk_at "e"
  walk_at "e"
  walk_at "e"
  refine ⟨p, 4, n, rfl, by decide, by decide, (pF.keep (same_new hL)), by omega, fun r H1 r0 r1 e1 hp1 => ?_⟩
  refine .inl ⟨_, _, rfl, rfl, ?_⟩
  refine ⟨_, rfl, by omega, by omega, ?_⟩
  have nF : lF ≠ p := hp.has.ne hF
  have nL : lL ≠ p := pF.has.ne hL
  have hL' : H lL = none := upd_new hL
  have nFL : lF ≠ lL := fun z => by
    rw [← z, upd_same] at hL
    cases hL
  have e0 : ExB p H H1 := ((ExB.new hF).trans (ExB.new hL)).trans e1
  refine for_range (fun i σ H' => ∃ u1 u2 xs ds names rest, σ = [some (.ref p), some (.int (m : Nat)), some (.int 4), some (.ref lF), some (.ref lL), u1, u2, none] ∧ ExB p H H' ∧ PailAt H' p (n + 1 + 10 * i) ∧ H' lF = some (.lst xs) ∧ RpTA p H' xs ds ∧ Lines m ds names ∧
      H' lL = some (.lst (rest.map V.str)) ∧ names.length = i ∧ Pool 9 names rest)
    ⟨none, none, [], [], [], ["rye", "oat", "pea", "a", "dry", "beanbean", "yes", "k", "zz"], rfl, e0, hp1, e1 _ _ nF (by rw [upd_ne nFL]; exact upd_same), .nil, .nil, e1 _ _ nL upd_same, rfl, ⟨rfl, by decide, by decide⟩⟩ ?_ ?_
  · rintro i σ H' hi ⟨u1, u2, xs, ds, names, rest, rfl, eb, hp', hf, rx, hLn, hl, hlen, hP⟩
    walk_at "e"
    refine ⟨.inl ⟨rfl, _, SqL.of hl⟩, ?_⟩
    walk_at "e"
    walk_at "e"
    refine .inl ⟨lL, _, rfl, .inl (SqL.of hl), ?_⟩
    have hP' := hP.len
    have zr : (rest.map V.str).length = rest.length := List.length_map ..
    refine ⟨p, ((rest.map V.str).length : Nat), n + 1 + 10 * i, rfl, by omega, by omega, hp', by omega, fun r' H2 r0' r1' e2 hp2 => ?_⟩
    obtain ⟨j, rfl⟩ : ∃ j : Nat, r' = (j : Nat) := ⟨r'.toNat, by omega⟩
    have hj : j < rest.length := by omega
    have gj : rest[j]? = some rest[j] := List.getElem?_eq_getElem hj
    refine ⟨lL, rest.map V.str, _, j, .str rest[j], rfl, rfl, e2 _ _ nL hl, by omega, by omega, ixn (by omega), by rw [List.getElem?_map, gj]; rfl, ?_⟩
    have hl2 := e2 _ _ nL hl
    have hf2 : upd H2 lL (.lst ((rest.map V.str).eraseIdx j)) lF = some (.lst xs) := by
      rw [upd_ne nFL]
      exact e2 _ _ nF hf
    have rx2 := (rx.keep (ExT.of e2)).keep (ExT.put (o := .lst ((rest.map V.str).eraseIdx j)) hl2)
    have hp3 := hp2.put (o := .lst ((rest.map V.str).eraseIdx j)) nL
    have hl3 : upd H2 lL (.lst ((rest.map V.str).eraseIdx j)) lL = some (.lst ((rest.eraseIdx j).map V.str)) := by rw [upd_same, erase_map]
    have eb3 := (eb.trans e2).putN (o := .lst ((rest.map V.str).eraseIdx j)) hL'
    generalize upd H2 lL (.lst ((rest.map V.str).eraseIdx j)) = H3 at *
    walk_at "e"
    refine ⟨.inl ⟨rfl, _, SqL.of hf2⟩, ?_⟩
    walk_at "e"
    dsimp only [tCons, tCB]
    refine lc_spans (p := p) (n := n + 1 + 10 * i + 1) (m := m) hp3 (by omega) (by omega) ?_ ?_ ?_ ?_
    · exact fun _ => rfl
    · exact fun R hR => ⟨_, rfl, hR⟩
    · exact fun x H R q h1 h2 h3 => ⟨_, rfl, p, q, rfl, h1, h2, h3⟩
    intro D' ys ss H4 hD' hys rss hss hall e4 hp4
    refine ⟨D', _, rfl, .inl ⟨SqL.of hys, fun t1 ht1 => ?_⟩⟩
    refine ⟨len_le (n := 2) rfl (by decide), fun t2 ht2 => ?_⟩
    have n1 : t1 ≠ p := hp4.has.ne ht1
    have s1 : Same H4 (upd H4 t1 (.tup ys)) := same_new ht1
    have n2 : t2 ≠ p := (hp4.keep s1).has.ne ht2
    have r1 : RpT p (upd H4 t1 (.tup ys)) (.ref t1) (.tuple ss) := .tup n1 upd_same (by rw [rss.length, hss]; omega) (rss.keep (ExT.of (ExB.of s1)))
    have at1 : upd H4 t1 (.tup ys) t1 = some (.tup ys) := upd_same
    generalize upd H4 t1 (.tup ys) = H5 at *
    have s2 : Same H5 (upd H5 t2 (.tup [.str rest[j], .ref t1])) := same_new ht2
    have hPs := hP.step gj
    have hnm := hPs.nm rest[j] (by simp)
    have r2 : RpT p (upd H5 t2 (.tup [.str rest[j], .ref t1])) (.ref t2) (.tuple [.str rest[j], .tuple ss]) :=
      .tup n2 upd_same (by exact Nat.le_of_ble_eq_true rfl) (.cons (.str _ (Nat.le_trans (name_len hnm) (by decide))) (.cons (r1.keep (ExT.of (ExB.of s2))) .nil))
    generalize upd H5 t2 (.tup [.str rest[j], .ref t1]) = H6 at *
    have e6 : ExB p H3 H6 := e4.trans ((ExB.of s1).trans (ExB.of s2))
    have hf6 := e6 _ _ nF hf2
    have hl6 := e6 _ _ nL hl3
    have rx6 := rx2.keep (ExT.of e6)
    refine ⟨lF, xs, _, rfl, rfl, hf6, ?_, ?_⟩
    · rw [rx.length, hLn.len, hlen]
      exact Nat.lt_of_lt_of_le (by omega : i < 1000) (by decide)
    · refine ⟨_, _, xs ++ [.ref t2], ds ++ [.tuple [.str rest[j], .tuple ss]], names ++ [rest[j]], rest.eraseIdx j, rfl, (eb3.trans e6).putN hF, ((((hp4.keep s1).keep s2).more (by omega)).put nF), upd_same, ?_, hLn.snoc ⟨ss, rfl, hss, hall⟩, ?_, by rw [List.length_append, hlen]; rfl, hPs⟩
      · exact RpTA.append (rx6.keep (ExT.put hf6)) (.cons (r2.keep (ExT.put hf6)) .nil)
      · rw [upd_ne nFL.symm]
        exact hl6
  · rintro σ H' ⟨u1, u2, xs, ds, names, rest, rfl, eb, hp', hf, rx, hLn, hl, hlen, hP⟩
    walk_at "e"
    refine ⟨lF, _, rfl, .inl ⟨SqL.of hf, fun t ht => ?_⟩⟩
    have hnm : ∀ x ∈ names, isName (.str x) = true := fun x hx => hP.nm x (List.mem_append_left _ hx)
    have z : xs.length ≤ 1000 := by
      rw [rx.length, hLn.len]
      omega
    refine k (.ref t) ds names _ (by omega) (by omega) (List.nodup_append.mp hP.nd).1 hnm hLn (.tup (hp'.has.ne ht) upd_same z (rx.keep (ExT.of (ExB.new ht)))) (eb.trans (ExB.new ht)) ((hp'.keep (same_new ht)).more (by omega))
end
end Cs
set_option maxHeartbeats 4000000
namespace Cs
open PySem L2 PyProof.Rows
theorem cutD_to {ds : List PyData} {k : Nat} (h : k ≤ ds.length) : cutD ds none (some ((k : Nat) : Int)) = ds.take k := by
  unfold cutD
  rw [HT.sIx_none, HT.sIx_nat, List.drop_zero, Nat.sub_zero, Nat.min_eq_left h]
theorem cutD_from {ds : List PyData} {k : Nat} (h : k ≤ ds.length) : cutD ds (some ((k : Nat) : Int)) none = ds.drop k := by
  unfold cutD
  rw [HT.sIx_none, HT.sIx_nat, Nat.min_eq_left h, List.take_of_length_le (by rw [List.length_drop]; exact Nat.le_refl _)]
theorem cutD_sub {ds : List PyData} {i j : Option Int} {d : PyData} (h : d ∈ cutD ds i j) : d ∈ ds := List.mem_of_mem_drop (List.mem_of_mem_take h)
theorem cutD_len {ds : List PyData} {i j : Option Int} : (cutD ds i j).length ≤ ds.length := by
  unfold cutD
  rw [List.length_take, List.length_drop]
  omega
theorem x_slT {f : List PyData → Prop} {fl fh : Option Int → Prop} {ds : List PyData} {i j : Option Int} (h : f ds) (h1 : fl i) (h2 : fh j) (hl : (cutD ds i j).length ≤ 1000) :
    ∃ es a b, f es ∧ fl a ∧ fh b ∧ (cutD es a b).length ≤ 1000 ∧ PyData.tuple (cutD ds i j) = .tuple (cutD es a b) := ⟨ds, i, j, h, h1, h2, hl, rfl⟩
theorem x_slL {f : List PyData → Prop} {fl fh : Option Int → Prop} {ds : List PyData} {i j : Option Int} (h : f ds) (h1 : fl i) (h2 : fh j) (hl : (cutD ds i j).length ≤ 1000) :
    ∃ es a b, f es ∧ fl a ∧ fh b ∧ (cutD es a b).length ≤ 1000 ∧ PyData.list (cutD ds i j) = .list (cutD es a b) := ⟨ds, i, j, h, h1, h2, hl, rfl⟩
theorem rep_len {ds : List PyData} {n m : Nat} (h : ds.length ≤ m) : (List.replicate n ds).flatten.length ≤ n * m := by
  rw [List.length_flatten, List.map_replicate, List.sum_replicate_nat]
  exact Nat.mul_le_mul_left n h
theorem rep_sub {ds : List PyData} {n : Nat} {d : PyData} (h : d ∈ (List.replicate n ds).flatten) : d ∈ ds := by
  obtain ⟨l, h1, h2⟩ := List.mem_flatten.mp h
  rw [List.eq_of_mem_replicate h1] at h2
  exact h2
theorem colsBad_run : ∀ {names : List Str} {i : Nat} {seen : List Str} {rest : List PyData}, i + names.length ≤ 4 → (seen ++ names).Nodup → (∀ x ∈ names, isName (.str x) = true) →
    colsBad i seen (names.map PyData.str ++ rest) = colsBad (i + names.length) (seen ++ names) rest
  | [], i, seen, rest, _, _, _ => by simp
  | x :: names, i, seen, rest, h4, nd, nm => by
    have hx : seen.contains x = false := by
      rw [List.contains_eq_mem, decide_eq_false_iff_not]
      intro z
      exact (List.nodup_append.mp nd).2.2 x z x List.mem_cons_self rfl
    rw [List.length_cons] at h4
    rw [List.map_cons, List.cons_append, colsBad_ok (by omega) (nm x List.mem_cons_self) hx, colsBad_run (by omega) (by rw [List.append_assoc]; exact nd) (fun y hy => nm y (List.mem_cons_of_mem _ hy)), List.append_assoc, List.length_cons]
    rw [show i + 1 + names.length = i + (names.length + 1) by omega]
    rfl
theorem colsErr_bad {names : List Str} {k : Nat} {bad : PyData} (hk : k ≤ names.length) (h3 : names.length ≤ 3) (nd : names.Nodup) (nm : ∀ x ∈ names, isName (.str x) = true)
    (hb : isName bad = false ∨ ∃ y ∈ names, y ∈ names.take k ∧ bad = .str y) : colsErr (.tuple ((names.map PyData.str).take k ++ [bad] ++ (names.map PyData.str).drop k)) = some (some k) := by
  have e : colsBad 0 [] ((names.map PyData.str).take k ++ [bad] ++ (names.map PyData.str).drop k) = some k := by
    rw [List.append_assoc, ← List.map_take, colsBad_run (by rw [List.length_take]; omega) (by rw [List.nil_append]; exact (List.take_sublist k names).nodup nd) (fun x hx => nm x (List.mem_of_mem_take hx)), List.length_take, Nat.min_eq_left hk, Nat.zero_add, List.nil_append]
    rcases hb with hb | ⟨y, _, hy, rfl⟩
    · exact colsBad_bad hb
    · exact colsBad_in (by rw [List.contains_eq_mem, decide_eq_true_eq]; exact hy)
  cases hd : (names.map PyData.str).take k ++ [bad] ++ (names.map PyData.str).drop k with
  | nil => simp at hd
  | cons z r =>
    rw [hd] at e
    show (colsBad 0 [] (z :: r)).map some = _
    rw [e]
    rfl
local macro_rules | `(tactic| walk_at "pd") => `(tactic| repeat' first
  | exact Nat.le_of_ble_eq_true rfl
  | rfl
  | (apply Cs.x_var; (focus rfl); first | exact Cs.Rp.int _ | walk_at "rp")
  | apply Cs.x_tup
  | apply Cs.x_lst
  | apply Cs.x_cons
  | apply Cs.x_neg
  | exact Cs.x_add
  | exact Cs.x_sub
  | apply Cs.x_cat
  | apply Cs.x_catT
  | apply Cs.x_rep
  | apply Cs.x_bin
  | apply Cs.x_slT
  | apply Cs.x_slL
  | apply Cs.x_po
  | apply Cs.x_ix
  | apply Cs.x_list
  | apply Cs.x_str
  | (refine Nat.le_trans Cs.cutD_len ?_)
  | (focus (simp only [List.length_map, List.length_append, List.length_cons, List.length_nil]; omega))
  | fail "pd")
local macro_rules | `(tactic| walk_at "goD0") => `(tactic| try dsimp only [gName, tSeq, tAsg, tRet, tLst, tCons, tOp, tTup, tCall])
def SpBadH : Sp := fun vs H Q _ => ∃ (p : Addr) (n : Nat) (v : V) (names : List Str), vs = [.ref p, v] ∧ PailAt H p n ∧ n < 1000000 ∧ 1 ≤ names.length ∧ names.length ≤ 3 ∧ names.Nodup ∧ (∀ x ∈ names, isName (.str x) = true) ∧ RpT p H v (.tuple (names.map PyData.str)) ∧
  ∀ (l : Addr) (u : V) (ds : List PyData) (k : Nat) (H' : Hp), H' l = some (.lst [u, .int (k : Nat)]) → Rp p H' u (.tuple ds) → colsErr (.tuple ds) = some (some k) → k ≤ 3 → ExB p H H' → PailAt H' p (n + 2) → Q (.ref l) H'
section
variable {P : Program} {w : World} {K : PySem.W.Frag} {mg : Str → Option Value} {base : Heap}
theorem sc__law_bad_heads : FnScope ["_law_pail_here", "_law_heads_here", "_law_at", "_law_wrong"] ["_law_pail_here", "_law_heads_here"] (defScope (topS 47)) := ⟨rfl, rfl, rfl, by decide +kernel, rfl, by decide +kernel, by decide +kernel⟩
theorem ok__law_bad_heads (D : DefAt K mg "_law_bad_heads" (topS 47) ["_law_pail_here", "_law_heads_here"]) (T : Txt mg) (c_law_scoop : C8.Cal P w K mg base 1 "_law_scoop" SpScoop []) (c_law_any : C8.Cal P w K mg base 2 "_law_any" SpAny []) :
    C8.Cal P w K mg base 3 "_law_bad_heads" SpBadH [] := by
  refine D.cal sc__law_bad_heads (fun vs H Q E h => by obtain ⟨p, n, v, names, rfl, _⟩ := h; rfl) fun f cdv A outer s H vs Q E hr h => ?_
  obtain ⟨p, n, v, names, rfl, hp, hn, h1, h3, hnd, hnm, rv, k⟩ := h
  have nd := sc__law_bad_heads.nd
  have hu64 := hr.units
  refine ⟨_, (pss_cons (ps_set (i := 2) nd rfl (.inl rfl) (C8.pe_c c_law_scoop hr (by decide) rfl (pa_cons (pv 0) (pa_cons (pe_op opAdd (pe_callB call_lenA (by rfl) T.len_ (by decide +kernel) (pa_cons (pv 1) pa_nil)) pe_int) pa_nil))))
      (pss_cons (ps_set (i := 3) nd rfl (.inl rfl) (PD.pe (p := p) (pd_cat (pd_lst' (pds_cons (pd_c pe_non (fun _ => .non)) (pds_cons (pd_c pe_str (fun _ => .str _ (by decide))) (pds_cons (pd_c pe_str (fun _ => .str _ (by decide))) (pds_cons (pd_c pe_str (fun _ => .str _ (by decide))) (pds_cons (pd_c pe_str (fun _ => .str _ (by decide))) (pds_cons (pd_c pe_int (fun _ => .int _)) (pds_cons (pd_tup (pds_cons (pd_c pe_str (fun _ => .str _ (by decide))) pds_nil)) (pds_cons (pd_lst' (pds_cons (pd_c pe_str (fun _ => .str _ (by decide))) pds_nil)) (pds_cons (pd_c pe_str (fun _ => .str _ (by decide))) pds_nil)))))))))) (pd_rep (pd_slL (pd_list (pd_slT (pd_var (i := 1) (pv 1) (fun _ _ _ h => h)) pdo_none (pdo_some (pd_var (i := 2) (pv 2) (fun _ _ _ h => h)))) (by rfl) T.list_) (pdo_some (pd_neg (pd_c pe_int (fun _ => .int _)))) pdo_none) (pd_c pe_int (fun _ => .int _))))))
      (pss_one (ps_ret (pe_lst (pa_cons (pe_op op_catA (pe_op op_catA (PD.pe (p := p) (pd_slT (pd_var (i := 1) (pv 1) (fun _ _ _ h => h)) pdo_none (pdo_some (pd_var (i := 2) (pv 2) (fun _ _ _ h => h))))) (pe_tup (pa_cons (C8.pe_c c_law_any hr (by decide) rfl (pa_cons (pv 0) (pa_cons (pv 3) pa_nil))) pa_nil))) (PD.pe (p := p) (pd_slT (pd_var (i := 1) (pv 1) (fun _ _ _ h => h)) (pdo_some (pd_var (i := 2) (pv 2) (fun _ _ _ h => h))) pdo_none))) (pa_cons (pv 2) pa_nil))))))), ?_⟩
  have rv' := rv.rp
  obtain ⟨a, xs, rfl, na, ha, za, ra⟩ := rv'.tup_inv
  have lx : xs.length = names.length := by rw [ra.length, List.length_map]
  walk_at "es"
  refine ⟨p, ((xs.length : Nat) : Int) + 1, n, rfl, by omega, by omega, hp, by omega, fun r H1 r0 r1 e1 hp1 => ?_⟩
  obtain ⟨i, rfl⟩ : ∃ j : Nat, r = (j : Nat) := ⟨r.toNat, by omega⟩
  have hi : i ≤ names.length := by omega
  have rv1 : Rp p H1 (.ref a) (.tuple (names.map PyData.str)) := .tup na (e1 _ _ na ha) za (ra.keep e1)
  walk_at "goD0"
  apply tdat hp1.has
  · walk_at "pd"
    · have z := cutD_len (ds := cutD (names.map PyData.str) none (some ((i : Nat) : Int))) (i := some (-1)) (j := none)
      have z2 := cutD_len (ds := names.map PyData.str) (i := none) (j := some ((i : Nat) : Int))
      rw [List.length_map] at z2
      exact Nat.le_trans (Nat.mul_le_mul_right _ (show _ ≤ 3 by omega)) (by decide)
    · have z := cutD_len (ds := cutD (names.map PyData.str) none (some ((i : Nat) : Int))) (i := some (-1)) (j := none)
      have z2 := cutD_len (ds := names.map PyData.str) (i := none) (j := some ((i : Nat) : Int))
      rw [List.length_map] at z2
      have z3 := rep_len (n := 3) (Nat.le_refl (cutD (cutD (names.map PyData.str) none (some ((i : Nat) : Int))) (some (-1)) none).length)
      simp only [List.length_cons, List.length_nil]
      omega
  intro v2 H2 s2 r2
  have hp2 := hp1.keep s2
  have rv2 := rv1.keep (ExB.of s2)
  walk_at "goD0"
  apply tdat hp2.has
  · walk_at "pd"
  intro v3 H3 s3 r3
  walk_at "e"
  walk_at "e"
  refine ⟨p, v2, _, n + 1, rfl, r2.keep (ExB.of s3), (by simp only [List.length_append, List.length_cons]; omega), hp2.keep s3, by omega, fun u d H4 hd rd e4 hp4 => ?_⟩
  refine ⟨len_le (n := 1) rfl (by decide), fun t ht => ?_⟩
  have s5 : Same H4 (upd H4 t (.tup [u])) := same_new ht
  have r5 : Rp p (upd H4 t (.tup [u])) (.ref t) (.tuple [d]) := .tup (hp4.has.ne ht) upd_same (by exact Nat.le_of_ble_eq_true rfl) (.cons (rd.keep (ExB.of s5)) .nil)
  have hp5 := hp4.keep s5
  have e5 : ExB p H2 (upd H4 t (.tup [u])) := (ExB.of s3).trans (e4.trans (ExB.of s5))
  have r35 := (r3.keep e4).keep (ExB.of s5)
  generalize upd H4 t (.tup [u]) = H5 at *
  have rv5 := rv2.keep e5
  have cl : (cutD (names.map PyData.str) none (some ((i : Nat) : Int))).length ≤ 3 := Nat.le_trans cutD_len (by rw [List.length_map]; exact h3)
  refine w_catT hp5.has r35 r5 ⟨_, _, rfl, rfl, (by simp only [List.length_cons, List.length_nil]; omega), rfl⟩ fun v6 H6 s6 r6 => ?_
  have hp6 := hp5.keep s6
  have rv6 := rv5.keep (ExB.of s6)
  apply tdat hp6.has
  · walk_at "pd"
  intro v7 H7 s7 r7
  have hp7 := hp6.keep s7
  have cl2 : (cutD (names.map PyData.str) (some ((i : Nat) : Int)) none).length ≤ 3 := Nat.le_trans cutD_len (by rw [List.length_map]; exact h3)
  refine w_catT hp7.has (r6.keep (ExB.of s7)) r7 ⟨_, _, rfl, rfl, (by simp only [List.length_append, List.length_cons, List.length_nil]; omega), rfl⟩ fun v8 H8 s8 r8 => ?_
  have hp8 := hp7.keep s8
  walk_at "e"
  refine ⟨len_le (n := 2) rfl (by decide), fun l hl => ?_⟩
  have s9 : Same H8 (upd H8 l (.lst [v8, .int (i : Nat)])) := same_new hl
  have lm : (names.map PyData.str).length = names.length := List.length_map ..
  refine k l v8 _ i _ upd_same (r8.keep (ExB.of s9)) ?_ (by omega) (e1.trans ((ExB.of s2).trans (e5.trans ((ExB.of s6).trans ((ExB.of s7).trans ((ExB.of s8).trans (ExB.of s9))))))) (hp8.keep s9)
  rw [cutD_to (by omega), cutD_from (by omega)]
  refine colsErr_bad hi h3 hnd hnm ?_
  rcases List.mem_append.mp hd with h | h
  · left
    simp only [List.mem_cons, List.not_mem_nil, or_false] at h
    rcases h with rfl | rfl | rfl | rfl | rfl | rfl | rfl | rfl | rfl <;> first | rfl | decide +kernel
  · right
    have h2 := cutD_sub (rep_sub h)
    rw [cutD_to (by omega), ← List.map_take] at h2
    obtain ⟨y, hy, rfl⟩ := List.mem_map.mp h2
    exact ⟨y, List.mem_of_mem_take hy, hy, rfl⟩
end
end Cs
set_option maxHeartbeats 4000000
namespace Cs
open PySem L2 PyProof.Rows
theorem Lines.take {m : Nat} {ds : List PyData} {xs : List Str} (h : Lines m ds xs) : ∀ k, Lines m (ds.take k) (xs.take k) := by
  induction h with
  | nil => intro k; rw [List.take_nil, List.take_nil]; exact .nil
  | @snoc ds xs d x h l ih =>
    intro k
    have e := h.len
    by_cases hk : k ≤ ds.length
    · rw [List.take_append_of_le_length hk, List.take_append_of_le_length (by omega)]
      exact ih k
    · rw [List.take_of_length_le (by rw [List.length_append]; simp only [List.length_cons, List.length_nil]; omega), List.take_of_length_le (by rw [List.length_append]; simp only [List.length_cons, List.length_nil]; omega)]
      exact .snoc h l
theorem Lines.get {m : Nat} {ds : List PyData} {xs : List Str} (h : Lines m ds xs) : ∀ {k : Nat} {d : PyData}, ds[k]? = some d → ∃ x, xs[k]? = some x ∧ lineOk m d x := by
  induction h with
  | nil => intro k d e; simp at e
  | @snoc ds xs d x h l ih =>
    intro k d' e
    have el := h.len
    by_cases hk : k < ds.length
    · rw [List.getElem?_append_left hk] at e
      rw [List.getElem?_append_left (by omega)]
      exact ih e
    · rw [List.getElem?_append_right (by omega)] at e
      rw [List.getElem?_append_right (by omega), ← el]
      cases hz : k - ds.length with
      | zero =>
        rw [hz] at e
        cases e
        exact ⟨x, rfl, l⟩
      | succ n =>
        rw [hz] at e
        simp at e
theorem line_row {m : Nat} {d : PyData} {x : Str} (h : lineOk m d x) (hx : isName (.str x) = true) : isRow m d = true := by
  obtain ⟨ss, rfl, hl, ha⟩ := h
  show (isName (.str x) && (decide (ss.length = m) && ss.all (isSpan (-10000) 10000))) = true
  rw [hx, decide_eq_true hl, List.all_eq_true.mpr ha]
  rfl
theorem rowsBad_ok {m i : Nat} {seen : List Str} {d : PyData} {x : Str} {r : List PyData} (h8 : i ≠ 8) (h : isRow m d = true) (hn : nameOf d = some x) (hs : seen.contains x = false) : rowsBad m i seen (d :: r) = rowsBad m (i + 1) (seen ++ [x]) r := by
  simp only [rowsBad, h, hn, hs, if_neg h8, if_true, Bool.false_eq_true, if_false]
theorem rowsBad_no {m i : Nat} {seen : List Str} {d : PyData} {r : List PyData} (h : isRow m d = false) : rowsBad m i seen (d :: r) = some i := by
  simp [rowsBad, h]
theorem rowsBad_in {m i : Nat} {seen : List Str} {d : PyData} {x : Str} {r : List PyData} (hn : nameOf d = some x) (hs : seen.contains x = true) : rowsBad m i seen (d :: r) = some i := by
  simp only [rowsBad, hn, hs, if_true, ite_self]
theorem rowsBad_8 {m : Nat} {seen : List Str} {d : PyData} {r : List PyData} : rowsBad m 8 seen (d :: r) = some 8 := by simp [rowsBad]
theorem rowsBad_run {m : Nat} {ds : List PyData} {names : List Str} (h : Lines m ds names) : ∀ {rest : List PyData}, names.length ≤ 8 → names.Nodup → (∀ x ∈ names, isName (.str x) = true) →
    rowsBad m 0 [] (ds ++ rest) = rowsBad m names.length names rest := by
  induction h with
  | nil => intro rest _ _ _; rfl
  | @snoc ds xs d x h l ih =>
    intro rest h8 nd nm
    rw [List.length_append] at h8
    simp only [List.length_cons, List.length_nil] at h8
    have n2 := List.nodup_append.mp nd
    have hx : xs.contains x = false := by
      rw [List.contains_eq_mem, decide_eq_false_iff_not]
      intro z
      exact n2.2.2 x z x List.mem_cons_self rfl
    have hnm := nm x (List.mem_append_right _ List.mem_cons_self)
    rw [List.append_assoc, ih (by omega) n2.1 (fun y hy => nm y (List.mem_append_left _ hy)), List.singleton_append]
    rw [rowsBad_ok (by omega) (line_row l hnm) (by obtain ⟨ss, rfl, _⟩ := l; rfl) hx, List.length_append]
    rfl
/-- a row that is none, or whose name stands ahead -/
def worse (m k : Nat) (names : List Str) (d : PyData) : Prop := isRow m d = false ∨ ∃ y ∈ names.take k, nameOf d = some y
theorem rowsErr_bad {m k : Nat} {ds : List PyData} {names : List Str} {bad : PyData} (h : Lines m ds names) (hk : k ≤ ds.length) (h4 : names.length ≤ 8) (nd : names.Nodup) (nm : ∀ x ∈ names, isName (.str x) = true) (hb : worse m k names bad) :
    rowsErr m (.tuple (ds.take k ++ [bad] ++ ds.drop k)) = some (some k) := by
  have el := h.len
  have e : rowsBad m 0 [] (ds.take k ++ [bad] ++ ds.drop k) = some k := by
    rw [List.append_assoc, rowsBad_run (h.take k) (by rw [List.length_take]; omega) ((List.take_sublist k names).nodup nd) (fun x hx => nm x (List.mem_of_mem_take hx)), List.length_take, Nat.min_eq_left (by omega), List.singleton_append]
    rcases hb with hb | ⟨y, hy, e⟩
    · exact rowsBad_no hb
    · exact rowsBad_in e (by rw [List.contains_eq_mem, decide_eq_true_eq]; exact hy)
  cases hd : ds.take k ++ [bad] ++ ds.drop k with
  | nil => simp at hd
  | cons z r =>
    rw [hd] at e
    show (rowsBad m 0 [] (z :: r)).map some = _
    rw [e]
    rfl
theorem span_lt {lo hi a b : Int} (h : ¬ (lo ≤ a ∧ a ≤ b ∧ b ≤ hi)) : isSpan lo hi (.tuple [.int a, .int b]) = false := by
  simp only [isSpan, Bool.and_eq_false_iff, decide_eq_false_iff_not]
  omega
theorem row_len {m : Nat} {nm : PyData} {ss : List PyData} (h : ss.length ≠ m) : isRow m (.tuple [nm, .tuple ss]) = false := by
  simp [isRow, h]
theorem row_bad {m : Nat} {nm : PyData} {ss : List PyData} {d : PyData} (hd : d ∈ ss) (h : isSpan (-10000) 10000 d = false) : isRow m (.tuple [nm, .tuple ss]) = false := by
  have e : ss.all (isSpan (-10000) 10000) = false := by
    rw [List.all_eq_false]
    exact ⟨d, hd, by rw [h]; exact Bool.false_ne_true⟩
  show (_ && (_ && ss.all _)) = false
  rw [e, Bool.and_false, Bool.and_false]
theorem row_name {m : Nat} {nm s : PyData} (h : isName nm = false) : isRow m (.tuple [nm, s]) = false := by
  unfold isRow
  split
  · rename_i q
    cases q
    rw [h, Bool.false_and]
  · rfl
end Cs
set_option maxHeartbeats 4000000
local macro_rules | `(tactic| walk_at "pd") => `(tactic| repeat' first
  | exact Nat.le_of_ble_eq_true rfl
  | rfl
  | (apply Cs.x_var; (focus rfl); first | exact Cs.Rp.int _ | walk_at "rp")
  | apply Cs.x_tup
  | apply Cs.x_lst
  | apply Cs.x_cons
  | apply Cs.x_neg
  | exact Cs.x_add
  | exact Cs.x_sub
  | apply Cs.x_cat
  | apply Cs.x_catT
  | apply Cs.x_rep
  | apply Cs.x_bin
  | apply Cs.x_slT
  | apply Cs.x_slL
  | apply Cs.x_po
  | apply Cs.x_ix
  | apply Cs.x_list
  | apply Cs.x_str
  | (refine Nat.le_trans Cs.cutD_len ?_)
  | (focus (simp only [List.length_map, List.length_append, List.length_cons, List.length_nil]; omega))
  | fail "pd")
namespace Cs
open PySem L2 PyProof.Rows
theorem atI_last {α : Type} {xs : List α} {x : α} : atI (xs ++ [x]) (-1) = some x := by
  have h : ixN (xs ++ [x]).length (-1) = some xs.length := by
    rw [List.length_append]
    unfold ixN
    simp
    try omega
  unfold atI
  rw [h]
  simp
theorem cutD_init {xs : List PyData} {x : PyData} : cutD (xs ++ [x]) none (some (-1)) = xs := by
  unfold cutD
  have h : HT.sIx (xs ++ [x]).length (xs ++ [x]).length (some (-1)) = xs.length := by
    rw [List.length_append]
    unfold HT.sIx
    simp
    try omega
  rw [h, HT.sIx_none]
  simp
theorem cutD_tail {xs : List PyData} (h : 1 ≤ xs.length) : cutD xs (some 1) none = xs.drop 1 := cutD_from (k := 1) h
theorem Rp.pair {p : Addr} {H : Hp} {v : V} {d e : PyData} (r : Rp p H v (.tuple [d, e])) : ∃ a x y, v = .ref a ∧ H a = some (.tup [x, y]) ∧ Rp p H x d ∧ Rp p H y e := by
  obtain ⟨a, xs, rfl, n, h, z, ra⟩ := r.tup_inv
  cases ra with
  | cons r1 ra =>
    cases ra with
    | cons r2 ra =>
      cases ra
      exact ⟨a, _, _, rfl, h, r1, r2⟩
/-- the row ahead of place i; the last one ahead of the first -/
theorem Lines.ahead {m i : Nat} {ds : List PyData} {names : List Str} (h : Lines m ds names) (h1 : 1 ≤ ds.length) (hi : i ≤ ds.length) : ∃ d x, atI ds ((i : Int) - 1) = some d ∧ lineOk m d x ∧ x ∈ names ∧ (0 < i → x ∈ names.take i) := by
  cases i with
  | zero =>
    obtain ⟨j, hj⟩ : ∃ j, ds.length = j + 1 := ⟨ds.length - 1, by omega⟩
    have hd : ds[j]? = some ds[j] := List.getElem?_eq_getElem (by omega)
    obtain ⟨x, hx, hl⟩ := h.get hd
    refine ⟨ds[j], x, ?_, hl, List.mem_of_getElem? hx, fun z => absurd z (by omega)⟩
    have e : ixN ds.length (((0 : Nat) : Int) - 1) = some j := by
      rw [hj]
      unfold ixN
      simp
      try omega
    unfold atI
    rw [e]
    exact hd
  | succ j =>
    have hd : ds[j]? = some ds[j] := List.getElem?_eq_getElem (by omega)
    obtain ⟨x, hx, hl⟩ := h.get hd
    refine ⟨ds[j], x, ?_, hl, List.mem_of_getElem? hx, fun _ => ?_⟩
    · rw [show ((j + 1 : Nat) : Int) - 1 = (j : Nat) by omega]
      exact atI_nat hd
    · rw [List.take_succ, hx]
      exact List.mem_append_right _ (by simp)
local macro_rules | `(tactic| walk_at "goD1") => `(tactic| try dsimp only [gName, tSeq, tAsg, tRet, tLst, tCons, tOp, tTup, tCall, tNil])
def SpBadL : Sp := fun vs H Q _ => ∃ (p : Addr) (n m : Nat) (v : V) (ds : List PyData) (names : List Str), vs = [.ref p, .int (m : Nat), v] ∧ PailAt H p n ∧ n < 900000 ∧ 1 ≤ m ∧ m ≤ 3 ∧ 1 ≤ names.length ∧ names.length ≤ 4 ∧ names.Nodup ∧ (∀ x ∈ names, isName (.str x) = true) ∧ Lines m ds names ∧ RpT p H v (.tuple ds) ∧
  ∀ (l : Addr) (u : V) (es : List PyData) (k : Nat) (H' : Hp), H' l = some (.lst [u, .int (k : Nat)]) → Rp p H' u (.tuple es) → rowsErr m (.tuple es) = some (some k) → k ≤ 4 → ExB p H H' → PailAt H' p (n + 12) → Q (.ref l) H'
section
variable {P : Program} {w : World} {K : PySem.W.Frag} {mg : Str → Option Value} {base : Heap}
theorem sc__law_bad_lines : FnScope ["_law_pail_here", "_law_many", "_law_lines_here", "_law_at", "_law_good", "_law_k", "_law_low", "_law_high", "_law_bad", "_law_worse", "_law_wrong"] ["_law_pail_here", "_law_many", "_law_lines_here"] (defScope (topS 48)) := ⟨rfl, rfl, rfl, by decide +kernel, rfl, by decide +kernel, by decide +kernel⟩
theorem ok__law_bad_lines (D : DefAt K mg "_law_bad_lines" (topS 48) ["_law_pail_here", "_law_many", "_law_lines_here"]) (T : Txt mg) (c_law_scoop : C8.Cal P w K mg base 1 "_law_scoop" SpScoop []) (c_law_any : C8.Cal P w K mg base 2 "_law_any" SpAny [])
    (c_law_stretch : C8.Cal P w K mg base 3 "_law_stretch" SpStretch []) : C8.Cal P w K mg base 4 "_law_bad_lines" SpBadL [] := by
  refine D.cal sc__law_bad_lines (fun vs H Q E h => by obtain ⟨p, n, m, v, ds, names, rfl, _⟩ := h; rfl) fun f cdv A outer s H vs Q E hr h => ?_
  obtain ⟨p, n, m, v, ds, names, rfl, hp, hn, m1, m3, h1, h4, hnd, hnm, hL, rv, k⟩ := h
  have nd := sc__law_bad_lines.nd
  have hu64 := hr.units
  have el := hL.len
  refine ⟨_, (pss_cons (ps_par (i := 3) (j := 4) (by rfl) nd rfl rfl (by decide) rfl rfl (pa_cons (C8.pe_c c_law_scoop hr (by decide) rfl (pa_cons (pv 0) (pa_cons (pe_op opAdd (pe_callB call_lenA (by rfl) T.len_ (by decide +kernel) (pa_cons (pv 2) pa_nil)) pe_int) pa_nil))) (pa_cons (pe_callTy call_tuple_of (by rfl) T.tuple_ (by decide +kernel) (pa_cons (pe_lc (own := [("_law_k", 5)]) rfl nd (pi_range1 rfl T.range_ (pa_cons (pv 1) pa_nil)) (blkOk_by (N := ["_law_pail_here", "_law_many", "_law_lines_here", "_law_at", "_law_good", "_law_k", "_law_low", "_law_high", "_law_bad", "_law_worse", "_law_wrong"]) (sc := defScope (topS 48)) (by decide +kernel)) (fun _ _ _ _ _ => (pg_name (i := 5) nd rfl (.inl rfl))) (fun _ _ _ _ _ => pts_nil) (fun _ _ _ _ _ => (C8.pe_c c_law_stretch hr (by decide) rfl (pa_cons (pv 0) pa_nil)))) pa_nil)) pa_nil)) (by rfl))
      (pss_cons (ps_asg (PD.pe (p := p) (pd_ixT (pd_var (i := 4) (pv 4) (fun _ _ _ h => h)) (pd_neg (pd_c pe_int (fun _ => .int _))) (fun _ _ => rfl))) (pg_tup (by rfl) (pgs_cons (pg_name (i := 6) nd rfl (.inl rfl)) (pgs_cons (pg_name (i := 7) nd rfl (.inl rfl)) pgs_nil))))
      (pss_cons (ps_set (i := 8) nd rfl (.inl rfl) (PD.pe (p := p) (pd_lst' (pds_cons (pd_tup (pds_cons (pd_add (pd_var (i := 7) (pv 7) (fun _ _ _ h => h)) (pd_c pe_int (fun _ => .int _))) (pds_cons (pd_var (i := 7) (pv 7) (fun _ _ _ h => h)) pds_nil))) (pds_cons (pd_tup (pds_cons (pd_var (i := 6) (pv 6) (fun _ _ _ h => h)) (pds_cons (pd_c pe_int (fun _ => .int _)) pds_nil))) (pds_cons (pd_tup (pds_cons (pd_neg (pd_c pe_int (fun _ => .int _))) (pds_cons (pd_var (i := 7) (pv 7) (fun _ _ _ h => h)) pds_nil))) (pds_cons (pd_tup (pds_cons (pd_var (i := 6) (pv 6) (fun _ _ _ h => h)) pds_nil)) (pds_cons (pd_lst' (pds_cons (pd_var (i := 6) (pv 6) (fun _ _ _ h => h)) (pds_cons (pd_var (i := 7) (pv 7) (fun _ _ _ h => h)) pds_nil))) (pds_cons (pd_tup (pds_cons (pd_var (i := 6) (pv 6) (fun _ _ _ h => h)) (pds_cons (pd_var (i := 7) (pv 7) (fun _ _ _ h => h)) (pds_cons (pd_var (i := 7) (pv 7) (fun _ _ _ h => h)) pds_nil)))) (pds_cons (pd_tup (pds_cons (pd_c pe_bl (fun _ => .bl _)) (pds_cons (pd_var (i := 7) (pv 7) (fun _ _ _ h => h)) pds_nil))) (pds_cons (pd_c pe_non (fun _ => .non)) pds_nil)))))))))))
      (pss_cons (ps_set (i := 9) nd rfl (.inl rfl) (pe_op op_catA (PD.pe (p := p) (pd_slT (pd_var (i := 4) (pv 4) (fun _ _ _ h => h)) pdo_none (pdo_some (pd_neg (pd_c pe_int (fun _ => .int _)))))) (pe_tup (pa_cons (C8.pe_c c_law_any hr (by decide) rfl (pa_cons (pv 0) (pa_cons (PD.pe (p := p) (pd_cat (pd_var (i := 8) (pv 8) (fun _ _ _ h => h)) (pd_lst' (pds_cons (pd_tup (pds_cons (pd_var (i := 6) (pv 6) (fun _ _ _ h => h)) (pds_cons (pd_c pe_str (fun _ => .str _ (by decide))) pds_nil))) (pds_cons (pd_tup (pds_cons (pd_var (i := 6) (pv 6) (fun _ _ _ h => h)) (pds_cons (pd_c pe_non (fun _ => .non)) pds_nil))) (pds_cons (pd_c pe_int (fun _ => .int _)) pds_nil)))))) pa_nil))) pa_nil))))
      (pss_cons (ps_set (i := 10) nd rfl (.inl rfl) (PD.pe (p := p) (pd_lst' (pds_cons (pd_c pe_non (fun _ => .non)) (pds_cons (pd_c pe_str (fun _ => .str _ (by decide))) (pds_cons (pd_tup (pds_cons (pd_c pe_str (fun _ => .str _ (by decide))) pds_nil)) (pds_cons (pd_tup (pds_cons (pd_c pe_str (fun _ => .str _ (by decide))) (pds_cons (pd_var (i := 4) (pv 4) (fun _ _ _ h => h)) (pds_cons (pd_c pe_int (fun _ => .int _)) pds_nil)))) (pds_cons (pd_lst' (pds_cons (pd_c pe_str (fun _ => .str _ (by decide))) (pds_cons (pd_var (i := 4) (pv 4) (fun _ _ _ h => h)) pds_nil))) (pds_cons (pd_tup (pds_cons (pd_c pe_str (fun _ => .str _ (by decide))) (pds_cons (pd_list (pd_var (i := 4) (pv 4) (fun _ _ _ h => h)) (by rfl) T.list_) pds_nil))) (pds_cons (pd_tup (pds_cons (pd_c pe_str (fun _ => .str _ (by decide))) (pds_cons (pd_var (i := 4) (pv 4) (fun _ _ _ h => h)) pds_nil))) (pds_cons (pd_tup (pds_cons (pd_c pe_str (fun _ => .str _ (by decide))) (pds_cons (pd_var (i := 4) (pv 4) (fun _ _ _ h => h)) pds_nil))) pds_nil)))))))))))
      (pss_cons (ps_set (i := 10) nd rfl (.inl rfl) (PD.pe (p := p) (pd_cat (pd_var (i := 10) (pv 10) (fun _ _ _ h => h)) (pd_lst' (pds_cons (pd_tup (pds_cons (pd_c pe_str (fun _ => .str _ (by decide))) (pds_cons (pd_catT (pd_var (i := 4) (pv 4) (fun _ _ _ h => h)) (pd_tup (pds_cons (pd_tup (pds_cons (pd_c pe_int (fun _ => .int _)) (pds_cons (pd_c pe_int (fun _ => .int _)) pds_nil))) pds_nil))) pds_nil))) (pds_cons (pd_tup (pds_cons (pd_c pe_str (fun _ => .str _ (by decide))) (pds_cons (pd_slT (pd_var (i := 4) (pv 4) (fun _ _ _ h => h)) (pdo_some (pd_c pe_int (fun _ => .int _))) pdo_none) pds_nil))) (pds_cons (pd_tup (pds_cons (pd_c pe_str (fun _ => .str _ (by decide))) (pds_cons (pd_var (i := 9) (pv 9) (fun _ _ _ h => h)) pds_nil))) (pds_cons (pd_tup (pds_cons (pd_c pe_str (fun _ => .str _ (by decide))) (pds_cons (pd_var (i := 9) (pv 9) (fun _ _ _ h => h)) pds_nil))) (pds_cons (pd_tup (pds_cons (pd_c pe_str (fun _ => .str _ (by decide))) (pds_cons (pd_var (i := 9) (pv 9) (fun _ _ _ h => h)) pds_nil))) pds_nil)))))))))
      (pss_cons (ps_set (i := 10) nd rfl (.inl rfl) (PD.pe (p := p) (pd_cat (pd_var (i := 10) (pv 10) (fun _ _ _ h => h)) (pd_lst' (pds_cons (pd_tup (pds_cons (pd_c pe_non (fun _ => .non)) (pds_cons (pd_var (i := 4) (pv 4) (fun _ _ _ h => h)) pds_nil))) (pds_cons (pd_tup (pds_cons (pd_c pe_str (fun _ => .str _ (by decide))) (pds_cons (pd_c pe_non (fun _ => .non)) pds_nil))) (pds_cons (pd_tup (pds_cons (pd_tup (pds_cons (pd_c pe_str (fun _ => .str _ (by decide))) pds_nil)) (pds_cons (pd_var (i := 4) (pv 4) (fun _ _ _ h => h)) pds_nil))) pds_nil)))))))
      (pss_cons (ps_set (i := 10) nd rfl (.inl rfl) (PD.pe (p := p) (pd_cat (pd_var (i := 10) (pv 10) (fun _ _ _ h => h)) (pd_rep (pd_lst' (pds_cons (pd_tup (pds_cons (pd_ixT (pd_ixT (pd_var (i := 2) (pv 2) (fun _ _ _ h => h)) (pd_sub (pd_var (i := 3) (pv 3) (fun _ _ _ h => h)) (pd_c pe_int (fun _ => .int _))) (fun _ _ => rfl)) (pd_c pe_int (fun _ => .int _)) (fun _ _ => rfl)) (pds_cons (pd_var (i := 4) (pv 4) (fun _ _ _ h => h)) pds_nil))) pds_nil)) (pd_ifGt (pd_var (i := 3) (pv 3) (fun _ _ _ h => h)) (pd_c pe_int (fun _ => .int _)) (pd_c pe_int (fun _ => .int _)) (pd_c pe_int (fun _ => .int _)))))))
      (pss_one (ps_ret (pe_lst (pa_cons (pe_op op_catA (pe_op op_catA (PD.pe (p := p) (pd_slT (pd_var (i := 2) (pv 2) (fun _ _ _ h => h)) pdo_none (pdo_some (pd_var (i := 3) (pv 3) (fun _ _ _ h => h))))) (pe_tup (pa_cons (C8.pe_c c_law_any hr (by decide) rfl (pa_cons (pv 0) (pa_cons (pv 10) pa_nil))) pa_nil))) (PD.pe (p := p) (pd_slT (pd_var (i := 2) (pv 2) (fun _ _ _ h => h)) (pdo_some (pd_var (i := 3) (pv 3) (fun _ _ _ h => h))) pdo_none))) (pa_cons (pv 3) pa_nil))))))))))))), ?_⟩
  have rv' := rv.rp
  obtain ⟨a, xs, rfl, na, ha, za, ra⟩ := rv'.tup_inv
  have lx : xs.length = ds.length := ra.length
  walk_at "es"
  refine ⟨p, ((xs.length : Nat) : Int) + 1, n, rfl, by omega, by omega, hp, by omega, fun r H1 r0 r1 e1 hp1 => ?_⟩
  obtain ⟨i, rfl⟩ : ∃ j : Nat, r = (j : Nat) := ⟨r.toNat, by omega⟩
  have hi : i ≤ ds.length := by omega
  dsimp only [tCons, tCB]
  refine lc_spans (p := p) (n := n + 1) (m := m) hp1 (by omega) (by omega) ?_ ?_ ?_ ?_
  · exact fun _ => rfl
  · exact fun R hR => ⟨_, rfl, hR⟩
  · exact fun x H R q h1 h2 h3 => ⟨_, rfl, p, q, rfl, h1, h2, h3⟩
  intro D' ys ss H2 hD' hys rss hss hall e2 hp2
  refine ⟨D', _, rfl, .inl ⟨SqL.of hys, fun t1 ht1 => ?_⟩⟩
  have s3 : Same H2 (upd H2 t1 (.tup ys)) := same_new ht1
  have n1 : t1 ≠ p := hp2.has.ne ht1
  have hp3 := (hp2.keep s3).more (m := n + 10) (by omega)
  have rg : Rp p (upd H2 t1 (.tup ys)) (.ref t1) (.tuple ss) := .tup n1 upd_same (by rw [rss.length, hss]; omega) (rss.rp.keep (ExB.of s3))
  have e3 : ExB p H (upd H2 t1 (.tup ys)) := e1.trans (e2.trans (ExB.of s3))
  generalize upd H2 t1 (.tup ys) = H3 at *
  have rl : Rp p H3 (.ref a) (.tuple ds) := rv'.keep e3
  obtain ⟨ini, la, rfl⟩ : ∃ ini la, ss = ini ++ [la] := by
    rcases List.eq_nil_or_concat ss with h | ⟨i, l, h⟩
    · rw [h] at hss
      simp at hss
      omega
    · exact ⟨i, l, by rw [h, List.concat_eq_append]⟩
  obtain ⟨lo, hi', rfl, b1, b2, b3⟩ := span_inv (hall la (by simp))
  have lin : ini.length + 1 = m := by rw [← hss, List.length_append]; rfl
  have hp3' := hp3.has
  refine ⟨_, _, rfl, ?_⟩
  walk_at "goD1"
  apply tdat hp3'
  · walk_at "pd"
    exact atI_last
  intro v4 H4 s4 r4
  obtain ⟨a4, x4, y4, rfl, h4', rx4, ry4⟩ := r4.pair
  obtain rfl := rx4.int_inv
  obtain rfl := ry4.int_inv
  refine ⟨a4, _, rfl, SqT.of h4', rfl, ?_⟩
  walk_at "es"
  have hp4 := hp3.keep s4
  have rl4 := rl.keep (ExB.of s4)
  have rg4 := rg.keep (ExB.of s4)
  have e4 : ExB p H H4 := e3.trans (ExB.of s4)
  walk_at "goD1"
  apply tdat hp4.has
  · walk_at "pd"
  intro v5 H5 s5 r5
  have hp5 := hp4.keep s5
  have rl5 := rl4.keep (ExB.of s5)
  have rg5 := rg4.keep (ExB.of s5)
  have e5 : ExB p H H5 := e4.trans (ExB.of s5)
  walk_at "goD1"
  apply tdat hp5.has
  · walk_at "pd"
  intro v6 H6 s6 r6
  walk_at "e"
  have hp6 := hp5.keep s6
  apply tdat hp6.has
  · walk_at "pd"
  intro v7 H7 s7 r7
  have hp7 := hp6.keep s7
  refine ⟨p, v7, _, n + 10, rfl, r7, (by simp only [List.length_append, List.length_cons]; omega), hp7, by omega, fun u d H8 hd rd e8 hp8 => ?_⟩
  refine ⟨len_le (n := 1) rfl (by decide), fun t ht => ?_⟩
  have s9 : Same H8 (upd H8 t (.tup [u])) := same_new ht
  have r9 : Rp p (upd H8 t (.tup [u])) (.ref t) (.tuple [d]) := .tup (hp8.has.ne ht) upd_same (by exact Nat.le_of_ble_eq_true rfl) (.cons (rd.keep (ExB.of s9)) .nil)
  have hp9 := hp8.keep s9
  have e69 : ExB p H6 (upd H8 t (.tup [u])) := (ExB.of s7).trans (e8.trans (ExB.of s9))
  generalize upd H8 t (.tup [u]) = H9 at *
  have hbad : isSpan (-10000) 10000 d = false := by
    rcases List.mem_append.mp hd with h | h
    · simp only [List.mem_cons, List.not_mem_nil, or_false] at h
      rcases h with rfl | rfl | rfl | rfl | rfl | rfl | rfl | rfl <;> first | rfl | (refine span_lt ?_; omega)
    · simp only [List.mem_cons, List.not_mem_nil, or_false] at h
      rcases h with rfl | rfl | rfl <;> rfl
  have e59 : ExB p H5 H9 := (ExB.of s6).trans e69
  have e09 : ExB p H H9 := e5.trans e59
  have rl9 := rl5.keep e59
  have rg9 := rg5.keep e59
  rw [cutD_init] at r6
  refine w_catT hp9.has (r6.keep e69) r9 ⟨_, _, rfl, rfl, (by simp only [List.length_cons, List.length_nil]; omega), rfl⟩ fun v10 H10 s10 r10 => ?_
  clear r4 r5 r6 r7 rd r9 s4 s5 s6 s7 s9 rl rl4 rl5 rg rg4 rg5 e4 e5 e3 e59 e69 e8 hp4 hp5 hp6 hp7 hp8 hp3 hp3' rx4 ry4 h4' hd
  have hp10 := hp9.keep s10
  have rl10 := rl9.keep (ExB.of s10)
  have rg10 := rg9.keep (ExB.of s10)
  have e10 : ExB p H H10 := e09.trans (ExB.of s10)
  walk_at "goD1"
  apply tdat hp10.has
  · walk_at "pd"
  intro v11 H11 s11 r11
  have hp11 := hp10.keep s11
  have e11 : ExB p H H11 := e10.trans (ExB.of s11)
  walk_at "goD1"
  apply tdat hp11.has
  · walk_at "pd"
  intro v12 H12 s12 r12
  have hp12 := hp11.keep s12
  have e12 : ExB p H H12 := e11.trans (ExB.of s12)
  walk_at "goD1"
  apply tdat hp12.has
  · walk_at "pd"
  intro v13 H13 s13 r13
  have hp13 := hp12.keep s13
  have e13 : ExB p H H13 := e12.trans (ExB.of s13)
  have rl13 := ((rl10.keep (ExB.of s11)).keep (ExB.of s12)).keep (ExB.of s13)
  have rg13 := ((rg10.keep (ExB.of s11)).keep (ExB.of s12)).keep (ExB.of s13)
  obtain ⟨d0, x0, hat, ⟨ss0, rfl, hl0, ha0⟩, hx0, hx1⟩ := hL.ahead (by omega) hi
  obtain ⟨n3, hn3⟩ : ∃ n3, n3 = if 0 < i then 3 else 0 := ⟨_, rfl⟩
  have n33 : n3 ≤ 3 := by rw [hn3]; split <;> omega
  generalize hW : _ ++ [PyData.tuple [PyData.none, .tuple (ini ++ [.tuple [.int lo, .int hi']])], .tuple [.str "new", .none], .tuple [.tuple [.str "new"], .tuple (ini ++ [.tuple [.int lo, .int hi']])]] = W at r13
  have lW : W.length ≤ 16 := by
    rw [← hW]
    simp only [List.length_append, List.length_cons, List.length_nil]
    omega
  walk_at "goD1"
  apply tdat (d := .list (W ++ (List.replicate n3 [PyData.tuple [.str x0, .tuple (ini ++ [.tuple [.int lo, .int hi']])]]).flatten)) hp13.has
  · walk_at "pd"
    · exact hat
    · exact atI_nat (j := 0) rfl
    · refine ⟨i, 0, ⟨_, rfl, .int _⟩, rfl, fun z => ?_, fun z => ?_⟩
      · rw [hn3, if_pos (by omega)]
        rfl
      · rw [hn3, if_neg (by omega)]
        rfl
    · omega
    · simp only [List.length_cons, List.length_nil]
      omega
    · have z := rep_len (n := n3) (Nat.le_refl [PyData.tuple [PyData.str x0, .tuple (ini ++ [.tuple [.int lo, .int hi']])]].length)
      simp only [List.length_cons, List.length_nil] at z
      omega
  intro v14 H14 s14 r14
  have hp14 := hp13.keep s14
  have e14 : ExB p H H14 := e13.trans (ExB.of s14)
  have rl14 := rl13.keep (ExB.of s14)
  clear r10 r11 r12 s10 s11 s12 rl10 rg10 rl13 rg13 hp9 hp10 hp11 hp12 hp13 e10 e11 e12 e13 r13
  walk_at "goD1"
  apply tdat hp14.has
  · walk_at "pd"
    omega
  intro v15 H15 s15 r15
  walk_at "e"
  walk_at "e"
  have hp15 := hp14.keep s15
  refine ⟨p, v14, _, n + 11, rfl, r14.keep (ExB.of s15), ?_, hp15, by omega, fun u2 d2 H16 hd2 rd2 e16 hp16 => ?_⟩
  · rw [List.length_append, ← hW]
    simp only [List.length_append, List.length_cons]
    omega
  refine ⟨len_le (n := 1) rfl (by decide), fun t2 ht2 => ?_⟩
  have s17 : Same H16 (upd H16 t2 (.tup [u2])) := same_new ht2
  have r17 : Rp p (upd H16 t2 (.tup [u2])) (.ref t2) (.tuple [d2]) := .tup (hp16.has.ne ht2) upd_same (by exact Nat.le_of_ble_eq_true rfl) (.cons (rd2.keep (ExB.of s17)) .nil)
  have hp17 := hp16.keep s17
  have e1517 : ExB p H15 (upd H16 t2 (.tup [u2])) := e16.trans (ExB.of s17)
  generalize upd H16 t2 (.tup [u2]) = H17 at *
  have rl17 := (rl14.keep (ExB.of s15)).keep e1517
  have e17 : ExB p H H17 := e14.trans ((ExB.of s15).trans e1517)
  have cl : (cutD ds none (some ((i : Nat) : Int))).length ≤ 4 := Nat.le_trans cutD_len (by omega)
  refine w_catT hp17.has (r15.keep e1517) r17 ⟨_, _, rfl, rfl, (by simp only [List.length_cons, List.length_nil]; omega), rfl⟩ fun v18 H18 s18 r18 => ?_
  have hp18 := hp17.keep s18
  have rl18 := rl17.keep (ExB.of s18)
  clear r14 r15 rl14 rl17 rd2 r17 s17
  apply tdat hp18.has
  · walk_at "pd"
    omega
  intro v19 H19 s19 r19
  have hp19 := hp18.keep s19
  have cl2 : (cutD ds (some ((i : Nat) : Int)) none).length ≤ 4 := Nat.le_trans cutD_len (by omega)
  refine w_catT hp19.has (r18.keep (ExB.of s19)) r19 ⟨_, _, rfl, rfl, (by simp only [List.length_append, List.length_cons, List.length_nil]; omega), rfl⟩ fun v20 H20 s20 r20 => ?_
  have hp20 := hp19.keep s20
  walk_at "e"
  refine ⟨len_le (n := 2) rfl (by decide), fun l hl => ?_⟩
  have s21 : Same H20 (upd H20 l (.lst [v20, .int (i : Nat)])) := same_new hl
  refine k l v20 _ i _ upd_same (r20.keep (ExB.of s21)) ?_ (by omega) (e17.trans ((ExB.of s18).trans ((ExB.of s19).trans ((ExB.of s20).trans (ExB.of s21))))) ((hp20.keep s21).more (by omega))
  rw [cutD_to (by omega), cutD_from (by omega)]
  refine rowsErr_bad hL hi (by omega) hnd hnm ?_
  have lg : (ini ++ [PyData.tuple [.int lo, .int hi']]).length = m := hss
  rcases List.mem_append.mp hd2 with h | h
  · left
    rw [← hW] at h
    simp only [List.mem_append, List.mem_cons, List.not_mem_nil, or_false] at h
    rcases h with ((rfl | rfl | rfl | rfl | rfl | rfl | rfl | rfl) | (rfl | rfl | rfl | rfl | rfl)) | (rfl | rfl | rfl)
    · rfl
    · rfl
    · rfl
    · rfl
    · rfl
    · rfl
    · exact row_name (by decide +kernel)
    · exact row_name (by decide +kernel)
    · exact row_len (by rw [List.length_append, lg]; simp only [List.length_cons, List.length_nil]; omega)
    · refine row_len ?_
      rw [cutD_tail (by omega), List.length_drop, lg]
      omega
    · exact row_bad (d := d) (by simp) hbad
    · exact row_bad (d := d) (by simp) hbad
    · exact row_bad (d := d) (by simp) hbad
    · exact row_name rfl
    · rfl
    · exact row_name rfl
  · have h2 := rep_sub h
    rw [List.mem_singleton.mp h2]
    by_cases z : 0 < i
    · exact .inr ⟨x0, hx1 z, rfl⟩
    · rw [hn3, if_neg z] at h
      cases h
end
end Cs
set_option maxHeartbeats 4000000
namespace Cs
open PySem L2 L2H PyProof.Rows LamX
/-! ### heaps that keep all but the pail, and the tables -/
def ExN (p : Addr) (H H' : Hp) : Prop := ∀ b o, b ≠ p → H b = some o → (∀ ps, o ≠ .tbl ps) → H' b = some o
theorem ExN.refl (p : Addr) (H : Hp) : Cs.ExN p H H := fun _ _ _ h _ => h
theorem ExN.trans {p : Addr} {H H1 H2 : Hp} (a : Cs.ExN p H H1) (b : Cs.ExN p H1 H2) : Cs.ExN p H H2 := fun c o n h z => b c o n (a c o n h z) z
theorem ExN.of {p : Addr} {H H' : Hp} (e : ExB p H H') : Cs.ExN p H H' := fun b o n h _ => e b o n h
theorem ExN.lam {p : Addr} {H H' : Hp} (e : LamX.ExtN H H') : Cs.ExN p H H' := fun b o _ h z => e b o h z
mutual
theorem Rp.keepN {p : Addr} {H H' : Hp} (e : Cs.ExN p H H') : ∀ {v : V} {d : PyData}, Rp p H v d → Rp p H' v d
  | _, _, .non => .non
  | _, _, .bl b => .bl b
  | _, _, .int i => .int i
  | _, _, .str x h => .str x h
  | _, _, .lst n h z r => .lst n (e _ _ n h (fun ps q => by cases q)) z (RpA.keepN e r)
  | _, _, .tup n h z r => .tup n (e _ _ n h (fun ps q => by cases q)) z (RpA.keepN e r)
  | _, _, .dct n h => .dct n (e _ _ n h (fun ps q => by cases q))
theorem RpA.keepN {p : Addr} {H H' : Hp} (e : Cs.ExN p H H') : ∀ {vs : List V} {ds : List PyData}, RpA p H vs ds → RpA p H' vs ds
  | _, _, .nil => .nil
  | _, _, .cons h t => .cons (Rp.keepN e h) (RpA.keepN e t)
end
/-! ### a list at a that is new: what stood before does not lead there -/
mutual
theorem Rp.fresh {p a : Addr} {H : Hp} (n : H a = none) : ∀ {v : V} {d : PyData}, Rp p H v d → Rp a H v d
  | _, _, .non => .non
  | _, _, .bl b => .bl b
  | _, _, .int i => .int i
  | _, _, .str x h => .str x h
  | _, _, .lst _ h z r => .lst (ne_of_none h n) h z (RpA.fresh n r)
  | _, _, .tup _ h z r => .tup (ne_of_none h n) h z (RpA.fresh n r)
  | _, _, .dct _ h => .dct (ne_of_none h n) h
theorem RpA.fresh {p a : Addr} {H : Hp} (n : H a = none) : ∀ {vs : List V} {ds : List PyData}, RpA p H vs ds → RpA a H vs ds
  | _, _, .nil => .nil
  | _, _, .cons h t => .cons (Rp.fresh n h) (RpA.fresh n t)
end
mutual
theorem Rp.two {p a : Addr} {H H' : Hp} (e : ExB a H H') : ∀ {v : V} {d : PyData}, Rp p H v d → Rp a H v d → Rp p H' v d
  | _, _, .non, _ => .non
  | _, _, .bl b, _ => .bl b
  | _, _, .int i, _ => .int i
  | _, _, .str x h, _ => .str x h
  | _, _, .lst n h z r, .lst n2 h2 _ r2 => .lst n (e _ _ n2 h) z (RpA.two e r (by rw [h] at h2; cases h2; exact r2))
  | _, _, .tup n h z r, .tup n2 h2 _ r2 => .tup n (e _ _ n2 h) z (RpA.two e r (by rw [h] at h2; cases h2; exact r2))
  | _, _, .dct n h, .dct n2 _ => .dct n (e _ _ n2 h)
theorem RpA.two {p a : Addr} {H H' : Hp} (e : ExB a H H') : ∀ {vs : List V} {ds : List PyData}, RpA p H vs ds → RpA a H vs ds → RpA p H' vs ds
  | _, _, .nil, _ => .nil
  | _, _, .cons h t, .cons h2 t2 => .cons (Rp.two e h h2) (RpA.two e t t2)
end
/-- what is asked: the list at a, which nothing of it leads to -/
structure Ask (p a : Addr) (H : Hp) (xs : List V) (ds : List PyData) : Prop where
  ne : a ≠ p
  at_ : H a = some (.lst xs)
  rp : RpA p H xs ds
  ra : RpA a H xs ds
theorem Ask.keep {p a : Addr} {H H' : Hp} {xs : List V} {ds : List PyData} (k : Ask p a H xs ds) (s : Same H H') : Ask p a H' xs ds := ⟨k.ne, s _ _ k.at_, k.rp.keep (ExB.of s), k.ra.keep (ExB.of s)⟩
theorem Ask.new {p a : Addr} {H : Hp} {xs : List V} {ds : List PyData} (n : H a = none) (ne : a ≠ p) (r : RpA p H xs ds) : Ask p a (upd H a (.lst xs)) xs ds :=
  ⟨ne, upd_same, r.keep (ExB.of (same_new n)), (r.fresh n).keep (ExB.of (same_new n))⟩
theorem Ask.put {p a : Addr} {H : Hp} {xs : List V} {ds : List PyData} {v : V} {d : PyData} (k : Ask p a H xs ds) (r : Rp p H v d) (r2 : Rp a H v d) : Ask p a (upd H a (.lst (xs ++ [v]))) (xs ++ [v]) (ds ++ [d]) :=
  ⟨k.ne, upd_same, RpA.two ExB.put (k.rp.append (.cons r .nil)) (k.ra.append (.cons r2 .nil)), RpA.keep ExB.put (k.ra.append (.cons r2 .nil))⟩
theorem Ask.keepP {p a : Addr} {H H' : Hp} {xs : List V} {ds : List PyData} (k : Ask p a H xs ds) (e : ExB p H H') : Ask p a H' xs ds := ⟨k.ne, e _ _ k.ne k.at_, k.rp.keep e, RpA.two e k.ra k.rp⟩
theorem menu_off {p a : Addr} {H : Hp} {xs : List V} {v : V} {d : PyData} (h : H a = some (.lst xs)) (hd : d ∈ [PyData.none, .str "a", .int 3, .dict []]) (r : Rp p H v d) : Rp a H v d := by
  simp only [List.mem_cons, List.not_mem_nil, or_false] at hd
  rcases hd with rfl | rfl | rfl | rfl
  · cases r
    exact .non
  · cases r with
    | str x z => exact .str _ z
  · cases r
    exact .int _
  · cases r with
    | dct n hb => exact .dct (fun z => by rw [z, h] at hb; cases hb) hb
theorem unit_off {p a : Addr} {H : Hp} {xs : List V} {v : V} (h : H a = some (.lst xs)) (r : Rp p H v (.tuple [])) : Rp a H v (.tuple []) := by
  cases r with
  | tup n hb z r =>
    cases r
    exact .tup (fun z => by rw [z, h] at hb; cases hb) hb (by decide) .nil
theorem RpT.tup_inv {p : Addr} {H : Hp} {v : V} {ds : List PyData} (r : RpT p H v (.tuple ds)) : ∃ a xs, v = .ref a ∧ a ≠ p ∧ H a = some (.tup xs) ∧ xs.length ≤ 1000 ∧ RpTA p H xs ds := by
  cases r with
  | tup n h z r => exact ⟨_, _, rfl, n, h, z, r⟩
theorem RpTA.get {p : Addr} {H : Hp} : ∀ {vs : List V} {ds : List PyData} {i : Nat} {d : PyData}, RpTA p H vs ds → ds[i]? = some d → ∃ v, vs[i]? = some v ∧ RpT p H v d
  | _, _, _, _, .nil, e => by simp at e
  | _, _, 0, _, .cons h _, e => by
    obtain rfl := Option.some.inj e
    exact ⟨_, rfl, h⟩
  | _, _, i + 1, v, .cons _ t, e => RpTA.get (i := i) t e
theorem none_back {p a : Addr} {H H' : Hp} (e : ExB p H H') (n : a ≠ p) (h : H' a = none) : H a = none := by
  cases q : H a with
  | none => rfl
  | some o =>
    rw [e a o n q] at h
    cases h
/-- a list more, behind what is asked -/
theorem ask_cat {p a : Addr} {H : Hp} {xs : List V} {ds es : List PyData} {v : V} {Q : VK} (hp : Has p H) (A : Ask p a H xs ds) (r : Rp p H v (.list es)) (z : ds.length + es.length ≤ 1000)
    (k : ∀ t H' ys, t ≠ p → H t = none → Same H H' → Ask p t H' ys (ds ++ es) → Q (.ref t) H') : rCat (.ref a) v H Q := by
  obtain ⟨b, ys, rfl, nb, hb, zb, rb⟩ := r.lst_inv
  refine ⟨a, b, xs, ys, rfl, rfl, A.at_, hb, by rw [A.rp.length, rb.length]; exact sz1000 z, fun t ht => ?_⟩
  exact k t _ (xs ++ ys) (hp.ne ht) ht (same_new ht) (Ask.new ht (hp.ne ht) (A.rp.append rb))
theorem rpts_of : ∀ {p : Addr} {H : Hp} {xs : List V} {cs : List Str}, RpA p H xs (cs.map PyData.str) → RpTA p H xs (cs.map PyData.str)
  | _, _, _, [], r => by cases r; exact .nil
  | _, _, _, x :: cs, r => by
    cases r with
    | cons h t =>
      cases h with
      | str _ z => exact .cons (.str _ z) (rpts_of t)
theorem rpt_of_names {p : Addr} {H : Hp} {v : V} {cs : List Str} (r : Rp p H v (.tuple (cs.map PyData.str))) : RpT p H v (.tuple (cs.map PyData.str)) := by
  obtain ⟨a, xs, rfl, n, h, z, ra⟩ := r.tup_inv
  exact .tup n h z (rpts_of ra)
theorem str2_of {K : PySem.W.Frag} {p : Addr} {H : Hp} {v : V} {x y : Str} (r : Rp p H v (.list [.str x, .str y])) : Dp K H v (.list [.str x, .str y]) := by
  obtain ⟨a, xs, rfl, n, h, z, ra⟩ := r.lst_inv
  cases ra with
  | cons r1 ra =>
    cases ra with
    | cons r2 ra =>
      cases ra
      cases r1
      cases r2
      exact .lst (SqL.of h) (.cons (.str _) (.cons (.str _) .nil))
theorem eqv2 (x y : Str) : (PyData.list [.str x, .str y]).eqv (.list [.str x, .str y]) = true := by
  simp [PyData.eqv, PyData.eqvAll]
theorem shaped_we {n : Nat} {e : Option Nat} (h : ∀ i, e = some i → i ≤ 1000) : SeqAt.shaped (.list [.str (wordOf n), .str (idxT e)]) = true := by
  have h1 : PyData.canLay0 (.str (wordOf n)) = true := by
    cases n with
    | zero => decide +kernel
    | succ m => exact (by decide +kernel : PyData.canLay0 (.str "rows") = true)
  have h2 : PyData.canLay0 (.str (idxT e)) = true := by
    cases e with
    | none => decide +kernel
    | some i => exact (by decide +kernel : ∀ n, n < 1001 → PyData.canLay0 (.str (Str.ofString (toString ((n : Nat) : Int)))) = true) i (Nat.lt_succ_of_le (h i rfl))
  show ((PyData.canLay0 (.str (wordOf n)) && (PyData.canLay0 (.str (idxT e)) && true)) && decide _) = true
  rw [h1, h2]
  simp [PyData.depth, PyData.depthAll]
theorem idx_len (n : Nat) : (wordOf n).length ≤ 1000 := by
  cases n <;> exact Nat.le_of_ble_eq_true rfl
theorem idxT_len {e : Option Nat} (h : ∀ i, e = some i → i ≤ 1000) : (idxT e).length ≤ 1000 := by
  cases e with
  | none => exact Nat.le_of_ble_eq_true rfl
  | some i => exact (by decide +kernel : ∀ n, n < 1001 → (Str.ofString (toString ((n : Nat) : Int))).length ≤ 1000) i (Nat.lt_succ_of_le (h i rfl))
theorem RpT.putL {p a : Addr} {H : Hp} {xs : List V} {o : HO} {v : V} {d : PyData} (r : RpT p H v d) (h : H a = some (.lst xs)) : RpT p (upd H a o) v d := r.keep (ExT.put h)
/-- what tuples tell never leads to a list -/
theorem RpT.off {p a : Addr} {H : Hp} {xs : List V} (h : H a = some (.lst xs)) : ∀ {v : V} {d : PyData}, RpT p H v d → RpT a H v d := by
  intro v d r
  exact RpT.rec (motive_1 := fun v d _ => RpT a H v d) (motive_2 := fun vs ds _ => RpTA a H vs ds) (fun i => .int i) (fun x h => .str x h)
    (fun n ht z _ ih => .tup (fun q => by rw [q, h] at ht; cases ht) ht z ih) .nil (fun _ _ i1 i2 => .cons i1 i2) r
/-! ### what is asked is right -/
def Item (d : PyData) : Prop := ∃ d1 d2 n e, d = .list [d1, d2, .str (wordOf n), .str (idxT e)] ∧ n < 2 ∧ tabErr d1 d2 = some (n, e) ∧ ∀ i, e = some i → i ≤ 1000
theorem item_cols {d1 d2 : PyData} {e : Option Nat} {x y : Str} (h : colsErr d1 = some e) (hx : x = "columns") (hy : y = idxT e) (hb : ∀ i, e = some i → i ≤ 1000) : Item (.list [d1, d2, .str x, .str y]) :=
  ⟨d1, d2, 0, e, by rw [hx, hy]; rfl, by decide, by unfold tabErr; rw [h], hb⟩
theorem item_rows {cs : List PyData} {d2 : PyData} {e : Option Nat} {x y : Str} (h : colsErr (.tuple cs) = none) (h2 : rowsErr cs.length d2 = some e) (hx : x = "rows") (hy : y = idxT e) (hb : ∀ i, e = some i → i ≤ 1000) : Item (.list [.tuple cs, d2, .str x, .str y]) :=
  ⟨.tuple cs, d2, 1, e, by rw [hx, hy]; rfl, by decide, by unfold tabErr; rw [h]; dsimp only; rw [h2]; rfl, hb⟩
theorem colsErr_ok {names : List Str} (h3 : names.length ≤ 3) (h1 : 1 ≤ names.length) (nd : names.Nodup) (nm : ∀ x ∈ names, isName (.str x) = true) : colsErr (.tuple (names.map PyData.str)) = none := by
  have e : colsBad 0 [] (names.map PyData.str) = none := by
    have z := colsBad_run (names := names) (i := 0) (seen := []) (rest := []) (by omega) (by rw [List.nil_append]; exact nd) nm
    rw [List.append_nil] at z
    rw [z]
    rfl
  cases hd : names.map PyData.str with
  | nil =>
    have z := congrArg List.length hd
    rw [List.length_map] at z
    simp only [List.length_nil] at z
    omega
  | cons z r =>
    rw [hd] at e
    show (colsBad 0 [] (z :: r)).map some = _
    rw [e]
    rfl
def nineRow (ss : List PyData) (c : Nat) : PyData := .tuple [.str (Str.append "n" ⟨#[c]⟩), .tuple ss]
theorem nine_bad {m : Nat} {ss : List PyData} (hl : ss.length = m) (ha : ∀ s ∈ ss, isSpan (-10000) 10000 s = true) : rowsErr m (.tuple (([97, 98, 99, 100, 101, 102, 103, 104, 105] : List Nat).map (nineRow ss))) = some (some 8) := by
  have row : ∀ c : Nat, isName (.str (Str.append "n" ⟨#[c]⟩)) = true → isRow m (nineRow ss c) = true := fun c h => line_row ⟨ss, rfl, hl, ha⟩ h
  show (rowsBad m 0 [] (nineRow ss 97 :: nineRow ss 98 :: nineRow ss 99 :: nineRow ss 100 :: nineRow ss 101 :: nineRow ss 102 :: nineRow ss 103 :: nineRow ss 104 :: [nineRow ss 105])).map some = _
  rw [rowsBad_ok (by decide) (row 97 (by decide +kernel)) rfl (by decide +kernel), rowsBad_ok (by decide) (row 98 (by decide +kernel)) rfl (by decide +kernel), rowsBad_ok (by decide) (row 99 (by decide +kernel)) rfl (by decide +kernel),
    rowsBad_ok (by decide) (row 100 (by decide +kernel)) rfl (by decide +kernel), rowsBad_ok (by decide) (row 101 (by decide +kernel)) rfl (by decide +kernel), rowsBad_ok (by decide) (row 102 (by decide +kernel)) rfl (by decide +kernel),
    rowsBad_ok (by decide) (row 103 (by decide +kernel)) rfl (by decide +kernel), rowsBad_ok (by decide) (row 104 (by decide +kernel)) rfl (by decide +kernel), rowsBad_8]
  rfl
/-! ### rows made of the signs of a text -/
theorem lc_rows {p : Addr} {K : PySem.W.Frag} {te : TE} {vs : List Nat} {σ : L2.St} {H1 : Hp} {Q : VK} {g : TG} {tl : TE} {x : Str} {f : Nat → PyData} (hp : Has p H1) (hz : x.length ≤ 1000) (ht : ∀ R : VK, R (.str x) H1 → tl σ H1 R)
    (hs : ∀ (c : Nat) (H : Hp), Same H1 H → ∀ R : VK, (∀ v H3, Same H H3 → RpT p H3 v (f c) → R v H3) → g (.str ⟨#[c]⟩) (wipe σ vs) H fun σ2 H2 => wipe σ2 vs = wipe σ vs ∧ te σ2 H2 R)
    (k : ∀ D xs H', H1 D = none → Same H1 H' → H' D = some (.lst xs) → RpTA p H' xs (x.cps.toList.map f) → Q (.ref D) H') : tLc (iStr tl) g tYes te vs σ H1 Q := by
  refine ht _ ⟨x, rfl, fun D hD => ?_⟩
  have nD : D ≠ p := hp.ne hD
  refine ⟨fun i m H => m + i = x.cps.size ∧ Same H1 H ∧ ∃ xs, H D = some (.lst xs) ∧ RpTA p H xs ((x.cps.toList.take i).map f), ⟨x.cps.size, rfl, same_new hD, [], upd_same, .nil⟩, fun i m H ⟨hm, sm, xs, hd, rx⟩ => ?_⟩
  have lx := rx.length
  rw [List.length_map, List.length_take] at lx
  by_cases hi : i < x.cps.size
  · refine .inr ⟨hi, fun H' => Same H1 H' ∧ ∃ xs, H' D = some (.lst xs) ∧ RpTA p H' xs ((x.cps.toList.take (i + 1)).map f), fun H' ⟨s', xs', d', r'⟩ => ⟨m - 1, by omega, by omega, s', xs', d', r'⟩, fun v H' ⟨e1, c, e2, e3⟩ => ?_⟩
    subst e1 e3
    have key := hs c H' sm (fun y H4 => ∃ acc, H4 D = some (.lst acc) ∧ acc.length < sizeLine ∧ Same H1 (upd H4 D (.lst (acc ++ [y]))) ∧ ∃ xs, upd H4 D (.lst (acc ++ [y])) D = some (.lst xs) ∧ RpTA p (upd H4 D (.lst (acc ++ [y]))) xs ((x.cps.toList.take (i + 1)).map f)) fun y H3 s3 ry => ?_
    · exact key
    · have hD3 := s3 _ _ hd
      refine ⟨xs, hD3, ?_, fun b o e => ?_, xs ++ [y], upd_same, ?_⟩
      · have q : x.length = x.cps.size := rfl
        exact Nat.lt_of_le_of_lt (by omega : xs.length ≤ 1000) (by decide)
      · rw [upd_ne (ne_of_none e hD)]
        exact s3 _ _ (sm _ _ e)
      · rw [List.take_succ, List.map_append, Array.getElem?_toList, e2]
        exact RpTA.append ((rx.keep (ExT.of (ExB.of s3))).keep (ExT.put hD3)) (.cons (ry.keep (ExT.put hD3)) .nil)
  · have e : i = x.cps.size := by omega
    subst e
    refine .inl ⟨Nat.le_refl _, k D xs H hD sm hd ?_⟩
    rw [List.take_of_length_le (by rw [Array.length_toList]; exact Nat.le_refl _)] at rx
    exact rx
/-- tables stand while a list at p changes -/
theorem Tabs.exb {T : List (Addr × Str)} {p : Addr} {H H' : Hp} {xs : List V} (t : Tabs T H) (h : H p = some (.lst xs)) (e : ExB p H H') : Tabs T H' := fun q hq => by
  obtain ⟨ps, h1, h2, h3⟩ := t q hq
  refine ⟨ps, e _ _ (fun z => by rw [z, h] at h1; cases h1) h1, h2, fun pos cv hc => ?_⟩
  obtain ⟨c, e1, e2⟩ := h3 pos cv hc
  exact ⟨c, e1, e _ _ (fun z => by rw [z, h] at e2; unfold CodeO at e2; cases e2) e2⟩
theorem PailAt.exN {p : Addr} {H H' : Hp} {n : Nat} (h : PailAt H p n) (e : LamX.ExtN H H') : PailAt H' p n := by
  obtain ⟨a, b, c, h1, h2, h3⟩ := h
  exact ⟨a, b, c, h1, h2, e _ _ h3 (fun ps q => by cases q)⟩
end Cs
set_option maxHeartbeats 4000000
namespace Cs
open PySem L2 L2H PyProof.Rows LamX
/-- a def whose code object is known -/
structure DefC (K : PySem.W.Frag) (mg : Str → Option Value) (x : Str) (st : Stmt) (ps : List Str) (cd : Addr) : Prop where
  ex : ∃ (f : Addr) (fd : FuncData), FunD K x x (defArgs st) (defBody st) (defScope st) [] [] f fd ∧ mg x = some (.ref f) ∧ Binds K fd ps [] ∧ fd.code = .ref cd
theorem DefC.cal {P : Program} {w : World} {K : PySem.W.Frag} {mg : Str → Option Value} {base : Heap} {x : Str} {st : Stmt} {N ps : List Str} {k : Nat} {sp : Sp} {cd : Addr} (D : DefC K mg x st ps cd) (S : FnScope N ps (defScope st)) (len : ∀ vs H Q E, sp vs H Q E → vs.length = ps.length)
    (hbody : ∀ (f : Addr) (A : Around) (outer : List Env) (s : Shared) (H : Hp) (vs : List V) (Q : VK) (E : XK), Room k (A.deeper (envOfC x (defScope st) s.heap.objs.size f (.ref cd))) → sp vs H Q E →
      ∃ t, PSs (cxOf CX0 P w K mg base N x (defScope st) f (.ref cd) A outer s H E).nox (defBody st) t ∧ t { nx := fun _ H' => Q .non H', rt := Q } (start N vs) H) : C8.Cal P w K mg base (k + 1) x sp [] := by
  obtain ⟨f, fd, F, g, b, hc⟩ := D.ex
  refine ⟨f, fd, ps, [], ?_, g, F.kp, b, .nil⟩
  obtain ⟨oc, od, dV, kV, doc, pm, an, cdv, ct, osl, rfl, lk, hcd, _, _⟩ := F.ex
  have hc : cdv = .ref cd := hc
  subst hc
  refine fn_of lk hcd S len fun A outer s H vs Q E hr hsp => ?_
  obtain ⟨t, h1, h2⟩ := hbody f A outer s H vs Q E hr hsp
  exact ⟨t, h1.nox, h2⟩
section
variable {X : Cx} {Tb : List (Addr × Str)} {cl : Str → Addr} {c : Nat → Addr} {C fI cd Pt : Addr} {fdI : FuncData} {i j : Nat} {n1 n2 : Str} {params : Arguments} {scope : Scope} {p q q1 q2 q3 lpos pos : Pos}
/-- what the lambdas' call needs -/
structure LamK (X : Cx) (Tb : List (Addr × Str)) (cl : Str → Addr) (c : Nat → Addr) (C fI cd Pt : Addr) (fdI : FuncData) : Prop where
  HD : DefAt X.K X.mg "_law_heard" (topS 46) ["_law_act"]
  T : Txt X.mg
  G : ClsT X.mg cl
  W : WordAt X.prog X.w X.K X.mg X.base cl
  TA : TabAt X.K X.mg C fI fdI
  FI : FnOk X.prog X.w X.K X.mg X.base (L2.CX X.prog X.w) 7 fI fdI ["self", "columns", "rows"] (SpTI c)
  TB : TabB X.base X.mg cd Pt
  hcode : X.env.code = .ref cd
  hmT : (Pt, X.env.qual ++ "<lambda>") ∈ Tb
  hu : ∀ p ∈ Tb, p.1 = Pt → p.2 = X.env.qual ++ "<lambda>"
theorem lam_pos (k : LamK X Tb cl c C fI cd Pt fdI) (hr : Room 10 X.A) (hg : Gl X "_law_heard") (L : LamS X.env.scope scope) (hdef : defaultsOf params X.env = ([], []))
    (hbind : ∀ (q : Str) (cl : List (Str × Addr)) (pm cv ctv : Value), bindArgs (PySem.W.kla_fn "<lambda>" q params (.Call (.Name "Table" p) [.Name n1 q1, .Name n2 q2] [] q3) scope cl pm cv ctv) ⟨[], []⟩ = pure [])
    (hgT : scope.names.lookup ("Table" : Str) = some .globalImplicit) (hN1 : X.N[i]? = some n1) (hN2 : X.N[j]? = some n2) (hv1 : Vis scope n1) (hv2 : Vis scope n2)
    (d1 : (n1 == ("__debug__" : Str)) = false) (d2 : (n2 == ("__debug__" : Str)) = false) (d3 : (n1 == ("__classdict__" : Str)) = false) (d4 : (n2 == ("__classdict__" : Str)) = false) :
    PE X (.Call (.Name "_law_heard" q) [.Lambda params (.Call (.Name "Table" p) [.Name n1 q1, .Name n2 q2] [] q3) scope lpos] [] pos) (tLam Tb (TTh X.K cl) fun E => tMake C (SpTI c) [] E (tCons (tVar i) (tCons (tVar j) tNil))) := by
  obtain ⟨g, fdg, F, gg, bg⟩ := k.HD.ex
  obtain ⟨oc, od, dV, kV, doc, pm, an, cdv, ct, osl, rfl, lk, hcd, _, _⟩ := F.ex
  refine pe_lamcall (k := 8) hg gg F.kp lk hcd bg sc__law_heard rfl (.inl rfl) (gives_heard k.T k.G k.W (hr.mono (by decide))) k.TB k.hcode k.hmT k.hu hr L hdef hbind fun A outer s H E f c' hr2 => ?_
  exact pe_make (X := lamCx X A outer s H E scope f c') k.TA.mkT k.FI hr2 hgT k.TA.g k.TA.b .nil (passes_call (takes_of rfl rfl rfl rfl) (fun _ _ _ _ h => h)) (pa_cons (pe_var hN1 hv1 d1 d3) (pa_cons (pe_var hN2 hv2 d2 d4) pa_nil))
theorem lam_kw (k : LamK X Tb cl c C fI cd Pt fdI) (hr : Room 10 X.A) (hg : Gl X "_law_heard") (L : LamS X.env.scope scope) (hdef : defaultsOf params X.env = ([], [])) {k1 k2 : Pos}
    (hbind : ∀ (q : Str) (cl : List (Str × Addr)) (pm cv ctv : Value), bindArgs (PySem.W.kla_fn "<lambda>" q params (.Call (.Name "Table" p) [] [⟨some "rows", .Name n1 q1, k1⟩, ⟨some "columns", .Name n2 q2, k2⟩] q3) scope cl pm cv ctv) ⟨[], []⟩ = pure [])
    (hgT : scope.names.lookup ("Table" : Str) = some .globalImplicit) (hN1 : X.N[i]? = some n1) (hN2 : X.N[j]? = some n2) (hv1 : Vis scope n1) (hv2 : Vis scope n2)
    (d1 : (n1 == ("__debug__" : Str)) = false) (d2 : (n2 == ("__debug__" : Str)) = false) (d3 : (n1 == ("__classdict__" : Str)) = false) (d4 : (n2 == ("__classdict__" : Str)) = false) :
    PE X (.Call (.Name "_law_heard" q) [.Lambda params (.Call (.Name "Table" p) [] [⟨some "rows", .Name n1 q1, k1⟩, ⟨some "columns", .Name n2 q2, k2⟩] q3) scope lpos] [] pos)
      (tLam Tb (TTh X.K cl) fun E => tMakeK C 0 2 (SpTI c) (fun vs zs => vs ++ zs.reverse) E tNil (tCons (tVar i) (tCons (tVar j) tNil))) := by
  obtain ⟨g, fdg, F, gg, bg⟩ := k.HD.ex
  obtain ⟨oc, od, dV, kV, doc, pm, an, cdv, ct, osl, rfl, lk, hcd, _, _⟩ := F.ex
  refine pe_lamcall (k := 8) hg gg F.kp lk hcd bg sc__law_heard rfl (.inl rfl) (gives_heard k.T k.G k.W (hr.mono (by decide))) k.TB k.hcode k.hmT k.hu hr L hdef hbind fun A outer s H E f c' hr2 => ?_
  exact pe_makeK0 (X := lamCx X A outer s H E scope f c') (ks := ["rows", "columns"]) (gV := fun vs zs => vs ++ zs.reverse) k.TA.mkT k.FI hr2 hgT k.TA.g k.TA.kb (passes_call (takes_of rfl rfl rfl rfl) (fun _ _ _ _ h => h)) (pk_cons (pe_var hN1 hv1 d1 d3) (pk_cons (pe_var hN2 hv2 d2 d4) pk_nil))
end
/-- what the lambda's call makes of a table that is refused -/
theorem heard_err {K : PySem.W.Frag} {cl : Str → Addr} {c : Nat → Addr} {C p : Addr} {t : XK → TE} {Tb : List (Addr × Str)} {σ : L2.St} {H : Hp} {Q : VK} {vc vr : V} {dc dr : PyData} {n : Nat} {e : Option Nat} (hT : Tabs Tb H)
    (ht : ∀ (E : XK) (H1 : Hp) (Q' : VK), (∀ x dx, H1 x = none → H1 dx = none → dx ≠ x → SpTI c [.ref x, vc, vr] (upd (upd H1 dx (.own x)) x (.ins C dx [])) (fun v H2 => v = .non ∧ Q' (.ref x) H2) E) → t E σ H1 Q')
    (rc : Rp p H vc dc) (rr : Rp p H vr dr) (he : tabErr dc dr = some (n, e)) (hn : n < 2) (hb : ∀ i, e = some i → i ≤ 1000) (hW : ∀ n, n < 2 → ExW K cl (c n) n)
    (k : ∀ l H1 H2, ExtN H H1 → Tabs Tb H1 → Same H1 H2 → H2 l = some (.lst [.str (wordOf n), .str (idxT e)]) → Q (.ref l) H2) : tLam Tb (TTh K cl) t σ H Q := by
  refine ⟨hT, fun H1 e1 T1 E Q' hE => ht E H1 Q' ?_⟩
  refine make_err (p := p) (rc.keepN (ExN.lam e1)) (rr.keepN (ExN.lam e1)) he fun dd H' hd s hx => hE _ _ _ ⟨c n, dd, n, e, rfl, rfl, hW n hn, hn, hx, hb, fun l H2 hl s2 hl2 => k l H1 H2 e1 T1 (s.trans s2) hl2⟩
theorem heard_err2 {K : PySem.W.Frag} {cl : Str → Addr} {c : Nat → Addr} {C p : Addr} {t : XK → TE} {Tb : List (Addr × Str)} {σ : L2.St} {H : Hp} {Q : VK} {vc vr : V} {dc dr : PyData} {n : Nat} {e : Option Nat}
    (ht : ∀ (E : XK) (H1 : Hp) (Q' : VK), (∀ x dx, H1 x = none → H1 dx = none → dx ≠ x → SpTI c [.ref x, vc, vr] (upd (upd H1 dx (.own x)) x (.ins C dx [])) (fun v H2 => v = .non ∧ Q' (.ref x) H2) E) → t E σ H1 Q')
    (rc : Rp p H vc dc) (rr : Rp p H vr dr) (he : tabErr dc dr = some (n, e)) (hn : n < 2) (hb : ∀ i, e = some i → i ≤ 1000) (hW : ∀ n, n < 2 → ExW K cl (c n) n)
    (k : ∀ l H1 H2, ExtN H H1 → Tabs Tb H1 → Same H1 H2 → H2 l = some (.lst [.str (wordOf n), .str (idxT e)]) → Q (.ref l) H2) : ∀ H1, ExtN H H1 → Tabs Tb H1 → TTh K cl (fun E H' Q' => t E σ H' Q') H1 Q := by
  refine fun H1 e1 T1 E Q' hE => ht E H1 Q' ?_
  refine make_err (p := p) (rc.keepN (ExN.lam e1)) (rr.keepN (ExN.lam e1)) he fun dd H' hd s hx => hE _ _ _ ⟨c n, dd, n, e, rfl, rfl, hW n hn, hn, hx, hb, fun l H2 hl s2 hl2 => k l H1 H2 e1 T1 (s.trans s2) hl2⟩
end Cs
set_option maxHeartbeats 4000000
namespace Cs
open PySem L2 L2H PyProof.Rows LamX
local macro_rules | `(tactic| walk_at "goD2") => `(tactic| try dsimp only [gName, tSeq, tAsg, tRet, tLst, tCons, tOp, tTup, tCall, tNil, tC, tDrop])
def SpRight (Tb : List (Addr × Str)) : Sp := fun vs H Q _ => ∃ p, vs = [.ref p] ∧ PailAt H p 0 ∧ Tabs Tb H ∧ ∀ H', Cs.ExN p H H' → Tabs Tb H' → Q (.bl true) H'
section
variable {P : Program} {w : World} {K : PySem.W.Frag} {mg : Str → Option Value} {base : Heap}
theorem sc__law_right : FnScope ["_law_pail_here", "_law_lap", "_law_heads_here", "_law_lines_here", "_law_bad", "_law_at", "_law_worse", "_law_place", "_law_five", "_law_nine", "_law_sign", "_law_asked", "_law_one", "_law_two", "_law_word_here", "_law_kept"] ["_law_pail_here"] (defScope (topS 49)) := ⟨rfl, rfl, rfl, by decide +kernel, rfl, by decide +kernel, by decide +kernel⟩
theorem ok__law_right {cl : Str → Addr} {c : Nat → Addr} {C fI cd Pt : Addr} {fdI : FuncData} (D : DefC K mg "_law_right" (topS 49) ["_law_pail_here"] cd) (T : Txt mg)
    (HD : DefAt K mg "_law_heard" (topS 46) ["_law_act"]) (G : ClsT mg cl) (W : WordAt P w K mg base cl) (TA : TabAt K mg C fI fdI) (FI : FnOk P w K mg base (L2.CX P w) 7 fI fdI ["self", "columns", "rows"] (SpTI c)) (TB : TabB base mg cd Pt)
    (hEW : ∀ n, n < 2 → ExW K cl (c n) n)
    (c_law_heads : C8.Cal P w K mg base 2 "_law_heads" SpHeads []) (c_law_lines : C8.Cal P w K mg base 4 "_law_lines" SpLines []) (c_law_bad_heads : C8.Cal P w K mg base 3 "_law_bad_heads" SpBadH []) (c_law_bad_lines : C8.Cal P w K mg base 4 "_law_bad_lines" SpBadL [])
    (c_law_any : C8.Cal P w K mg base 2 "_law_any" SpAny []) : C8.Cal P w K mg base 11 "_law_right" (SpRight [(Pt, "_law_right.<locals>.<lambda>")]) [] := by
  refine D.cal sc__law_right (fun vs H Q E h => by obtain ⟨p, rfl, _⟩ := h; rfl) fun f A outer s H vs Q E hr h => ?_
  obtain ⟨p, rfl, hp, hT, k⟩ := h
  have nd := sc__law_right.nd
  have hu64 := hr.units
  have lk : LamK (cxOf CX0 P w K mg base ["_law_pail_here", "_law_lap", "_law_heads_here", "_law_lines_here", "_law_bad", "_law_at", "_law_worse", "_law_place", "_law_five", "_law_nine", "_law_sign", "_law_asked", "_law_one", "_law_two", "_law_word_here", "_law_kept"] "_law_right" (defScope (topS 49)) f (.ref cd) A outer s H E).nox [(Pt, "_law_right.<locals>.<lambda>")] cl c C fI cd Pt fdI :=
    ⟨HD, T, G, W, TA, FI, TB, rfl, List.mem_cons_self, fun q hq _ => by rw [List.mem_singleton.mp hq]; rfl⟩
  refine ⟨_, (pss_cons (ps_for PassesOwn.never rfl (pi_range1 rfl T.range_ (pa_cons pe_int pa_nil)) (pg_name (i := 1) nd rfl (.inl rfl)) (pss_cons (ps_set (i := 2) nd rfl (.inl rfl) (C8.pe_c c_law_heads hr (by decide) rfl (pa_cons (pv 0) (pa_cons pe_int pa_nil))))
      (pss_cons (ps_set (i := 3) nd rfl (.inr rfl) (C8.pe_c c_law_lines hr (by decide) rfl (pa_cons (pv 0) (pa_cons (pe_callB call_lenA (by rfl) T.len_ (by decide +kernel) (pa_cons (pv 2) pa_nil)) (pa_cons pe_int pa_nil)))))
      (pss_cons (ps_asg (C8.pe_c c_law_bad_heads hr (by decide) rfl (pa_cons (pv 0) (pa_cons (pv 2) pa_nil))) (pg_unl (by rfl) (pgs_cons (pg_name (i := 4) nd rfl (.inl rfl)) (pgs_cons (pg_name (i := 5) nd rfl (.inl rfl)) pgs_nil))))
      (pss_cons (ps_asg (C8.pe_c c_law_bad_lines hr (by decide) rfl (pa_cons (pv 0) (pa_cons (pe_callB call_lenA (by rfl) T.len_ (by decide +kernel) (pa_cons (pv 2) pa_nil)) (pa_cons (pv 3) pa_nil)))) (pg_unl (by rfl) (pgs_cons (pg_name (i := 6) nd rfl (.inl rfl)) (pgs_cons (pg_name (i := 7) nd rfl (.inl rfl)) pgs_nil))))
      (pss_cons (ps_set (i := 8) nd rfl (.inl rfl) (PD.pe (p := p) (pd_tup (pds_cons (pd_c pe_str (fun _ => .str _ (by decide))) (pds_cons (pd_c pe_str (fun _ => .str _ (by decide))) (pds_cons (pd_c pe_str (fun _ => .str _ (by decide))) (pds_cons (pd_c pe_str (fun _ => .str _ (by decide))) (pds_cons (pd_c pe_str (fun _ => .str _ (by decide))) pds_nil))))))))
      (pss_cons (ps_set (i := 9) nd rfl (.inl rfl) (pe_callTy call_tuple_of (by rfl) T.tuple_ (by decide +kernel) (pa_cons (pe_lc (own := [("_law_sign", 10)]) rfl nd (pi_str pe_str) (blkOk_by (N := ["_law_pail_here", "_law_lap", "_law_heads_here", "_law_lines_here", "_law_bad", "_law_at", "_law_worse", "_law_place", "_law_five", "_law_nine", "_law_sign", "_law_asked", "_law_one", "_law_two", "_law_word_here", "_law_kept"]) (sc := defScope (topS 49)) (by decide +kernel)) (fun _ _ _ _ _ => (pg_name (i := 10) nd rfl (.inl rfl))) (fun _ _ _ _ _ => pts_nil) (fun _ _ _ _ _ => (pe_tup (pa_cons (pe_op op_add_str pe_str (pv 10)) (pa_cons (pe_ix (show IxR _ (rIx K) from ix_seq) (pe_ix (show IxR _ (rIx K) from ix_seq) (pv 3) pe_int (fun _ _ => rfl)) pe_int (fun _ _ => rfl)) pa_nil))))) pa_nil)))
      (pss_cons (ps_set (i := 11) nd rfl (.inl rfl) (pe_lst (pa_cons (PD.pe (p := p) (pd_lst' (pds_cons (pd_var (i := 4) (pv 4) (fun _ _ _ h => h)) (pds_cons (pd_var (i := 3) (pv 3) (fun _ _ _ h => h)) (pds_cons (pd_c pe_str (fun _ => .str _ (by decide))) (pds_cons (pd_str (pd_var (i := 5) (pv 5) (fun _ _ _ h => h)) (by rfl) T.str_) pds_nil)))))) (pa_cons (PD.pe (p := p) (pd_lst' (pds_cons (pd_var (i := 4) (pv 4) (fun _ _ _ h => h)) (pds_cons (pd_c pe_non (fun _ => .non)) (pds_cons (pd_c pe_str (fun _ => .str _ (by decide))) (pds_cons (pd_str (pd_var (i := 5) (pv 5) (fun _ _ _ h => h)) (by rfl) T.str_) pds_nil)))))) pa_nil))))
      (pss_cons (ps_expr (pe_bm PySem.F.plainAttrs_list PySem.F.slot_list_append PySem.F.type_list_append mt_append (pv 11) (pa_cons (pe_lst (pa_cons (pv 2) (pa_cons (pv 6) (pa_cons pe_str (pa_cons (PD.pe (p := p) (pd_str (pd_var (i := 7) (pv 7) (fun _ _ _ h => h)) (by rfl) T.str_)) pa_nil))))) pa_nil)))
      (pss_cons (ps_set (i := 11) nd rfl (.inl rfl) (pe_op op_cat (pv 11) (PD.pe (p := p) (pd_lst' (pds_cons (pd_lst' (pds_cons (pd_var (i := 8) (pv 8) (fun _ _ _ h => h)) (pds_cons (pd_var (i := 6) (pv 6) (fun _ _ _ h => h)) (pds_cons (pd_c pe_str (fun _ => .str _ (by decide))) (pds_cons (pd_c pe_str (fun _ => .str _ (by decide))) pds_nil))))) (pds_cons (pd_lst' (pds_cons (pd_var (i := 2) (pv 2) (fun _ _ _ h => h)) (pds_cons (pd_var (i := 9) (pv 9) (fun _ _ _ h => h)) (pds_cons (pd_c pe_str (fun _ => .str _ (by decide))) (pds_cons (pd_c pe_str (fun _ => .str _ (by decide))) pds_nil))))) (pds_cons (pd_lst' (pds_cons (pd_tup pds_nil) (pds_cons (pd_var (i := 3) (pv 3) (fun _ _ _ h => h)) (pds_cons (pd_c pe_str (fun _ => .str _ (by decide))) (pds_cons (pd_c pe_str (fun _ => .str _ (by decide))) pds_nil))))) pds_nil)))))))
      (pss_cons (ps_set (i := 11) nd rfl (.inl rfl) (pe_op op_cat (pv 11) (PD.pe (p := p) (pd_lst' (pds_cons (pd_lst' (pds_cons (pd_var (i := 2) (pv 2) (fun _ _ _ h => h)) (pds_cons (pd_tup pds_nil) (pds_cons (pd_c pe_str (fun _ => .str _ (by decide))) (pds_cons (pd_c pe_str (fun _ => .str _ (by decide))) pds_nil))))) (pds_cons (pd_lst' (pds_cons (pd_list (pd_var (i := 2) (pv 2) (fun _ _ _ h => h)) (by rfl) T.list_) (pds_cons (pd_var (i := 3) (pv 3) (fun _ _ _ h => h)) (pds_cons (pd_c pe_str (fun _ => .str _ (by decide))) (pds_cons (pd_c pe_str (fun _ => .str _ (by decide))) pds_nil))))) pds_nil))))))
      (pss_cons (ps_set (i := 11) nd rfl (.inl rfl) (pe_op op_cat (pv 11) (PD.pe (p := p) (pd_lst' (pds_cons (pd_lst' (pds_cons (pd_var (i := 2) (pv 2) (fun _ _ _ h => h)) (pds_cons (pd_list (pd_var (i := 3) (pv 3) (fun _ _ _ h => h)) (by rfl) T.list_) (pds_cons (pd_c pe_str (fun _ => .str _ (by decide))) (pds_cons (pd_c pe_str (fun _ => .str _ (by decide))) pds_nil))))) pds_nil)))))
      (pss_cons (ps_expr (pe_bm PySem.F.plainAttrs_list PySem.F.slot_list_append PySem.F.type_list_append mt_append (pv 11) (pa_cons (pe_lst (pa_cons (C8.pe_c c_law_any hr (by decide) rfl (pa_cons (pv 0) (pa_cons (PD.pe (p := p) (pd_lst' (pds_cons (pd_c pe_non (fun _ => .non)) (pds_cons (pd_c pe_str (fun _ => .str _ (by decide))) (pds_cons (pd_c pe_int (fun _ => .int _)) (pds_cons pd_dict pds_nil)))))) pa_nil))) (pa_cons (PD.pe (p := p) (pd_tup pds_nil)) (pa_cons pe_str (pa_cons pe_str pa_nil))))) pa_nil)))
      (pss_cons (ps_set (i := 11) nd rfl (.inl rfl) (pe_op op_cat (pv 11) (pe_lst (pa_cons (pe_lst (pa_cons (pv 2) (pa_cons (C8.pe_c c_law_any hr (by decide) rfl (pa_cons (pv 0) (pa_cons (PD.pe (p := p) (pd_lst' (pds_cons (pd_c pe_non (fun _ => .non)) (pds_cons (pd_c pe_str (fun _ => .str _ (by decide))) (pds_cons (pd_c pe_int (fun _ => .int _)) (pds_cons pd_dict pds_nil)))))) pa_nil))) (pa_cons pe_str (pa_cons pe_str pa_nil))))) pa_nil))))
      (pss_one (ps_for PassesOwn.never rfl (pi_list (pv 11)) (pg_unl (by rfl) (pgs_cons (pg_name (i := 12) nd rfl (.inr rfl)) (pgs_cons (pg_name (i := 13) nd rfl (.inr rfl)) (pgs_cons (pg_name (i := 14) nd rfl (.inl rfl)) (pgs_cons (pg_name (i := 15) nd rfl (.inl rfl)) pgs_nil))))) (pss_cons (ps_if (pt_cmpR (opNe hu64) (lam_pos (i := 12) (j := 13) lk hr rfl (lamS_by (sc := defScope (topS 49)) (by decide +kernel)) rfl (fun _ _ _ _ _ => rfl) rfl rfl rfl (.inr (.inr rfl)) (.inr (.inr rfl)) (by decide) (by decide) (by decide) (by decide)) (PD.pe (p := p) (pd_lst' (pds_cons (pd_var (i := 14) (pv 14) (fun _ _ _ h => h)) (pds_cons (pd_var (i := 15) (pv 15) (fun _ _ _ h => h)) pds_nil)))) (nomark _)) (pss_one (ps_ret pe_bl)) pss_nil)
      (pss_one (ps_if (pt_cmpR (opNe hu64) (lam_kw (i := 13) (j := 12) lk hr rfl (lamS_by (sc := defScope (topS 49)) (by decide +kernel)) rfl (fun _ _ _ _ _ => rfl) rfl rfl rfl (.inr (.inr rfl)) (.inr (.inr rfl)) (by decide) (by decide) (by decide) (by decide)) (PD.pe (p := p) (pd_lst' (pds_cons (pd_var (i := 14) (pv 14) (fun _ _ _ h => h)) (pds_cons (pd_var (i := 15) (pv 15) (fun _ _ _ h => h)) pds_nil)))) (nomark _)) (pss_one (ps_ret pe_bl)) pss_nil)))))))))))))))))))
      (pss_one (ps_ret pe_bl))), ?_⟩
  refine ⟨4, rfl, by decide, by decide, ?_⟩
  refine for_range (fun i σ H' => ∃ u1 u2 u3 u4 u5 u6 u7 u8 u9 u11 u12 u13 u14 u15, σ = [some (.ref p), u1, u2, u3, u4, u5, u6, u7, u8, u9, none, u11, u12, u13, u14, u15] ∧ Cs.ExN p H H' ∧ PailAt H' p (100 * i) ∧ Tabs [(Pt, "_law_right.<locals>.<lambda>")] H')
    ⟨none, none, none, none, none, none, none, none, none, none, none, none, none, none, rfl, Cs.ExN.refl _ _, hp, hT⟩ ?_ ?_
  · rintro i σ H0 hi ⟨u1, u2, u3, u4, u5, u6, u7, u8, u9, u11, u12, u13, u14, u15, rfl, eN0, hp0, hT0⟩
    walk_at "e"
    refine ⟨p, 100 * i, rfl, hp0, by omega, fun vh cs H1 h1 h3 hnd hnm rh1 e1 hp1 => ?_⟩
    obtain ⟨ah, xh, rfl, nah, hah, zh, rah⟩ := rh1.rp.tup_inv
    have lx : xh.length = cs.length := by rw [rah.length, List.length_map]
    walk_at "es"
    refine ⟨p, _, cs.length, (by rw [lx]; rfl), by omega, hp1, by omega, fun vl ls ln H2 l1 l4 lnd lnm hL rl2 e2 hp2 => ?_⟩
    have rh2 := rh1.keep (ExT.of e2)
    walk_at "es"
    refine ⟨p, _, .ref ah, cs, rfl, hp2, by omega, h1, h3, hnd, hnm, rh2, fun lb ub bd kb H3 hlb rb3 ceb hkb e3 hp3 => ?_⟩
    refine ⟨lb, _, rfl, SqL.of hlb, rfl, ?_⟩
    have hah3 : H3 ah = some (.tup xh) := e3 _ _ nah (e2 _ _ nah hah)
    walk_at "es"
    have rl3 := rl2.keep (ExT.of e3)
    have rh3 := rh2.keep (ExT.of e3)
    refine ⟨p, _, cs.length, vl, ls, ln, (by rw [lx]; rfl), hp3, by omega, h1, h3, l1, l4, lnd, lnm, hL, rl3, fun lw uw wd kw H4 hlw rw4 cew hkw e4 hp4 => ?_⟩
    refine ⟨lw, _, rfl, SqL.of hlw, rfl, ?_⟩
    walk_at "es"
    have rl4 := rl3.keep (ExT.of e4)
    have rh4 := rh3.keep (ExT.of e4)
    have rb4 := rb3.keep e4
    have e04 : ExB p H0 H4 := e1.trans (e2.trans (e3.trans e4))
    clear rh1 rh2 rh3 rl2 rl3 rb3 e1 e2 e3 e4 hp1 hp2 hp3 hlb hlw hah rah
    walk_at "goD2"
    apply tdat hp4.has
    · walk_at "pd"
    intro v5 H5 s5 r5
    have hp5 := hp4.keep s5
    have rl5 := rl4.keep (ExT.of (ExB.of s5))
    obtain ⟨al, xl, rfl, _, hal, zl, ral⟩ := rl5.rp.tup_inv
    walk_at "goD2"
    obtain ⟨d0, l0⟩ : ∃ d0, ls[0]? = some d0 := ⟨_, List.getElem?_eq_getElem (by rw [hL.len]; omega : 0 < ls.length)⟩
    obtain ⟨x0, _, ss0, hss0, hlen0, hall0⟩ := hL.get l0
    subst hss0
    dsimp only [tCons, tCB]
    refine lc_rows (p := p) (K := K) (x := "abcdefghi") (f := nineRow ss0) hp5.has (by decide) (fun R hR => hR) (fun ch Hc sc R hR => ?_) fun Dn xn H6 hDn s6 hn6 rn6 => ?_
    · refine ⟨rfl, ?_⟩
      have rlc := rl5.rp.keep (ExB.of sc)
      obtain ⟨al2, xl2, ev, _, hal2, _, ral2⟩ := (rl5.keep (ExT.of (ExB.of sc))).tup_inv
      cases ev
      obtain ⟨vr0, hvr0, rr0⟩ := ral2.get l0
      obtain ⟨ar, xr, rfl, _, har, _, rar⟩ := rr0.tup_inv
      obtain ⟨yr, hyr, ryr⟩ := rar.get (i := 1) rfl
      refine ⟨_, rfl, _, _, rfl, rfl, (by exact Nat.le_of_ble_eq_true rfl), ?_⟩
      refine ⟨_, rfl, .inr (.inl ⟨_, xl2, _, .ref ar, rfl, rfl, SqT.of hal2, atI_nat (j := 0) hvr0, .inr (.inl ⟨ar, xr, _, yr, rfl, rfl, SqT.of har, atI_nat (j := 1) hyr, ?_⟩)⟩)⟩
      refine ⟨len_le (n := 2) rfl (by decide), fun t ht => hR _ _ (same_new ht) (.tup ((hp5.has.keep sc).ne ht) upd_same (by exact Nat.le_of_ble_eq_true rfl) (.cons (.str _ (by exact Nat.le_of_ble_eq_true rfl)) (.cons (ryr.keep (ExT.of (ExB.of (same_new ht)))) .nil)))⟩
    refine ⟨Dn, _, rfl, .inl ⟨SqL.of hn6, fun tn htn => ?_⟩⟩
    have s7 : Same H6 (upd H6 tn (.tup xn)) := same_new htn
    have hp6 := hp5.keep s6
    have rn7 : RpT p (upd H6 tn (.tup xn)) (.ref tn) (.tuple (([97, 98, 99, 100, 101, 102, 103, 104, 105] : List Nat).map (nineRow ss0))) := .tup (hp6.has.ne htn) upd_same (by rw [rn6.length, List.length_map]; decide) (rn6.keep (ExT.of (ExB.of s7)))
    have s47 : Same H4 (upd H6 tn (.tup xn)) := s5.trans (s6.trans s7)
    have s57 : Same H5 (upd H6 tn (.tup xn)) := s6.trans s7
    generalize upd H6 tn (.tup xn) = H7 at *
    have hp7 := hp4.keep s47
    have e07 : ExB p H0 H7 := e04.trans (ExB.of s47)
    have rh7 := rh4.keep (ExT.of (ExB.of s47))
    have rl7 := rl4.keep (ExT.of (ExB.of s47))
    have rb7 := rb4.keep (ExB.of s47)
    have rw7 := rw4.keep (ExB.of s47)
    have r57 := r5.keep (ExB.of s57)
    have rlp := rl7.rp
    have rhp := rh7.rp
    have rnp := rn7.rp
    clear rh4 rl4 rb4 rw4 r5 rl5 rn6 hal ral hah3 hp4 hp5 hp6 s5 s6 s7 s47 s57 hDn hn6 htn
    walk_at "goD2"
    apply tdat hp7.has
    · walk_at "pd"
      omega
    intro vi1 H8 s8 ri1
    have hp8 := hp7.keep s8
    have rb8 := rb7.keep (ExB.of s8)
    walk_at "goD2"
    apply tdat hp8.has
    · walk_at "pd"
      omega
    intro vi2 H9 s9 ri2
    have hp9 := hp8.keep s9
    refine ⟨len_le (n := 2) rfl (by decide), fun a ha => ?_⟩
    have na : a ≠ p := hp9.has.ne ha
    have A10 := Ask.new ha na (.cons (ri1.keep (ExB.of s9)) (.cons ri2 .nil))
    have s10 : Same H9 (upd H9 a (.lst [vi1, vi2])) := same_new ha
    have a0 : H0 a = none := none_back (e07.trans ((ExB.of s8).trans (ExB.of s9))) na ha
    have s710 : Same H7 (upd H9 a (.lst [vi1, vi2])) := s8.trans (s9.trans s10)
    have w10 := (rw7.keep (ExB.of s8)).keep (ExB.of s9) |>.fresh ha |>.keep (ExB.of s10)
    have h10 := (rhp.keep (ExB.of s8)).keep (ExB.of s9) |>.fresh ha |>.keep (ExB.of s10)
    have l10 := (rlp.keep (ExB.of s8)).keep (ExB.of s9) |>.fresh ha |>.keep (ExB.of s10)
    have n10 := (rnp.keep (ExB.of s8)).keep (ExB.of s9) |>.fresh ha |>.keep (ExB.of s10)
    have f10 := (r57.keep (ExB.of s8)).keep (ExB.of s9) |>.fresh ha |>.keep (ExB.of s10)
    generalize upd H9 a (.lst [vi1, vi2]) = H10 at *
    have w10p := rw7.keep (ExB.of s710)
    have h10p := rhp.keep (ExB.of s710)
    have l10p := rlp.keep (ExB.of s710)
    have n10p := rnp.keep (ExB.of s710)
    have f10p := r57.keep (ExB.of s710)
    have hp10 := hp7.keep s710
    have e10 : ExB p H0 H10 := e07.trans (ExB.of s710)
    clear rw7 rhp rlp rnp r57 rh7 rl7 rn7 rb7 rb8 ri1 ri2 s8 s9 s10 s710 hp7 hp8 hp9 ha e07
    walk_at "goD2"
    walk_at "e"
    refine ⟨.inl ⟨rfl, _, SqL.of A10.at_⟩, ?_⟩
    walk_at "es"
    walk_at "goD2"
    apply tdat hp10.has
    · walk_at "pd"
      omega
    intro vst H11 s11 rst
    obtain rfl := rst.str_inv
    refine ⟨len_le (n := 4) rfl (by decide), fun l hl => ?_⟩
    have A11 := A10.keep s11
    have A12 := A11.keep (same_new (o := .lst [.ref ah, uw, .str "rows", .str (toString ((kw : Nat) : Int))]) hl)
    have nl : l ≠ a := fun z => by
      rw [z, A11.at_] at hl
      cases hl
    have hp11 := hp10.keep s11
    have nlp : l ≠ p := hp11.has.ne hl
    have s12 : Same H11 (upd H11 l (.lst [.ref ah, uw, .str "rows", .str (toString ((kw : Nat) : Int))])) := same_new hl
    have at12 : upd H11 l (.lst [.ref ah, uw, .str "rows", .str (toString ((kw : Nat) : Int))]) l = some (.lst [.ref ah, uw, .str "rows", .str (toString ((kw : Nat) : Int))]) := upd_same
    generalize upd H11 l (.lst [.ref ah, uw, .str "rows", .str (toString ((kw : Nat) : Int))]) = H12 at *
    have s1012 : Same H10 H12 := s11.trans s12
    have hp12 := hp10.keep s1012
    have st : (toString ((kw : Nat) : Int) : Str).length ≤ 1000 := by
      cases rst with
      | str _ z => exact z
    have i3p : Rp p H12 (.ref l) (.list [.tuple (cs.map PyData.str), .tuple wd, .str "rows", .str (toString ((kw : Nat) : Int))]) :=
      .lst nlp at12 (by exact Nat.le_of_ble_eq_true rfl) (.cons (h10p.keep (ExB.of s1012)) (.cons (w10p.keep (ExB.of s1012)) (.cons (.str _ (by decide)) (.cons (.str _ st) .nil))))
    have i3a : Rp a H12 (.ref l) (.list [.tuple (cs.map PyData.str), .tuple wd, .str "rows", .str (toString ((kw : Nat) : Int))]) :=
      .lst nl at12 (by exact Nat.le_of_ble_eq_true rfl) (.cons (h10.keep (ExB.of s1012)) (.cons (w10.keep (ExB.of s1012)) (.cons (.str _ (by decide)) (.cons (.str _ st) .nil))))
    refine ⟨a, _, _, rfl, rfl, A12.at_, (by exact Nat.le_of_ble_eq_true rfl), ?_⟩
    have A13 := A12.put i3p i3a
    have put : ExB a H12 (upd H12 a (.lst ([vi1, vi2] ++ [.ref l]))) := ExB.put
    have w13 := (w10p.keep (ExB.of s1012)).two put (w10.keep (ExB.of s1012))
    have h13 := (h10p.keep (ExB.of s1012)).two put (h10.keep (ExB.of s1012))
    have l13 := (l10p.keep (ExB.of s1012)).two put (l10.keep (ExB.of s1012))
    have n13 := (n10p.keep (ExB.of s1012)).two put (n10.keep (ExB.of s1012))
    have f13 := (f10p.keep (ExB.of s1012)).two put (f10.keep (ExB.of s1012))
    have hp13 := hp12.put (o := .lst ([vi1, vi2] ++ [.ref l])) na
    have e13 : ExB p H0 (upd H12 a (.lst ([vi1, vi2] ++ [.ref l]))) := (e10.trans (ExB.of s1012)).putN a0
    generalize upd H12 a (.lst ([vi1, vi2] ++ [.ref l])) = H13 at *
    generalize [vi1, vi2] ++ [.ref l] = xs3 at *
    clear w10 h10 l10 n10 f10 w10p h10p l10p n10p f10p hp10 hp11 hp12 i3p i3a s11 s12 s1012 hl nl nlp at12 st rst A10 A11 A12 e10 put
    walk_at "goD2"
    walk_at "e"
    apply tdat hp13.has
    · walk_at "pd"
    intro v14 H14 s14 r14
    have hp14 := hp13.keep s14
    refine ask_cat hp14.has (A13.keep s14) r14 (by exact Nat.le_of_ble_eq_true rfl) fun a2 H15 xs5 na2 _ s15 A15 => ?_
    have s1315 := s14.trans s15
    have h15 := h13.keep (ExB.of s1315)
    have l15 := l13.keep (ExB.of s1315)
    have hp15 := hp13.keep s1315
    have e15 := e13.trans (ExB.of s1315)
    clear A13 r14 w13 h13 l13 n13 f13 hp13 hp14 e13 s14 s15 s1315 a0 na
    walk_at "goD2"
    walk_at "e"
    apply tdat hp15.has
    · walk_at "pd"
    intro v16 H16 s16 r16
    have hp16 := hp15.keep s16
    refine ask_cat hp16.has (A15.keep s16) r16 (by exact Nat.le_of_ble_eq_true rfl) fun a3 H17 xs7 na3 _ s17 A17 => ?_
    have s1517 := s16.trans s17
    have h17 := h15.keep (ExB.of s1517)
    have l17 := l15.keep (ExB.of s1517)
    have hp17 := hp15.keep s1517
    have e17 := e15.trans (ExB.of s1517)
    clear A15 r16 h15 l15 hp15 hp16 e15 s16 s17 s1517 na2
    walk_at "goD2"
    walk_at "e"
    apply tdat hp17.has
    · walk_at "pd"
    intro v18 H18 s18 r18
    have hp18 := hp17.keep s18
    refine ask_cat hp18.has (A17.keep s18) r18 (by exact Nat.le_of_ble_eq_true rfl) fun a4 H19 xs9 na4 n4 s19 A19 => ?_
    have s1719 := s18.trans s19
    have h19 := h17.keep (ExB.of s1719)
    have hp19 := hp17.keep s1719
    have a0 : H0 a4 = none := none_back (e17.trans (ExB.of s18)) na4 n4
    have e19 := e17.trans (ExB.of s1719)
    clear A17 r18 h17 l17 hp17 hp18 e17 s18 s19 s1719 na3 n4
    walk_at "goD2"
    walk_at "e"
    refine ⟨.inl ⟨rfl, _, SqL.of A19.at_⟩, ?_⟩
    walk_at "e"
    walk_at "goD2"
    apply tdat hp19.has
    · walk_at "pd"
    intro vm H20 s20 rm
    have hp20 := hp19.keep s20
    refine ⟨p, vm, _, _, rfl, rm, (by exact Nat.le_of_ble_eq_true rfl), hp20, by omega, fun u d H21 hd ru e21 hp21 => ?_⟩
    have A21 := (A19.keep s20).keepP e21
    have h21 := (h19.keep (ExB.of s20)).keep e21
    have e0_21 := (e19.trans (ExB.of s20)).trans e21
    clear A19 h19 e19 hp19 hp20 rm s20 e21
    walk_at "goD2"
    apply tdat hp21.has
    · walk_at "pd"
    intro vt H22 s22 rt
    refine ⟨len_le (n := 4) rfl (by decide), fun l hl => ?_⟩
    have hp22 := hp21.keep s22
    have A22 := A21.keep s22
    have ru22 := ru.keep (ExB.of s22)
    have rua := menu_off A22.at_ hd ru22
    have rta := unit_off A22.at_ rt
    have nl : l ≠ a4 := fun z => by
      rw [z, A22.at_] at hl
      cases hl
    have nlp : l ≠ p := hp22.has.ne hl
    have s23 : Same H22 (upd H22 l (.lst [u, vt, .str "columns", .str "None"])) := same_new hl
    have at23 : upd H22 l (.lst [u, vt, .str "columns", .str "None"]) l = some (.lst [u, vt, .str "columns", .str "None"]) := upd_same
    generalize upd H22 l (.lst [u, vt, .str "columns", .str "None"]) = H23 at *
    have i10p : Rp p H23 (.ref l) (.list [d, .tuple [], .str "columns", .str "None"]) :=
      .lst nlp at23 (by exact Nat.le_of_ble_eq_true rfl) (.cons (ru22.keep (ExB.of s23)) (.cons (rt.keep (ExB.of s23)) (.cons (.str _ (by decide)) (.cons (.str _ (by decide)) .nil))))
    have i10a : Rp a4 H23 (.ref l) (.list [d, .tuple [], .str "columns", .str "None"]) :=
      .lst nl at23 (by exact Nat.le_of_ble_eq_true rfl) (.cons (rua.keep (ExB.of s23)) (.cons (rta.keep (ExB.of s23)) (.cons (.str _ (by decide)) (.cons (.str _ (by decide)) .nil))))
    have A23 := A22.keep s23
    have z9 := A23.rp.length
    refine ⟨a4, _, _, rfl, rfl, A23.at_, Nat.lt_of_lt_of_le (by rw [z9]; exact Nat.le_of_ble_eq_true rfl : xs9.length < 1000) (by decide), ?_⟩
    have A24 := A23.put i10p i10a
    have s2123 := s22.trans s23
    have h24 := (rpt_of_names h21 |>.keep (ExT.of (ExB.of s2123))).putL (o := .lst (xs9 ++ [.ref l])) A23.at_
    have hp24 := (hp21.keep s2123).put (o := .lst (xs9 ++ [.ref l])) na4
    have e24 : ExB p H0 (upd H23 a4 (.lst (xs9 ++ [.ref l]))) := (e0_21.trans (ExB.of s2123)).putN a0
    generalize upd H23 a4 (.lst (xs9 ++ [.ref l])) = H24 at *
    generalize xs9 ++ [.ref l] = xs10 at *
    clear A21 A22 A23 ru ru22 rua rt rta i10p i10a nl nlp at23 s22 s23 s2123 h21 hp21 hp22 hl e0_21 a0
    walk_at "goD2"
    walk_at "e"
    walk_at "e"
    walk_at "e"
    walk_at "goD2"
    apply tdat hp24.has
    · walk_at "pd"
    intro vm2 H25 s25 rm2
    have hp25 := hp24.keep s25
    refine ⟨p, vm2, _, _, rfl, rm2, (by exact Nat.le_of_ble_eq_true rfl), hp25, by omega, fun u' d' H26 hd' ru' e26 hp26 => ?_⟩
    have A26 := (A24.keep s25).keepP e26
    have h26 := (h24.keep (ExT.of (ExB.of s25))).keep (ExT.of e26)
    have e0_26 := (e24.trans (ExB.of s25)).trans e26
    clear A24 h24 e24 hp24 hp25 rm2 s25 e26
    refine ⟨len_le (n := 4) rfl (by decide), fun l1 hl1 => ?_⟩
    have s27 : Same H26 (upd H26 l1 (.lst [.ref ah, u', .str "rows", .str "None"])) := same_new hl1
    have i11 : Rp p (upd H26 l1 (.lst [.ref ah, u', .str "rows", .str "None"])) (.ref l1) (.list [.tuple (cs.map PyData.str), d', .str "rows", .str "None"]) :=
      .lst (hp26.has.ne hl1) upd_same (by exact Nat.le_of_ble_eq_true rfl) (.cons (h26.rp.keep (ExB.of s27)) (.cons (ru'.keep (ExB.of s27)) (.cons (.str _ (by decide)) (.cons (.str _ (by decide)) .nil))))
    generalize upd H26 l1 (.lst [.ref ah, u', .str "rows", .str "None"]) = H27 at *
    have hp27 := hp26.keep s27
    refine ⟨len_le (n := 1) rfl (by decide), fun l2 hl2 => ?_⟩
    have s28 : Same H27 (upd H27 l2 (.lst [.ref l1])) := same_new hl2
    have r28 : Rp p (upd H27 l2 (.lst [.ref l1])) (.ref l2) (.list [.list [.tuple (cs.map PyData.str), d', .str "rows", .str "None"]]) := .lst (hp27.has.ne hl2) upd_same (by exact Nat.le_of_ble_eq_true rfl) (.cons (i11.keep (ExB.of s28)) .nil)
    generalize upd H27 l2 (.lst [.ref l1]) = H28 at *
    have hp28 := hp27.keep s28
    have A28 := (A26.keep s27).keep s28
    refine ask_cat hp28.has A28 r28 (by exact Nat.le_of_ble_eq_true rfl) fun a5 H29 xs11 na5 _ s29 A29 => ?_
    have e29 := e0_26.trans (ExB.of (s27.trans (s28.trans s29)))
    have hp29 := hp28.keep s29
    clear A26 A28 r28 i11 h26 hp26 hp27 hp28 s27 s28 s29 hl1 hl2 ru' e0_26 na4
    obtain ⟨D11, items, A30⟩ : ∃ D, (∀ d ∈ D, Item d) ∧ Ask p a5 H29 xs11 D := by
      refine ⟨_, fun dd hdd => ?_, A29⟩
      have hh := colsErr_ok h3 h1 hnd hnm
      have lc : (cs.map PyData.str).length = cs.length := List.length_map ..
      have menu : ∀ z ∈ [PyData.none, .str "a", .int 3, .dict []], (∀ q, colsErr z = some q → q = none) ∧ colsErr z = some none ∧ ∀ m, rowsErr m z = some none := by
        intro z hz
        simp only [List.mem_cons, List.not_mem_nil, or_false] at hz
        rcases hz with rfl | rfl | rfl | rfl <;> exact ⟨fun q h => by cases h; rfl, rfl, fun _ => rfl⟩
      simp only [List.mem_append, List.mem_cons, List.not_mem_nil, or_false] at hdd
      rcases hdd with ((((((rfl | rfl) | rfl) | (rfl | rfl | rfl)) | (rfl | rfl)) | rfl) | rfl) | rfl
      · exact item_cols ceb rfl rfl (fun q h => by cases h; omega)
      · exact item_cols ceb rfl rfl (fun q h => by cases h; omega)
      · exact item_rows hh (by rw [lc]; exact cew) rfl rfl (fun q h => by cases h; omega)
      · exact item_cols (e := some 4) rfl rfl rfl (fun q h => by cases h; omega)
      · exact item_rows (e := some 8) hh (by rw [lc]; exact nine_bad hlen0 hall0) rfl rfl (fun q h => by cases h; omega)
      · exact item_cols (e := none) rfl rfl rfl (fun q h => by cases h)
      · exact item_rows (e := none) hh rfl rfl rfl (fun q h => by cases h)
      · exact item_cols (e := none) rfl rfl rfl (fun q h => by cases h)
      · exact item_rows (e := none) hh rfl rfl rfl (fun q h => by cases h)
      · exact item_cols (e := none) (menu _ hd).2.1 rfl rfl (fun q h => by cases h)
      · exact item_rows (e := none) hh ((menu _ hd').2.2 _) rfl rfl (fun q h => by cases h)
    clear A29
    obtain ⟨pa, pb, pc, hpl⟩ := id hp0
    have hT29 : Tabs [(Pt, "_law_right.<locals>.<lambda>")] H29 := Cs.Tabs.exb hT0 hpl.2.2 e29
    refine ⟨_, rfl, a5, rfl, ⟨_, SqL.of A30.at_⟩, for_list (xs := xs11) (fun j σ H' => ∃ u12 u13 u14 u15, σ = [some (.ref p), some (.int (0 + (i : Int))), some (.ref ah), some (.ref al), some ub, some (.int ((kb : Nat) : Int)), some uw, some (.int ((kw : Nat) : Int)), some v5, some (.ref tn), none, some (.ref a5), u12, u13, u14, u15] ∧
        Cs.ExN p H29 H' ∧ PailAt H' p (100 * i + 61) ∧ Tabs [(Pt, "_law_right.<locals>.<lambda>")] H')
      ⟨_, _, _, _, rfl, Cs.ExN.refl _ _, hp29, hT29⟩ (fun j σ H' _ ⟨_, _, _, _, _, eN, _, _⟩ => SqL.of (eN _ _ na5 A30.at_ (fun ps q => by cases q))) ?_ ?_⟩
    · rintro j x σ H' hx ⟨u12, u13, u14, u15, rfl, eN, hp', hT'⟩
      obtain ⟨dj, hdj, rdj⟩ := A30.rp.get hx
      obtain ⟨d1, d2, n, e, rfl, hn, he, hb⟩ := items dj (List.mem_of_getElem? hdj)
      obtain ⟨b, ys, rfl, nb, hb', _, rys⟩ := (rdj.keepN eN).lst_inv
      cases rys with
      | @cons y1 _ _ _ r1 rys =>
      cases rys with
      | @cons y2 _ _ _ r2 rys =>
      cases rys with
      | @cons y3 _ _ _ r3 rys =>
      cases rys with
      | @cons y4 _ _ _ r4 rys =>
      cases rys
      refine ⟨b, _, rfl, SqL.of hb', rfl, ?_⟩
      walk_at "es"
      obtain rfl := r3.str_inv
      obtain rfl := r4.str_inv
      refine heard_err2 (p := p) (fun E H1 Q' h => ⟨_, rfl, _, rfl, h⟩) r1 r2 he hn hb hEW fun l1 HA HB eA TA' sB hl1 => ?_
      have hpA := (hp'.exN eA).keep sB
      apply tdat hpA.has
      · have rs3 : Rp p HB (.str (wordOf n)) (.str (wordOf n)) := .str _ (idx_len n)
        have rs4 : Rp p HB (.str (idxT e)) (.str (idxT e)) := .str _ (idxT_len hb)
        walk_at "pd"
      intro v1 HC sC rC
      refine .inr ⟨_, _, .lst (SqL.of (sC _ _ hl1)) (.cons (.str _) (.cons (.str _) .nil)), str2_of rC, shaped_we hb, shaped_we hb, _, rfl, iteNe (eqv2 _ _) ?_⟩
      have hpC := hpA.keep sC
      have eNC : Cs.ExN p H29 HC := eN.trans ((ExN.lam eA).trans (Cs.ExN.of (ExB.of (sB.trans sC))))
      have eHC : Cs.ExN p H' HC := (ExN.lam eA).trans (Cs.ExN.of (ExB.of (sB.trans sC)))
      have TC := Tabs.ext (Tabs.ext TA' sB) sC
      refine heard_err (p := p) TC (fun E H1 Q' h => ⟨_, rfl, _, rfl, rfl, rfl, h⟩) (r1.keepN eHC) (r2.keepN eHC) he hn hb hEW fun l2 HD1 HE1 eD TD sE hl2 => ?_
      have hpE := (hpC.exN eD).keep sE
      apply tdat hpE.has
      · have rs3 : Rp p HE1 (.str (wordOf n)) (.str (wordOf n)) := .str _ (idx_len n)
        have rs4 : Rp p HE1 (.str (idxT e)) (.str (idxT e)) := .str _ (idxT_len hb)
        walk_at "pd"
      intro v2 HF sF rF
      refine .inr ⟨_, _, .lst (SqL.of (sF _ _ hl2)) (.cons (.str _) (.cons (.str _) .nil)), str2_of rF, shaped_we hb, shaped_we hb, _, rfl, iteNe (eqv2 _ _) ?_⟩
      exact ⟨_, _, _, _, rfl, eNC.trans ((ExN.lam eD).trans (Cs.ExN.of (ExB.of (sE.trans sF)))), hpE.keep sF, Tabs.ext (Tabs.ext TD sE) sF⟩
    · rintro σ H' ⟨u12, u13, u14, u15, rfl, eN, hp', hT'⟩
      exact ⟨_, _, _, _, _, _, _, _, _, _, _, _, _, _, rfl, (eN0.trans (Cs.ExN.of e29)).trans eN, hp'.more (by omega), hT'⟩
  · rintro σ H' ⟨u1, u2, u3, u4, u5, u6, u7, u8, u9, u11, u12, u13, u14, u15, rfl, eN, hp', hT'⟩
    exact k H' eN hT'
end
end Cs
set_option maxHeartbeats 4000000
namespace Cs
open PySem L2 L2H PyProof.Rows LamX
def SpLaw (K : PySem.W.Frag) (Tb : List (Addr × Str)) : Sp := fun vs H Q _ => ∃ (a : Addr) (ns : List Int), vs = [.ref a] ∧ SqL K H a (ns.map V.int) ∧ ns.length ≤ 1000 ∧ Tabs Tb H ∧ ∀ H', Q (.bl true) H'
theorem sqN {K : PySem.W.Frag} {a : Addr} {H H' : Hp} {xs : List V} (h : SqL K H a xs) (e : LamX.ExtN H H') : SqL K H' a xs := by
  rcases h with (h | ⟨o, h⟩) | h
  · exact .inl (.inl (e _ _ h (fun ps q => by cases q)))
  · exact .inl (.inr ⟨o, e _ _ h (fun ps q => by cases q)⟩)
  · exact .inr h
section
variable {P : Program} {w : World} {K : PySem.W.Frag} {mg : Str → Option Value} {base : Heap}
theorem sc_law : FnScope ["_law_script", "_law_at"] ["_law_script"] (defScope (topS 50)) := ⟨rfl, rfl, rfl, by decide +kernel, rfl, by decide +kernel, by decide +kernel⟩
theorem ok_law {f : Addr} {fd : FuncData} {Tb : List (Addr × Str)} (F : FunD K "law" "law" (defArgs (topS 50)) (defBody (topS 50)) (defScope (topS 50)) [] [] f fd) (T : Txt mg)
    (c_law_right : C8.Cal P w K mg base 11 "_law_right" (SpRight Tb) []) (c_law_pail : C8.Cal P w K mg base 1 "_law_pail" (SpPail K) []) : FnOk P w K mg base CX0 12 f fd ["_law_script"] (SpLaw K Tb) := by
  refine F.ok sc_law (fun vs H Q E h => by obtain ⟨a, ns, rfl, _⟩ := h; rfl) fun cdv A outer s H vs Q E hr h => ?_
  obtain ⟨a, ns, rfl, hq, hl, hT, k⟩ := h
  have nd := sc_law.nd
  refine ⟨_, PSs.nox (pss_one (ps_ret (pe_callB (cr_all rfl) (by rfl) T.all_ (by decide +kernel) (pa_cons (pe_lc (own := [("_law_at", 1)]) rfl nd (pi_range1 rfl T.range_ (pa_cons pe_int pa_nil)) (blkOk_by (N := ["_law_script", "_law_at"]) (sc := defScope (topS 50)) (by decide +kernel)) (fun _ _ _ _ _ => (pg_name (i := 1) nd rfl (.inl rfl))) (fun _ _ _ _ _ => pts_nil) (fun _ _ _ _ _ => (C8.pe_c c_law_right hr (by decide) rfl (pa_cons (C8.pe_c c_law_pail hr (by decide) rfl (pa_cons (pv 0) (pa_cons (pv 1) pa_nil))) pa_nil)))) pa_nil)))), ?_⟩
  dsimp only [tRet, tCB, tCons]
  refine ⟨_, rfl, by decide, by decide, fun D hD => ?_⟩
  refine lc_range (fun i H' => H' D = some (.lst (List.replicate i (V.bl true))) ∧ LamX.ExtN H H' ∧ Tabs Tb H')
    ⟨upd_same, ExtN.of (same_new hD), Tabs.ext hT (same_new hD)⟩ (fun i H' hi ⟨h1, h2, h3⟩ => ?_) (fun H' ⟨h1, h2, h3⟩ => ?_)
  · refine ⟨rfl, ?_⟩
    have hi2 : i < 2 := hi
    refine ⟨_, rfl, _, rfl, a, ns, i, by rw [Int.zero_add]; rfl, sqN hq h2, hl, by omega, fun p H2 hp s2 hP => ?_⟩
    have nD : D ≠ p := ne_of_none h1 hp
    refine ⟨p, rfl, hP, Tabs.ext h3 s2, fun H3 e3 T3 => ?_⟩
    have hD3 : H3 D = some (.lst (List.replicate i (V.bl true))) := e3 _ _ nD (s2 _ _ h1) (fun ps q => by cases q)
    refine ⟨_, hD3, ?_, ?_, fun b o hb nt => ?_, ?_⟩
    · rw [List.length_replicate]
      exact Nat.lt_of_lt_of_le (by omega : i < 1000) (by decide)
    · rw [upd_same, List.replicate_succ']
    · have hb' := h2 b o hb nt
      rw [upd_ne (ne_of_none hb hD)]
      exact e3 _ _ (ne_of_none hb' hp) (s2 _ _ hb') nt
    · exact Cs.Tabs.exb T3 hD3 ExB.put
  · exact ⟨D, [true, true], rfl, SqL.of h1, k _⟩
end
end Cs
set_option maxHeartbeats 0
namespace Cs
open PySem PySem.Spec PyProof.Rows L2 LamX
def excCB (K : PySem.W.Frag) (D : Addr) : Bool := He.eqO (PySem.W.findIn K (.ref D) "__getattribute__") (some (some (.builtin "BaseException.__getattribute__"))) && (He.eqO (PySem.W.findIn K (.ref D) "__getattr__") (some none) &&
  (decide (PySem.W.subIn K (.ref D) (.type "BaseException") = some true) && (PySem.W.hasDictIn K D && (He.eqO (PySem.W.findIn K (.ref D) "__class__") (some (some (.builtin "object.__class__"))) &&
  (He.eqO (PySem.W.specialIn K (.builtin "object.__class__") "__get__") (some (some (.builtin "getset_descriptor.__get__"))) && (decide (PySem.W.takesIn K (.builtin "object.__class__") = some true) && decide (PySem.W.mroIn K D (.type "object") = some true)))))))
theorem excCB_ok {K : PySem.W.Frag} {D : Addr} (h : excCB K D = true) : ExcC K D := by
  obtain ⟨h1, h⟩ := Bool.and_eq_true_iff.mp h
  obtain ⟨h2, h⟩ := Bool.and_eq_true_iff.mp h
  obtain ⟨h3, h⟩ := Bool.and_eq_true_iff.mp h
  obtain ⟨h4, h⟩ := Bool.and_eq_true_iff.mp h
  obtain ⟨h5, h⟩ := Bool.and_eq_true_iff.mp h
  obtain ⟨h6, h⟩ := Bool.and_eq_true_iff.mp h
  obtain ⟨h7, h8⟩ := Bool.and_eq_true_iff.mp h
  exact ⟨He.eqO_ok h1, He.eqO_ok h2, of_decide_eq_true h3, h4, He.eqO_ok h5, He.eqO_ok h6, of_decide_eq_true h7, of_decide_eq_true h8⟩
def oexB1 (C : Addr) : Option Obj → Bool
  | some ⟨.type t, _, .cls cd, sl⟩ => decide (t = "type") && (match cd.mro, sl.toList with
    | .ref c :: bm, [_, _, _, _, some (.builtin n), _] => decide (c = C) && (PySem.HandSPX.refsVE bm && (decide (n = "ValueError.__new__") && (cd.hasDict && !cd.hasDel)))
    | _, _ => false)
  | _ => false
theorem oexB1_ok {C : Addr} {o : Option Obj} (h : oexB1 C o = true) : ∃ nm q N bs bm sn sub ab col dd k0 k1 k2 k3 k5, o = some (excClassObj nm q C N bs bm true sn sub ab col dd k0 k1 k2 k3 k5 "ValueError.__new__") ∧ PySem.HandSPX.refsVE bm = true := by
  unfold oexB1 at h
  split at h
  · rename_i t dd cd sl
    obtain ⟨ht, h⟩ := Bool.and_eq_true_iff.mp h
    split at h
    · rename_i c bm k0 k1 k2 k3 n k5 hm hs
      obtain ⟨hc, h⟩ := Bool.and_eq_true_iff.mp h
      obtain ⟨hr, h⟩ := Bool.and_eq_true_iff.mp h
      obtain ⟨hn, h⟩ := Bool.and_eq_true_iff.mp h
      obtain ⟨hd, hl⟩ := Bool.and_eq_true_iff.mp h
      obtain ⟨nm, bs, mro, N, q, hdct, sn, sub, ab, col, hdel⟩ := cd
      have gt := of_decide_eq_true ht
      have gc := of_decide_eq_true hc
      have gn := of_decide_eq_true hn
      have gm : mro = .ref c :: bm := hm
      have gd : hdct = true := hd
      have gl : hdel = false := by
        have z : (!hdel) = true := hl
        cases hdel with
        | false => rfl
        | true => cases z
      have hs2 : sl = #[k0, k1, k2, k3, some (.builtin n), k5] := by
        obtain ⟨l⟩ := sl
        have : l = _ := hs
        rw [this]
      clear hl hd hm ht hc hn hs
      subst gt gc gn gm gd gl hs2
      exact ⟨nm, q, N, bs, bm, sn, sub, ab, col, dd, k0, k1, k2, k3, k5, rfl, hr⟩
    · cases h
  · cases h
def oexB (K : PySem.W.Frag) (C : Addr) : Bool := oexB1 C (K.lookup C) && (He.eqO (PySem.W.findIn K (.ref C) "__setattr__") (some (some (.builtin "object.__setattr__"))) && (decide (PySem.W.subIn K (.ref C) (.type "BaseException") = some true) &&
  (decide (PySem.W.typeIn K (.ref C) = some (.type "type")) && PySem.W.keepIn K (.ref C))))
theorem oexB_ok {K : PySem.W.Frag} {C : Addr} (h : oexB K C = true) : OexC K C := by
  obtain ⟨h1, h⟩ := Bool.and_eq_true_iff.mp h
  obtain ⟨h2, h⟩ := Bool.and_eq_true_iff.mp h
  obtain ⟨h3, h⟩ := Bool.and_eq_true_iff.mp h
  obtain ⟨h4, h5⟩ := Bool.and_eq_true_iff.mp h
  exact ⟨oexB1_ok h1, He.eqO_ok h2, of_decide_eq_true h3, of_decide_eq_true h4, h5⟩
def exwB (K : PySem.W.Frag) (cl : Str → Addr) (C : Addr) (n : Nat) : Bool := excCB K C && (xfB K C && (decide (PySem.W.exmAny K (.ref C) [.ref (cl "WrongValue"), .ref (cl "WrongName"), .ref (cl "NotPossible")] = some true) && (He.eqO (PySem.W.findIn K (.ref C) "index") (some none) && (He.eqO (PySem.W.findIn K (.ref C) "given") (some none) && (decide (PySem.W.kitOne K (.ref C) (.ref (cl "InvalidColumns")) = some (n == 0)) && (decide (PySem.W.kitOne K (.ref C) (.ref (cl "InvalidRows")) = some (n == 1)) && (decide (PySem.W.kitOne K (.ref C) (.ref (cl "InvalidText")) = some (n == 2)) && (decide (PySem.W.kitOne K (.ref C) (.ref (cl "InvalidColumn")) = some (n == 3)) && (decide (PySem.W.kitOne K (.ref C) (.ref (cl "InvalidStretch")) = some (n == 4)) && (decide (PySem.W.kitOne K (.ref C) (.ref (cl "InvalidSigns")) = some (n == 5)) && (decide (PySem.W.kitOne K (.ref C) (.ref (cl "InvalidMember")) = some (n == 6)) && (decide (PySem.W.kitOne K (.ref C) (.ref (cl "InvalidWeights")) = some (n == 7)) && (decide (PySem.W.kitOne K (.ref C) (.ref (cl "NotATable")) = some (n == 8)) && (decide (PySem.W.kitOne K (.ref C) (.ref (cl "InvalidCommand")) = some (n == 9)) && (decide (PySem.W.kitOne K (.ref C) (.ref (cl "UnknownName")) = some (n == 10)) && (decide (PySem.W.kitOne K (.ref C) (.ref (cl "TooFew")) = some (n == 11)) && (decide (PySem.W.kitOne K (.ref C) (.ref (cl "TooMany")) = some (n == 12)) && (decide (PySem.W.kitOne K (.ref C) (.ref (cl "NotWhole")) = some (n == 13)) && (decide (PySem.W.kitOne K (.ref C) (.ref (cl "NothingToUndo")) = some (n == 14)) && (decide (PySem.W.kitOne K (.ref C) (.ref (cl "WrongValue")) = some (decide (n < 10))) && (decide (PySem.W.kitOne K (.ref C) (.ref (cl "WrongName")) = some (decide (n = 10))) && (decide (PySem.W.kitOne K (.ref C) (.ref (cl "NotPossible")) = some (decide (10 < n))) && (decide (PySem.W.kitOne K (.ref C) (.type "ValueError") = some (decide (n < 10))) && (decide (PySem.W.kitOne K (.ref C) (.type "LookupError") = some (decide (n = 10))) && (decide (PySem.W.kitOne K (.ref C) (.type "ArithmeticError") = some (decide (10 < n))))))))))))))))))))))))))))
theorem exwB_ok {K : PySem.W.Frag} {cl : Str → Addr} {C : Addr} {n : Nat} (h : exwB K cl C n = true) : ExW K cl C n := by
  obtain ⟨h1, h⟩ := Bool.and_eq_true_iff.mp h
  obtain ⟨h2, h⟩ := Bool.and_eq_true_iff.mp h
  obtain ⟨k0, h⟩ := Bool.and_eq_true_iff.mp h
  obtain ⟨k1, h⟩ := Bool.and_eq_true_iff.mp h
  obtain ⟨k2, h⟩ := Bool.and_eq_true_iff.mp h
  obtain ⟨k3, h⟩ := Bool.and_eq_true_iff.mp h
  obtain ⟨k4, h⟩ := Bool.and_eq_true_iff.mp h
  obtain ⟨k5, h⟩ := Bool.and_eq_true_iff.mp h
  obtain ⟨k6, h⟩ := Bool.and_eq_true_iff.mp h
  obtain ⟨k7, h⟩ := Bool.and_eq_true_iff.mp h
  obtain ⟨k8, h⟩ := Bool.and_eq_true_iff.mp h
  obtain ⟨k9, h⟩ := Bool.and_eq_true_iff.mp h
  obtain ⟨k10, h⟩ := Bool.and_eq_true_iff.mp h
  obtain ⟨k11, h⟩ := Bool.and_eq_true_iff.mp h
  obtain ⟨k12, h⟩ := Bool.and_eq_true_iff.mp h
  obtain ⟨k13, h⟩ := Bool.and_eq_true_iff.mp h
  obtain ⟨k14, h⟩ := Bool.and_eq_true_iff.mp h
  obtain ⟨k15, h⟩ := Bool.and_eq_true_iff.mp h
  obtain ⟨k16, h⟩ := Bool.and_eq_true_iff.mp h
  obtain ⟨k17, h⟩ := Bool.and_eq_true_iff.mp h
  obtain ⟨k18, h⟩ := Bool.and_eq_true_iff.mp h
  obtain ⟨k19, h⟩ := Bool.and_eq_true_iff.mp h
  obtain ⟨k20, h⟩ := Bool.and_eq_true_iff.mp h
  obtain ⟨k21, h⟩ := Bool.and_eq_true_iff.mp h
  obtain ⟨k22, k23⟩ := Bool.and_eq_true_iff.mp h
  exact ⟨excCB_ok h1, xfB_ok h2, of_decide_eq_true k0, He.eqO_ok k1, He.eqO_ok k2, of_decide_eq_true k3, of_decide_eq_true k4, of_decide_eq_true k5, of_decide_eq_true k6, of_decide_eq_true k7, of_decide_eq_true k8, of_decide_eq_true k9, of_decide_eq_true k10, of_decide_eq_true k11, of_decide_eq_true k12, of_decide_eq_true k13, of_decide_eq_true k14, of_decide_eq_true k15, of_decide_eq_true k16, of_decide_eq_true k17, of_decide_eq_true k18, of_decide_eq_true k19, of_decide_eq_true k20, of_decide_eq_true k21, of_decide_eq_true k22, of_decide_eq_true k23⟩
def inB (K : PySem.W.Frag) (C : Addr) : Bool := He.eqO (PySem.W.findIn K (.ref C) "index") (some none) && (He.eqO (PySem.W.findIn K (.ref C) "__init__") (some (some (.ref (He.ma K C "__init__")))) && decide (PySem.W.typeIn K (.ref (He.ma K C "__init__")) = some (.type "function")))
def ex (K : PySem.W.Frag) : Bool := oexB K (He.ga K "InvalidColumns") && (oexB K (He.ga K "InvalidRows") && (inB K (He.ga K "InvalidColumns") && (inB K (He.ga K "InvalidRows") && (exwB K (He.ga K) (He.ga K "InvalidColumns") 0 && exwB K (He.ga K) (He.ga K "InvalidRows") 1))))
def dd (x : Str) (i : Nat) : He.DefD := ⟨(x, none), x, x, defArgs (topS i), defBody (topS i), defScope (topS i), [], []⟩
def dm (C m q : Str) (st : Stmt) : He.DefD := ⟨(C, some m), m, q, defArgs st, defBody st, defScope st, [], []⟩
def fn0 : List He.DefD := [dd "is_integer" 22, dd "is_tuple_of" 23, dd "is_pair_of_integers" 24, dd "is_name" 25, dd "is_stretch" 26, dd "_is_end_pair" 35, dd "_is_row" 36, dd "check_columns" 33, dd "check_rows" 34, dd "_law_pail" 39, dd "_law_scoop" 40, dd "_law_any" 41, dd "_law_stretch" 42, dd "_law_heads" 43, dd "_law_lines" 44, dd "_law_word" 45, dd "_law_heard" 46, dd "_law_bad_heads" 47, dd "_law_bad_lines" 48, dd "_law_right" 49]
def fn1 : List He.DefD := [dd "law" 50, dm "Table" "__init__" "Table.__init__" sTI, dm "InvalidColumns" "__init__" "InvalidColumns.__init__" (inClass (topS 11) 0), dm "InvalidRows" "__init__" "InvalidRows.__init__" (inClass (topS 12) 0)]
def fn : List He.DefD := fn0 ++ fn1
def fa0 : List He.Fa := [.glo "is_integer", .glo "is_tuple_of", .glo "is_pair_of_integers", .glo "is_name", .glo "is_stretch", .glo "_is_end_pair", .glo "_is_row", .glo "check_columns", .glo "check_rows", .glo "_law_pail", .glo "_law_scoop", .glo "_law_any", .glo "_law_stretch", .glo "_law_heads", .glo "_law_lines", .glo "_law_word", .glo "_law_heard", .glo "_law_bad_heads", .glo "_law_bad_lines", .glo "_law_right"]
def fa1 : List He.Fa := [.glo "law", .glo "InvalidColumns", .glo "InvalidRows", .glo "InvalidText", .glo "InvalidColumn", .glo "InvalidStretch", .glo "InvalidSigns", .glo "InvalidMember", .glo "InvalidWeights", .glo "NotATable", .glo "InvalidCommand", .glo "UnknownName", .glo "TooFew", .glo "TooMany", .glo "NotWhole", .glo "NothingToUndo", .glo "WrongValue", .glo "WrongName", .glo "NotPossible", .glo "Table"]
def fa2 : List He.Fa := [.free "len", .free "isinstance", .free "int", .free "str", .free "bool", .free "tuple", .free "list", .free "all", .free "abs", .free "divmod", .free "range", .free "enumerate", .free "repr", .free "ValueError", .free "LookupError", .free "ArithmeticError", .int "_MOST_LETTERS" 8, .int "MOST_END" 10000, .int "MOST_COLUMNS" 4, .int "MOST_ROWS" 8]
def fa3 : List He.Fa := [.mkr "Table"]
def fa : List He.Fa := fa0 ++ fa1 ++ fa2 ++ fa3
def loose0 : List Str := ["_wall", "WrongValue", "InvalidText", "InvalidColumn", "InvalidStretch", "InvalidMember", "InvalidWeights", "InvalidSigns", "InvalidCommand", "NotATable", "InvalidColumns", "InvalidRows", "WrongName", "UnknownName", "NotPossible", "TooFew", "TooMany", "NotWhole", "NothingToUndo", "_MOST_LETTERS"]
def loose1 : List Str := ["is_integer", "is_tuple_of", "is_pair_of_integers", "is_name", "is_stretch", "stretches_text", "MOST_END", "MOST_COLUMNS", "MOST_ROWS", "Table", "check_columns", "check_rows", "_is_end_pair", "_is_row", "_row_text", "_law_pail", "_law_scoop", "_law_any", "_law_stretch", "_law_heads"]
def loose2 : List Str := ["_law_lines", "_law_word", "_law_heard", "_law_bad_heads", "_law_bad_lines", "_law_right"]
def loose : List Str := loose0 ++ loose1 ++ loose2
def tf : List He.Defn := [("_law_right", none)]
abbrev R : PySem.W.OpenRow := PySem.W.OpenLaw.row PySem.Challenge.rw_cornersure_k04_tables_refused
abbrev hk : PySem.W.Hook := He.hookX 5 fa fn [] tf ex
def ob (s : PySem.W.SharedT) : He.AlX := He.obsX 5 fa fn [] tf ex (HandSHeadRun.getT s)
theorem ob_eq (s : PySem.W.SharedT) : ob s = hk.obs s.abs := He.obsX_eq (HandSHeadRun.getT_eq s)
theorem run (w : World) : HandSHeadRun.RunEq R (PySem.W.view R.prog [50]) hk ob 9000 loose w := by
  intro os
  kernel_rfl
end Cs
set_option maxHeartbeats 0
namespace Cs
open PySem PySem.Spec PyProof.Rows L2 LamX
theorem vals_rev : ∀ {vs : List V} {us : List Value}, Vals vs us → Vals vs.reverse us.reverse
  | _, _, .nil => .nil
  | _, _, .cons r t => by
    rw [List.reverse_cons, List.reverse_cons]
    exact (vals_rev t).append (.cons r .nil)
section
variable {P : Program} {w : World} {K : PySem.W.Frag} {h h0 : Heap} {mg : Str → Option Value}
theorem txt_ok (X : K.In h) (G : h.Ns mainGlobals mg) (c : He.SaysD fa fn K) : Txt mg := ⟨He.free_ok X G (c.fact 40 rfl), He.free_ok X G (c.fact 41 rfl), He.free_ok X G (c.fact 42 rfl), He.free_ok X G (c.fact 43 rfl), He.free_ok X G (c.fact 44 rfl), He.free_ok X G (c.fact 45 rfl), He.free_ok X G (c.fact 46 rfl), He.free_ok X G (c.fact 47 rfl), He.free_ok X G (c.fact 48 rfl), He.free_ok X G (c.fact 49 rfl), He.free_ok X G (c.fact 50 rfl), He.free_ok X G (c.fact 51 rfl), He.free_ok X G (c.fact 52 rfl), (by obtain ⟨t, e⟩ := He.int_ok X G (c.fact 56 rfl); exact ⟨_, e, _, rfl⟩), (by obtain ⟨t, e⟩ := He.int_ok X G (c.fact 57 rfl); exact ⟨_, e, _, rfl⟩), (by obtain ⟨t, e⟩ := He.int_ok X G (c.fact 58 rfl); exact ⟨_, e, _, rfl⟩), (by obtain ⟨t, e⟩ := He.int_ok X G (c.fact 59 rfl); exact ⟨_, e, _, rfl⟩)⟩
theorem cls_ok (X : K.In h) (G : h.Ns mainGlobals mg) (c : He.SaysD fa fn K) : ClsT mg (He.ga K) := ⟨⟨_, He.glo_ok X G (c.fact 21 rfl), rfl⟩, ⟨_, He.glo_ok X G (c.fact 22 rfl), rfl⟩, ⟨_, He.glo_ok X G (c.fact 23 rfl), rfl⟩, ⟨_, He.glo_ok X G (c.fact 24 rfl), rfl⟩, ⟨_, He.glo_ok X G (c.fact 25 rfl), rfl⟩, ⟨_, He.glo_ok X G (c.fact 26 rfl), rfl⟩, ⟨_, He.glo_ok X G (c.fact 27 rfl), rfl⟩, ⟨_, He.glo_ok X G (c.fact 28 rfl), rfl⟩, ⟨_, He.glo_ok X G (c.fact 29 rfl), rfl⟩, ⟨_, He.glo_ok X G (c.fact 30 rfl), rfl⟩, ⟨_, He.glo_ok X G (c.fact 31 rfl), rfl⟩, ⟨_, He.glo_ok X G (c.fact 32 rfl), rfl⟩, ⟨_, He.glo_ok X G (c.fact 33 rfl), rfl⟩, ⟨_, He.glo_ok X G (c.fact 34 rfl), rfl⟩, ⟨_, He.glo_ok X G (c.fact 35 rfl), rfl⟩, ⟨_, He.glo_ok X G (c.fact 36 rfl), rfl⟩, ⟨_, He.glo_ok X G (c.fact 37 rfl), rfl⟩, ⟨_, He.glo_ok X G (c.fact 38 rfl), rfl⟩, He.free_ok X G (c.fact 53 rfl), He.free_ok X G (c.fact 54 rfl), He.free_ok X G (c.fact 55 rfl)⟩
theorem at_is_integer (X : K.In h) (G : h.Ns mainGlobals mg) (c : He.SaysD fa fn K) : DefAt K mg "is_integer" (topS 22) ["value"] := by
  obtain ⟨fd, F⟩ := c.def_ 0 rfl
  exact ⟨_, fd, F, He.glo_ok X G (c.fact 0 rfl), FunD.bindsN F (fun _ _ _ _ _ _ us hl => match us, hl with | [_], _ => rfl)⟩
theorem at_is_tuple_of (X : K.In h) (G : h.Ns mainGlobals mg) (c : He.SaysD fa fn K) : DefAt K mg "is_tuple_of" (topS 23) ["value", "many"] := by
  obtain ⟨fd, F⟩ := c.def_ 1 rfl
  exact ⟨_, fd, F, He.glo_ok X G (c.fact 1 rfl), FunD.bindsN F (fun _ _ _ _ _ _ us hl => match us, hl with | [_, _], _ => rfl)⟩
theorem at_is_pair_of_integers (X : K.In h) (G : h.Ns mainGlobals mg) (c : He.SaysD fa fn K) : DefAt K mg "is_pair_of_integers" (topS 24) ["value"] := by
  obtain ⟨fd, F⟩ := c.def_ 2 rfl
  exact ⟨_, fd, F, He.glo_ok X G (c.fact 2 rfl), FunD.bindsN F (fun _ _ _ _ _ _ us hl => match us, hl with | [_], _ => rfl)⟩
theorem at_is_name (X : K.In h) (G : h.Ns mainGlobals mg) (c : He.SaysD fa fn K) : DefAt K mg "is_name" (topS 25) ["value"] := by
  obtain ⟨fd, F⟩ := c.def_ 3 rfl
  exact ⟨_, fd, F, He.glo_ok X G (c.fact 3 rfl), FunD.bindsN F (fun _ _ _ _ _ _ us hl => match us, hl with | [_], _ => rfl)⟩
theorem at_is_stretch (X : K.In h) (G : h.Ns mainGlobals mg) (c : He.SaysD fa fn K) : DefAt K mg "is_stretch" (topS 26) ["value", "least", "most"] := by
  obtain ⟨fd, F⟩ := c.def_ 4 rfl
  exact ⟨_, fd, F, He.glo_ok X G (c.fact 4 rfl), FunD.bindsN F (fun _ _ _ _ _ _ us hl => match us, hl with | [_, _, _], _ => rfl)⟩
theorem at__is_end_pair (X : K.In h) (G : h.Ns mainGlobals mg) (c : He.SaysD fa fn K) : DefAt K mg "_is_end_pair" (topS 35) ["value"] := by
  obtain ⟨fd, F⟩ := c.def_ 5 rfl
  exact ⟨_, fd, F, He.glo_ok X G (c.fact 5 rfl), FunD.bindsN F (fun _ _ _ _ _ _ us hl => match us, hl with | [_], _ => rfl)⟩
theorem at__is_row (X : K.In h) (G : h.Ns mainGlobals mg) (c : He.SaysD fa fn K) : DefAt K mg "_is_row" (topS 36) ["value", "many"] := by
  obtain ⟨fd, F⟩ := c.def_ 6 rfl
  exact ⟨_, fd, F, He.glo_ok X G (c.fact 6 rfl), FunD.bindsN F (fun _ _ _ _ _ _ us hl => match us, hl with | [_, _], _ => rfl)⟩
theorem at_check_columns (X : K.In h) (G : h.Ns mainGlobals mg) (c : He.SaysD fa fn K) : DefAt K mg "check_columns" (topS 33) ["columns"] := by
  obtain ⟨fd, F⟩ := c.def_ 7 rfl
  exact ⟨_, fd, F, He.glo_ok X G (c.fact 7 rfl), FunD.bindsN F (fun _ _ _ _ _ _ us hl => match us, hl with | [_], _ => rfl)⟩
theorem at_check_rows (X : K.In h) (G : h.Ns mainGlobals mg) (c : He.SaysD fa fn K) : DefAt K mg "check_rows" (topS 34) ["columns", "rows"] := by
  obtain ⟨fd, F⟩ := c.def_ 8 rfl
  exact ⟨_, fd, F, He.glo_ok X G (c.fact 8 rfl), FunD.bindsN F (fun _ _ _ _ _ _ us hl => match us, hl with | [_, _], _ => rfl)⟩
theorem at__law_pail (X : K.In h) (G : h.Ns mainGlobals mg) (c : He.SaysD fa fn K) : DefAt K mg "_law_pail" (topS 39) ["_law_script", "_law_at"] := by
  obtain ⟨fd, F⟩ := c.def_ 9 rfl
  exact ⟨_, fd, F, He.glo_ok X G (c.fact 9 rfl), FunD.bindsN F (fun _ _ _ _ _ _ us hl => match us, hl with | [_, _], _ => rfl)⟩
theorem at__law_scoop (X : K.In h) (G : h.Ns mainGlobals mg) (c : He.SaysD fa fn K) : DefAt K mg "_law_scoop" (topS 40) ["_law_pail_here", "_law_most"] := by
  obtain ⟨fd, F⟩ := c.def_ 10 rfl
  exact ⟨_, fd, F, He.glo_ok X G (c.fact 10 rfl), FunD.bindsN F (fun _ _ _ _ _ _ us hl => match us, hl with | [_, _], _ => rfl)⟩
theorem at__law_any (X : K.In h) (G : h.Ns mainGlobals mg) (c : He.SaysD fa fn K) : DefAt K mg "_law_any" (topS 41) ["_law_pail_here", "_law_menu"] := by
  obtain ⟨fd, F⟩ := c.def_ 11 rfl
  exact ⟨_, fd, F, He.glo_ok X G (c.fact 11 rfl), FunD.bindsN F (fun _ _ _ _ _ _ us hl => match us, hl with | [_, _], _ => rfl)⟩
theorem at__law_stretch (X : K.In h) (G : h.Ns mainGlobals mg) (c : He.SaysD fa fn K) : DefAt K mg "_law_stretch" (topS 42) ["_law_pail_here"] := by
  obtain ⟨fd, F⟩ := c.def_ 12 rfl
  exact ⟨_, fd, F, He.glo_ok X G (c.fact 12 rfl), FunD.bindsN F (fun _ _ _ _ _ _ us hl => match us, hl with | [_], _ => rfl)⟩
theorem at__law_heads (X : K.In h) (G : h.Ns mainGlobals mg) (c : He.SaysD fa fn K) : DefAt K mg "_law_heads" (topS 43) ["_law_pail_here", "_law_most"] := by
  obtain ⟨fd, F⟩ := c.def_ 13 rfl
  exact ⟨_, fd, F, He.glo_ok X G (c.fact 13 rfl), FunD.bindsN F (fun _ _ _ _ _ _ us hl => match us, hl with | [_, _], _ => rfl)⟩
theorem at__law_lines (X : K.In h) (G : h.Ns mainGlobals mg) (c : He.SaysD fa fn K) : DefAt K mg "_law_lines" (topS 44) ["_law_pail_here", "_law_many", "_law_most"] := by
  obtain ⟨fd, F⟩ := c.def_ 14 rfl
  exact ⟨_, fd, F, He.glo_ok X G (c.fact 14 rfl), FunD.bindsN F (fun _ _ _ _ _ _ us hl => match us, hl with | [_, _, _], _ => rfl)⟩
theorem at__law_word (X : K.In h) (G : h.Ns mainGlobals mg) (c : He.SaysD fa fn K) : DefAt K mg "_law_word" (topS 45) ["_law_e"] := by
  obtain ⟨fd, F⟩ := c.def_ 15 rfl
  exact ⟨_, fd, F, He.glo_ok X G (c.fact 15 rfl), FunD.bindsN F (fun _ _ _ _ _ _ us hl => match us, hl with | [_], _ => rfl)⟩
theorem at__law_heard (X : K.In h) (G : h.Ns mainGlobals mg) (c : He.SaysD fa fn K) : DefAt K mg "_law_heard" (topS 46) ["_law_act"] := by
  obtain ⟨fd, F⟩ := c.def_ 16 rfl
  exact ⟨_, fd, F, He.glo_ok X G (c.fact 16 rfl), FunD.bindsN F (fun _ _ _ _ _ _ us hl => match us, hl with | [_], _ => rfl)⟩
theorem at__law_bad_heads (X : K.In h) (G : h.Ns mainGlobals mg) (c : He.SaysD fa fn K) : DefAt K mg "_law_bad_heads" (topS 47) ["_law_pail_here", "_law_heads_here"] := by
  obtain ⟨fd, F⟩ := c.def_ 17 rfl
  exact ⟨_, fd, F, He.glo_ok X G (c.fact 17 rfl), FunD.bindsN F (fun _ _ _ _ _ _ us hl => match us, hl with | [_, _], _ => rfl)⟩
theorem at__law_bad_lines (X : K.In h) (G : h.Ns mainGlobals mg) (c : He.SaysD fa fn K) : DefAt K mg "_law_bad_lines" (topS 48) ["_law_pail_here", "_law_many", "_law_lines_here"] := by
  obtain ⟨fd, F⟩ := c.def_ 18 rfl
  exact ⟨_, fd, F, He.glo_ok X G (c.fact 18 rfl), FunD.bindsN F (fun _ _ _ _ _ _ us hl => match us, hl with | [_, _, _], _ => rfl)⟩
theorem at__law_right (X : K.In h) (G : h.Ns mainGlobals mg) (c : He.SaysD fa fn K) : DefC K mg "_law_right" (topS 49) ["_law_pail_here"] (He.cT K ("_law_right", none)).1 := by
  obtain ⟨fd, F⟩ := c.def_ 19 rfl
  refine ⟨_, fd, F, He.glo_ok X G (c.fact 19 rfl), FunD.bindsN F (fun _ _ _ _ _ _ us hl => match us, hl with | [_], _ => rfl), ?_⟩
  obtain ⟨oc, od, dV, kV, doc, pm, an, cdv, ct, osl, rfl, lk, hcd, _, _⟩ := F.ex
  obtain ⟨cc, hcc⟩ := He.codeIn_ref hcd
  subst hcc
  exact congrArg Value.ref (He.codeOf_eq lk rfl).symm
theorem ex_InvalidColumns (X : K.In h) (G : h.Ns mainGlobals mg) (c : He.SaysX fa fn [] tf ex w h0 K) : ExAt K mg "InvalidColumns" (He.ga K "InvalidColumns") "index" (inClass (topS 11) 0) := by
  obtain ⟨o, z⟩ := Bool.and_eq_true_iff.mp c.more
  obtain ⟨_, z⟩ := Bool.and_eq_true_iff.mp z
  obtain ⟨q, z⟩ := Bool.and_eq_true_iff.mp z
  obtain ⟨q1, q⟩ := Bool.and_eq_true_iff.mp q
  obtain ⟨q2, q3⟩ := Bool.and_eq_true_iff.mp q
  obtain ⟨fd, F⟩ := c.t.d.def_ 22 rfl
  exact ⟨oexB_ok o, He.glo_ok X G (c.t.d.fact 21 rfl), He.eqO_ok q1, _, fd, _, He.eqO_ok q2, of_decide_eq_true q3, F, FunD.bindsN F (fun _ _ _ _ _ _ us hl => match us, hl with | [_, _], _ => rfl)⟩
theorem ex_InvalidRows (X : K.In h) (G : h.Ns mainGlobals mg) (c : He.SaysX fa fn [] tf ex w h0 K) : ExAt K mg "InvalidRows" (He.ga K "InvalidRows") "index" (inClass (topS 12) 0) := by
  obtain ⟨_, z⟩ := Bool.and_eq_true_iff.mp c.more
  obtain ⟨o, z⟩ := Bool.and_eq_true_iff.mp z
  obtain ⟨_, z⟩ := Bool.and_eq_true_iff.mp z
  obtain ⟨q, z⟩ := Bool.and_eq_true_iff.mp z
  obtain ⟨q1, q⟩ := Bool.and_eq_true_iff.mp q
  obtain ⟨q2, q3⟩ := Bool.and_eq_true_iff.mp q
  obtain ⟨fd, F⟩ := c.t.d.def_ 23 rfl
  exact ⟨oexB_ok o, He.glo_ok X G (c.t.d.fact 22 rfl), He.eqO_ok q1, _, fd, _, He.eqO_ok q2, of_decide_eq_true q3, F, FunD.bindsN F (fun _ _ _ _ _ _ us hl => match us, hl with | [_, _], _ => rfl)⟩
theorem ew_ok (c : He.SaysX fa fn [] tf ex w h0 K) : ∀ n, n < 2 → ExW K (He.ga K) (match n with | 0 => He.ga K "InvalidColumns" | _ => He.ga K "InvalidRows") n := by
  obtain ⟨_, z⟩ := Bool.and_eq_true_iff.mp c.more
  obtain ⟨_, z⟩ := Bool.and_eq_true_iff.mp z
  obtain ⟨_, z⟩ := Bool.and_eq_true_iff.mp z
  obtain ⟨_, z⟩ := Bool.and_eq_true_iff.mp z
  obtain ⟨z1, z2⟩ := Bool.and_eq_true_iff.mp z
  intro n hn
  match n, hn with
  | 0, _ => exact exwB_ok z1
  | 1, _ => exact exwB_ok z2
theorem tab_ok (X : K.In h) (G : h.Ns mainGlobals mg) (c : He.SaysD fa fn K) : ∃ fd, TabAt K mg (He.ga K "Table") (He.fAd K ("Table", some "__init__")) fd := by
  obtain ⟨fd, F⟩ := c.def_ 21 rfl
  refine ⟨fd, He.mkr_ok (c.fact 60 rfl), He.glo_ok X G (c.fact 39 rfl), ⟨_, F⟩, FunD.bindsN F (fun _ _ _ _ _ _ us hl => match us, hl with | [_, _, _], _ => rfl), ?_⟩
  obtain ⟨oc, od, dV, kV, doc, pm, an, cdv, ct, osl, rfl, lk, hcd, hD, hK⟩ := F.ex
  rcases hD with ⟨_, rfl⟩ | ⟨e, _⟩
  · refine ⟨fun s us ws X l1 l2 => ?_, fun r1 r2 => r1.append (vals_rev r2)⟩
    match us, l1, ws, l2 with
    | [_], _, [_, _], _ => exact .of_eq rfl
  · exact absurd rfl e
theorem law_at {fa' : Addr} (X : K.In h) (G : h.Ns mainGlobals mg) (c : He.SaysX fa fn [] tf ex w h K) (hmg : mg "law" = some (.ref fa')) : LawAtS PySem.Challenge.rw_cornersure_k04_tables_refused w K L2.CX0 12 63 "_law_script" mg fa' h := by
  obtain ⟨fd, F⟩ := c.t.d.def_ 20 rfl
  have eg := hmg.symm.trans (He.glo_ok X G (c.t.d.fact 20 rfl))
  cases eg
  have b := FunD.bindsA (ps := ["_law_script"]) F (fun _ _ _ _ _ _ us hl => match us, hl with | [_], _ => rfl)
  have cT0 := He.cT K ("_law_right", none)
  refine ⟨fd, [He.cT K ("_law_right", none)], SpLaw K [((He.cT K ("_law_right", none)).2, "_law_right.<locals>.<lambda>")], fun p hp => ?_, fun p hp => ?_, fun p hp => ?_, fun s v => b s [v] rfl, fun H a ns hl _ hT hS => ?_, fun base KB NB TBs => ?_⟩
  · rw [List.mem_singleton.mp hp]
    exact c.empty _ List.mem_cons_self
  · rw [List.mem_singleton.mp hp]
    exact c.out _ List.mem_cons_self
  · rw [List.mem_singleton.mp hp]
    exact PySem.W.codeHd_of_K X (c.hd _ List.mem_cons_self)
  · refine ⟨a, ns, rfl, hS, by omega, fun q hq => ?_, fun _ => rfl⟩
    rw [List.mem_singleton.mp hq]
    exact TabS.nil (hT _ List.mem_cons_self)
  · have T : Txt mg := txt_ok X G c.t.d
    have CL := cls_ok X G c.t.d
    have cis_integer := ok_is_integer (P := PySem.Challenge.rw_cornersure_k04_tables_refused.prog) (w := w) (base := base) (at_is_integer X G c.t.d) T
    have cis_tuple_of := ok_is_tuple_of (P := PySem.Challenge.rw_cornersure_k04_tables_refused.prog) (w := w) (base := base) (at_is_tuple_of X G c.t.d) T
    have cis_pair := ok_is_pair_of_integers (at_is_pair_of_integers X G c.t.d) T cis_tuple_of cis_integer
    have cis_stretch := ok_is_stretch (at_is_stretch X G c.t.d) cis_pair
    have c_end := ok__is_end_pair (at__is_end_pair X G c.t.d) T cis_stretch
    have cis_name := ok_is_name (P := PySem.Challenge.rw_cornersure_k04_tables_refused.prog) (w := w) (base := base) (at_is_name X G c.t.d) T
    have c_row := ok__is_row (at__is_row X G c.t.d) T cis_tuple_of cis_name c_end
    have cC := ok_check_columns (at_check_columns X G c.t.d) T cis_name (ex_InvalidColumns X G c)
    have cR := ok_check_rows (at_check_rows X G c.t.d) T c_row (ex_InvalidRows X G c)
    obtain ⟨fdI, TA⟩ := tab_ok X G c.t.d
    obtain ⟨qI, FI0⟩ := TA.F
    have FI := ok_tinit (c := fun n => match n with | 0 => He.ga K "InvalidColumns" | _ => He.ga K "InvalidRows") FI0 cC cR
    have W := ok__law_word (P := PySem.Challenge.rw_cornersure_k04_tables_refused.prog) (w := w) (base := base) (at__law_word X G c.t.d) T CL
    have cscoop := ok__law_scoop (P := PySem.Challenge.rw_cornersure_k04_tables_refused.prog) (w := w) (base := base) (at__law_scoop X G c.t.d) T
    have cany := ok__law_any (at__law_any X G c.t.d) T cscoop
    have cpail := ok__law_pail (P := PySem.Challenge.rw_cornersure_k04_tables_refused.prog) (w := w) (base := base) (at__law_pail X G c.t.d) T
    have cstr := ok__law_stretch (at__law_stretch X G c.t.d) T cscoop cany
    have cheads := ok__law_heads (at__law_heads X G c.t.d) T cscoop
    have clines := ok__law_lines (at__law_lines X G c.t.d) T cscoop cstr
    have cbh := ok__law_bad_heads (at__law_bad_heads X G c.t.d) T cscoop cany
    have cbl := ok__law_bad_lines (at__law_bad_lines X G c.t.d) T cscoop cany cstr
    have cright := ok__law_right (at__law_right X G c.t.d) T (at__law_heard X G c.t.d) CL W TA FI (TBs _ List.mem_cons_self) (ew_ok c) cheads clines cbh cbl cany
    exact ok_law F T cright cpail
end
end Cs
open PySem PySem.W PySem.Calls PyProof.Rows
set_option maxRecDepth 100000 in
theorem PySem.Challenge.cw_cornersure_k04_tables_refused_holds : PySem.Challenge.rw_cornersure_k04_tables_refused.Holds := by
  w_on; o_law
  refine HandSHeadRun.head_any (r := OpenLaw.row PySem.Challenge.rw_cornersure_k04_tables_refused) (q := view (OpenLaw.row PySem.Challenge.rw_cornersure_k04_tables_refused).prog [50]) (H := Cs.hk) (ob := Cs.ob) (M := 9000) (loose := Cs.loose) (d := HandSHeadRun.topDef (OpenLaw.row PySem.Challenge.rw_cornersure_k04_tables_refused).prog 50) (kwd := []) Cs.ob_eq
    (by kernel_rfl) (fun s => by kernel_rfl) Cs.run (by kernel_rfl) (by kernel_rfl) (by kernel_rfl) (by rfl) (by first | assumption | decide +kernel) (by decide +kernel) ⟨rfl, rfl, rfl, rfl, rfl, by decide +kernel⟩ ?hw ?hc
  case hw => w_witness2
  case hc =>
    refine LamX.walk_ofTsE (l := PySem.Challenge.rw_cornersure_k04_tables_refused) (n := 63) (k := 12) (x := "_law_script") (CX := fun _ => L2.CX0) rfl (by decide) (by kernel_rfl) ⟨rfl, by decide, by decide⟩ ?F (fun _ _ _ _ _ z => z)
    intro w mg fa h Y G hmg0
    obtain ⟨K, KX, c⟩ := Y
    have hmg : mg ("law" : PySem.Str) = some (.ref fa) := by
      have e : (HandSHeadRun.topDef (OpenLaw.row PySem.Challenge.rw_cornersure_k04_tables_refused).prog 50).name = ("law" : PySem.Str) := by kernel_rfl
      rw [← e]
      exact hmg0
    exact ⟨K, KX, Cs.law_at KX G c hmg⟩
