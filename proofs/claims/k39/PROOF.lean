import PyProof.Rows.All
import Wide.All
import OpenK.AllK
import Wide.FinOn
import HandS.ForMost
import HandS.Flow
import HandS.IsInst
import HandS.TupAny
import KE.GoesEnum
import HandS.SetFor
import HandS.RaiseMore
import HandS.ForExc
import HandS.ExcIs
import HandS.ExcField
import HandS.ExcInit
import HandS.HotCalls
import KE.KTryMore
import HandS.Defaults
import HandS.MakeKw
import HandS.ExcValue
import KE.KExcInit
import HandS.EndTab
import HandS.HeadWalk
import PyProof.ReprRoads
import HandS.OwnEq
import HandS.Property
import HandS.FStr
import HandS.Star
import KE.KCallOwn
import HandS.Zip
import KE.KRevSl
import HandS.Codes
import HandS.MakeKwOnly
import HandS.Strs
import HandS.Gcd
import KE.KMathGC
import HandS.Style
import KE.KStateDown
import HandS.Head0
import HandS.Head1
import HandS.Head2
import HandS.Head3
import HandS.HeadEnd
import HandS.HeadHook1
import HandS.HeadHook2
import HandS.HeadHook3
import HandS.HeadHook4
import PyProof.ExcBaseAll.ValueError
import PyProof.ExcBaseAll.LookupError
import PyProof.ExcBaseAll.ArithmeticError
import PySem.Challenge.RW_cornersure_k39_whole_rows_by_answers
set_option Elab.async false
set_option linter.all false
set_option maxRecDepth 100000
set_option maxHeartbeats 4000000
/-! Rules of my own beside the layer: enumerate of a tuple; a chain of three comparisons; count of flat items. -/
namespace PySem
open AutoSeq1 (wpAny_loadPart')
theorem cs_enum_newT (l : Addr) (items : Array Value) (n : Nat) (dct : Option Addr) (sl : Array (Option Value)) :
    Meets (Builtin.«enumerate.__new__» ⟨[.type "enumerate", .ref l], []⟩)
      (fun _ R s => s.heap.get? l = some { cls := .type "tuple", dict := dct, data := .seq items n, slots := sl } ∧
        R (.ok (.ret (.ref (s.heap.push { cls := .type "tuple_iterator", data := .fields #[.ref l, .int 0 0] }).objs.size)))
          { s with heap := ((s.heap.push { cls := .type "tuple_iterator", data := .fields #[.ref l, .int 0 0] }).push { cls := .type "enumerate", data := .fields #[.none, .bool false, .ref s.heap.objs.size, rawInt 0, .none, .none] }) }) := .of_wp fun prog w A R s h => by
  obtain ⟨hp, g, d, tk, os⟩ := s
  obtain ⟨hl, h⟩ := h
  have hsub := sub_enumerate
  have hT : Heap.IsTuple (Shared.heap ⟨hp, g, d, tk, os⟩) l items := ⟨_, hl, rfl, n, rfl⟩
  wp_walk using wpAny_loadPart' hl
  refine wpAny_stack_any fun _ => wpAny_pure ?_
  split
  · rename_i c _ _ _ _ _
    cases (c == Value.type "enumerate") <;> (wp_walk using wpAny_loadPart' hl, wpAny_pyIter_tuple hT; exact ⟨_, rfl, h⟩)
  · wp_walk using wpAny_loadPart' hl, wpAny_pyIter_tuple hT
    exact ⟨_, rfl, h⟩
theorem cs_call_enumT {prog : Program} {w : World} {A : Around} {E : Value → Shared → Prop} {s : Shared} {l : Addr} {items : Array Value} {Q : Value → Shared → Prop} (hL : s.heap.IsTuple l items)
    (h : ∀ h', IsEnum h' (s.heap.objs.size + 1) s.heap.objs.size 0 .none → h'.IsTupleIter s.heap.objs.size l 0 →
      (∀ b o, s.heap.get? b = some o → h'.get? b = some o) → Q (.ref (s.heap.objs.size + 1)) { s with heap := h' }) :
    wpAny (model prog w) A (call (.type "enumerate") [.ref l]) Q E s := by
  obtain ⟨⟨c, dct, dt, sl⟩, hl, hc, n, hd⟩ := hL
  obtain rfl : c = .type "tuple" := hc
  obtain rfl : dt = .seq items n := hd
  refine callType_new F.called_enumerate (by decide) (F.typeCall_enumerate_1 _) (F.newCall_enumerate_1 _)
    (fun obj => F.args_object_init_2 obj _) F.entry_enumerate_new (cs_enum_newT l items n dct sl) ⟨hl, ?_⟩
  generalize ho1 : ({ cls := .type "tuple_iterator", data := .fields #[.ref l, .int 0 0] } : Obj) = o1
  generalize ho2 : ({ cls := .type "enumerate", data := .fields #[.none, .bool false, .ref s.heap.objs.size, rawInt 0, .none, .none] } : Obj) = o2
  have f1 : o1.isFreed = false := by rw [← ho1]; rfl
  have f2 : o2.isFreed = false := by rw [← ho2]; rfl
  have z1 : (s.heap.push o1).objs.size = s.heap.objs.size + 1 := Heap.size_push ..
  have he : ((s.heap.push o1).push o2).get? (s.heap.objs.size + 1) = some o2 := by
    rw [← z1]
    exact Heap.get?_push_size _ f2
  have hi : ((s.heap.push o1).push o2).get? s.heap.objs.size = some o1 := Heap.get?_push_of_some _ (Heap.get?_push_size _ f1)
  rw [z1]
  refine ⟨⟨o2, he, by rw [← ho2]⟩, h _ ?_ ⟨o1, hi, by rw [← ho1], by rw [← ho1]; rfl⟩ fun b o x => Heap.get?_push_of_some _ (Heap.get?_push_of_some _ x)⟩
  rw [← ho2] at he ⊢
  exact he
end PySem
namespace Cs
open PySem L2 PyProof.Rows
/-- the tuple at a, each item in a new pair -/
def EtT (K : PySem.W.Frag) (a : Addr) : It :=
  ⟨fun i H => ∃ (xs : List V) (x : V), SqT K H a xs ∧ xs[i]? = some x,
    fun i H v H' => ∃ T x, v = .ref T ∧ H T = none ∧ H' = upd H T (.tup [.int (i : Nat), x]) ∧ ∀ xs, SqT K H a xs → xs[i]? = some x,
    fun i H => ∃ xs : List V, SqT K H a xs ∧ xs.length = i⟩
theorem turn_enumT {P : Program} {w : World} {K : PySem.W.Frag} {elts : List Expr} {kk : Nat} {tpos : Pos} (a e it : Addr) :
    Turn P w K (.Tuple elts kk tpos) (EtT K a) [e, it] e (fun i h => (∃ old, IsEnum h e it ((i : Nat) : Int) old) ∧ h.IsTupleIter it a i ∧ e ≠ it) where
  mem := List.mem_cons_self
  obj := fun i h st b hb => by
    obtain ⟨⟨old, he⟩, ⟨o, ho, _, hd⟩, _⟩ := st
    rcases List.mem_cons.mp hb with rfl | hb
    · exact ⟨_, he, fun v q => nomatch q⟩
    · obtain rfl : b = it := by simpa using hb
      exact ⟨o, ho, fun v q => by rw [hd] at q; cases q⟩
  keep := fun i h h' st k => by
    obtain ⟨⟨old, he⟩, hi, hne⟩ := st
    exact ⟨⟨old, k _ (by simp) _ he⟩, hi.at fun o q => k _ (by simp) o q, hne⟩
  item := by
    rintro X rfl rfl rfl hc i pins s σ H E I hf ⟨⟨old, he⟩, hit, hne⟩ ⟨xs, x, hq, hx⟩
    obtain ⟨its, rv, p, hz⟩ := I.tuple hq
    obtain ⟨u, hu, ru⟩ := rv.get hx
    have p' : s.heap.IsTuple a its.toArray := p
    have hel := Heap.lt_size he
    have hil : it < s.heap.objs.size := by
      obtain ⟨_, q, _⟩ := hit
      exact Heap.lt_size q
    have nat : a ≠ it := fun z => by
      obtain ⟨o1, q1, c1, _⟩ := p'
      obtain ⟨o2, q2, c2, _⟩ := hit
      rw [z, q2] at q1
      cases q1
      rw [c2] at c1
      exact absurd (Value.type.inj c1) (by decide)
    have nae : a ≠ e := fun z => by
      obtain ⟨o1, q1, c1, _⟩ := p'
      have he' := he
      rw [← z] at he'
      unfold IsEnum at he'
      rw [q1] at he'
      cases he'
      exact absurd (Value.type.inj c1) (by decide)
    have hh : X.A.in1.handled = none := I.ok.hd hc
    have D := Draws.tuple (prog := X.prog) (w := X.w) hh it a nat its.toArray
    have hi2 : i < its.toArray.size := by
      have q := (List.getElem?_eq_some_iff.mp hu).1
      simpa using q
    refine wpAny_pyNext_enum_itemD D he ⟨hit, p'⟩ hi2 hne (by simp [hne, Ne.symm nae]) fun y h' tk hy ho hst hT hsz hk => ?_
    have ey : y = u := by
      have q : its.toArray[i]? = some y := hy
      rw [List.getElem?_toArray, hu] at q
      exact (Option.some.inj q).symm
    subst ey
    refine ⟨_, rfl, wpAny_letOwnedTupleGo_enum (s := { s with heap := h', toks := tk + 1 }) ho fun h2 he2 sb => ?_⟩
    have ne0 : s.heap.objs.size ≠ e := Nat.ne_of_gt hel
    have hT2 : h2.get? s.heap.objs.size = some { cls := .type "tuple", data := .seq #[.int i tk, y] } := (sb.2 _ ne0).trans hT
    have new : ObjOk X.prog X.w (upd H s.heap.objs.size (.tup [.int (i : Nat), x])) h2 s.heap.objs.size (.tup [.int (i : Nat), x]) :=
      ⟨(by show 2 ≤ sizeLine; decide), [.int i tk, y], .cons ⟨_, rfl⟩ (.cons ru .nil), _, hT2, rfl, _, rfl⟩
    have kk2 : ∀ b ob, b ∉ [e, it] → s.heap.get? b = some ob → h2.get? b = some ob := fun b ob hb q => by
      have b1 : b ≠ e := fun z => hb (by simp [z])
      have b2 : b ≠ it := fun z => hb (by simp [z])
      exact (sb.2 b b1).trans (hk b ob b1 b2 q)
    have J := I.turnedNew (t' := tk + 1) (ch := [e, it]) kk2 hf (Nat.le_refl _) new
    refine ⟨.ref s.heap.objs.size, _, J, rfl, ⟨_, x, rfl, I.hok.fresh (Nat.le_refl _), rfl, fun ys hy2 => ?_⟩, ⟨⟨y, ?_⟩, hst.1.at fun o q => (sb.2 it (Ne.symm hne)).trans q, hne⟩, fun b hb => ?_⟩
    · rw [I.tuple_inj hy2 hq]
      exact hx
    · have e1 : ((i + 1 : Nat) : Int) = (i : Int) + 1 := by omega
      rw [e1]
      exact he2
    · have hb' : b < s.heap.objs.size := by
        rcases List.mem_cons.mp hb with rfl | hb
        · exact hel
        · obtain rfl : b = it := by simpa using hb
          exact hil
      rw [upd_ne (Nat.ne_of_lt hb')]
      exact (hf b hb).1
  done := by
    rintro X rfl rfl rfl hc i pins s σ H E I hf ⟨⟨old, he⟩, hit, hne⟩ ⟨xs, hq, hx⟩
    obtain ⟨its, rv, p, hz⟩ := I.tuple hq
    have p' : s.heap.IsTuple a its.toArray := p
    have nat : a ≠ it := fun z => by
      obtain ⟨o1, q1, c1, _⟩ := p'
      obtain ⟨o2, q2, c2, _⟩ := hit
      rw [z, q2] at q1
      cases q1
      rw [c2] at c1
      exact absurd (Value.type.inj c1) (by decide)
    have D := Draws.tuple (prog := X.prog) (w := X.w) (A := X.A.in1) (I.ok.hd hc) it a nat its.toArray
    have ei : i = its.toArray.size := by
      have q := rv.length
      simp
      omega
    obtain ⟨f0, f1, f2, f3, f4, f5⟩ := hf it (by simp)
    exact wpAny_pyNext_enum_endD D he (by rw [← ei]; exact ⟨hit, p'⟩) fun h' eb => ⟨rfl, I.turned (t' := s.toks) (fun b o hb q => eb b o hb q) f0 f1 f3 f4 f5⟩
  self := fun A i s Q E st h => let ⟨⟨_, he⟩, _⟩ := st; wpAny_pyIter_enum he h
def iEnT (K : PySem.W.Frag) (ta : TA) : TI := fun σ H R => ta σ H fun vs H1 => ∃ a, vs = [.ref a] ∧ (∃ xs, SqT K H1 a xs) ∧ R (EtT K a) H1
theorem pi_enumT {X : Cx} {e : Expr} {ta : TA} {p pos tpos : Pos} {elts : List Expr} {kk : Nat} (hg : Gl X "enumerate") (hm : X.mg "enumerate" = none) (ha : PA X [e] ta)
    (hs : starEach [e] X.env = [(false, eval e X.env)] := by rfl) : PI X (.Tuple elts kk tpos) (.Call (.Name "enumerate" p) [e] [] pos) (iEnT X.K ta) := by
  refine ⟨fun pins s σ H R I h => ?_⟩
  refine Call_ (ld_blt I hg hm boot_enumerate (callWith_type1 (thn (ha.run pos pins s σ H _ I h) fun us s1 hh => ?_) hs rfl))
  obtain ⟨vs, H1, I1, r1, a, rfl, ⟨xs, hq⟩, q⟩ := hh
  cases r1 with
  | cons r rr =>
    cases rr
    cases r
    obtain ⟨its, rv, p1, hz⟩ := I1.tuple hq
    refine cs_call_enumT (items := its.toArray) p1 fun h' he hit hk => wpAny_pyIter_enum he ?_
    have I2 : Inv X pins σ H1 { s1 with heap := h' } := I1.kept (t' := s1.toks) hk
    refine ⟨_, [s1.heap.objs.size + 1, s1.heap.objs.size], _, _, H1, rfl, I2, turn_enumT a (s1.heap.objs.size + 1) s1.heap.objs.size, ⟨⟨.none, he⟩, hit, Nat.succ_ne_self _⟩, fun b hb => ?_, q⟩
    have hle : s1.heap.objs.size ≤ b := by
      rcases List.mem_cons.mp hb with rfl | hb
      · omega
      · obtain rfl : b = s1.heap.objs.size := by simpa using hb
        omega
    exact I1.fpOk hle (I1.hok.fresh hle)
theorem for_enumT {K : PySem.W.Frag} {a : Addr} {xs : List V} {g : TG} {tb : TS} {D : Ends} {σ : L2.St} {H : Hp} (Pv : Nat → L2.St → Hp → Prop) (h0 : Pv 0 σ H)
    (hl : ∀ i σ H, i ≤ xs.length → Pv i σ H → SqT K H a xs)
    (hs : ∀ i x T σ H, xs[i]? = some x → Pv i σ H → H T = none → g (.ref T) σ (upd H T (.tup [.int (i : Nat), x])) fun σ2 H2 => tb { D with nx := Pv (i + 1), ct := Pv (i + 1), bk := D.nx } σ2 H2)
    (hd : ∀ σ H, Pv xs.length σ H → D.nx σ H) :
    ∃ W : Nat → Nat → L2.St → Hp → Prop, (∃ m, W 0 m σ H) ∧ ∀ i m σ H, W i m σ H →
      ((EtT K a).stop i H ∧ D.nx σ H) ∨ ((EtT K a).go i H ∧ ∃ N : L2.St → Hp → Prop, (∀ σ' H', N σ' H' → ∃ m', m' < m ∧ W (i + 1) m' σ' H') ∧
        ∀ x H', (EtT K a).yld i H x H' → g x σ H' fun σ2 H2 => tb { D with nx := N, ct := N, bk := D.nx } σ2 H2) := by
  refine ⟨fun i m σ H => m + i = xs.length ∧ Pv i σ H, ⟨xs.length, rfl, h0⟩, fun i m σ H ⟨hm, p⟩ => ?_⟩
  have q := hl i σ H (by omega) p
  cases e : xs[i]? with
  | none =>
    have hi : i = xs.length := by
      have := List.getElem?_eq_none_iff.mp e
      omega
    subst hi
    exact .inl ⟨⟨xs, q, rfl⟩, hd σ H p⟩
  | some x =>
    have hi := (List.getElem?_eq_some_iff.mp e).1
    refine .inr ⟨⟨xs, x, q, e⟩, Pv (i + 1), fun σ' H' p' => ⟨m - 1, by omega, by omega, p'⟩, fun v H' ⟨T, y, hv, hT, hH, hy⟩ => ?_⟩
    subst hv hH
    have ey := hy xs q
    rw [e] at ey
    cases ey
    exact hs i x T σ H e p hT
end Cs
set_option maxHeartbeats 4000000
namespace Cs
open PySem L2 PyProof.Rows
section
variable {X : Cx} {a b c d : Expr} {ta tb tc td : TE} {pos : Pos}
def tChain3 (r r' r'' : R2) (ta tb tc td : TE) : TE := fun σ H Q => ta σ H fun x H1 => tb σ H1 fun y H2 => r x y H2 fun z H3 => ∃ k, z = .bl k ∧
  if k = true then tc σ H3 fun w H4 => r' y w H4 fun z2 H5 => ∃ k2, z2 = .bl k2 ∧ if k2 = true then td σ H5 fun u H6 => r'' w u H6 Q else Q (.bl false) H5
  else Q (.bl false) H3
theorem pe_chain3 {op op' op'' : CmpOp} {r r' r'' : R2} (ho : OpR X (compareOp op) r) (ho' : OpR X (compareOp op') r') (ho'' : OpR X (compareOp op'') r'') (ha : PE X a ta) (hb : PE X b tb) (hc : PE X c tc) (hd : PE X d td)
    (hm : lastMarks [op, op', op''] [b, c, d] = false := by with_unfolding_all rfl) : PE X (.Compare a [op, op', op''] [b, c, d] pos) (tChain3 r r' r'' ta tb tc td) := by
  refine ⟨fun pins s σ H Q I h => Compare_chain (thn (ha.run pins s σ H _ I h) fun v s1 ⟨x, H1, I1, r1, q1⟩ => chain_link (thn (hb.run pins s1 σ H1 _ I1 q1) fun u s2 ⟨y, H2, I2, r2, q2⟩ => ?_)) hm⟩
  refine thn (ho pins s2 σ H2 x y v u _ I2 r1 r2 q2) fun e s3 ⟨z, H3, I3, r3, k, ez, q3⟩ => ?_
  subst ez
  cases r3
  refine wpAny_truthy_bool ?_
  cases k with
  | false => exact ite_ff ⟨.bl false, H3, I3, rfl, q3⟩
  | true =>
    refine ite_tt (chain_link (thn (hc.run pins s3 σ H3 _ I3 q3) fun u4 s4 ⟨z4, H4, I4, r4, q4⟩ => ?_))
    refine thn (ho' pins s4 σ H4 y z4 u u4 _ I4 r2 r4 q4) fun e5 s5 ⟨z5, H5, I5, r5, k5, ez5, q5⟩ => ?_
    subst ez5
    cases r5
    refine wpAny_truthy_bool ?_
    cases k5 with
    | false => exact ite_ff ⟨.bl false, H5, I5, rfl, q5⟩
    | true => exact ite_tt (chain_last (thn (hd.run pins s5 σ H5 _ I5 q5) fun u6 s6 ⟨z6, H6, I6, r6, q6⟩ => ho'' pins s6 σ H6 z4 z6 u4 u6 Q I6 r4 r6 q6))
/-- how often a flat thing stands among flat ones -/
def rCntF (K : PySem.W.Frag) : V → List V → Hp → VK → Prop := fun x vs H Q => ∃ (p : Addr) (xs : List V) (y : V), x = .ref p ∧ vs = [y] ∧ SqL K H p xs ∧ flatV y = true ∧ xs.all flatV = true ∧ Q (.int (xs.countP fun z => eqV z y : Nat)) H
theorem cnt_eqU {x : V} : ∀ {xs : List V} {us : List Value}, Vals xs us → xs.all flatV = true → us.countP (eqU x) = xs.countP fun y => eqV y x
  | _, _, .nil, _ => rfl
  | y :: xs, u :: us, .cons r t, f => by
    rw [List.all_cons, Bool.and_eq_true] at f
    rw [List.countP_cons, List.countP_cons, eqU_of r f.1, cnt_eqU t f.2]
theorem mt_countF : MtR X "list.count" (rCntF X.K) := by
  rintro pins s σ H x vs v us Q I rx rvs ⟨p, xs, y, rfl, rfl, hq, fy, fx, q⟩
  cases rx
  obtain ⟨u, rfl, ru⟩ := rvs.one
  obtain ⟨its, rv, ⟨⟨cls, dd, data, sl⟩, n, ho, hc, _, hd⟩, _⟩ := I.list hq
  obtain rfl : cls = .type "list" := hc
  obtain rfl : data = .seq its.toArray n := hd
  refine call_meets PySem.F.slot_list_count ⟨_, ho, rfl⟩ PySem.F.entry_list_count (PySem.F.args_list_count_2 _ _)
    (SeqAt.list_countAt p its.toArray n dd sl u (eqU y)) ⟨ho, fun z hz => mem_eqAt ru fy rv fx z (by simpa using hz), .int _, H, I.tok _, ⟨s.toks, ?_⟩, q⟩
  rw [show its.toArray.toList = its from rfl, cnt_eqU rv fx]

/-! one rule for each operator, whatever kind it meets -/
end
section
variable {X : Cx}
def opAdd := (op_add (X := X)).or ((op_add_str (X := X)).or ((op_cat (X := X)).or (op_catT (X := X))))
def opMul := (op_mul (X := X)).or (op_rep (X := X))
def opLe := (op_le (X := X)).or (op_le_str (X := X))
def opLt := (op_lt (X := X)).or (op_lt_str (X := X))
def opEq (hu : X.A.units + 64 < cLine) := (op_eq (X := X)).or (op_eqD hu)
def opNe (hu : X.A.units + 64 < cLine) := (op_ne (X := X)).or (op_neD hu)
def opIn := (op_in_seq (X := X)).or (op_in_sign (X := X))
def opNotIn := (op_notIn_seq (X := X)).or (op_notIn_sign (X := X))
def call_lenA := (call_len_seq (X := X)).or (call_len_str (X := X))
def callInt := (call_int1 (X := X)).or (call_int_str (X := X))
def slAny := (sl_list (X := X)).or ((sl_tupA (X := X)).or (sl_str (X := X)))
end

/-! ### heaps -/
def ExB (p : Addr) (H H' : Hp) : Prop := ∀ b o, b ≠ p → H b = some o → H' b = some o
theorem ExB.refl (p : Addr) (H : Hp) : ExB p H H := fun _ _ _ h => h
theorem ExB.trans {p : Addr} {H H1 H2 : Hp} (a : ExB p H H1) (b : ExB p H1 H2) : ExB p H H2 := fun c o n h => b c o n (a c o n h)
theorem ExB.of {p : Addr} {H H1 : Hp} (a : Same H H1) : ExB p H H1 := fun c o _ h => a c o h
theorem ExB.new {p t : Addr} {H : Hp} {o : HO} (h : H t = none) : ExB p H (upd H t o) := fun c u _ e => by
  rw [upd_ne (ne_of_none e h)]
  exact e
theorem ExB.put {p : Addr} {H : Hp} {o : HO} : ExB p H (upd H p o) := fun c u n e => by
  rw [upd_ne n]
  exact e
theorem same_new {t : Addr} {H : Hp} {o : HO} (h : H t = none) : Same H (upd H t o) := fun c u e => by
  rw [upd_ne (ne_of_none e h)]
  exact e
theorem upd_old {H : Hp} {t a : Addr} {o u : HO} (hn : H t = none) (h : H a = some u) : upd H t o a = some u := by
  rw [upd_ne (ne_of_none h hn)]
  exact h
theorem upd_mut {H : Hp} {t a : Addr} {o u v : HO} (ht : H t = some v) (d : u ≠ v) (h : H a = some u) : upd H t o a = some u := by
  rw [upd_ne (ne_of h ht d)]
  exact h
theorem upd_new {H : Hp} {t a : Addr} {o : HO} (h : upd H t o a = none) : H a = none := by
  unfold upd at h
  split at h
  · cases h
  · exact h
theorem sz1000 {n : Nat} (h : n ≤ 1000) : n ≤ sizeLine := Nat.le_trans h (by decide)
theorem len_le {xs : List V} {n : Nat} (h : xs.length = n) (z : n ≤ 1000) : xs.length ≤ sizeLine := by rw [h]; exact sz1000 z
theorem len2_le {xs ys : List V} {n : Nat} (h : xs.length + ys.length = n) (z : n ≤ 1000) : xs.length + ys.length ≤ sizeLine := by rw [h]; exact sz1000 z
theorem fin_b {Q : VK} {H H' : Hp} {b c : Bool} (k : ∀ H', Same H H' → Q (.bl b) H') (e : b = c) (s : Same H H') : Q (.bl c) H' := e ▸ k H' s
theorem same_tr {H H1 H2 : Hp} (b : Same H1 H2) (a : Same H H1) : Same H H2 := a.trans b
theorem same_none {H H' : Hp} {a : Addr} (s : Same H H') (h : H' a = none) : H a = none := s.free h

/-! ### data -/
theorem rd_keep {H H' : Hp} {a : Addr} {u : HO} (e : ∀ o, H a = some o → H' a = some o) (h : Rd H a u) : Rd H' a u := by
  rcases h with h | ⟨o, h⟩
  · exact .inl (e _ h)
  · exact .inr ⟨o, e _ h⟩
theorem SqT.rd {K : PySem.W.Frag} {H : Hp} {a : Addr} {xs : List V} (h : Rd H a (.tup xs)) : SqT K H a xs := .inl h
theorem Rd.back {H H' : Hp} {a : Addr} {u : HO} (s : Same H H') (h : Rd H a u) : Rd H' a u := rd_keep (fun o q => s _ o q) h
theorem Rd.same {H H' : Hp} {a : Addr} {u : HO} (h : Rd H a u) (s : Same H H') : Rd H' a u := rd_keep (fun o q => s _ o q) h
mutual
/-- v tells the data d; lists and tuples stand at addresses that H knows, none of them p -/
inductive Rp (p : Addr) (H : Hp) : V → PyData → Prop
  | non : Rp p H .non .none
  | bl (b : Bool) : Rp p H (.bl b) (.bool b)
  | int (i : Int) : Rp p H (.int i) (.int i)
  | str (x : Str) (h : x.length ≤ 1000) : Rp p H (.str x) (.str x)
  | lst {a : Addr} {xs : List V} {ds : List PyData} (n : a ≠ p) (h : H a = some (.lst xs)) (z : xs.length ≤ 1000) (r : RpA p H xs ds) : Rp p H (.ref a) (.list ds)
  | tup {a : Addr} {xs : List V} {ds : List PyData} (n : a ≠ p) (h : Rd H a (.tup xs)) (z : xs.length ≤ 1000) (r : RpA p H xs ds) : Rp p H (.ref a) (.tuple ds)
  | dct {a : Addr} (n : a ≠ p) (h : H a = some (.dK [])) : Rp p H (.ref a) (.dict [])
inductive RpA (p : Addr) (H : Hp) : List V → List PyData → Prop
  | nil : RpA p H [] []
  | cons {v : V} {vs : List V} {d : PyData} {ds : List PyData} (h : Rp p H v d) (t : RpA p H vs ds) : RpA p H (v :: vs) (d :: ds)
end
mutual
theorem Rp.keep {p : Addr} {H H' : Hp} (e : ExB p H H') : ∀ {v : V} {d : PyData}, Rp p H v d → Rp p H' v d
  | _, _, .non => .non
  | _, _, .bl b => .bl b
  | _, _, .int i => .int i
  | _, _, .str x h => .str x h
  | _, _, .lst n h z r => .lst n (e _ _ n h) z (RpA.keep e r)
  | _, _, .tup n h z r => .tup n (rd_keep (fun o q => e _ o n q) h) z (RpA.keep e r)
  | _, _, .dct n h => .dct n (e _ _ n h)
theorem RpA.keep {p : Addr} {H H' : Hp} (e : ExB p H H') : ∀ {vs : List V} {ds : List PyData}, RpA p H vs ds → RpA p H' vs ds
  | _, _, .nil => .nil
  | _, _, .cons h t => .cons (Rp.keep e h) (RpA.keep e t)
end
theorem RpA.length {p : Addr} {H : Hp} : ∀ {vs : List V} {ds : List PyData}, RpA p H vs ds → vs.length = ds.length
  | _, _, .nil => rfl
  | _, _, .cons _ t => by rw [List.length_cons, List.length_cons, RpA.length t]
theorem RpA.get {p : Addr} {H : Hp} : ∀ {vs : List V} {ds : List PyData} {i : Nat} {v : V}, RpA p H vs ds → vs[i]? = some v → ∃ d, ds[i]? = some d ∧ Rp p H v d
  | _, _, _, _, .nil, e => by simp at e
  | _, _, 0, _, .cons h _, e => by
    obtain rfl := Option.some.inj e
    exact ⟨_, rfl, h⟩
  | _, _, i + 1, v, .cons _ t, e => RpA.get (i := i) t e
theorem RpA.append {p : Addr} {H : Hp} : ∀ {vs ws : List V} {ds es : List PyData}, RpA p H vs ds → RpA p H ws es → RpA p H (vs ++ ws) (ds ++ es)
  | _, _, _, _, .nil, s => s
  | _, _, _, _, .cons h t, s => .cons h (RpA.append t s)
/-- the built-in class of data -/
def tyD : PyData → String
  | .none => "NoneType" | .bool _ => "bool" | .int _ => "int" | .str _ => "str" | .list _ => "list" | .tuple _ => "tuple" | .dict _ => "dict"
theorem Rp.ty {K : PySem.W.Frag} {p : Addr} {H : Hp} {v : V} {d : PyData} (r : Rp p H v d) : TyX K H v (.type (tyD d)) := by
  cases r with
  | non => exact .base .non
  | bl b => exact .base (.bl b)
  | int i => exact .base (.int i)
  | str x => exact .base (.str x)
  | lst n h z r => exact .base (.lst h)
  | tup n h z r =>
    rcases h with h | ⟨o, h⟩
    · exact .base (.tup h)
    · exact .fTuple h
  | dct n h => exact .base (.dK h)
def isInt : PyData → Bool
  | .int _ => true
  | _ => false
def isBl : PyData → Bool
  | .bool _ => true
  | _ => false
def isStr : PyData → Bool
  | .str _ => true
  | _ => false
def isTup : PyData → Bool
  | .tuple _ => true
  | _ => false
theorem kit_int {K : PySem.W.Frag} {d : PyData} : PySem.W.kitOne K (.type (tyD d)) (.type "int") = some (isInt d || isBl d) := by cases d <;> exact kit_ty (by show L2.kitB _ _ = some _; simp only [tyD, isInt, isBl]; decide +kernel)
theorem kit_bool {K : PySem.W.Frag} {d : PyData} : PySem.W.kitOne K (.type (tyD d)) (.type "bool") = some (isBl d) := by cases d <;> exact kit_ty (by simp only [tyD, isBl]; decide +kernel)
theorem kit_str {K : PySem.W.Frag} {d : PyData} : PySem.W.kitOne K (.type (tyD d)) (.type "str") = some (isStr d) := by cases d <;> exact kit_ty (by simp only [tyD, isStr]; decide +kernel)
theorem kit_tup {K : PySem.W.Frag} {d : PyData} : PySem.W.kitOne K (.type (tyD d)) (.type "tuple") = some (isTup d) := by cases d <;> exact kit_ty (by simp only [tyD, isTup]; decide +kernel)
def isTupN (n : Nat) : PyData → Bool
  | .tuple ds => decide (ds.length = n)
  | _ => false
def isPair : PyData → Bool
  | .tuple [a, b] => isInt a && isInt b
  | _ => false
def letterC (c : Nat) : Bool := decide (97 ≤ c) && decide (c ≤ 122)
def isName : PyData → Bool
  | .str x => (decide (1 ≤ x.length) && decide (x.length ≤ 8)) && x.cps.toList.all letterC
  | _ => false
def isSpan (lo hi : Int) : PyData → Bool
  | .tuple [.int a, .int b] => decide (lo ≤ a) && (decide (a ≤ b) && decide (b ≤ hi))
  | _ => false
def isRow (n : Nat) : PyData → Bool
  | .tuple [nm, .tuple ss] => isName nm && (decide (ss.length = n) && ss.all (isSpan (-10000) 10000))
  | _ => false
def SpTN : Sp := fun vs H Q _ => ∃ p v d n, vs = [v, .int ((n : Nat) : Int)] ∧ Rp p H v d ∧ ∀ H', Same H H' → Q (.bl (isTupN n d)) H'
def SpSpan : Sp := fun vs H Q _ => ∃ p v d lo hi, vs = [v, .int lo, .int hi] ∧ Rp p H v d ∧ ∀ H', Same H H' → Q (.bl (isSpan lo hi d)) H'
def SpRow : Sp := fun vs H Q _ => ∃ p v d n, vs = [v, .int ((n : Nat) : Int)] ∧ Rp p H v d ∧ ∀ H', Same H H' → Q (.bl (isRow n d)) H'
theorem isPair_not {d : PyData} (h : isPair d = false) (lo hi : Int) : isSpan lo hi d = false := by
  unfold isSpan
  split
  · simp [isPair, isInt] at h
  · rfl
theorem vint_eq {a b : Nat} : decide (V.int ((a : Nat) : Int) = V.int ((b : Nat) : Int)) = decide (a = b) := by
  by_cases h : a = b
  · subst h
    rw [decide_eq_true rfl, decide_eq_true rfl]
  · rw [decide_eq_false h, decide_eq_false fun e => h (by injection e with e; omega)]
theorem one_lt {a b : Nat} : (([a] : List Nat) < [b]) ↔ a < b := by
  rw [List.cons_lt_cons_iff]
  constructor
  · rintro (h | ⟨_, h⟩)
    · exact h
    · exact absurd h (List.not_lt_nil _)
  · exact .inl
theorem letter_lo (c : Nat) : (!decide (([c] : List Nat) < [97])) = decide (97 ≤ c) := by
  rw [decide_eq_decide.mpr one_lt]
  by_cases h : 97 ≤ c
  · rw [decide_eq_true h, decide_eq_false (by omega)]; rfl
  · rw [decide_eq_false h, decide_eq_true (by omega)]; rfl
theorem letter_hi (c : Nat) : (!decide (([122] : List Nat) < [c])) = decide (c ≤ 122) := by
  rw [decide_eq_decide.mpr one_lt]
  by_cases h : c ≤ 122
  · rw [decide_eq_true h, decide_eq_false (by omega)]; rfl
  · rw [decide_eq_false h, decide_eq_true (by omega)]; rfl
/-- a value that is just given back -/
def SpB (f : PyData → Bool) : Sp := fun vs H Q _ => ∃ p v d, vs = [v] ∧ Rp p H v d ∧ ∀ H', Same H H' → Q (.bl (f d)) H'

/-! ### comprehensions that keep what there was -/
section
variable {K : PySem.W.Frag} {a : Addr} {te : TE} {vs : List Nat} {σ : L2.St} {H1 : Hp} {Q : VK} {g : TG} {tl : TE}
theorem lc_txt {x : Str} {ys : List V} (hl : ys.length = x.cps.size) (hz : x.length ≤ 1000) (ht : ∀ R : VK, R (.str x) H1 → tl σ H1 R)
    (hs : ∀ (j : Nat) (c : Nat) (y : V) (H : Hp), x.cps[j]? = some c → ys[j]? = some y → Same H1 H → ∀ R : VK, (∀ H3, Same H H3 → R y H3) →
      g (.str ⟨#[c]⟩) (wipe σ vs) H fun σ2 H2 => wipe σ2 vs = wipe σ vs ∧ te σ2 H2 R)
    (k : ∀ D H', H1 D = none → Same H1 H' → H' D = some (.lst ys) → Q (.ref D) H') : tLc (iStr tl) g tYes te vs σ H1 Q := by
  refine ht _ ⟨x, rfl, fun D hD => ?_⟩
  refine ⟨fun i m H => m + i = x.cps.size ∧ Same H1 H ∧ H D = some (.lst (ys.take i)), ⟨x.cps.size, rfl, same_new hD, upd_same⟩, fun i m H ⟨hm, sm, hd⟩ => ?_⟩
  by_cases hi : i < x.cps.size
  · refine .inr ⟨hi, fun H' => Same H1 H' ∧ H' D = some (.lst (ys.take (i + 1))), fun H' ⟨s', d'⟩ => ⟨m - 1, by omega, by omega, s', d'⟩, fun v H' ⟨e1, c, e2, e3⟩ => ?_⟩
    subst e1 e3
    have hy : i < ys.length := by omega
    have key := hs i c ys[i] H' e2 (List.getElem?_eq_getElem hy) sm (fun y H4 => ∃ acc, H4 D = some (.lst acc) ∧ acc.length < sizeLine ∧ Same H1 (upd H4 D (.lst (acc ++ [y]))) ∧ upd H4 D (.lst (acc ++ [y])) D = some (.lst (ys.take (i + 1)))) fun H3 s3 => ?_
    · exact key
    · refine ⟨ys.take i, s3 _ _ hd, ?_, fun b o e => ?_, ?_⟩
      · have q : x.length = x.cps.size := rfl
        rw [List.length_take]
        exact Nat.lt_of_le_of_lt (Nat.le_trans (Nat.min_le_right _ _) (by omega : ys.length ≤ 1000)) (by decide)
      · rw [upd_ne (ne_of_none e hD)]
        exact s3 _ _ (sm _ _ e)
      · rw [upd_same, List.take_succ, List.getElem?_eq_getElem hy]
        rfl
  · have e : i = x.cps.size := by omega
    subst e
    refine .inl ⟨Nat.le_refl _, k D H hD sm ?_⟩
    rw [hd, List.take_of_length_le (by omega)]
theorem lc_tupM {xs ys : List V} (hx : SqT K H1 a xs) (hl : ys.length = xs.length) (hz : xs.length ≤ 1000) (ht : ∀ R : VK, R (.ref a) H1 → tl σ H1 R)
    (hs : ∀ (j : Nat) (z y : V) (H : Hp), xs[j]? = some z → ys[j]? = some y → Same H1 H → ∀ R : VK, (∀ H3, Same H H3 → R y H3) →
      g z (wipe σ vs) H fun σ2 H2 => wipe σ2 vs = wipe σ vs ∧ te σ2 H2 R)
    (k : ∀ D H', H1 D = none → Same H1 H' → H' D = some (.lst ys) → Q (.ref D) H') : tLc (iTup K tl) g tYes te vs σ H1 Q := by
  have hT : ∀ {H}, Same H1 H → SqT K H a xs := fun {H} e => by
    rcases hx with (h | ⟨o, h⟩) | h
    · exact .inl (.inl (e _ _ h))
    · exact .inl (.inr ⟨o, e _ _ h⟩)
    · exact .inr h
  refine ht _ ⟨a, rfl, ⟨xs, hx⟩, fun D hD => ?_⟩
  refine lc_tup (K := K) (a := a) (xs := xs) (fun i H => Same H1 H ∧ H D = some (.lst (ys.take i))) ⟨same_new hD, upd_same⟩ (fun i H _ p => hT p.1) (fun i z H hi ⟨sm, hd⟩ => ?_) (fun H ⟨sm, hd⟩ => k D H hD sm ?_)
  · have hi2 := (List.getElem?_eq_some_iff.mp hi).1
    have hy : i < ys.length := by omega
    have key := hs i z ys[i] H hi (List.getElem?_eq_getElem hy) sm (fun y H4 => ∃ acc, H4 D = some (.lst acc) ∧ acc.length < sizeLine ∧ Same H1 (upd H4 D (.lst (acc ++ [y]))) ∧ upd H4 D (.lst (acc ++ [y])) D = some (.lst (ys.take (i + 1)))) fun H3 s3 => ?_
    · exact key
    · refine ⟨ys.take i, s3 _ _ hd, ?_, fun b o e => ?_, ?_⟩
      · rw [List.length_take]
        exact Nat.lt_of_le_of_lt (Nat.le_trans (Nat.min_le_right _ _) (by omega : ys.length ≤ 1000)) (by decide)
      · rw [upd_ne (ne_of_none e hD)]
        exact s3 _ _ (sm _ _ e)
      · rw [upd_same, List.take_succ, List.getElem?_eq_getElem hy]
        rfl
  · rw [hd, List.take_of_length_le (by omega)]
end
end Cs
set_option maxHeartbeats 4000000
/-! Rules of my own: isinstance and fields of a caught error that keeps something, also in a def called in the suite; three classes in one except. -/
namespace Cs
open PySem L2 PyProof.Rows
open PySem.W (KitX InstAt)
theorem cs_check {M : Model} {A : Around} {E : Value → Shared → Prop} {s : Shared} {self u : Value} {i o n : String} {Q : Unit → Shared → Prop} (k2 : builtinKind i = some Manifest.AttrKind.slot)
    (k3 : splitId i = some (o, n)) (sub : PySem.W.Looks M s.heap (isInstance self (.type o)) true) (ao : argsOk i ⟨[self, u], []⟩) (q : Q () s) : wpAny M A (checkBuiltinCall i ⟨[self, u], []⟩) Q E s :=
  PySem.W.check_slot k2 k3 sub ao q
theorem cs_classX {prog : Program} {w : World} {A : Around} {E : Value → Shared → Prop} {s : Shared} {K : PySem.W.Frag} {x D : Addr} {ox od : Obj} {Q : Option Value → Shared → Prop} (C : ExcC K D)
    (X : K.In s.heap) (I : InstAt s.heap x ox D (some od)) (h : Q (some (.ref D)) { s with toks := s.toks + 1 }) : wpAny (model prog w) A (getAttr? (.ref x) "__class__") Q E s := by
  have hf : PySem.W.findObj K D (some od) "__class__" = _ := PySem.W.findObj_data (by
    obtain ⟨cd, hc, _⟩ := PySem.W.any_some C.hd
    rw [hc]; rfl) C.ha C.hn C.ht
  obtain ⟨hp, g, d, t, os⟩ := s
  have L0 := fun M => InstAt.type (M := M) I
  have L1 := fun M => PySem.W.looks_findIn (M := M) X C.hg
  have L2 := fun M => PySem.W.looks_findIn (M := M) X C.hk
  have L3 := fun M => PySem.W.looks_find (M := M) X I hf
  have sub : PySem.W.Looks (model prog w) hp (isInstance (.ref x) (.type "BaseException")) true := PySem.W.Looks.andThen (L0 (model prog w)) (PySem.W.looks_subIn X C.hs)
  refine wpAny_bind (wpAny_mkText ?_)
  refine wpAny_bind (wpAny_attempt (wpAny_holding (wpAny_bind ((L0 _).at (wpAny_bind ((L1 _).at ?_))))))
  have hx1 : (onTheHeap (.ref D) && (Value.builtin "BaseException.__getattribute__" == Value.builtin "object.__getattribute__")) = false := by
    rw [PySem.W.kin_classE._proof_1, Bool.and_false]
  dsimp only
  rw [hx1, if_neg Bool.false_ne_true]
  refine wpAny_bind ?_
  unfold hookBefore
  rw [if_pos (by rfl)]
  refine (L2 _).at (wpAny_bind (wpAny_attempt (wpAny_holding ?_)))
  dsimp only [Option.toList]
  unfold callGetattribute
  rw [if_neg (by decide)]
  unfold boundAndCalled
  refine wpAny_bind ?_
  rw [F.excAttr_ValueError.ga.bind (.ref x)]
  refine wpAny_pure ?_
  refine wpAny_call ?_
  refine codeAny_call_builtin F.excAttr_ValueError.ga.plain F.entry_bexc_ga ?_
  dsimp only [List.cons_append, List.nil_append]
  have ao := F.args_bexc_ga (.ref x) (.str "__class__" t)
  have z := fun Q E => @cs_check (model prog w) A.in1 E ⟨hp, g, d, t + 1, os⟩ (.ref x) (.str "__class__" t) _ _ _ Q PySem.W.kin_classE._proof_2 PySem.W.kin_classE._proof_3 sub ao
  refine z _ _ ?_
  refine wpAny_bind (wpAny_of_eq (Eq.refl (slotArgs "__getattribute__" 1 ⟨[.ref x, .str "__class__" t], []⟩)) (wpAny_bind (wpAny_pure ?_)))
  refine wpAny_bind ((L0 _).at ?_)
  refine wpAny_bind ((L3 _).at ?_)
  refine wpAny_bind (wpAny_holding ?_)
  refine wpAny_call (PySem.W.class_get X I C.hm (wpAny_pure ?_))
  dsimp only
  rw [PySem.W.handedOut_of rfl]
  exact wpAny_pure (wpAny_pure h)
theorem cs_cls {K : PySem.W.Frag} {D : Addr} (h : PySem.W.hasDictIn K D = true) : ∃ cls dict cd sl, K.lookup D = some ⟨cls, dict, .cls cd, sl⟩ := by
  obtain ⟨cd, hc, _⟩ := PySem.W.any_some h
  unfold PySem.W.clsIn at hc
  split at hc
  · rename_i e
    exact ⟨_, _, _, _, e⟩
  · cases hc
theorem cs_kitx {K : PySem.W.Frag} {x D : Addr} {ox od : Obj} (C : ExcC K D) : KitX K (.ref x) (.ref D) fun h => InstAt h x ox D (some od) := by
  obtain ⟨cls, dict, cd, sl, e⟩ := cs_cls C.hd
  refine ⟨fun M h X I => I.type, fun M h X _ A Q E s k q => ?_, fun h tp dd its n sl' X ht => ?_, fun X I q => cs_classX C X I q⟩
  · exact wpAny_bind (wpAny_loadPart (k D _ (X D _ e)) (wpAny_pure q))
  · refine Bool.eq_false_iff.mpr fun q => ?_
    have e1 := Value.ref.inj (beq_iff_eq.mp q)
    subst e1
    rw [X D _ e] at ht
    cases ht
/-- a caught error of the class C, whose own dict stands at dd, is pinned at a -/
def ExPin (X : Cx) (a C dd : Addr) : Prop := ∃ oe, (a, oe) ∈ X.pn ∧ Zc (.ref C) (some dd) oe ∧ ∃ vs, oe.data = .fields vs
theorem ExPin.inst {X : Cx} {a C dd : Addr} (P : ExPin X a C dd) {pins : List (Addr × Obj)} {s : Shared} {σ : L2.St} {H : Hp} (I : L2.Inv X pins σ H s) {fs : List (Str × V)} (h : H dd = some (.xd fs)) :
    ∃ ox od, InstAt s.heap a ox C (some od) ∧ ∀ f v, fs.lookup f = some v → ∃ u, PySem.W.lookIn f od = some (some u) ∧ RelV v u := by
  obtain ⟨oe, hm, ⟨hc, hd⟩, vs, hv⟩ := P
  obtain ⟨hg, _⟩ := I.pin (a, oe) (List.mem_append_left pins hm)
  obtain ⟨mA, hns, hr⟩ := I.hok dd _ h
  obtain ⟨od, ho, hl⟩ := lookIn_ns hns
  refine ⟨oe, od, ⟨hg, hc, ?_, ?_⟩, fun f v hf => ?_⟩
  · unfold PySem.W.notCls
    rw [hv]
  · rw [hd]
    exact ho
  · have r := hr f
    rw [hf] at r
    obtain ⟨u, e, ru⟩ := RelO.some_of r
    exact ⟨u, by rw [hl f, e], ru⟩
section
variable {X : Cx} {a C dd : Addr}
def rIsX (K : PySem.W.Frag) (C a dd : Addr) : List V → Hp → VK → Prop := fun xs H Q => ∃ (c : V) (cv : Value) (b : Bool) (fs : List (Str × V)), xs = [.ref a, c] ∧ ClsV c cv ∧ H dd = some (.xd fs) ∧ PySem.W.kitOne K (.ref C) cv = some b ∧ Q (.bl b) H
theorem call_isX (P : ExPin X a C dd) (T : ExcC X.K C) : CallR X (.builtin "isinstance") (rIsX X.K C a dd) := by
  rintro pins s σ H xs us Q I r ⟨c, cv, b, fs, rfl, hc, hd, e, q⟩
  obtain ⟨ox, od, i, _⟩ := P.inst I hd
  obtain ⟨u1, u2, rfl, r1, r2⟩ := vals2 r
  have e2 := hc.eq r2
  subst e2
  cases r1
  exact PySem.W.kia_one (cs_kitx T) I.kIn i e (by intro z; cases z) fun tk => ⟨.bl b, H, I.tok tk, rfl, q⟩
def tXfX (a dd : Addr) (f : Str) (te : TE) : TE := fun σ H Q => te σ H fun x H1 => x = .ref a ∧ ∃ (fs : List (Str × V)) (v : V), H1 dd = some (.xd fs) ∧ fs.lookup f = some v ∧ Q v H1
theorem pe_xfX {e : Expr} {te : TE} {pos : Pos} {n : Str} (P : ExPin X a C dd) (T : XfC X.K C) (hno : PySem.W.findIn X.K (.ref C) n = some none) (he : PE X e te)
    (hb : attributeBase e n X.env (eval e X.env) = eval e X.env := by rfl) : PE X (.Attribute e n pos) (tXfX a dd n te) := by
  refine ⟨fun pins s σ H Q I h => attr_of hb (thn (he.run pins s σ H _ I h) ?_)⟩
  rintro u s1 ⟨x, H1, I1, rx, rfl, fs, v, hd, hf, q⟩
  cases rx
  obtain ⟨ox, od, i, k⟩ := P.inst I1 hd
  obtain ⟨u, hl, ru⟩ := k n v hf
  exact PySem.HandSPX.exc_get I1.kIn i T.ga T.gg T.exC (PySem.W.findObj_own T.hdC hno rfl hl) (handed_of ru) ⟨v, H1, I1.tok _, ru, q⟩
end
end Cs
set_option maxHeartbeats 4000000
/-! A def called in an except suite with the caught error: its promise may speak of the error. Three classes in one except. -/
namespace Cs
open PySem L2 L2H PyProof.Rows
structure FnE (P : Program) (w : World) (K : PySem.W.Frag) (mg : Str → Option Value) (base : Heap) (k : Nat) (f : Addr) (fd : FuncData) (ps : List Str) (sp : Addr × Obj → Sp) : Prop where
  len : ∀ p vs H Q E, sp p vs H Q E → vs.length = ps.length
  run : ∀ (A : Around) (outer : List Env) (s : Shared) (H : Hp) (args : Args) (us : List Value) (vs : List V) (Q : VK) (E : XK) (p : Addr × Obj),
    RoomH k A → PinOk outer H s p → Env0 P w K mg base A outer s H → BindsTo s fd args (ps.zip us) → Vals vs us → sp p vs H Q E → codeAny (model P w) A (.call (.ref f) args) (CR CX0 outer P w H s Q E) s
theorem fn_ofE {P : Program} {w : World} {K : PySem.W.Frag} {mg : Str → Option Value} {base : Heap} {k : Nat} {f : Addr} {name qual : Str} {params : Arguments} {body : List Stmt} {scope : Scope}
    {dV kV doc pm cdv ct oc : Value} {an od : Option Addr} {osl : Array (Option Value)} {N ps : List Str} {sp : Addr × Obj → Sp}
    (lk : K.lookup f = some ⟨oc, od, .func (PySem.W.fnOf name qual params body scope dV kV doc pm an cdv ct), osl⟩) (hcd : PySem.W.codeIn K cdv qual = true) (S : FnScope N ps scope)
    (len : ∀ p vs H Q E, sp p vs H Q E → vs.length = ps.length)
    (hbody : ∀ (A : Around) (outer : List Env) (s : Shared) (H : Hp) (vs : List V) (Q : VK) (E : XK) (p : Addr × Obj), RoomH k (A.deeper (envOfC qual scope s.heap.objs.size f cdv)) → sp p vs H Q E →
      ∃ t, PSs (cxH CX0 P w K mg base N qual scope f cdv A outer s H E p) body t ∧ t { nx := fun _ H' => Q .non H', rt := Q } (L2.start N vs) H) :
    FnE P w K mg base (k + 1) f (PySem.W.fnOf name qual params body scope dV kV doc pm an cdv ct) ps sp := by
  refine ⟨len, fun A outer s H args us vs Q E p hr hpin e0 hb r hsp => ?_⟩
  have hl := len p vs H Q E hsp
  have KX := PySem.W.Frag.In.keeps e0.mod.kin fun b o e => (e0.bs b o e).1
  have lim := Heap.NoLimit.keeps e0.mod.nolimit fun b o e => (e0.bs b o e).1
  refine codeAny_call_function hr.depth (KX f _ lk) rfl S.co S.gen rfl (PySem.W.codeRec_of KX hcd) ?_
  refine hb (model P w) A.in1 _ _ ?_
  refine wpAny_newFunctionEnv_cells S.kind (fun y hy => ?_) fun env he s1 x => ?_
  · obtain ⟨n, v⟩ := y
    rcases S.par n (List.of_mem_zip hy).1 with q | q
    · exact .inl q
    · exact .inr ⟨q, PySem.W.cellsFrom_some scope.names (s.heap.objs.size + 1) [] (.inl q)⟩
  · subst he
    refine ⟨lim.keeps x.toInCall.keep, codeAny_func ?_⟩
    obtain ⟨t, ht, hq⟩ := hbody A outer s H vs Q E p (hr.deeper _) hsp
    have I := inv_startH (CX := CX0) (w := w) (E := E) S hpin e0 hl r x
    refine wpAny_mono (ht.run [] s1 (L2.start N vs) H _ I hq) (fun fl s' hs => ?_) (fun e s' hs => hs)
    cases fl with
    | next =>
      obtain ⟨σ', H', J, q⟩ := hs
      exact ⟨V.non, H', J.os, J.bare, J.base, J.hok, rfl, q⟩
    | brk =>
      obtain ⟨_, _, _, q⟩ := hs
      exact q.elim
    | cont =>
      obtain ⟨_, _, _, q⟩ := hs
      exact q.elim
    | ret u =>
      obtain ⟨v, σ', H', J, rv, q⟩ := hs
      exact ⟨v, H', J.os, J.bare, J.base, J.hok, rv, q⟩
section
variable {X : Cx}
theorem pe_callE {k : Nat} {f : Addr} {fd : FuncData} {ps : List Str} {sp : Addr × Obj → Sp} {x : Str} {q pos : Pos} {e : Expr} {es : List Expr} {t : TA} {p : Addr × Obj}
    (F : FnE X.prog X.w X.K X.mg X.base k f fd ps sp) (hr : RoomH k X.A) (hp : p ∈ X.pn) (hg : Gl X x) (hm : X.mg x = some (.ref f)) (hk : PySem.W.keepIn X.K (.ref f) = true) (hb : Binds X.K fd ps [])
    (ha : PA X (e :: es) t) (hdb : (x == ("__debug__" : Str)) = false := by rfl) (he : starEach (e :: es) X.env = (false, eval e X.env) :: starEach es X.env := by rfl)
    (hpl : ((backTo pos (starEach es X.env)).any fun x => x.1) = false := by rfl) : PE X (.Call (.Name x q) (e :: es) [] pos) (fun σ H Q => t σ H fun vs H1 => sp p vs H1 Q fun _ _ _ => False) := by
  refine ⟨fun pins s σ H Q I h => wpAny_Call_Name_kw (ld_glob I hg hm (PySem.W.callWith_K I.ok.mod.kin hk (thn (ha.run pos pins s σ H _ I h) ?_) he hpl) hdb)⟩
  rintro us s1 ⟨vs, H1, I1, r, q1⟩
  refine ⟨I1.kIn, ?_⟩
  have hl : us.length = ps.length := by
    rw [← r.length]
    exact F.len p vs H1 Q _ q1
  have b := hb s1 us I1.kIn (by rw [List.append_nil]; exact hl)
  have P1 := I1.pin p (List.mem_append_left pins hp)
  have hpin : PinOk X.stack H1 s1 p := ⟨P1.1, P1.2.1, fun hm => (List.mem_cons.mp (I1.stkSub p.1 hm)).elim P1.2.2.1 P1.2.2.2.1, P1.2.2.2.2⟩
  rw [List.append_nil] at b
  refine wpAny_call (codeAny_mono (F.run X.A X.stack s1 H1 ⟨us, []⟩ us vs Q _ p hr hpin I1.env0 b r q1) fun rr s' hq => ?_)
  cases rr with
  | error e => exact hq.elim
  | ok fl =>
    cases fl with
    | next => exact hq.elim
    | brk => exact hq.elim
    | cont => exact hq.elim
    | ret u => exact I1.after hq
end
theorem funFrames_keep {h h' base : Heap} (k : ∀ b o, h.get? b = some o → h'.get? b = some o) : ∀ {l : List Env}, h.FunFrames base l → h'.FunFrames base l
  | [], f => f
  | e :: l, f => by
    unfold Heap.FunFrames at f ⊢
    obtain ⟨f1, ⟨L, o, e1, e2, e3, e4⟩, f3⟩ := f
    exact ⟨f1, ⟨L, o, e1, e2, k _ _ e3, e4⟩, funFrames_keep k f3⟩
theorem flying_keep {base h h' : Heap} {l : List Env} {e : Addr} {Z : Obj → Prop} (F : HandSPX.FlyingZ base l e Z h) (k : ∀ b o, h.get? b = some o → h'.get? b = some o) : HandSPX.FlyingZ base l e Z h' := by
  obtain ⟨f1, f2, f3, oe, vs, T, oT, ts, g1, g2, g3, g4, g5, g6, g7, g8, g9⟩ := F
  exact ⟨fun b o q => k _ _ (f1 b o q), f2, funFrames_keep k f3, oe, vs, T, oT, ts, k _ _ g1, g2, g3, g4, g5, g6, k _ _ g7, g8, g9⟩
theorem upTo_keep {h h' : Heap} (k : ∀ b o, h.get? b = some o → h'.get? b = some o) : h.UpToSlots h' := fun b o e _ => ⟨o.slots, k b o e⟩
def wAs3 (K : PySem.W.Frag) (cs : List Value) (m i : Nat) (ts : Addr → Value → Option Addr → TS) (D : Ends) : WX := fun cls d σ H => σ.length = m → PySem.W.exmAny K cls cs = some true ∧ ∀ a, H a = none →
  ts a cls d { nx := fun σ' H' => D.nx (σ'.set i none) H', rt := D.rt, bk := fun σ' H' => D.bk (σ'.set i none) H', ct := fun σ' H' => D.ct (σ'.set i none) H' } (σ.set i (some (.ref a))) H
theorem name_ok {X : Cx} {x : Str} {c : Value} (hc : Names X x c) {a : Addr} {pn : List (Addr × Obj)} {pins : List (Addr × Obj)} {s : Shared} {σ : L2.St} {H : Hp} (I : L2.Inv (X.suite a pn) pins σ H s)
    {p : Pos} {Q : Value → Shared → Prop} {E : Value → Shared → Prop} (q : Q c s) : wpAny (model X.prog X.w) (X.A.mark (some (.ref a))) (eval (.Name x p) X.env) Q E s := by
  obtain ⟨hg, hd, hm | ⟨hm, hv, hn⟩⟩ := hc
  · exact ld_glob I hg hm q hd
  · exact ld_blt I hg hm hv q hn hd
theorem ps_try_as3 {X : Cx} {x1 x2 x3 n : Str} {c1 c2 c3 : Value} {i : Nat} {body suite : List Stmt} {b₀ : Stmt} {p1 p2 p3 tp pos pos' : Pos} {kk m : Nat} {tb : WX → TS} {ts : Addr → Value → Option Addr → TS}
    (hs : X.stack = X.env :: X.outer) (hf : X.env.frame = some X.env.locals) (hN : X.N.Nodup) (hi : X.N[i]? = some n) (hln : X.env.kindOf n = some .local)
    (hm : X.N.length = m) (hc1 : Names X x1 c1) (hc2 : Names X x2 c2) (hc3 : Names X x3 c3)
    (hb : ∀ (W : WX) (pn : List (Addr × Obj)) (xe : Value → Shared → Prop), Takes (X.tr pn xe) W → PassesOwn (model X.prog X.w) X.A X.env xe → PSs (X.tr pn xe) body (tb W))
    (hsu : ∀ (a : Addr) (oe : Obj) (cls : Value) (d : Option Addr) (pn : List (Addr × Obj)), Zc cls d oe → (∃ vs, oe.data = .fields vs) → PSs (X.suite a ((a, oe) :: pn)) (b₀ :: suite) (ts a cls d)) :
    PS X (.Try body [.ExceptHandler (some (.Tuple [.Name x1 p1, .Name x2 p2, .Name x3 p3] kk tp)) (some n) (b₀ :: suite) pos'] [] [] pos) (fun D σ H => tb (wAs3 X.K [c1, c2, c3] m i ts D) D σ H) := by
  refine ⟨fun pins s σ H D I h => ?_⟩
  have ok := I.ok
  have hfr : X.A.frames = some (X.env :: X.outer) := by rw [ok.frames, hs]
  refine wpAny_Try_except (wpAny_mono ((hb (wAs3 X.K [c1, c2, c3] m i ts D) (X.pn ++ pins) _ ?_ PassesOwn.looking).run [] s σ H D (I.toTry _) h) (fun f s1 hsp => ?_) (fun e s1 he => he))
  · rintro u s' ⟨a, B, sI, pins', σ', H', cls, d, rfl, J', nb, up, sky, na, os, ag, hW⟩
    obtain ⟨hb1, hyes⟩ := hW (J'.len.trans hm)
    have J := J'.ofTry ok
    have sky' : L2.Sky B (X.env :: X.outer) a (Zc cls d) X.env.locals s'.heap := by
      rw [← hs]
      exact sky
    refine L2.Sky.land Zc.steady hfr hf sky' fun h3 fl3 up3 => ?_
    have J3 : L2.Inv X pins σ' H' { s' with heap := h3 } := J.landed nb fl3.1 (up.trans up3) os ag
    obtain ⟨oe3, vs3, he3, hz3, hd3⟩ := fl3.there
    have nfr : a ∉ frs (X.env :: X.outer) := fun hm => by
      obtain ⟨_, o', e', hnf⟩ := Heap.FunFrames.mem fl3.2.2.1 hm
      have e2 := e'.symm.trans he3
      cases e2
      exact hnf vs3 hd3
    have nL : a ≠ X.env.locals := fun z => nfr (List.mem_filterMap.mpr ⟨X.env, List.mem_cons_self, by rw [hf, z]⟩)
    have nF : a ∉ X.fs := fun hm => by
      obtain ⟨e, he, q⟩ := List.mem_filterMap.mp hm
      exact nfr (List.mem_filterMap.mpr ⟨e, List.mem_cons_of_mem _ he, q⟩)
    have S3 := J3.suite he3 hd3 na nL nF
    refine wpAny_handleBy_cons (codeAny_handlers_test ?_) (by intro q; cases q)
    refine wpAny_Tuple ?_
    refine Calls.spliced_cons (name_ok hc1 S3 (Calls.spliced_cons (name_ok hc2 S3 (Calls.spliced_cons (name_ok hc3 S3 (Calls.spliced_nil ?_))))))
    refine ⟨(by show 3 ≤ sizeLine; decide), ?_⟩
    have kp : ∀ b o, h3.get? b = some o → (h3.push { cls := .type "tuple", data := .seq #[c1, c2, c3] }).get? b = some o := fun b o e => Heap.get?_push_of_some _ e
    have fl5 := flying_keep fl3 kp
    have up5 := upTo_keep kp
    have LT : PySem.W.Looks (model X.prog X.w) (h3.push { cls := .type "tuple", data := .seq #[c1, c2, c3] }) (typeOf (.ref a)) cls := fun A Q E s k q => wpAny_typeOf_ref (k a oe3 (kp _ _ he3)) (by
      rw [hz3.1]
      exact q)
    have K5 : X.K.In (h3.push { cls := .type "tuple", data := .seq #[c1, c2, c3] }) := PySem.W.Frag.In.keeps J3.kIn kp
    have LM := PySem.W.exm_tup3 K5 LT (Heap.get?_push_size h3 rfl) hb1
    refine PySem.W.Looks.here LM ?_
    refine codeAny_handlers_suite_as (HandSPX.lands_againZ fl5 fun h4 fl4 up4 => ?_)
    have J4 : L2.Inv X pins σ' H' { s' with heap := h4 } := J.landed nb fl4.1 (((up.trans up3).trans up5).trans up4) os ag
    obtain ⟨oe4, vs4, he4, hz4, hd4⟩ := fl4.there
    have S4 := J4.suite he4 hd4 na nL nF
    refine store_ok (X := X.suite a ((a, oe4) :: (X.pn ++ pins))) (pins := []) (σ := σ') (H := H') (v := .ref a) S4 hN hi (.inl hln) rfl (fun s5 S5 => ?_) (.inr hln)
    refine wpAny_mono ((hsu a oe4 cls d (X.pn ++ pins) hz4 ⟨vs4, hd4⟩).run [] s5 _ H' _ S5 (hyes a na)) (fun f s6 hsp => ?_) (fun _ _ z => z.elim)
    cases f with
    | next =>
      obtain ⟨σ6, H6, S6, q6⟩ := hsp
      exact gone_ok (S6.unsuite ok) hN hi hln fun s7 J7 => ⟨_, H6, J7, q6⟩
    | brk =>
      obtain ⟨σ6, H6, S6, q6⟩ := hsp
      exact gone_ok (S6.unsuite ok) hN hi hln fun s7 J7 => ⟨_, H6, J7, q6⟩
    | cont =>
      obtain ⟨σ6, H6, S6, q6⟩ := hsp
      exact gone_ok (S6.unsuite ok) hN hi hln fun s7 J7 => ⟨_, H6, J7, q6⟩
    | ret u =>
      obtain ⟨v6, σ6, H6, S6, r6, q6⟩ := hsp
      exact gone_ok (S6.unsuite ok) hN hi hln fun s7 J7 => ⟨v6, _, H6, J7, r6, q6⟩
  · cases f with
    | next =>
      obtain ⟨σ', H', J', q⟩ := hsp
      exact wpAny_execs_nil ⟨σ', H', J'.ofTry ok, q⟩
    | brk =>
      obtain ⟨σ', H', J', q⟩ := hsp
      exact ⟨σ', H', J'.ofTry ok, q⟩
    | cont =>
      obtain ⟨σ', H', J', q⟩ := hsp
      exact ⟨σ', H', J'.ofTry ok, q⟩
    | ret u =>
      obtain ⟨v, σ', H', J', r, q⟩ := hsp
      exact ⟨v, σ', H', J'.ofTry ok, r, q⟩
theorem pe_weak {X : Cx} {e : Expr} {t t' : TE} (h : PE X e t) (w : ∀ σ H Q, t' σ H Q → t σ H Q) : PE X e t' := ⟨fun pins s σ H Q I q => h.run pins s σ H Q I (w σ H Q q)⟩
end Cs
set_option maxHeartbeats 4000000
/-! Expressions that are data: what they tell, while the pail at p and all else stand. -/
namespace Cs
open PySem L2 PyProof.Rows
def Has (p : Addr) (H : Hp) : Prop := ∃ o, H p = some o
theorem Has.keep {p : Addr} {H H' : Hp} (h : Has p H) (s : Same H H') : Has p H' := by
  obtain ⟨o, e⟩ := h
  exact ⟨o, s _ _ e⟩
theorem Has.ne {p t : Addr} {H : Hp} (h : Has p H) (n : H t = none) : t ≠ p := by
  obtain ⟨o, e⟩ := h
  intro z
  rw [z, e] at n
  cases n
abbrev DF := L2.St → Hp → PyData → Prop
abbrev DFs := L2.St → Hp → List PyData → Prop
def tDat (p : Addr) (f : DF) : TE := fun σ H Q => Has p H ∧ ∃ d, f σ H d ∧ ∀ v H', Same H H' → Rp p H' v d → Q v H'
def tDats (p : Addr) (f : DFs) : TA := fun σ H Q => Has p H ∧ ∃ ds, f σ H ds ∧ ∀ vs H', Same H H' → RpA p H' vs ds → Q vs H'
theorem tdat {p : Addr} {f : DF} {σ : L2.St} {H : Hp} {Q : VK} {d : PyData} (hp : Has p H) (hf : f σ H d) (k : ∀ v H', Same H H' → Rp p H' v d → Q v H') : tDat p f σ H Q := ⟨hp, d, hf, k⟩
structure PD (X : Cx) (e : Expr) (p : Addr) (f : DF) : Prop where
  pe : PE X e (tDat p f)
  mono : ∀ σ H H' d, Same H H' → f σ H d → f σ H' d
structure PDs (X : Cx) (es : List Expr) (p : Addr) (f : DFs) : Prop where
  pa : PA X es (tDats p f)
  mono : ∀ σ H H' d, Same H H' → f σ H d → f σ H' d
theorem pe_wk {X : Cx} {e : Expr} {t t' : TE} (h : PE X e t) (w : ∀ σ H Q, t' σ H Q → t σ H Q) : PE X e t' := ⟨fun pins s σ H Q I q => h.run pins s σ H Q I (w σ H Q q)⟩
theorem pa_wk {X : Cx} {es : List Expr} {t t' : TA} (h : PA X es t) (w : ∀ σ H Q, t' σ H Q → t σ H Q) : PA X es t' := ⟨fun pos pins s σ H Q I q => h.run pos pins s σ H Q I (w σ H Q q)⟩
theorem Rp.int_inv {p : Addr} {H : Hp} {v : V} {i : Int} (r : Rp p H v (.int i)) : v = .int i := by cases r; rfl
theorem Rp.str_inv {p : Addr} {H : Hp} {v : V} {x : Str} (r : Rp p H v (.str x)) : v = .str x := by cases r; rfl
theorem Rp.lst_inv {p : Addr} {H : Hp} {v : V} {ds : List PyData} (r : Rp p H v (.list ds)) : ∃ a xs, v = .ref a ∧ a ≠ p ∧ H a = some (.lst xs) ∧ xs.length ≤ 1000 ∧ RpA p H xs ds := by
  cases r with
  | lst n h z r => exact ⟨_, _, rfl, n, h, z, r⟩
theorem Rp.tup_inv {p : Addr} {H : Hp} {v : V} {ds : List PyData} (r : Rp p H v (.tuple ds)) : ∃ a xs, v = .ref a ∧ a ≠ p ∧ Rd H a (.tup xs) ∧ xs.length ≤ 1000 ∧ RpA p H xs ds := by
  cases r with
  | tup n h z r => exact ⟨_, _, rfl, n, h, z, r⟩
theorem RpA.take {p : Addr} {H : Hp} : ∀ {vs : List V} {ds : List PyData} (n : Nat), RpA p H vs ds → RpA p H (vs.take n) (ds.take n)
  | _, _, 0, _ => .nil
  | _, _, n + 1, .nil => .nil
  | _, _, n + 1, .cons h t => .cons h (RpA.take n t)
theorem RpA.drop {p : Addr} {H : Hp} : ∀ {vs : List V} {ds : List PyData} (n : Nat), RpA p H vs ds → RpA p H (vs.drop n) (ds.drop n)
  | _, _, 0, h => h
  | _, _, n + 1, .nil => .nil
  | _, _, n + 1, .cons h t => RpA.drop n t
theorem RpA.rep {p : Addr} {H : Hp} {vs : List V} {ds : List PyData} (r : RpA p H vs ds) : ∀ (n : Nat), RpA p H (List.replicate n vs).flatten (List.replicate n ds).flatten
  | 0 => .nil
  | n + 1 => by
    rw [List.replicate_succ, List.replicate_succ, List.flatten_cons, List.flatten_cons]
    exact RpA.append r (RpA.rep r n)
section
variable {X : Cx} {p : Addr}
theorem pd_var {e : Expr} {t : TE} {i : Nat} (h : PE X e t) (w : ∀ σ H Q, (∃ v, σ[i]? = some (some v) ∧ Q v H) → t σ H Q) : PD X e p (fun σ H d => ∃ v, σ[i]? = some (some v) ∧ Rp p H v d) :=
  ⟨pe_wk h fun σ H Q q => by
    obtain ⟨hp, d, ⟨v, hv, r⟩, k⟩ := q
    exact w σ H Q ⟨v, hv, k v H (Same.refl H) r⟩,
  fun σ H H' d s f => by
    obtain ⟨v, hv, r⟩ := f
    exact ⟨v, hv, r.keep (ExB.of s)⟩⟩
theorem pd_c {e : Expr} {v : V} {d0 : PyData} (h : PE X e (tC v)) (r : ∀ H, Rp p H v d0) : PD X e p (fun _ _ d => d = d0) :=
  ⟨pe_wk h fun σ H Q q => by
    obtain ⟨hp, d, rfl, k⟩ := q
    exact k v H (Same.refl H) (r H),
  fun σ H H' d s f => f⟩
theorem pds_nil : PDs X [] p (fun _ _ ds => ds = []) :=
  ⟨pa_wk pa_nil fun σ H Q q => by
    obtain ⟨hp, d, rfl, k⟩ := q
    exact k [] H (Same.refl H) .nil,
  fun σ H H' d s f => f⟩
theorem pds_cons {e : Expr} {es : List Expr} {f : DF} {g : DFs} (a : PD X e p f) (b : PDs X es p g) (hs : starEach (e :: es) X.env = (false, eval e X.env) :: starEach es X.env := by rfl) :
    PDs X (e :: es) p (fun σ H l => ∃ d ds, f σ H d ∧ g σ H ds ∧ l = d :: ds) :=
  ⟨pa_wk (pa_cons a.pe b.pa hs) fun σ H Q q => by
    obtain ⟨hp, _, ⟨d, ds, hf, hg, rfl⟩, k⟩ := q
    refine ⟨hp, d, hf, fun v H1 s1 r1 => ⟨hp.keep s1, ds, b.mono σ H H1 ds s1 hg, fun vs H2 s2 r2 => k _ H2 (s1.trans s2) (.cons (r1.keep (ExB.of s2)) r2)⟩⟩,
  fun σ H H' d s f => by
    obtain ⟨d, ds, hf, hg, rfl⟩ := f
    exact ⟨d, ds, a.mono _ _ _ _ s hf, b.mono _ _ _ _ s hg, rfl⟩⟩
theorem pd_tup {es : List Expr} {k : Nat} {pos : Pos} {g : DFs} (b : PDs X es p g) : PD X (.Tuple es k pos) p (fun σ H d => ∃ ds, g σ H ds ∧ ds.length ≤ 1000 ∧ d = .tuple ds) :=
  ⟨pe_wk (pe_tup b.pa) fun σ H Q q => by
    obtain ⟨hp, _, ⟨ds, hg, hl, rfl⟩, k⟩ := q
    refine ⟨hp, ds, hg, fun vs H1 s1 r1 => ⟨by rw [r1.length]; exact sz1000 hl, fun t ht => ?_⟩⟩
    have s2 : Same H1 (upd H1 t (.tup vs)) := same_new ht
    exact k _ _ (s1.trans s2) (.tup ((hp.keep s1).ne ht) (.inl upd_same) (by rw [r1.length]; exact hl) (r1.keep (ExB.of s2))),
  fun σ H H' d s f => by
    obtain ⟨ds, hg, hl, rfl⟩ := f
    exact ⟨ds, b.mono _ _ _ _ s hg, hl, rfl⟩⟩
theorem pd_lst {es : List Expr} {k : Pos} {g : DFs} (b : PDs X es p g) (hl : PE X (.List es k) (tLst (tDats p g))) : PD X (.List es k) p (fun σ H d => ∃ ds, g σ H ds ∧ ds.length ≤ 1000 ∧ d = .list ds) :=
  ⟨pe_wk hl fun σ H Q q => by
    obtain ⟨hp, _, ⟨ds, hg, hl, rfl⟩, k⟩ := q
    refine ⟨hp, ds, hg, fun vs H1 s1 r1 => ⟨by rw [r1.length]; exact sz1000 hl, fun t ht => ?_⟩⟩
    have s2 : Same H1 (upd H1 t (.lst vs)) := same_new ht
    exact k _ _ (s1.trans s2) (.lst ((hp.keep s1).ne ht) upd_same (by rw [r1.length]; exact hl) (r1.keep (ExB.of s2))),
  fun σ H H' d s f => by
    obtain ⟨ds, hg, hl, rfl⟩ := f
    exact ⟨ds, b.mono _ _ _ _ s hg, hl, rfl⟩⟩
theorem pd_lst' {es : List Expr} {k : Pos} {g : DFs} (b : PDs X es p g) : PD X (.List es k) p (fun σ H d => ∃ ds, g σ H ds ∧ ds.length ≤ 1000 ∧ d = .list ds) := pd_lst b (pe_lst b.pa)
theorem pd_bin {a b : Expr} {op : Operator} {r : R2} {pos : Pos} {f g : DF} (ho : OpR X (binaryOp op) r) (ha : PD X a p f) (hb : PD X b p g) (F : PyData → PyData → PyData → Prop)
    (w : ∀ x y d e c H Q, Has p H → Rp p H x d → Rp p H y e → F d e c → (∀ v H', Same H H' → Rp p H' v c → Q v H') → r x y H Q) (he : PE X (.BinOp a op b pos) (tOp r (tDat p f) (tDat p g))) :
    PD X (.BinOp a op b pos) p (fun σ H c => ∃ d e, f σ H d ∧ g σ H e ∧ F d e c) :=
  ⟨pe_wk he fun σ H Q q => by
    obtain ⟨hp, c, ⟨d, e, hf, hg, hF⟩, k⟩ := q
    refine ⟨hp, d, hf, fun x H1 s1 r1 => ⟨hp.keep s1, e, hb.mono _ _ _ _ s1 hg, fun y H2 s2 r2 => ?_⟩⟩
    exact w x y d e c H2 Q (hp.keep (s1.trans s2)) (r1.keep (ExB.of s2)) r2 hF fun v H3 s3 r3 => k v H3 (s1.trans (s2.trans s3)) r3,
  fun σ H H' c s f => by
    obtain ⟨d, e, hf, hg, hF⟩ := f
    exact ⟨d, e, ha.mono _ _ _ _ s hf, hb.mono _ _ _ _ s hg, hF⟩⟩
def FAdd (d e c : PyData) : Prop := ∃ i j : Int, d = .int i ∧ e = .int j ∧ c = .int (i + j)
def FSub (d e c : PyData) : Prop := ∃ i j : Int, d = .int i ∧ e = .int j ∧ c = .int (i - j)
def FCat (d e c : PyData) : Prop := ∃ xs ys, d = .list xs ∧ e = .list ys ∧ xs.length + ys.length ≤ 1000 ∧ c = .list (xs ++ ys)
def FCatT (d e c : PyData) : Prop := ∃ xs ys, d = .tuple xs ∧ e = .tuple ys ∧ xs.length + ys.length ≤ 1000 ∧ c = .tuple (xs ++ ys)
def FRep (d e c : PyData) : Prop := ∃ xs n, d = .list xs ∧ e = .int ((n : Nat) : Int) ∧ n ≤ 1000 ∧ xs.length * n ≤ 1000 ∧ c = .list (List.replicate n xs).flatten
theorem w_add {x y : V} {d e c : PyData} {H : Hp} {Q : VK} (rx : Rp p H x d) (ry : Rp p H y e) (hF : FAdd d e c) (k : ∀ v H', Same H H' → Rp p H' v c → Q v H') : rI0 (fun i j => V.int (i + j)) x y H Q := by
  obtain ⟨i, j, rfl, rfl, rfl⟩ := hF
  exact ⟨i, j, rx.int_inv, ry.int_inv, k _ _ (Same.refl H) (.int _)⟩
theorem w_sub {x y : V} {d e c : PyData} {H : Hp} {Q : VK} (rx : Rp p H x d) (ry : Rp p H y e) (hF : FSub d e c) (k : ∀ v H', Same H H' → Rp p H' v c → Q v H') : rI0 (fun i j => V.int (i - j)) x y H Q := by
  obtain ⟨i, j, rfl, rfl, rfl⟩ := hF
  exact ⟨i, j, rx.int_inv, ry.int_inv, k _ _ (Same.refl H) (.int _)⟩
theorem w_cat {x y : V} {d e c : PyData} {H : Hp} {Q : VK} (hp : Has p H) (rx : Rp p H x d) (ry : Rp p H y e) (hF : FCat d e c) (k : ∀ v H', Same H H' → Rp p H' v c → Q v H') : rCat x y H Q := by
  obtain ⟨ds, es, rfl, rfl, hl, rfl⟩ := hF
  obtain ⟨a, xs, rfl, na, ha, za, ra⟩ := rx.lst_inv
  obtain ⟨b, ys, rfl, nb, hb, zb, rb⟩ := ry.lst_inv
  refine ⟨a, b, xs, ys, rfl, rfl, ha, hb, by rw [ra.length, rb.length]; exact sz1000 hl, fun t ht => k _ _ (same_new ht) (.lst (hp.ne ht) upd_same ?_ (RpA.keep (ExB.of (same_new ht)) (ra.append rb)))⟩
  rw [List.length_append, ra.length, rb.length]
  exact hl
theorem w_catT {K : PySem.W.Frag} {x y : V} {d e c : PyData} {H : Hp} {Q : VK} (hp : Has p H) (rx : Rp p H x d) (ry : Rp p H y e) (hF : FCatT d e c) (k : ∀ v H', Same H H' → Rp p H' v c → Q v H') : rCatA K x y H Q := by
  obtain ⟨ds, es, rfl, rfl, hl, rfl⟩ := hF
  obtain ⟨a, xs, rfl, na, ha, za, ra⟩ := rx.tup_inv
  obtain ⟨b, ys, rfl, nb, hb, zb, rb⟩ := ry.tup_inv
  refine ⟨a, b, xs, ys, rfl, rfl, SqT.rd ha, SqT.rd hb, by rw [ra.length, rb.length]; exact sz1000 hl, fun e0 => ?_, fun _ e0 => ?_, fun _ _ t ht => k _ _ (same_new ht) (.tup (hp.ne ht) (.inl upd_same) ?_ (RpA.keep (ExB.of (same_new ht)) (ra.append rb)))⟩
  · subst e0
    cases ra
    exact k _ _ (Same.refl H) (.tup nb hb zb rb)
  · subst e0
    cases rb
    rw [List.append_nil] at k
    exact k _ _ (Same.refl H) (.tup na ha za ra)
  · rw [List.length_append, ra.length, rb.length]
    exact hl
theorem w_rep {x y : V} {d e c : PyData} {H : Hp} {Q : VK} (hp : Has p H) (rx : Rp p H x d) (ry : Rp p H y e) (hF : FRep d e c) (k : ∀ v H', Same H H' → Rp p H' v c → Q v H') : rRep x y H Q := by
  obtain ⟨ds, n, rfl, rfl, hn, hl, rfl⟩ := hF
  obtain ⟨a, xs, rfl, na, ha, za, ra⟩ := rx.lst_inv
  have hl2 : xs.length * n ≤ 1000 := by rw [ra.length]; exact hl
  refine ⟨a, n, xs, rfl, ry.int_inv, ha, by omega, by omega, sz1000 hl2, fun t ht => k _ _ (same_new ht) (.lst (hp.ne ht) upd_same ?_ (RpA.keep (ExB.of (same_new ht)) (ra.rep n)))⟩
  show (List.replicate n xs).flatten.length ≤ 1000
  rw [List.length_flatten, List.map_replicate, List.sum_replicate_nat, Nat.mul_comm]
  exact hl2
theorem pd_add {a b : Expr} {pos : Pos} {f g : DF} (ha : PD X a p f) (hb : PD X b p g) : PD X (.BinOp a .Add b pos) p (fun σ H c => ∃ d e, f σ H d ∧ g σ H e ∧ FAdd d e c) :=
  pd_bin op_add ha hb FAdd (fun x y d e c H Q hp rx ry hF k => w_add rx ry hF k) (pe_op op_add ha.pe hb.pe)
theorem pd_sub {a b : Expr} {pos : Pos} {f g : DF} (ha : PD X a p f) (hb : PD X b p g) : PD X (.BinOp a .Sub b pos) p (fun σ H c => ∃ d e, f σ H d ∧ g σ H e ∧ FSub d e c) :=
  pd_bin op_sub ha hb FSub (fun x y d e c H Q hp rx ry hF k => w_sub rx ry hF k) (pe_op op_sub ha.pe hb.pe)
theorem pd_cat {a b : Expr} {pos : Pos} {f g : DF} (ha : PD X a p f) (hb : PD X b p g) : PD X (.BinOp a .Add b pos) p (fun σ H c => ∃ d e, f σ H d ∧ g σ H e ∧ FCat d e c) :=
  pd_bin op_cat ha hb FCat (fun x y d e c H Q hp rx ry hF k => w_cat hp rx ry hF k) (pe_op op_cat ha.pe hb.pe)
theorem pd_catT {a b : Expr} {pos : Pos} {f g : DF} (ha : PD X a p f) (hb : PD X b p g) : PD X (.BinOp a .Add b pos) p (fun σ H c => ∃ d e, f σ H d ∧ g σ H e ∧ FCatT d e c) :=
  pd_bin op_catA ha hb FCatT (fun x y d e c H Q hp rx ry hF k => w_catT hp rx ry hF k) (pe_op op_catA ha.pe hb.pe)
theorem pd_rep {a b : Expr} {pos : Pos} {f g : DF} (ha : PD X a p f) (hb : PD X b p g) : PD X (.BinOp a .Mult b pos) p (fun σ H c => ∃ d e, f σ H d ∧ g σ H e ∧ FRep d e c) :=
  pd_bin op_rep ha hb FRep (fun x y d e c H Q hp rx ry hF k => w_rep hp rx ry hF k) (pe_op op_rep ha.pe hb.pe)
/-! slices -/
structure PDO (X : Cx) (e : Option Expr) (p : Addr) (f : L2.St → Hp → Option Int → Prop) (t : TO) : Prop where
  po : PO X e t
  w : ∀ σ H (Q : Option Int → Hp → Prop) i, Has p H → f σ H i → (∀ H', Same H H' → Q i H') → t σ H Q
  mono : ∀ σ H H' d, Same H H' → f σ H d → f σ H' d
def cutD (ds : List PyData) (lo hi : Option Int) : List PyData := (ds.drop (HT.sIx ds.length 0 lo)).take (HT.sIx ds.length ds.length hi - HT.sIx ds.length 0 lo)
theorem RpA.cut {H : Hp} {vs : List V} {ds : List PyData} (r : RpA p H vs ds) (lo hi : Option Int) : RpA p H (cutV vs lo hi) (cutD ds lo hi) := by
  unfold cutV cutD
  rw [r.length]
  exact (r.drop _).take _
theorem pdo_none : PDO X none p (fun _ _ i => i = none) tNoPart :=
  ⟨po_none, fun σ H Q i _ hf k => by
    subst hf
    exact k H (Same.refl H), fun _ _ _ _ _ f => f⟩
theorem pdo_some {e : Expr} {f : DF} (h : PD X e p f) : PDO X (some e) p (fun σ H i => ∃ j : Int, f σ H (.int j) ∧ i = some j) (tPart (tDat p f)) :=
  ⟨po_some h.pe, fun σ H Q i hp hf k => by
    obtain ⟨j, hj, rfl⟩ := hf
    exact ⟨hp, .int j, hj, fun v H' s r => ⟨j, r.int_inv, k H' s⟩⟩, fun σ H H' i s hf => by
    obtain ⟨j, hj, rfl⟩ := hf
    exact ⟨j, h.mono _ _ _ _ s hj, rfl⟩⟩
theorem w_slL {K : PySem.W.Frag} {x : V} {ds : List PyData} {lo hi : Option Int} {H : Hp} {Q : VK} (hp : Has p H) (rx : Rp p H x (.list ds)) (hl : (cutD ds lo hi).length ≤ 1000)
    (k : ∀ v H', Same H H' → Rp p H' v (.list (cutD ds lo hi)) → Q v H') : rSlL K x lo hi H Q := by
  obtain ⟨a, xs, rfl, na, ha, za, ra⟩ := rx.lst_inv
  have rc := ra.cut lo hi
  exact ⟨a, xs, rfl, SqL.of ha, fun t ht => k _ _ (same_new ht) (.lst (hp.ne ht) upd_same (by rw [rc.length]; exact hl) (rc.keep (ExB.of (same_new ht))))⟩
theorem w_slT {K : PySem.W.Frag} {x : V} {ds : List PyData} {lo hi : Option Int} {H : Hp} {Q : VK} (hp : Has p H) (rx : Rp p H x (.tuple ds)) (hl : (cutD ds lo hi).length ≤ 1000)
    (k : ∀ v H', Same H H' → Rp p H' v (.tuple (cutD ds lo hi)) → Q v H') : rSlA K x lo hi H Q := by
  obtain ⟨a, xs, rfl, na, ha, za, ra⟩ := rx.tup_inv
  have rc := ra.cut lo hi
  refine ⟨a, xs, rfl, SqT.rd ha, fun e => ?_, fun _ t ht => k _ _ (same_new ht) (.tup (hp.ne ht) (.inl upd_same) (by rw [rc.length]; exact hl) (rc.keep (ExB.of (same_new ht))))⟩
  have e2 : cutD ds lo hi = ds := by
    unfold cutD
    rw [← ra.length, e.1, e.2, List.drop_zero, Nat.sub_zero, List.take_of_length_le (by rw [ra.length]; exact Nat.le_refl _)]
  rw [e2] at k
  exact k _ _ (Same.refl H) (.tup na ha za ra)
theorem pd_slL {e : Expr} {lo hi : Option Expr} {pos p2 : Pos} {f : DF} {fl fh : L2.St → Hp → Option Int → Prop} {tl th : TO} (h : PD X e p f) (hl : PDO X lo p fl tl) (hh : PDO X hi p fh th) :
    PD X (.Subscript e (.Slice lo hi none p2) pos) p (fun σ H c => ∃ ds i j, f σ H (.list ds) ∧ fl σ H i ∧ fh σ H j ∧ (cutD ds i j).length ≤ 1000 ∧ c = .list (cutD ds i j)) :=
  ⟨pe_wk (pe_slice sl_list h.pe hl.po hh.po) fun σ H Q q => by
    obtain ⟨hp, _, ⟨ds, i, j, h1, h2, h3, h4, rfl⟩, k⟩ := q
    exact ⟨hp, _, h1, fun v H1 s1 r1 => hl.w σ H1 _ i (hp.keep s1) (hl.mono _ _ _ _ s1 h2) fun H2 s2 => hh.w σ H2 _ j (hp.keep (s1.trans s2)) (hh.mono _ _ _ _ (s1.trans s2) h3) fun H3 s3 =>
      w_slL (hp.keep (s1.trans (s2.trans s3))) (r1.keep (ExB.of (s2.trans s3))) h4 fun u H4 s4 r4 => k u H4 (s1.trans (s2.trans (s3.trans s4))) r4⟩,
  fun σ H H' c s q => by
    obtain ⟨ds, i, j, h1, h2, h3, h4, rfl⟩ := q
    exact ⟨ds, i, j, h.mono _ _ _ _ s h1, hl.mono _ _ _ _ s h2, hh.mono _ _ _ _ s h3, h4, rfl⟩⟩
theorem pd_slT {e : Expr} {lo hi : Option Expr} {pos p2 : Pos} {f : DF} {fl fh : L2.St → Hp → Option Int → Prop} {tl th : TO} (h : PD X e p f) (hl : PDO X lo p fl tl) (hh : PDO X hi p fh th) :
    PD X (.Subscript e (.Slice lo hi none p2) pos) p (fun σ H c => ∃ ds i j, f σ H (.tuple ds) ∧ fl σ H i ∧ fh σ H j ∧ (cutD ds i j).length ≤ 1000 ∧ c = .tuple (cutD ds i j)) :=
  ⟨pe_wk (pe_slice sl_tupA h.pe hl.po hh.po) fun σ H Q q => by
    obtain ⟨hp, _, ⟨ds, i, j, h1, h2, h3, h4, rfl⟩, k⟩ := q
    exact ⟨hp, _, h1, fun v H1 s1 r1 => hl.w σ H1 _ i (hp.keep s1) (hl.mono _ _ _ _ s1 h2) fun H2 s2 => hh.w σ H2 _ j (hp.keep (s1.trans s2)) (hh.mono _ _ _ _ (s1.trans s2) h3) fun H3 s3 =>
      w_slT (hp.keep (s1.trans (s2.trans s3))) (r1.keep (ExB.of (s2.trans s3))) h4 fun u H4 s4 r4 => k u H4 (s1.trans (s2.trans (s3.trans s4))) r4⟩,
  fun σ H H' c s q => by
    obtain ⟨ds, i, j, h1, h2, h3, h4, rfl⟩ := q
    exact ⟨ds, i, j, h.mono _ _ _ _ s h1, hl.mono _ _ _ _ s h2, hh.mono _ _ _ _ s h3, h4, rfl⟩⟩
/-! items -/
theorem RpA.at_ {H : Hp} {vs : List V} {ds : List PyData} {i : Int} {d : PyData} (r : RpA p H vs ds) (h : atI ds i = some d) : ∃ v, atI vs i = some v ∧ Rp p H v d := by
  unfold atI at h ⊢
  rw [← r.length] at h
  obtain ⟨j, hj, hd⟩ := Option.bind_eq_some_iff.mp h
  have hv : j < vs.length := by
    rw [r.length]
    exact (List.getElem?_eq_some_iff.mp hd).1
  obtain ⟨d2, h2, rd⟩ := r.get (List.getElem?_eq_getElem hv)
  rw [hd] at h2
  cases h2
  exact ⟨vs[j], by rw [hj]; exact List.getElem?_eq_getElem hv, rd⟩
theorem pd_ixT {e i : Expr} {pos : Pos} {f g : DF} (h : PD X e p f) (hi : PD X i p g) (pl : PlainIx i) :
    PD X (.Subscript e i pos) p (fun σ H c => ∃ ds j, f σ H (.tuple ds) ∧ g σ H (.int j) ∧ atI ds j = some c) :=
  ⟨pe_wk (pe_ix ix_seq h.pe hi.pe pl) fun σ H Q q => by
    obtain ⟨hp, c, ⟨ds, j, h1, h2, h3⟩, k⟩ := q
    refine ⟨hp, _, h1, fun x H1 s1 r1 => ⟨hp.keep s1, _, hi.mono _ _ _ _ s1 h2, fun y H2 s2 r2 => ?_⟩⟩
    obtain ⟨a, xs, rfl, na, ha, za, ra⟩ := (r1.keep (ExB.of s2)).tup_inv
    obtain ⟨v, hv, rv⟩ := ra.at_ h3
    exact .inr (.inl ⟨a, xs, j, v, rfl, r2.int_inv, SqT.rd ha, hv, k v H2 (s1.trans s2) rv⟩),
  fun σ H H' c s q => by
    obtain ⟨ds, j, h1, h2, h3⟩ := q
    exact ⟨ds, j, h.mono _ _ _ _ s h1, hi.mono _ _ _ _ s h2, h3⟩⟩
/-! list(t), str(i) -/
theorem pd_list {e : Expr} {q pos : Pos} {f : DF} (h : PD X e p f) (hg : Gl X "list") (hm : X.mg "list" = none) (hs : starEach [e] X.env = (false, eval e X.env) :: starEach [] X.env := by rfl)
    (hpl : ((backTo pos (starEach [] X.env)).any fun x => x.1) = false := by rfl) : PD X (.Call (.Name "list" q) [e] [] pos) p (fun σ H c => ∃ ds, f σ H (.tuple ds) ∧ c = .list ds) :=
  ⟨pe_wk (pe_callTy call_list_of hg hm (by decide +kernel) (pa_cons h.pe pa_nil hs) (by decide) (by decide) hs hpl) fun σ H Q q => by
    obtain ⟨hp, _, ⟨ds, h1, rfl⟩, k⟩ := q
    refine ⟨hp, _, h1, fun x H1 s1 r1 => ?_⟩
    obtain ⟨a, xs, rfl, na, ha, za, ra⟩ := r1.tup_inv
    exact ⟨a, xs, rfl, .inr (SqT.rd ha), fun t ht => k _ _ (s1.trans (same_new ht)) (.lst ((hp.keep s1).ne ht) upd_same za (ra.keep (ExB.of (same_new ht))))⟩,
  fun σ H H' c s q => by
    obtain ⟨ds, h1, rfl⟩ := q
    exact ⟨ds, h.mono _ _ _ _ s h1, rfl⟩⟩
theorem pd_str {e : Expr} {q pos : Pos} {f : DF} (h : PD X e p f) (hg : Gl X "str") (hm : X.mg "str" = none) (hs : starEach [e] X.env = (false, eval e X.env) :: starEach [] X.env := by rfl)
    (hpl : ((backTo pos (starEach [] X.env)).any fun x => x.1) = false := by rfl) : PD X (.Call (.Name "str" q) [e] [] pos) p (fun σ H c => ∃ n : Nat, f σ H (.int (n : Nat)) ∧ n ≤ 20 ∧ c = .str (toString ((n : Nat) : Int))) :=
  ⟨pe_wk (pe_callTy call_str_int hg hm (by decide +kernel) (pa_cons h.pe pa_nil hs) (by decide) (by decide) hs hpl) fun σ H Q q => by
    obtain ⟨hp, _, ⟨n, h1, hn, rfl⟩, k⟩ := q
    refine ⟨hp, _, h1, fun x H1 s1 r1 => ?_⟩
    refine ⟨n, by rw [r1.int_inv], Nat.lt_of_le_of_lt (Nat.log2_le_self n) (by omega), k _ _ s1 (.str _ ?_)⟩
    exact (by decide +kernel : ∀ n, n < 21 → (Str.ofString (toString ((n : Nat) : Int))).length ≤ 1000) n (by omega),
  fun σ H H' c s q => by
    obtain ⟨n, h1, hn, rfl⟩ := q
    exact ⟨n, h.mono _ _ _ _ s h1, hn, rfl⟩⟩
theorem pd_neg {e : Expr} {pos : Pos} {f : DF} (h : PD X e p f) : PD X (.UnaryOp .USub e pos) p (fun σ H c => ∃ i : Int, f σ H (.int i) ∧ c = .int (-i)) :=
  ⟨pe_wk (pe_un un_neg h.pe) fun σ H Q q => by
    obtain ⟨hp, _, ⟨i, h1, rfl⟩, k⟩ := q
    exact ⟨hp, _, h1, fun x H1 s1 r1 => ⟨i, r1.int_inv, k _ _ s1 (.int _)⟩⟩,
  fun σ H H' c s q => by
    obtain ⟨i, h1, rfl⟩ := q
    exact ⟨i, h.mono _ _ _ _ s h1, rfl⟩⟩
theorem pd_ifGt {a b c e : Expr} {pos pos2 : Pos} {fa fb fc fe : DF} (hc : PD X c p fc) (he : PD X e p fe) (ha : PD X a p fa) (hb : PD X b p fb) :
    PD X (.IfExp (.Compare c [.Gt] [e] pos2) a b pos) p (fun σ H d => ∃ i j : Int, fc σ H (.int i) ∧ fe σ H (.int j) ∧ (j < i → fa σ H d) ∧ (¬ j < i → fb σ H d)) :=
  ⟨pe_wk (pe_ifExp (pt_cmpR op_gt hc.pe he.pe (nomark _)) ha.pe hb.pe) fun σ H Q q => by
    obtain ⟨hp, d, ⟨i, j, h1, h2, h3, h4⟩, k⟩ := q
    refine ⟨hp, _, h1, fun x H1 s1 r1 => ⟨hp.keep s1, _, he.mono _ _ _ _ s1 h2, fun y H2 s2 r2 => ⟨i, j, (r1.keep (ExB.of s2)).int_inv, r2.int_inv, _, rfl, ?_⟩⟩⟩
    have s3 := s1.trans s2
    refine ite2 (fun e => ?_) (fun e => ?_)
    · exact ⟨hp.keep s3, d, ha.mono _ _ _ _ s3 (h3 (of_decide_eq_true e)), fun v H4 s4 r4 => k v H4 (s3.trans s4) r4⟩
    · exact ⟨hp.keep s3, d, hb.mono _ _ _ _ s3 (h4 (of_decide_eq_false (eq_false_of_ne_true e))), fun v H4 s4 r4 => k v H4 (s3.trans s4) r4⟩,
  fun σ H H' d s q => by
    obtain ⟨i, j, h1, h2, h3, h4⟩ := q
    exact ⟨i, j, hc.mono _ _ _ _ s h1, he.mono _ _ _ _ s h2, fun z => ha.mono _ _ _ _ s (h3 z), fun z => hb.mono _ _ _ _ s (h4 z)⟩⟩
theorem pd_dict {pos : Pos} : PD X (.Dict [] [] pos) p (fun _ _ d => d = .dict []) :=
  ⟨pe_wk pe_dnewK fun σ H Q q => by
    obtain ⟨hp, _, rfl, k⟩ := q
    exact fun t ht => k _ _ (same_new ht) (.dct (hp.ne ht) upd_same),
  fun σ H H' d s f => f⟩
end
/-! data of tuples alone -/
mutual
inductive RpT (p : Addr) (H : Hp) : V → PyData → Prop
  | non : RpT p H .non .none
  | bl (b : Bool) : RpT p H (.bl b) (.bool b)
  | int (i : Int) : RpT p H (.int i) (.int i)
  | str (x : Str) (h : x.length ≤ 1000) : RpT p H (.str x) (.str x)
  | tup {a : Addr} {xs : List V} {ds : List PyData} (n : a ≠ p) (h : Rd H a (.tup xs)) (z : xs.length ≤ 1000) (r : RpTA p H xs ds) : RpT p H (.ref a) (.tuple ds)
inductive RpTA (p : Addr) (H : Hp) : List V → List PyData → Prop
  | nil : RpTA p H [] []
  | cons {v : V} {vs : List V} {d : PyData} {ds : List PyData} (h : RpT p H v d) (t : RpTA p H vs ds) : RpTA p H (v :: vs) (d :: ds)
end
def ExT (p : Addr) (H H' : Hp) : Prop := ∀ b xs, b ≠ p → Rd H b (.tup xs) → Rd H' b (.tup xs)
theorem ExT.of {p : Addr} {H H' : Hp} (e : ExB p H H') : ExT p H H' := fun b _ n h => rd_keep (fun o q => e b o n q) h
theorem ExT.trans {p : Addr} {H H1 H2 : Hp} (a : ExT p H H1) (b : ExT p H1 H2) : ExT p H H2 := fun c xs n h => b c xs n (a c xs n h)
theorem ExT.put {p l : Addr} {H : Hp} {xs : List V} {o : HO} (h : H l = some (.lst xs)) : ExT p H (upd H l o) := fun b ys n e => rd_keep (fun u q => by
  rw [upd_ne (fun z => by
    rw [z] at e
    rcases e with e | ⟨o', e⟩ <;> (rw [h] at e; cases e))]
  exact q) e
mutual
theorem RpT.keep {p : Addr} {H H' : Hp} (e : ExT p H H') : ∀ {v : V} {d : PyData}, RpT p H v d → RpT p H' v d
  | _, _, .non => .non
  | _, _, .bl b => .bl b
  | _, _, .int i => .int i
  | _, _, .str x h => .str x h
  | _, _, .tup n h z r => .tup n (e _ _ n h) z (RpTA.keep e r)
theorem RpTA.keep {p : Addr} {H H' : Hp} (e : ExT p H H') : ∀ {vs : List V} {ds : List PyData}, RpTA p H vs ds → RpTA p H' vs ds
  | _, _, .nil => .nil
  | _, _, .cons h t => .cons (RpT.keep e h) (RpTA.keep e t)
end
mutual
theorem RpT.rp {p : Addr} {H : Hp} : ∀ {v : V} {d : PyData}, RpT p H v d → Rp p H v d
  | _, _, .non => .non
  | _, _, .bl b => .bl b
  | _, _, .int i => .int i
  | _, _, .str x h => .str x h
  | _, _, .tup n h z r => .tup n h z (RpTA.rp r)
theorem RpTA.rp {p : Addr} {H : Hp} : ∀ {vs : List V} {ds : List PyData}, RpTA p H vs ds → RpA p H vs ds
  | _, _, .nil => .nil
  | _, _, .cons h t => .cons (RpT.rp h) (RpTA.rp t)
end
theorem RpTA.append {p : Addr} {H : Hp} : ∀ {vs ws : List V} {ds es : List PyData}, RpTA p H vs ds → RpTA p H ws es → RpTA p H (vs ++ ws) (ds ++ es)
  | _, _, _, _, .nil, s => s
  | _, _, _, _, .cons h t, s => .cons h (RpTA.append t s)
theorem RpTA.length {p : Addr} {H : Hp} {vs : List V} {ds : List PyData} (r : RpTA p H vs ds) : vs.length = ds.length := r.rp.length
/-! how what is told is found -/
theorem x_tup {g : List PyData → Prop} {ds : List PyData} (h : g ds) (hl : ds.length ≤ 1000) : ∃ es, g es ∧ es.length ≤ 1000 ∧ PyData.tuple ds = .tuple es := ⟨ds, h, hl, rfl⟩
theorem x_lst {g : List PyData → Prop} {ds : List PyData} (h : g ds) (hl : ds.length ≤ 1000) : ∃ es, g es ∧ es.length ≤ 1000 ∧ PyData.list ds = .list es := ⟨ds, h, hl, rfl⟩
theorem x_cons {f : PyData → Prop} {g : List PyData → Prop} {d : PyData} {ds : List PyData} (h : f d) (k : g ds) : ∃ e es, f e ∧ g es ∧ d :: ds = e :: es := ⟨d, ds, h, k, rfl⟩
theorem x_neg {f : Int → Prop} {i : Int} (h : f i) : ∃ j, f j ∧ PyData.int (-i) = .int (-j) := ⟨i, h, rfl⟩
theorem x_var {σ : L2.St} {i : Nat} {p : Addr} {H : Hp} {v : V} {d : PyData} (h : σ[i]? = some (some v)) (r : Rp p H v d) : ∃ u, σ[i]? = some (some u) ∧ Rp p H u d := ⟨v, h, r⟩
theorem x_bin {f g : PyData → Prop} {F : PyData → PyData → PyData → Prop} {d e c : PyData} (h : f d) (k : g e) (l : F d e c) : ∃ d e, f d ∧ g e ∧ F d e c := ⟨d, e, h, k, l⟩
theorem x_add {i j : Int} : FAdd (.int i) (.int j) (.int (i + j)) := ⟨i, j, rfl, rfl, rfl⟩
theorem x_sub {i j : Int} : FSub (.int i) (.int j) (.int (i - j)) := ⟨i, j, rfl, rfl, rfl⟩
theorem x_cat {xs ys : List PyData} (h : xs.length + ys.length ≤ 1000) : FCat (.list xs) (.list ys) (.list (xs ++ ys)) := ⟨xs, ys, rfl, rfl, h, rfl⟩
theorem x_catT {xs ys : List PyData} (h : xs.length + ys.length ≤ 1000) : FCatT (.tuple xs) (.tuple ys) (.tuple (xs ++ ys)) := ⟨xs, ys, rfl, rfl, h, rfl⟩
theorem x_rep {xs : List PyData} {n : Nat} (h1 : n ≤ 1000) (h : xs.length * n ≤ 1000) : FRep (.list xs) (.int (n : Nat)) (.list (List.replicate n xs).flatten) := ⟨xs, n, rfl, rfl, h1, h, rfl⟩
theorem x_sl {f : List PyData → Prop} {fl fh : Option Int → Prop} {C : List PyData → PyData} {ds : List PyData} {i j : Option Int} (h : f ds) (h1 : fl i) (h2 : fh j) (hl : (cutD ds i j).length ≤ 1000) :
    ∃ es a b, f es ∧ fl a ∧ fh b ∧ (cutD es a b).length ≤ 1000 ∧ C (cutD ds i j) = C (cutD es a b) := ⟨ds, i, j, h, h1, h2, hl, rfl⟩
theorem x_po {f : Int → Prop} {j : Int} (h : f j) : ∃ k, f k ∧ some j = some k := ⟨j, h, rfl⟩
theorem x_ix {f : List PyData → Prop} {g : Int → Prop} {ds : List PyData} {j : Int} {c : PyData} (h : f ds) (k : g j) (e : atI ds j = some c) : ∃ es i, f es ∧ g i ∧ atI es i = some c := ⟨ds, j, h, k, e⟩
theorem x_list {f : List PyData → Prop} {ds : List PyData} (h : f ds) : ∃ es, f es ∧ PyData.list ds = .list es := ⟨ds, h, rfl⟩
theorem x_str {f : Nat → Prop} {n : Nat} (h : f n) (k : n ≤ 20) : ∃ m, f m ∧ m ≤ 20 ∧ PyData.str (toString ((n : Nat) : Int)) = .str (toString ((m : Nat) : Int)) := ⟨n, h, k, rfl⟩
end Cs
set_option maxHeartbeats 4000000
/-! Rules of my own: errors of own classes over any built-in base, held as values. -/
namespace PySem
namespace CsLow
open PySem.W PySem.Calls PyProof.Rows PySem.HandSPX Builtin
abbrev rawX (C t : Addr) (d : Option Addr) : Obj := { cls := .ref C, dict := d, data := .fields #[.ref t, .none, .none, .none, .bool false, .none] }
section
variable {prog : Program} {w : World} {A : Around} {R : Result → Shared → Prop} {h : Heap} {g : Array GenState} {d : Drawn} {t : Nat} {os : OsState}
variable {nm q : Str} {C N : Addr} {bs bm bmB : List Value} {hdct : Bool} {sn : List Str} {sub : List Value} {ab : Bool} {col : Option Bool} {dd : Option Addr} {k0 k1 k2 k3 k5 : Option Value} {B newId initId : String}
/-- BaseException.__new__ given keywords: it does not look at them -/
theorem fresh_kw (FB : ExcBaseFacts B newId initId bmB) (tl : ∀ Y : String, bm.contains (.type Y) = bmB.contains (.type Y)) {f : Str} {u : Value}
    (at_ : h.get? C = some (excClassObj nm q C N bs bm hdct sn sub ab col dd k0 k1 k2 k3 k5 newId)) (k : R (.ok (.ret (.ref (h.objs.size + 1)))) ⟨(h.push { cls := .type "tuple", data := .seq #[] }).push (rawX C h.objs.size none), g, d, t, os⟩) :
    codeAny (model prog w) A (.builtin newId ⟨[.ref C], [(f, u)]⟩) R ⟨h, g, d, t, os⟩ := by
  have inB : ∀ Y, bmB.contains (.type Y) = true → (Value.ref C :: bm).contains (.type Y) = true := fun Y z => by rw [List.contains_cons, tl, z, Bool.or_true]
  have noB : ∀ Y, bmB.contains (.type Y) = false → (Value.ref C :: bm).contains (.type Y) = false := fun Y z => by
    rw [List.contains_cons, tl, z]
    rfl
  have b1 := inB _ FB.hasB
  have b2 := noB _ FB.noAttr
  have b3 := noB _ FB.noName
  have ends := FB.ends
  refine codeAny_builtinAt FB.entry ?_
  unfold Builtin.«BaseException.__new__»
  refine wpAt_bind (show wpAt _ _ _ (stack >>= _) _ _ _ from wpAt_bind (wpAt_stack fun _ _ => wpAt_of_wpAny ?_))
  wp_walk
  refine wpAt_of_wpAny ?_
  rw [FB.owner]
  repeat (first | with_reducible refine wpAny_madeHere_exc FB.canon at_ ?_ | with_reducible refine wpAny_loadPart_at at_ ?_ | (with_reducible refine wpAny_isSubtype_exc at_ ?_; first | rw [b1] | rw [b2] | rw [b3]) | wp_step)
  show R _ _
  rw [Heap.size_push]
  exact k
/-- .. and its check lets them pass -/
theorem check_kw {M : Model} {E : Value → Shared → Prop} (FB : ExcBaseFacts B newId initId bmB) (tl : ∀ Y : String, bm.contains (.type Y) = bmB.contains (.type Y)) {f : Str} {u : Value} {Q : Unit → Shared → Prop}
    (at_ : h.get? C = some (excClassObj nm q C N bs bm hdct sn sub ab col dd k0 k1 k2 k3 k5 newId)) (k : Q () ⟨h, g, d, t, os⟩) : wpAny M A (checkBuiltinCall newId ⟨[.ref C], [(f, u)]⟩) Q E ⟨h, g, d, t, os⟩ := by
  have inB : (Value.ref C :: bm).contains (.type B) = true := by rw [List.contains_cons, tl, FB.hasB, Bool.or_true]
  have star := FB.noStar
  simp only [checkBuiltinCall, FB.newKind, FB.newSplit, FB.newRow]
  repeat (first | refine wpAny_loadPart_at at_ ?_ | (refine wpAny_isSubtype_exc at_ ?_; rw [inB]) | refine wpAny_staticBase_exc at_ ?_ | refine wpAny_madeBy_exc at_ ?_ | simp only [bne_self_eq_false, Bool.false_eq_true, if_false] | wp_step)
  exact k
theorem type_kw (FB : ExcBaseFacts B newId initId bmB) (tl : ∀ Y : String, bm.contains (.type Y) = bmB.contains (.type Y)) {f : Str} {u : Value} {fI : Addr} {Q : Fin → Shared → Prop} {E : Value → Shared → Prop}
    (at_ : h.get? C = some (excClassObj nm q C N bs bm hdct sn sub ab col dd k0 k1 k2 k3 k5 newId)) (hi : W.Looks (model prog w) h (typeLookup (.ref C) "__init__") (some (.ref fI))) (hb : ∀ self, W.Looks (model prog w) h (bindSpecial (.ref fI) self) (.ref fI, [self]))
    (k : codeAny (model prog w) A (.call (.ref fI) ⟨[.ref (h.objs.size + 1)], [(f, u)]⟩)
      (fun r s' => match r with | .ok (.ret v) => v = .none ∧ Q (.done (.ret (.ref (h.objs.size + 1)))) s' | .ok _ => False | .error e => E e s')
      ⟨(h.push { cls := .type "tuple", data := .seq #[] }).push (rawX C h.objs.size none), g, d, t, os⟩) :
    wpAny (model prog w) A (Builtin.«type.__call__» ⟨[.ref C], [(f, u)]⟩) Q E ⟨h, g, d, t, os⟩ := by
  repeat (first | with_reducible refine wpAny_loadPart_at at_ ?_ | with_reducible refine wpAny_madeBy_exc at_ ?_ | wp_step)
  refine codeAny_call_builtin_code (Code.quiet_builtin _ FB.quiet) (check_kw FB tl at_ (fresh_kw FB tl at_ (show wpAny _ _ _ _ _ _ from ?_)))
  have grow : ∀ b o, h.get? b = some o → ((h.push { cls := .type "tuple", data := .seq #[] }).push (rawX C h.objs.size none)).get? b = some o := fun b o e => Heap.get?_push_of_some _ (Heap.get?_push_of_some _ e)
  have at2 := grow _ _ at_
  have atE : ((h.push { cls := .type "tuple", data := .seq #[] }).push (rawX C h.objs.size none)).get? (h.objs.size + 1) = some (rawX C h.objs.size none) := by heap_get
  have own : (Value.ref C :: bm).contains (.ref C) = true := by simp
  have j1 := hi.keeps grow
  have j2 := (hb (.ref (h.objs.size + 1))).keeps grow
  unfold isInstance
  repeat (first | with_reducible refine wpAny_loadPart_at atE ?_ | (with_reducible refine wpAny_isSubtype_exc at2 ?_; rw [own]) | wp_step)
  refine (show wpAny _ _ (typeLookup (.ref C) _) _ _ _ from j1.at (wpAny_holding (wpAny_bind (j2.at (wpAny_bind (wpAny_call (codeAny_mono k fun r s' z => ?_)))))))
  rcases r with e | (v | _ | _ | _) <;> first | exact z | exact z.elim | skip
  obtain ⟨rfl, z⟩ := z
  first | exact wpAny_pure (wpAny_pure z) | (wp_walk; exact z)
/-- C(f=u), C of errors with an __init__ of its own: the new error, then __init__ with it and the keyword -/
theorem call_kw (FB : ExcBaseFacts B newId initId bmB) (tl : ∀ Y : String, bm.contains (.type Y) = bmB.contains (.type Y)) {f : Str} {u : Value} {fI : Addr}
    (at_ : h.get? C = some (excClassObj nm q C N bs bm hdct sn sub ab col dd k0 k1 k2 k3 k5 newId)) (hi : W.Looks (model prog w) h (typeLookup (.ref C) "__init__") (some (.ref fI))) (hb : ∀ self, W.Looks (model prog w) h (bindSpecial (.ref fI) self) (.ref fI, [self]))
    (k : codeAny (model prog w) (A.under (.builtin "type.__call__" ⟨[.ref C], [(f, u)]⟩)) (.call (.ref fI) ⟨[.ref (h.objs.size + 1)], [(f, u)]⟩) (W.InitBack (h.objs.size + 1) R)
      ⟨(h.push { cls := .type "tuple", data := .seq #[] }).push (rawX C h.objs.size none), g, d, t, os⟩) :
    codeAny (model prog w) A (.call (.ref C) ⟨[], [(f, u)]⟩) R ⟨h, g, d, t, os⟩ := by
  have l1 := tc_lookup
  have l2 := tc_bind (.ref C)
  have isT : (⟨h, g, d, t, os⟩ : Shared).TypeIs (.ref C) "type" := ⟨_, at_, rfl⟩
  have grow : ∀ b o, h.get? b = some o → ((h.push { cls := .type "tuple", data := .seq #[] }).push (rawX C h.objs.size none)).get? b = some o := fun b o e => Heap.get?_push_of_some _ (Heap.get?_push_of_some _ e)
  refine codeAny_of_tree (show wpAny _ _ (callAny (.ref C) _) _ _ _ from ?_)
  repeat (any_goals (first | assumption | with_reducible refine wpAny_loadPart_at at_ ?_ | wp_step))
  refine ⟨rfl, ?_⟩
  refine codeAny_call_builtin_at (Code.quiet_builtin _ (by decide +kernel)) entry_typeCall (wpAny_check_type_call_sub at_ ?_)
  refine type_kw (A := A.under _) FB tl at_ hi hb (codeAny_mono k fun r s' z => ?_)
  rcases r with e | (v | _ | _ | _) <;> exact z
end
end CsLow
end PySem
set_option maxHeartbeats 4000000
/-! Defs that show lists and tuples: their promise is for callers that show nothing just now. -/
namespace Cs
open PySem L2 PyProof.Rows
structure FnG (P : Program) (w : World) (K : PySem.W.Frag) (mg : Str → Option Value) (base : Heap) (k : Nat) (f : Addr) (fd : FuncData) (ps : List Str) (sp : Sp) : Prop where
  len : ∀ vs H Q E, sp vs H Q E → vs.length = ps.length
  run : ∀ (A : Around) (outer : List Env) (s : Shared) (H : Hp) (args : Args) (us : List Value) (vs : List V) (Q : VK) (E : XK),
    A.guards = some [] → Room k A → Env0 P w K mg base A outer s H → BindsTo s fd args (ps.zip us) → Vals vs us → sp vs H Q E → codeAny (model P w) A (.call (.ref f) args) (CR CX0 outer P w H s Q E) s
theorem fn_ofG {P : Program} {w : World} {K : PySem.W.Frag} {mg : Str → Option Value} {base : Heap} {k : Nat} {f : Addr} {name qual : Str} {params : Arguments} {body : List Stmt} {scope : Scope}
    {dV kV doc pm cdv ct oc : Value} {an od : Option Addr} {osl : Array (Option Value)} {N ps : List Str} {sp : Sp}
    (lk : K.lookup f = some ⟨oc, od, .func (PySem.W.fnOf name qual params body scope dV kV doc pm an cdv ct), osl⟩) (hcd : PySem.W.codeIn K cdv qual = true) (S : FnScope N ps scope)
    (len : ∀ vs H Q E, sp vs H Q E → vs.length = ps.length)
    (hbody : ∀ (A : Around) (outer : List Env) (s : Shared) (H : Hp) (vs : List V) (Q : VK) (E : XK), A.guards = some [] → Room k (A.deeper (envOfC qual scope s.heap.objs.size f cdv)) → sp vs H Q E →
      ∃ t, PSs (cxOf CX0 P w K mg base N qual scope f cdv A outer s H E) body t ∧ t { nx := fun _ H' => Q .non H', rt := Q } (L2.start N vs) H) :
    FnG P w K mg base (k + 1) f (PySem.W.fnOf name qual params body scope dV kV doc pm an cdv ct) ps sp := by
  refine ⟨len, fun A outer s H args us vs Q E hg hr e0 hb r hsp => ?_⟩
  have hl := len vs H Q E hsp
  have KX := PySem.W.Frag.In.keeps e0.mod.kin fun b o e => (e0.bs b o e).1
  have lim := Heap.NoLimit.keeps e0.mod.nolimit fun b o e => (e0.bs b o e).1
  refine codeAny_call_function hr.depth (KX f _ lk) rfl S.co S.gen rfl (PySem.W.codeRec_of KX hcd) ?_
  refine hb (model P w) A.in1 _ _ ?_
  refine wpAny_newFunctionEnv_cells S.kind (fun y hy => ?_) fun env he s1 x => ?_
  · obtain ⟨n, v⟩ := y
    rcases S.par n (List.of_mem_zip hy).1 with q | q
    · exact .inl q
    · exact .inr ⟨q, PySem.W.cellsFrom_some scope.names (s.heap.objs.size + 1) [] (.inl q)⟩
  · subst he
    refine ⟨lim.keeps x.toInCall.keep, codeAny_func ?_⟩
    obtain ⟨t, ht, hq⟩ := hbody A outer s H vs Q E hg (hr.deeper _) hsp
    have I := inv_start (CX := CX0) (w := w) (E := E) S hr.hd e0 hl r x
    refine wpAny_mono (ht.run [] s1 (L2.start N vs) H _ I hq) (fun fl s' hs => ?_) (fun e s' hs => hs)
    cases fl with
    | next =>
      obtain ⟨σ', H', J, q⟩ := hs
      exact ⟨V.non, H', J.os, J.bare, J.base, J.hok, rfl, q⟩
    | brk =>
      obtain ⟨_, _, _, q⟩ := hs
      exact q.elim
    | cont =>
      obtain ⟨_, _, _, q⟩ := hs
      exact q.elim
    | ret u =>
      obtain ⟨v, σ', H', J, rv, q⟩ := hs
      exact ⟨v, H', J.os, J.bare, J.base, J.hok, rv, q⟩
section
variable {X : Cx}
theorem pe_callG {k j : Nat} {f : Addr} {fd : FuncData} {ps : List Str} {sp : Sp} {x : Str} {q pos : Pos} {e : Expr} {es : List Expr} {t : TA}
    (F : FnG X.prog X.w X.K X.mg X.base k f fd ps sp) (hG : X.A.guards = some []) (hr : Room j X.A) (hk : k ≤ j) (hg : Gl X x) (hm : X.mg x = some (.ref f)) (kp : PySem.W.keepIn X.K (.ref f) = true) (hb : Binds X.K fd ps [])
    (ha : PA X (e :: es) t) (hdb : (x == ("__debug__" : Str)) = false := by rfl) (he : starEach (e :: es) X.env = (false, eval e X.env) :: starEach es X.env := by rfl)
    (hpl : ((backTo pos (starEach es X.env)).any fun x => x.1) = false := by rfl) : PE X (.Call (.Name x q) (e :: es) [] pos) (fun σ H Q => t σ H fun vs H1 => sp vs H1 Q fun _ _ _ => False) := by
  refine ⟨fun pins s σ H Q I h => wpAny_Call_Name_kw (ld_glob I hg hm (PySem.W.callWith_K I.ok.mod.kin kp (thn (ha.run pos pins s σ H _ I h) ?_) he hpl) hdb)⟩
  rintro us s1 ⟨vs, H1, I1, r, q1⟩
  refine ⟨I1.kIn, ?_⟩
  have hl : us.length = ps.length := by
    rw [← r.length]
    exact F.len vs H1 Q _ q1
  have b := hb s1 us I1.kIn (by rw [List.append_nil]; exact hl)
  rw [List.append_nil] at b
  refine wpAny_call (codeAny_mono (F.run X.A X.stack s1 H1 ⟨us, []⟩ us vs Q _ hG (hr.mono hk) I1.env0 b r q1) fun rr s' hq => ?_)
  cases rr with
  | error e => exact hq.elim
  | ok fl =>
    cases fl with
    | next => exact hq.elim
    | brk => exact hq.elim
    | cont => exact hq.elim
    | ret u => exact I1.after hq
end
/-- a def by its name, for callers that show nothing just now -/
structure CalG (P : Program) (w : World) (K : PySem.W.Frag) (mg : Str → Option Value) (base : Heap) (k : Nat) (x : Str) (sp : Sp) : Prop where
  ex : ∃ (f : Addr) (fd : FuncData) (ps : List Str), FnG P w K mg base k f fd ps sp ∧ mg x = some (.ref f) ∧ PySem.W.keepIn K (.ref f) = true ∧ Binds K fd ps []
theorem pe_cG {X : Cx} {k j : Nat} {sp : Sp} {x : Str} {q pos : Pos} {e : Expr} {es : List Expr} {t : TA} (c : CalG X.prog X.w X.K X.mg X.base k x sp) (hG : X.A.guards = some []) (hr : Room j X.A) (hk : k ≤ j) (hg : Gl X x) (ha : PA X (e :: es) t)
    (hdb : (x == ("__debug__" : Str)) = false := by rfl) (he : starEach (e :: es) X.env = (false, eval e X.env) :: starEach es X.env := by rfl) (hpl : ((backTo pos (starEach es X.env)).any fun x => x.1) = false := by rfl) :
    PE X (.Call (.Name x q) (e :: es) [] pos) (fun σ H Q => t σ H fun vs H1 => sp vs H1 Q fun _ _ _ => False) := by
  obtain ⟨f, fd, ps, F, g, kp, b⟩ := c.ex
  exact pe_callG F hG hr hk hg g kp b ha hdb he hpl
/-! ### the law's call -/
section
variable {P : Program} {w : World} {K : PySem.W.Frag} {mg mb : Str → Option Value} {k : Nat} {fa a : Addr} {cs : List (Addr × Addr)} {fd : FuncData} {x : Str} {sp : Sp} {s : Shared} {vs : List Value} {ns : List Int}
/-- what is tracked at the start: the script (locked, if it is not in K) and the tables -/
def H0 (s : Shared) (K : PySem.W.Frag) (a : Addr) (vs : List Value) (ns : List Int) (cs : List (Addr × Addr)) : Hp := fun b =>
  if (b = a ∧ K.lookup a = none) then some (.frz { cls := .type "list", data := .seq vs.toArray } (.lst (ns.map V.int))) else if b ∈ cs.map (·.2) then some (.tbl #[]) else none
theorem law_callG (KX : K.In s.heap) (hns : s.heap.Ns mainGlobals mg) (hb : s.heap.Ns builtinsNs mb) (hbb : ∀ x : Str, x ≠ "__name__" → mb x = bootBuiltins x) (hlim : s.heap.NoLimit) (hg : s.gens = #[])
    (hT : ∀ p ∈ cs, s.heap.get? p.2 = some { cls := .none, data := .fields #[] }) (nT : ∀ p ∈ cs, K.lookup p.2 = none) (C : ∀ p ∈ cs, PySem.W.CodeHd s.heap p.1 p.2)
    (hbm : ∃ (bm : Addr) (ob : Obj), mg "__builtins__" = some (.ref bm) ∧ bm ≠ builtinsNs ∧ s.heap.get? bm = some ob ∧ ob.cls = .type "module" ∧ ob.dict = some builtinsNs ∧ ob.data = .plain)
    (ha : s.heap.get? a = some { cls := .type "list", data := .seq vs.toArray }) (hi : IntsAre vs ns) (hl : ns.length ≤ sizeLine) (hr : Room k callerA)
    (F : ∀ base : Heap, K.In base → base.Ns mainGlobals mg → (∀ p ∈ cs, LamX.TabB base mg p.1 p.2) → FnG P w K mg base k fa fd [x] sp) (hbind : ∀ (s : Shared) (u : Value), BindsTo s fd ⟨[u], []⟩ [(x, u)])
    (hsp : ∀ H : Hp, (∀ p ∈ cs, H p.2 = some (.tbl #[])) → SqL K H a (ns.map V.int) → sp [.ref a] H (fun v _ => v = .bl true) fun _ _ _ => False) :
    codeAny (model P w) callerA (.call (.ref fa) ⟨[.ref a], []⟩) (fun r s' => r = .ok (.ret (.bool true)) ∧ OldK s.heap s'.heap ∧ s'.os = s.os ∧ AllBare s'.gens) s := by
  have rv := vals_ints hi
  have lenV := hi.length
  have tab : ∀ b, b ∈ cs.map (·.2) → s.heap.get? b = some { cls := .none, data := .fields #[] } := fun b hb => by
    obtain ⟨p, hp, rfl⟩ := List.mem_map.mp hb
    exact hT p hp
  have at_ : a ∉ cs.map (·.2) := fun z => nomatch (ha.symm.trans (tab a z))
  generalize hH : H0 s K a vs ns cs = H
  have HT : ∀ b, b ∈ cs.map (·.2) → H b = some (.tbl #[]) := fun b hb => by
    rw [← hH]
    exact (if_neg (fun z : b = a ∧ K.lookup a = none => at_ (z.1 ▸ hb))).trans (if_pos hb)
  have HA : K.lookup a = none → H a = some (.frz { cls := .type "list", data := .seq vs.toArray } (.lst (ns.map V.int))) := fun z => by
    rw [← hH]
    exact if_pos ⟨rfl, z⟩
  have HN : ∀ b, b ∉ cs.map (·.2) → ¬ (b = a ∧ K.lookup a = none) → H b = none := fun b h1 h2 => by
    rw [← hH]
    exact (if_neg h2).trans (if_neg h1)
  have three : ∀ b, b ∈ cs.map (·.2) ∨ (b = a ∧ K.lookup a = none) ∨ H b = none := fun b => by
    by_cases h1 : b ∈ cs.map (·.2)
    · exact .inl h1
    · by_cases h2 : b = a ∧ K.lookup a = none
      · exact .inr (.inl h2)
      · exact .inr (.inr (HN b h1 h2))
  have okH : HOk P w H s.heap := fun b o e => by
    rcases three b with z | ⟨rfl, z⟩ | z
    · rw [HT b z] at e
      obtain rfl := Option.some.inj e
      exact tab b z
    · rw [HA z] at e
      obtain rfl := Option.some.inj e
      exact ⟨ha, by rw [List.length_map]; exact hl, vs, _, rv, ha⟩
    · rw [z] at e
      exact nomatch e
  have seq : SqL K H a (ns.map V.int) := by
    cases hk : K.lookup a with
    | none => exact .inl (.inr ⟨_, HA hk⟩)
    | some o =>
      obtain rfl := Option.some.inj ((KX a o hk).symm.trans ha)
      exact .inr ⟨_, vs.toArray, _, hk, rfl, rfl, rfl, by rw [List.size_toArray, lenV]; exact hl, by simpa using rv⟩
  -- an object that is no list and no empty table is not tracked
  have out : ∀ {b : Addr} {o : Obj}, s.heap.get? b = some o → (∀ l n, o.data ≠ .seq l n) → o.data ≠ .fields #[] → H b = none := fun {b o} e h1 h2 => by
    rcases three b with z | ⟨rfl, z⟩ | z
    · exact absurd (congrArg Obj.data (Option.some.inj (e.symm.trans (tab b z)))) h2
    · exact absurd (congrArg Obj.data (Option.some.inj (e.symm.trans ha))) (h1 _ _)
    · exact z
  have dic : ∀ {b : Addr} {o : Obj} {es : Array DictEntry} {n : Nat}, s.heap.get? b = some o → o.data = .dict es n → H b = none := fun {b o es n} e d => out e (fun l m z => nomatch (d.symm.trans z)) (fun z => nomatch (d.symm.trans z))
  have nsB : ∀ {b : Addr} {m : Str → Option Value}, s.heap.Ns b m → (hidT s.heap H).Ns b m := fun {b m} h => by
    obtain ⟨o, es, n, e, d, r⟩ := h
    exact ⟨o, es, n, hidT_get e (dic e d), d, r⟩
  have kB : K.In (hidT s.heap H) := fun b o e => hidT_get (KX b o e) (by
    rcases three b with z | ⟨rfl, z⟩ | z
    · obtain ⟨p, hp, rfl⟩ := List.mem_map.mp z
      exact nomatch ((nT p hp).symm.trans e)
    · exact nomatch (z.symm.trans e)
    · exact z)
  have TBs : ∀ p ∈ cs, LamX.TabB (hidT s.heap H) mg p.1 p.2 := fun p hp => by
    have tp := hT p hp
    refine ⟨?_, ?_, fun z => ?_⟩
    · obtain ⟨o, us, file, tf, flags, tg, inF, text, tt, e1, r1, r2, r3, r⟩ := C p hp
      refine ⟨o, us, file, tf, flags, tg, inF, text, tt, hidT_get e1 (out e1 (fun l n z => nomatch (r2.symm.trans z)) (fun z => ?_)), r1, r2, r3, r⟩
      rw [r2] at z
      cases z
      simp at r3
    · obtain ⟨bm, ob, b1, b2, b3, b4, b5, b6⟩ := hbm
      refine ⟨bm, ob, b1, b2, fun z => ?_, fun z => ?_, hidT_get b3 (out b3 (fun l n z => nomatch (b6.symm.trans z)) (fun z => nomatch (b6.symm.trans z))), b4, b5, b6⟩
      · obtain ⟨o, es, n, e, d, _⟩ := hns
        rw [← z, b3] at e
        obtain rfl := Option.some.inj e
        exact nomatch (b6.symm.trans d)
      · rw [z, tp] at b3
        obtain rfl := Option.some.inj b3
        exact nomatch b6
    · obtain ⟨o, es, n, e, d, _⟩ := hns
      rw [z, tp] at e
      obtain rfl := Option.some.inj e
      exact nomatch d
  have M : L2.Mod K mg (hidT s.heap H) := ⟨kB, nsB hns, ⟨mb, nsB hb, hbb⟩, by
    obtain ⟨mc, h1, h2⟩ := hlim
    exact ⟨mc, nsB h1, h2⟩⟩
  have e0 : Env0 P w K mg (hidT s.heap H) callerA [] s H := ⟨rfl, M, fun b o e => of_hidT e, Nat.le_of_eq (hidT_size _ _), trivial, (fun b hb => (List.not_mem_nil hb).elim), okH, .of_eq hg⟩
  refine codeAny_mono ((F _ kB (nsB hns) TBs).run callerA [] s H ⟨[.ref a], []⟩ [.ref a] [.ref a] _ _ rfl hr e0 (hbind s (.ref a)) (.cons rfl .nil) (hsp H (fun p hp => HT p.2 (List.mem_map.mpr ⟨p, hp, rfl⟩)) seq)) fun r s' h => ?_
  cases r with
  | error e => exact False.elim h
  | ok fl =>
    cases fl with
    | next => exact False.elim h
    | brk => exact False.elim h
    | cont => exact False.elim h
    | ret u =>
      obtain ⟨v, H', os, bare, un, ok', r', q⟩ := h
      obtain rfl : v = .bl true := q
      obtain rfl : u = .bool true := r'
      have none_ : ∀ {b : Addr}, b ∉ ([] : List Addr) := fun z => nomatch z
      have old : ∀ b o, b ∉ cs.map (·.2) → s.heap.get? b = some o → s'.heap.get? b = some o := fun b o nb e => by
        rcases three b with z | ⟨rfl, z⟩ | z
        · exact absurd z nb
        · obtain ⟨e2, _⟩ := ok' _ _ (un.frzs _ _ _ (HA z))
          rw [ha] at e
          exact e ▸ e2
        · exact un.keep b o e z none_ none_
      have grown : ∀ p ∈ cs, ∃ more : Array Value, s'.heap.get? p.2 = some { cls := .none, data := .fields more } := fun p hp => by
        obtain ⟨more, z⟩ := un.tbls p.2 #[] (HT p.2 (List.mem_map.mpr ⟨p, hp, rfl⟩))
        exact ⟨_, ok' p.2 _ z⟩
      refine ⟨rfl, ⟨fun b o e => ?_, fun b o e => ?_⟩, os, bare⟩
      · by_cases hb : b ∈ cs.map (·.2)
        · obtain ⟨p, hp, rfl⟩ := List.mem_map.mp hb
          obtain ⟨more, hm⟩ := grown p hp
          obtain rfl := Option.some.inj (e.symm.trans (hT p hp))
          exact .inr (.inl ⟨((C p hp).tab (hT p hp)).isCodeTable, rfl, #[], more, rfl, by rw [Array.empty_append]; exact hm⟩)
        · exact .inl (old b o hb e)
      · by_cases hb : b ∈ cs.map (·.2)
        · obtain ⟨p, hp, rfl⟩ := List.mem_map.mp hb
          obtain ⟨more, hm⟩ := grown p hp
          exact ⟨_, hm⟩
        · exact ⟨o, old b o hb e⟩
end
/-- what is known of the law's promise at the head's heap h -/
def LawAtG (l : PySem.W.OpenLaw) (w : World) (K : PySem.W.Frag) (k n : Nat) (x : Str) (mg : Str → Option Value) (h : Heap) : Prop :=
  ∃ (fa : Addr) (fd : FuncData) (cs : List (Addr × Addr)) (sp : Sp), mg "law" = some (.ref fa) ∧ (∀ p ∈ cs, h.get? p.2 = some { cls := .none, data := .fields #[] }) ∧ (∀ p ∈ cs, K.lookup p.2 = none) ∧ (∀ p ∈ cs, PySem.W.CodeHd h p.1 p.2) ∧
    (∀ (s : Shared) (u : Value), BindsTo s fd ⟨[u], []⟩ [(x, u)]) ∧
    (∀ (H : Hp) (a : Addr) (ns : List Int), ns.length ≤ n → (∀ z ∈ ns, Builtin.Int.intBits z ≤ 1048576) → (∀ p ∈ cs, H p.2 = some (.tbl #[])) → SqL K H a (ns.map V.int) → sp [.ref a] H (fun v _ => v = .bl true) fun _ _ _ => False) ∧
    ∀ base : Heap, K.In base → base.Ns mainGlobals mg → (∀ p ∈ cs, LamX.TabB base mg p.1 p.2) → FnG l.prog w K mg base k fa fd [x] sp
theorem walk_ofG {l : PySem.W.OpenLaw} {n k : Nat} {q : Program} {loose : List Str} {XP : (Str → Option Value) → Heap → Prop} {YP : World → Heap → Prop} {d : DefRec} {x : Str} (hn : l.most = some n) (hn2 : n ≤ sizeLine) (hdf : d.params.defaults = []) (hname : d.name = "law") (hr : Room k callerA)
    (F : ∀ (w : World) (mg : Str → Option Value) (h : Heap), YP w h → h.Ns mainGlobals mg → (∃ fa, mg "law" = some (.ref fa)) → ∃ K : PySem.W.Frag, K.In h ∧ LawAtG l w K k n x mg h) : PySem.W.WalkO q loose XP YP l.row.toRowW d [] (fun f vs => PySem.call f vs) := by
  refine Att.attach_callB hn hdf fun w s₀ s₁ mg mb fa o pm cd doc a vs ns G Y ho hd hcd hmg hobj hints hlen hbits hg => ?_
  rw [hname] at hmg
  obtain ⟨K, KX, fa2, fd, cs, sp, hf, hT, nT, C, hb, hsp, hF⟩ := F w mg _ Y G.T.g ⟨fa, hmg⟩
  obtain rfl : fa2 = fa := Value.ref.inj (Option.some.inj (hf.symm.trans hmg))
  exact law_callG KX G.T.g G.T.b G.T.builtins G.T.nolimit hg hT nT C G.T.bmain hobj hints (Nat.le_trans hlen hn2) hr hF hb fun H hH hS => hsp H a ns hlen hbits hH hS
end Cs
set_option maxHeartbeats 4000000
/-! Rules of my own: errors of own classes over any built-in base, held as values. -/
namespace Cs
open PySem L2 PyProof.Rows
open PySem.W (InstAt)
open Builtin Builtin.ObjectAttr
/-- what is known of an own class of errors at C, over the built-in base B -/
structure OexG (K : PySem.W.Frag) (C : Addr) (bmB : List Value) (newId : String) : Prop where
  ini : PySem.W.excInitIn K C bmB newId = true
  over : PySem.W.excOver K C bmB = true
  sa : PySem.W.findIn K (.ref C) "__setattr__" = some (some (.builtin "object.__setattr__"))
  hd : PySem.W.hasDictIn K C = true
  kC : PySem.W.keepIn K (.ref C) = true
abbrev rawX (C t : Addr) (d : Option Addr) : Obj := { cls := .ref C, dict := d, data := .fields #[.ref t, .none, .none, .none, .bool false, .none] }
section
variable {prog : Program} {w : World} {A : Around} {E : Value → Shared → Prop} {s : Shared}
/-- the first store to an error that has no dict yet -/
theorem store_first {K : PySem.W.Frag} {x C t : Addr} {name : Str} {tk : Tok} {v : Value} {b : Bool} {Q : Fin → Shared → Prop} (X : K.In s.heap) (hx : s.heap.get? x = some (rawX C t none)) (hh : PySem.W.hasDictIn K C = true)
    (k : ∀ h' tk' dx, (∀ b o, b ≠ x → s.heap.get? b = some o → h'.get? b = some o) → s.heap.objs.size ≤ dx → dx ≠ x → h'.get? x = some (rawX C t (some dx)) → h'.Ns1 dx (fun y => if y = name then some v else none) →
      Q (.done (.ret .none)) { s with heap := h', toks := tk' }) :
    wpAny (model prog w) A (storeInOwnDict (.ref x) (.ref C) (.str name tk) name v b) Q E s := by
  obtain ⟨cd, hc, hh⟩ := PySem.W.any_some hh
  have LC : PySem.W.Looks (model prog w) s.heap (classData C) cd := PySem.W.looks_clsIn X hc
  obtain ⟨hp, g, d, tok, os⟩ := s
  have nx : x ≠ hp.objs.size := Nat.ne_of_lt (Heap.lt_size hx)
  obtain ⟨c1, c2, c3, c4, c5, c6, c7, c8, c9, c10, c11⟩ := cd
  have hh : c6 = true := hh
  subst hh
  unfold storeInOwnDict ownDictForStores
  repeat (first | with_reducible refine HandSPX.store_in_new ?_ ?_ | with_reducible refine wpAny_loadPart_at hx ?_ | with_reducible refine LC.at ?_ | wp_step)
  · exact ⟨_, #[], _, (Heap.get?_update_ne _ _ _ _ (Ne.symm nx)).trans (Heap.get?_push_at rfl rfl), rfl, fun y hy => absurd hy (by simp), fun _ => rfl⟩
  · intro h2 t2 n2 b2
    have old : (hp.push { cls := .type "dict", data := .dict #[] }).get? x = some (rawX C t none) := Heap.get?_push_of_some _ hx
    refine k h2 t2 hp.objs.size (fun y o ny hy => ?_) (Nat.le_refl _) (Ne.symm nx) ?_ n2
    · rw [b2.2 y (Nat.ne_of_lt (Heap.lt_size hy)), Heap.get?_update_ne _ _ _ _ ny]
      exact Heap.get?_push_of_some _ hy
    · rw [b2.2 x nx]
      exact Heap.get?_update_self _ old rfl
end
section
variable {X : Cx} {pins : List (Addr × Obj)} {σ : L2.St} {H : Hp} {s : Shared} {a C : Addr} {f : Str} {y : V} {u : Value} {bmB : List Value} {B newId initId : String}
/-- self.f = y in an __init__, the first one -/
theorem set_first {A : Around} {E : Value → Shared → Prop} {Q : Unit → Shared → Prop} (SF : StoreFacts B bmB "object.__setattr__" "object") (T : OexG X.K C bmB newId) (I : L2.Inv X pins σ H s) (e : H a = some (exo a C none)) (ht : PySem.W.takerIn X.K C f = some none) (ry : RelV y u)
    (h : ∀ dx s', H dx = none → dx ≠ a → L2.Inv X pins σ (upd (upd H dx (exd dx [(f, y)])) a (exo a C (some dx))) s' → Q () s') : wpAny (model X.prog X.w) A (setAttr (.ref a) f u) Q E s := by
  obtain ⟨t, ho⟩ := exo_at I.hok e
  have KI := I.kIn
  obtain ⟨hp, g, d, tok, os⟩ := s
  refine PySem.W.set_plain KI (ox := rawX C t none) (od := none) ⟨ho, rfl, rfl, trivial⟩ T.sa (PySem.W.osa_openX (ox := rawX C t none) (od := none) SF KI ⟨ho, rfl, rfl, trivial⟩ T.over ht fun b => store_first KI ho T.hd fun h2 t2 dx kp ge ne at2 ns => ?_)
  have hdx : H dx = none := I.hok.fresh ge
  have da : ∀ {b : Addr}, H b = none → b ≠ a := fun {b} n z => by
    rw [z, e] at n
    exact nomatch n
  have dd : ∀ {b : Addr} {o : Obj}, hp.get? b = some o → b ≠ dx := fun {b o} q z => absurd (Heap.lt_size q) (by rw [z]; exact Nat.not_lt.mpr ge)
  have eq2 : ∀ b o, H b = some o → o ≠ exo a C none → upd (upd H dx (exd dx [(f, y)])) a (exo a C (some dx)) b = some o := fun b o q nq => by
    rw [upd_ne (fun z => by rw [z, e] at q; exact nq (Option.some.inj q).symm), upd_ne (ne_of_none q hdx)]
    exact q
  have U : Un X.fs [] H (upd (upd H dx (exd dx [(f, y)])) a (exo a C (some dx))) hp h2 := by
    refine ⟨?_, ?_, ?_, ?_, ?_, ?_, ?_⟩
    · exact fun b o q n _ _ => kp b o (da n) q
    · exact fun b o q n _ _ => ⟨o.slots, kp b o (da n) q⟩
    · exact fun b o q n _ => (upd_ne (da n)).trans ((upd_ne (dd q)).trans n)
    · intro b o q _
      by_cases z : b = a
      · exact z ▸ ⟨_, at2⟩
      · exact ⟨o, kp b o z q⟩
    · exact fun b xs q => eq2 b _ q (Ne.symm exo_tup)
    · exact fun b o v q => eq2 b _ q (Ne.symm exo_frz)
    · exact fun b ps q => ⟨#[], by rw [eq2 b _ q (Ne.symm exo_tbl)]; simp⟩
  refine h dx _ hdx ne (I.un (t' := t2) U fun b o q => ?_)
  by_cases za : b = a
  · subst za
    obtain rfl := Option.some.inj ((upd_same).symm.trans q)
    exact exo_ok at2
  · rw [upd_ne za] at q
    by_cases zd : b = dx
    · subst zd
      obtain rfl := Option.some.inj ((upd_same).symm.trans q)
      exact exd_ok ns (relO_put (fs := []) ry fun _ => trivial)
    · rw [upd_ne zd] at q
      refine (I.hok b o q).stay (fun c v hc z => kp c v ?_ z) (fun c hc => eq2 c _ hc (Ne.symm exo_own)) (fun c xs hc => eq2 c _ hc (Ne.symm exo_tup))
      rcases hc with hc | hc
      · exact hc ▸ za
      · exact at_ne e hc exo_own
def tSetF (a C : Addr) (f : Str) (te : TE) : TS := fun D σ H => te σ H fun y H1 => H1 a = some (exo a C none) ∧ σ[0]? = some (some (.ref a)) ∧ ∀ dx, H1 dx = none → dx ≠ a → D.nx σ (upd (upd H1 dx (exd dx [(f, y)])) a (exo a C (some dx)))
end
/-- __init__ of an error that keeps what it is made with under the name f -/
def SpXI (C : Addr) (f : Str) : Sp := fun vs H Q _ => ∃ (a : Addr) (y : V), vs = [.ref a, y] ∧ H a = some (exo a C none) ∧
  ∀ d, H d = none → d ≠ a → Q .non (upd (upd H d (exd d [(f, y)])) a (exo a C (some d)))
section
variable {X : Cx} {C : Addr} {f : Str} {bmB : List Value} {B newId initId : String} {o e : Expr} {to te : TE} {p' pos : Pos}
def tOsG (C : Addr) (f : Str) (to te : TE) : TS := fun D σ H => te σ H fun y H1 => to σ H1 fun x H2 => ∃ a : Addr, x = .ref a ∧ H2 a = some (exo a C none) ∧ ∀ dx, H2 dx = none → dx ≠ a → D.nx σ (upd (upd H2 dx (exd dx [(f, y)])) a (exo a C (some dx)))
theorem ps_osG (SF : StoreFacts B bmB "object.__setattr__" "object") (T : OexG X.K C bmB newId) (ht : PySem.W.takerIn X.K C f = some none) (ho : PE X o to) (he : PE X e te) (hs : swapsWith e (some (.Attribute o f p')) pos.line X.env = pure false := by rfl) :
    PS X (.Assign [.Attribute o f p'] e pos) (tOsG C f to te) := by
  refine ⟨fun pins s σ H D I h => plainObj_wpAny_Assign_Attribute (thn (he.run pins s σ H _ I h) ?_) hs⟩
  rintro v s1 ⟨y, H1, I1, r1, q1⟩
  refine thn (ho.run pins s1 σ H1 _ I1 q1) ?_
  rintro u s2 ⟨x, H2, I2, r2, a, rfl, ea, q⟩
  cases r2
  exact set_first SF T I2 ea ht r1 fun dx s' n ne J => ⟨σ, _, J, q dx n ne⟩
end
/-- what C(v) makes: a new error at a, its dict at d -/
def tMkV (C : Addr) (f : Str) (ta : TA) : TE := fun σ H Q => ta σ H fun vs H1 => ∃ v, vs = [v] ∧ ∀ a d H', H1 a = none → H1 d = none → Same H1 H' → H' a = some (exo a C (some d)) → H' d = some (exd d [(f, v)]) → Q (.ref a) H'
/-- what is known of the class x, which keeps one thing under f -/
structure XAt (K : PySem.W.Frag) (mg : Str → Option Value) (x : Str) (C : Addr) (f : Str) (bmB : List Value) (newId : String) (fI : Addr) (fd : FuncData) : Prop where
  T : OexG K C bmB newId
  g : mg x = some (.ref C)
  ini : PySem.W.findIn K (.ref C) "__init__" = some (some (.ref fI))
  ty : PySem.W.typeIn K (.ref fI) = some (.type "function")
  b : Binds K fd ["self", f] []
  kb : KBn K fd ["self", f] 1 [f] (fun us ws => us ++ ws) (fun vs zs => vs ++ zs)
/-- what __init__ has made of the new error at a -/
def MadeOf (H : Hp) (C : Addr) (f : Str) (v : V) (a : Addr) (H' : Hp) : Prop := ∃ d, H d = none ∧ Same H H' ∧ H' a = some (exo a C (some d)) ∧ H' d = some (exd d [(f, v)])
section
variable {X : Cx} {C fI : Addr} {f : Str} {bmB : List Value} {B newId initId : String} {e : Expr} {te : TE} {fd : FuncData} {p pos kp : Pos} {x : Str} {pins : List (Addr × Obj)} {σ : L2.St} {H : Hp} {s : Shared} {u : Value} {v : V} {Q : VK}
/-- the making, whatever way v comes in: what __init__ leaves is the error -/
theorem made_end {A : Around} {args : Args} (F : FnOk X.prog X.w X.K X.mg X.base CX0 1 fI fd ["self", f] (SpXI C f)) (hr : Room 1 A) {h2 : Heap} {g : Array GenState} {dr : Drawn} {tk : Nat} {os : OsState} {a : Addr} (hn : H a = none)
    (e0 : Env0 X.prog X.w X.K X.mg X.base A X.stack ⟨h2, g, dr, tk, os⟩ (upd H a (exo a C none))) (I2 : L2.Inv X pins σ (upd H a (exo a C none)) ⟨h2, g, dr, tk, os⟩) (hb : BindsTo ⟨h2, g, dr, tk, os⟩ fd args [("self", .ref a), (f, u)]) (r : RelV v u)
    (k : ∀ d H', H d = none → Same H H' → H' a = some (exo a C (some d)) → H' d = some (exd d [(f, v)]) → Q (.ref a) H') :
    codeAny (model X.prog X.w) A (.call (.ref fI) args) (fun r s' => match r with | .ok (.ret z) => z = .none ∧ EP X pins σ Q (.ref a) s' | _ => False) ⟨h2, g, dr, tk, os⟩ := by
  refine codeAny_mono (F.run A X.stack ⟨h2, g, dr, tk, os⟩ (upd H a (exo a C none)) args [.ref a, u] [.ref a, v] (fun z H3 => z = .non ∧ MadeOf H C f v a H3) (fun _ _ _ => False) hr e0 hb (.cons rfl (.cons r .nil)) ⟨a, v, rfl, upd_same, fun d hd hne => ⟨rfl, d, ?_, fun b o q => ?_, upd_same, ?_⟩⟩) fun rr s' hq => ?_
  · rw [upd_ne hne] at hd
    exact hd
  · rw [upd_ne hne] at hd
    rw [upd_ne (ne_of_none q hn), upd_ne (ne_of_none q hd), upd_ne (ne_of_none q hn)]
    exact q
  · rw [upd_ne hne, upd_same]
  · cases rr with
    | error z => exact False.elim hq
    | ok fl =>
      cases fl with
      | next => exact False.elim hq
      | brk => exact False.elim hq
      | cont => exact False.elim hq
      | ret z =>
        obtain ⟨y, H3, o3, b3, u3, k3, rz, ez, d, hd, sm, h1, h2'⟩ := hq
        subst ez
        refine ⟨rz, .ref a, H3, I2.call' (ch := []) o3 u3 k3 b3 (fun b hb => (List.not_mem_nil hb).elim), rfl, k d H3 hd sm h1 h2'⟩
theorem run_pos (FB : ExcBaseFacts B newId initId bmB) (D : XAt X.K X.mg x C f bmB newId fI fd) (F : FnOk X.prog X.w X.K X.mg X.base CX0 1 fI fd ["self", f] (SpXI C f)) (hr : Room 2 X.A) (I : L2.Inv X pins σ H s) (r : RelV v u)
    (k : ∀ a d H', H a = none → H d = none → Same H H' → H' a = some (exo a C (some d)) → H' d = some (exd d [(f, v)]) → Q (.ref a) H') : wpAny (model X.prog X.w) X.A (call (.ref C) [u]) (EP X pins σ Q) X.xe s := by
  have KI := I.kIn
  obtain ⟨nm, N', qn, bs, bm, hdct, sn, sub, ab, col, dd, k0, k1, k2, k3, k5, hC, hT⟩ := PySem.W.excInit_of KI D.T.ini
  obtain ⟨hp, g, dr, tk, os⟩ := s
  have ge : hp.objs.size ≤ hp.objs.size + 1 := Nat.le_succ _
  have hn : H (hp.objs.size + 1) = none := I.hok.fresh ge
  have at2 : ((hp.push (PySem.W.kdv_tup [u])).push (HandSPX.excO C hp.objs.size)).get? (hp.objs.size + 1) = some (HandSPX.excO C hp.objs.size) := by heap_get
  have I2 := I.laid (t' := tk) (a := hp.objs.size + 1) (o := exo (hp.objs.size + 1) C none) (h' := (hp.push (PySem.W.kdv_tup [u])).push (HandSPX.excO C hp.objs.size)) (fun b o q => Heap.get?_push_of_some _ (Heap.get?_push_of_some _ q)) ge (exo_ok at2)
  refine wpAny_call (HandSPX.call_own FB hT hC (PySem.W.looks_findIn KI D.ini) (fun self => PySem.W.bind_fn KI self D.ty) (by show 1 ≤ sizeLine; decide) (codeAny_mono (made_end F (hr.make C [u] []) hn (I2.env0.make C [u] []) I2
    (D.b _ [.ref (hp.objs.size + 1), u] I2.kIn rfl) r fun d H' => k _ d H' hn) fun rr s' hq => ?_))
  rcases rr with z | (z | _ | _ | _) <;> first | exact hq | exact False.elim hq
theorem run_kw (FB : ExcBaseFacts B newId initId bmB) (D : XAt X.K X.mg x C f bmB newId fI fd) (F : FnOk X.prog X.w X.K X.mg X.base CX0 1 fI fd ["self", f] (SpXI C f)) (hr : Room 2 X.A) (I : L2.Inv X pins σ H s) (r : RelV v u)
    (k : ∀ a d H', H a = none → H d = none → Same H H' → H' a = some (exo a C (some d)) → H' d = some (exd d [(f, v)]) → Q (.ref a) H') : codeAny (model X.prog X.w) X.A (.call (.ref C) ⟨[], [(f, u)]⟩) (fun r s' => match r with | .ok (.ret z) => EP X pins σ Q z s' | _ => False) s := by
  have KI := I.kIn
  obtain ⟨nm, N', qn, bs, bm, hdct, sn, sub, ab, col, dd, k0, k1, k2, k3, k5, hC, hT⟩ := PySem.W.excInit_of KI D.T.ini
  obtain ⟨hp, g, dr, tk, os⟩ := s
  have ge : hp.objs.size ≤ hp.objs.size + 1 := Nat.le_succ _
  have hn : H (hp.objs.size + 1) = none := I.hok.fresh ge
  have at2 : ((hp.push { cls := .type "tuple", data := .seq #[] }).push (CsLow.rawX C hp.objs.size none)).get? (hp.objs.size + 1) = some (CsLow.rawX C hp.objs.size none) := by heap_get
  have I2 := I.laid (t' := tk) (a := hp.objs.size + 1) (o := exo (hp.objs.size + 1) C none) (h' := (hp.push { cls := .type "tuple", data := .seq #[] }).push (CsLow.rawX C hp.objs.size none)) (fun b o q => Heap.get?_push_of_some _ (Heap.get?_push_of_some _ q)) ge (exo_ok at2)
  refine CsLow.call_kw FB hT hC (PySem.W.looks_findIn KI D.ini) (fun self => PySem.W.bind_fn KI self D.ty) (codeAny_mono (made_end F (hr.make C [] [(f, u)]) hn (I2.env0.make C [] [(f, u)]) I2
    (D.kb.to _ [.ref (hp.objs.size + 1)] [u] I2.kIn rfl rfl) r fun d H' => k _ d H' hn) fun rr s' hq => ?_)
  rcases rr with z | (z | _ | _ | _) <;> first | exact hq | exact False.elim hq
/-- C(e), as a value -/
theorem mk_pos (FB : ExcBaseFacts B newId initId bmB) (D : XAt X.K X.mg x C f bmB newId fI fd) (F : FnOk X.prog X.w X.K X.mg X.base CX0 1 fI fd ["self", f] (SpXI C f)) (hr : Room 2 X.A) (hg : Gl X x) (he : PE X e te) (hdb : (x == ("__debug__" : Str)) = false := by rfl)
    (hs : starEach [e] X.env = (false, eval e X.env) :: starEach [] X.env := by rfl) (hpl : ((backTo pos (starEach [] X.env)).any fun x => x.1) = false := by rfl) : PE X (.Call (.Name x p) [e] [] pos) (tMkV C f (tCons te tNil)) := by
  refine ⟨fun pins s σ H Q I h => wpAny_Call_Name_kw (ld_glob I hg D.g (PySem.W.callWith_K I.ok.mod.kin D.T.kC (thn ((pa_cons he pa_nil hs).run pos pins s σ H _ I h) ?_) hs hpl) hdb)⟩
  rintro us s1 ⟨vs, H1, I1, r, v, rfl, k⟩
  refine ⟨I1.kIn, ?_⟩
  obtain ⟨u, rfl, ru⟩ := r.one
  exact run_pos FB D F hr I1 ru k
/-- C(f=e), as a value -/
theorem mk_kw (FB : ExcBaseFacts B newId initId bmB) (D : XAt X.K X.mg x C f bmB newId fI fd) (F : FnOk X.prog X.w X.K X.mg X.base CX0 1 fI fd ["self", f] (SpXI C f)) (hr : Room 2 X.A) (hg : Gl X x) (he : PE X e te) (hdb : (x == ("__debug__" : Str)) = false := by rfl)
    (hall : ((backToKw pos (keywordEach [⟨some f, e, kp⟩] X.env)).all fun x => x.1.isSome) = true := by rfl) (hks : (backToKw pos (keywordEach [⟨some f, e, kp⟩] X.env)).filterMap (fun x => x.1) = [f] := by rfl)
    (hpl : (((backTo pos (starEach [] X.env)).any fun x => x.1) || ((backToKw pos (keywordEach [⟨some f, e, kp⟩] X.env)).any fun x => x.1.isNone)) = false := by rfl) : PE X (.Call (.Name x p) [] [⟨some f, e, kp⟩] pos) (tMkV C f (tCons te tNil)) := by
  refine ⟨fun pins s σ H Q I h => wpAny_Call_Name_kw (ld_glob I hg D.g (PySem.W.callWith_KW0 (h₀ := X.base) I.ok.mod.kin D.T.kC hall (thn ((pk_cons he pk_nil).run pos pins s σ H _ I h) ?_) hpl) hdb)⟩
  rintro us s1 ⟨vs, H1, I1, r, v, rfl, k⟩
  refine ⟨I1.kIn, ?_⟩
  obtain ⟨u, rfl, ru⟩ := r.one
  rw [hks]
  refine wpAny_call (codeAny_mono (run_kw FB D F hr I1 ru k) fun rr s' hq => ?_)
  rcases rr with z | (z | _ | _ | _) <;> first | exact hq | exact False.elim hq
end
end Cs
set_option maxHeartbeats 4000000
/-! Errors held as values: made with nothing, asked for their class, read. -/
namespace Cs
open PySem L2 PyProof.Rows
open PySem.W (InstAt)
/-- an error of the class C at a; what it keeps is told by fs, if it keeps anything -/
def ErrAt (H : Hp) (a C : Addr) (fs : List (Str × V)) : Prop := (fs = [] ∧ H a = some (exo a C none)) ∨ ∃ d, H a = some (exo a C (some d)) ∧ H d = some (exd d fs)
theorem ErrAt.keep {H H' : Hp} {a C : Addr} {fs : List (Str × V)} (h : ErrAt H a C fs) (s : Same H H') : ErrAt H' a C fs := by
  rcases h with ⟨e, h⟩ | ⟨d, h1, h2⟩
  · exact .inl ⟨e, s _ _ h⟩
  · exact .inr ⟨d, s _ _ h1, s _ _ h2⟩
section
variable {X : Cx} {C : Addr} {bmB : List Value} {B newId initId : String} {p pos : Pos} {x : Str}
def tMk0 (C : Addr) : TE := fun _ H Q => ∀ a H', H a = none → Same H H' → H' a = some (exo a C none) → Q (.ref a) H'
/-- C(), no __init__ of its own -/
theorem mk_none (FB : ExcBaseFacts B newId initId bmB) (q : PySem.W.excIn X.K C bmB newId = true) (g : X.mg x = some (.ref C)) (kC : PySem.W.keepIn X.K (.ref C) = true) (hg : Gl X x) (hdb : (x == ("__debug__" : Str)) = false := by rfl) : PE X (.Call (.Name x p) [] [] pos) (tMk0 C) := by
  refine ⟨fun pins s σ H Q I h => wpAny_Call_Name_kw (ld_glob I hg g (PySem.W.callWith_K0 I.kIn kC ?_) hdb)⟩
  obtain ⟨bm, N, nm, qn, bs, hdct, sn, sub, ab, col, dd, k0, k1, k2, k3, k5, mN, hC, hN, hni, T⟩ := exc_obj I.kIn q
  obtain ⟨hp, gg, d, t, os⟩ := s
  refine wpAny_call_exc_subT FB T hC hN hni (fun h' a hm => ?_) (by show 0 ≤ sizeLine; decide)
  have hn : H a = none := I.hok.gone hm.new
  obtain ⟨t2, ht, _, _⟩ := hm.there
  exact ⟨.ref a, upd H a (exo a C none), I.laidN hm.keeps hm.new hn (exo_ok ht), rfl, h a _ hn (same_new hn) upd_same⟩
/-- an error, as an instance -/
theorem ErrAt.inst {pins : List (Addr × Obj)} {σ : L2.St} {H : Hp} {s : Shared} {a : Addr} {fs : List (Str × V)} (h : ErrAt H a C fs) (I : L2.Inv X pins σ H s) : ∃ ox, InstAt s.heap a ox C none ∨ ∃ od, InstAt s.heap a ox C (some od) ∧ ∀ f v, fs.lookup f = some v → ∃ u, PySem.W.lookIn f od = some (some u) ∧ RelV v u := by
  rcases h with ⟨e, h⟩ | ⟨d, h1, h2⟩
  · obtain ⟨t, ho⟩ := exo_at I.hok h
    exact ⟨_, .inl ⟨ho, rfl, rfl, trivial⟩⟩
  · obtain ⟨t, ho⟩ := exo_at I.hok h1
    obtain ⟨mA, hns, rel⟩ := exd_at I.hok h2
    obtain ⟨od, hod, hl⟩ := lookIn_ns hns
    refine ⟨_, .inr ⟨od, ⟨ho, rfl, rfl, hod⟩, fun f v hf => ?_⟩⟩
    have r := rel f
    rw [hf] at r
    obtain ⟨u, e, ru⟩ := RelO.some_of r
    exact ⟨u, by rw [hl f, e], ru⟩
def rIsV (K : PySem.W.Frag) : List V → Hp → VK → Prop := fun xs H Q => ∃ (a C : Addr) (fs : List (Str × V)) (c : V) (cv : Value) (b : Bool), xs = [.ref a, c] ∧ ClsV c cv ∧ ErrAt H a C fs ∧ ExcC K C ∧ PySem.W.kitOne K (.ref C) cv = some b ∧ Q (.bl b) H
/-- isinstance of an error -/
theorem call_isV : CallR X (.builtin "isinstance") (rIsV X.K) := by
  rintro pins s σ H xs us Q I r ⟨a, C, fs, c, cv, b, rfl, hc, he, T, e, q⟩
  obtain ⟨u1, u2, rfl, r1, r2⟩ := vals2 r
  obtain rfl := hc.eq r2
  cases r1
  obtain ⟨ox, i | ⟨od, i, _⟩⟩ := he.inst I
  · exact PySem.W.kia_one (PySem.W.handS_kitx_exc T.hg T.hk T.hs T.hd T.ha T.hn T.ht T.hm) I.kIn i e (by intro z; cases z) fun tk => ⟨.bl b, H, I.tok tk, rfl, q⟩
  · exact PySem.W.kia_one (cs_kitx T) I.kIn i e (by intro z; cases z) fun tk => ⟨.bl b, H, I.tok tk, rfl, q⟩
def tFldV (K : PySem.W.Frag) (f : Str) (te : TE) : TE := fun σ H Q => te σ H fun x H1 => ∃ (a C d : Addr) (fs : List (Str × V)) (v : V), x = .ref a ∧ H1 a = some (exo a C (some d)) ∧ H1 d = some (exd d fs) ∧ XfC K C ∧ PySem.W.findIn K (.ref C) f = some none ∧ fs.lookup f = some v ∧ Q v H1
/-- e.f of an error -/
theorem pe_fldV {e : Expr} {te : TE} {n : Str} (he : PE X e te) (hb : attributeBase e n X.env (eval e X.env) = eval e X.env := by rfl) : PE X (.Attribute e n pos) (tFldV X.K n te) := by
  refine ⟨fun pins s σ H Q I h => attr_of hb (thn (he.run pins s σ H _ I h) ?_)⟩
  rintro u s1 ⟨x, H1, I1, rx, a, C, d, fs, v, rfl, h1, h2, T, hno, hf, q⟩
  cases rx
  obtain ⟨t, ho⟩ := exo_at I1.hok h1
  obtain ⟨mA, hns, rel⟩ := exd_at I1.hok h2
  obtain ⟨od, hod, hl⟩ := lookIn_ns hns
  have r := rel n
  rw [hf] at r
  obtain ⟨w2, e2, ru⟩ := RelO.some_of r
  exact PySem.HandSPX.exc_get I1.kIn (ox := rawX C t (some d)) ⟨ho, rfl, rfl, hod⟩ T.ga T.gg T.exC (PySem.W.findObj_own T.hdC hno rfl (by rw [hl n, e2])) (handed_of ru) ⟨v, H1, I1.tok _, ru, q⟩
end
/-- __init__ of an error that keeps one thing under the name f -/
theorem ok_xi {P : Program} {w : World} {K : PySem.W.Frag} {mg : Str → Option Value} {base : Heap} {C fI : Addr} {fd : FuncData} {q f : Str} {pr : Arguments} {sc : Scope} {p1 p2 p3 p4 : Pos} {bmB : List Value} {B newId : String} (SF : StoreFacts B bmB "object.__setattr__" "object") (T : OexG K C bmB newId)
    (ht : PySem.W.takerIn K C f = some none) (S : FnScope ["self", f] ["self", f] sc) (hv : Vis sc "self") (hv2 : Vis sc f) (d1 : (f == ("__debug__" : Str)) = false) (d2 : (f == ("__classdict__" : Str)) = false)
    (F : FunD K "__init__" q pr [.Assign [.Attribute (.Name "self" p1) f p2] (.Name f p3) p4] sc [] [] fI fd) : FnOk P w K mg base CX0 1 fI fd ["self", f] (SpXI C f) := by
  refine F.ok S (fun vs H Q E h => by obtain ⟨a, y, rfl, _⟩ := h; rfl) fun cdv A outer s H vs Q E hr h => ?_
  obtain ⟨a, y, rfl, ha, k⟩ := h
  refine ⟨_, PSs.nox (pss_one (ps_osG SF T ht (pe_var (i := 0) rfl hv) (pe_var (i := 1) rfl hv2 d1 d2))), ?_⟩
  exact ⟨_, rfl, _, rfl, a, rfl, ha, fun dx h1 h2 => k dx h1 h2⟩
end Cs
set_option maxHeartbeats 4000000
/-! repr of data, where nothing is being shown just now. -/
namespace Cs
open PySem L2 PyProof.Rows
mutual
/-- no list stands in it -/
def noL : PyData → Bool
  | .list _ => false
  | .tuple ds => noLs ds
  | _ => true
def noLs : List PyData → Bool
  | [] => true
  | d :: ds => noL d && noLs ds
end
section
variable {X : Cx} {pins : List (Addr × Obj)} {σ : L2.St} {H : Hp} {s : Shared} {p : Addr}
mutual
theorem Rp.readsA (I : L2.Inv X pins σ H s) : ∀ {v : V} {d : PyData}, Rp p H v d → ∀ u, RelV v u → ∃ as, Reads s.heap u d as ∧ (noL d = true → sysModules ∉ as)
  | _, _, .non, u, r => by
    obtain rfl : u = .none := r
    exact ⟨_, .none, fun _ => List.not_mem_nil⟩
  | _, _, .bl b, u, r => by
    obtain rfl : u = .bool b := r
    exact ⟨_, .bool b, fun _ => List.not_mem_nil⟩
  | _, _, .int i, u, r => by
    obtain ⟨t, rfl⟩ := r
    exact ⟨_, .int i t, fun _ => List.not_mem_nil⟩
  | _, _, .str x _, u, r => by
    obtain ⟨t, rfl⟩ := r
    exact ⟨_, .str x t, fun _ => List.not_mem_nil⟩
  | _, _, .lst _ h z ra, u, r => by
    obtain rfl := r
    obtain ⟨its, rv, ⟨o, n, ho, hc, _, hd⟩, _⟩ := I.list (SqL.of h)
    obtain ⟨as, hr, _⟩ := RpA.readsA I ra its rv
    exact ⟨_, .list ho hc hd hr, fun h => by simp [noL] at h⟩
  | _, _, .tup _ h z ra, u, r => by
    obtain rfl := r
    obtain ⟨its, rv, ⟨o, ho, hc, n, hd⟩, _⟩ := I.tuple (SqT.rd h)
    obtain ⟨as, hr, k⟩ := RpA.readsA I ra its rv
    exact ⟨_, .tuple ho hc hd hr, fun h2 => k (by simpa [noL] using h2)⟩
  | _, _, .dct _ h, u, r => by
    obtain rfl := r
    obtain ⟨_, ns, vs, kv, o, es, ep, ho, ex, hd, he1, he2⟩ := I.hok _ _ h
    cases kv
    have e0 : es = #[] := Array.toList_inj.mp (List.eq_nil_of_length_eq_zero he2.1.length)
    subst e0
    refine ⟨_, .dict (kvs := []) ho ex.1 hd .nil .nil, fun _ hm => ?_⟩
    have e2 := List.mem_singleton.mp hm
    rw [← e2] at ns
    simp at ns
theorem RpA.readsA (I : L2.Inv X pins σ H s) : ∀ {vs : List V} {ds : List PyData}, RpA p H vs ds → ∀ us, Vals vs us → ∃ as, ReadsAll s.heap us ds as ∧ (noLs ds = true → sysModules ∉ as)
  | _, _, .nil, _, .nil => ⟨_, .nil, fun _ => List.not_mem_nil⟩
  | _, _, .cons h t, _, .cons r rr => by
    obtain ⟨as, h1, k1⟩ := Rp.readsA I h _ r
    obtain ⟨bs, h2, k2⟩ := RpA.readsA I t _ rr
    refine ⟨_, .cons h1 h2, fun hn hm => ?_⟩
    have hn : (noL _ && noLs _) = true := hn
    rw [Bool.and_eq_true] at hn
    exact (List.mem_append.mp hm).elim (k1 hn.1) (k2 hn.2)
end
end
/-- what may be shown: lists and dicts do not stand in one another, but a list at the top -/
def topSafe : PyData → Bool
  | .list ds => !PyData.hasDictAll ds || noLs ds
  | d => !d.hasDict || noL d
section
variable {prog : Program} {w : World} {A : Around} {E : Value → Shared → Prop} {s : Shared} {Q : Value → Shared → Prop} {a : Addr} {as : List Addr}
/-- a list at the top is shown -/
theorem show_list {ds : List PyData} {o : Obj} {vs : Array Value} {n : Nat} {as1 : List Addr} (ho : s.heap.get? a = some o) (hc : o.cls = .type "list") (hdt : o.data = .seq vs n) (hr : ReadsAll s.heap vs.toList ds as1) (in_ : PyData.hasDictAll ds = true → sysModules ∉ as1) (ok : PyData.showableAll ds = true) (hg : A.guards = some []) (hu : A.units + 64 < cLine) (hd : (PyData.list ds).depth ≤ 60)
    (hz : (PyData.list ds).shown.length ≤ sizeLine) (k : ∀ h' u tk, (∀ b o, s.heap.get? b = some o → h'.get? b = some o) → Q (.str (PyData.list ds).shown u) { s with heap := h', toks := tk }) :
    wpAny (model prog w) A (call (.builtin "repr") [.ref a]) Q E s := by
  have r0 : Reads s.heap (.ref a) (.list ds) (a :: as1) := .list ho hc hdt hr
  have hz2 : (listText (PyData.shownAll ds)).length ≤ sizeLine := by simpa only [PyData.shown] using hz
  simp only [PyData.depth] at hd
  simp only [PyData.shown] at k
  obtain ⟨bs, hb, hk⟩ := ReprAllK.of_readsAll (prog := prog) (w := w) hr ok (fun hx hm => in_ hx hm) (fun t ht => Nat.le_trans (listText_mem_le ht) hz2)
  have na : a ∉ bs := not_mem_of_deeper r0 (by simp only [PyData.depth]; omega) hb
  have ty : ∀ t : Shared, (∀ b o, s.heap.get? b = some o → t.heap.get? b = some o) → t.TypeIs (.ref a) "list" := fun t kt => ⟨o, kt _ _ ho, hc⟩
  refine call_repr_slot (by omega) (ty s fun _ _ e => e) F.slot_list_repr.toG ?_
  obtain ⟨l⟩ := vs
  cases l with
  | nil =>
    have hr2 : ReadsAll s.heap [] ds as1 := hr
    cases hr2
    simp only [PyData.shownAll, listText_nil] at k
    exact call_list_repr_empty (ty s fun _ _ e => e) ho hdt ⟨_, _, rfl, k s.heap _ _ fun _ _ e => e⟩
  | cons y l =>
    exact call_list_reprK ho hc hdt na (by simpa using hk.length_eq) (fun i y e => hk.item i y (by simpa using e)) (A := A.in1) hg (fun b _ => Clear.nil b) (by show A.units + 1 + _ < cLine; omega) (fun _ _ e => e) (fun h' u tk kp => ⟨_, _, rfl, k h' u tk kp⟩) hz2
end
def tReprD : List V → Hp → VK → Prop := fun xs H Q => ∃ (p : Addr) (v : V) (d : PyData), xs = [v] ∧ Rp p H v d ∧ d.showable = true ∧ topSafe d = true ∧ d.depth ≤ 60 ∧ d.shown.length ≤ sizeLine ∧ Q (.str d.shown) H
theorem callReprD {X : Cx} (hG : X.A.guards = some []) (hu : X.A.units + 64 < cLine) : CallR X (.builtin "repr") tReprD := by
  rintro pins s σ H xs us Q I r ⟨p, v, d, rfl, rp, ok, top, dep, sz, q⟩
  obtain ⟨u, rfl, ru⟩ := r.one
  have fin : ∀ h' t tk, (∀ b o, s.heap.get? b = some o → h'.get? b = some o) → EP X pins σ Q (.str d.shown t) { s with heap := h', toks := tk } := fun h' t tk kp => ⟨.str d.shown, H, I.kept (t' := tk) kp, ⟨_, rfl⟩, q⟩
  obtain ⟨as, hr, hs⟩ := Rp.readsA I rp u ru
  cases rp with
  | non => cases hr; exact PySem.P.repr_of_none (fin _ _ _ fun _ _ e => e)
  | bl b => cases hr; exact PySem.P.repr_of_bool (by
      have z := fin s.heap s.toks (s.toks + 1) fun _ _ e => e
      simp only [PyData.shown] at z
      cases b <;> exact z)
  | int i => cases hr; exact PySem.P.repr_of_int (by simpa [PyData.showable] using ok) (fin _ _ _ fun _ _ e => e)
  | str x z => cases hr; exact PySem.P.repr_of_str (fin _ _ _ fun _ _ e => e) sz
  | @lst a vs ds n h z ra =>
    obtain rfl := ru
    obtain ⟨its, rv, ⟨o, m, ho, hc, _, hdt⟩, _⟩ := I.list (SqL.of h)
    obtain ⟨bs, hr2, hs2⟩ := RpA.readsA I ra its rv
    exact show_list ho hc hdt hr2 (fun hx => hs2 (by simpa [topSafe, hx] using top)) (by simpa [PyData.showable] using ok) hG hu dep sz fin
  | tup n h z ra =>
    obtain rfl := ru
    exact repr_of_reads' hr ok (fun hx => hs (by simpa [topSafe, hx] using top)) hG (by omega) (fun _ _ e => e) fin sz
  | dct n h =>
    obtain rfl := ru
    exact repr_of_reads' hr ok (fun hx => hs rfl) hG (by simp [PyData.depth, PyData.depthKv] at dep ⊢; omega) (fun _ _ e => e) fin sz
end Cs
set_option maxHeartbeats 4000000
/-! Rules of my own: len, str, == of an own object; a raise of an own error over any built-in base. -/
namespace Cs
open PySem L2 PyProof.Rows
section
variable {X : Cx} {CX : CXT} {k : Nat} {g C : Addr} {fd : FuncData} {ps : List Str} {sp : Sp} {E : XK}
/-- a def of the text, called from within a builtin that the body runs -/
theorem run_at {A' : Around} {pins : List (Addr × Obj)} {σ : L2.St} {H : Hp} {s : Shared} {us : List Value} {vs : List V} {Q : VK} (sb : Sub X k A') (F : FnOk X.prog X.w X.K X.mg X.base CX k g fd ps sp) (hb : Binds X.K fd ps []) (hx : Passes CX X E) (I : L2.Inv X pins σ H s) (r : Vals vs us) (h : sp vs H Q E) :
    wpAny (model X.prog X.w) A' (call (.ref g) us) (EP X pins σ Q) X.xe s := by
  have e0 : Env0 X.prog X.w X.K X.mg X.base A' X.stack s H := by
    have e := I.env0
    exact ⟨by rw [sb.fr]; exact e.frames, e.mod, e.bs, e.bsz, e.funs, e.frf, e.hok, e.bare⟩
  have hl2 : us.length = ps.length := by rw [← r.length]; exact F.len _ _ _ _ h
  refine wpAny_call (codeAny_mono (F.run A' X.stack s H ⟨us, []⟩ us vs Q E sb.room e0 (by
    have z := hb s us I.kIn (by rw [List.append_nil]; exact hl2)
    rw [List.append_nil] at z
    exact z) r h) fun rr s' hq => ?_)
  cases rr with
  | error e => exact hx pins σ H s e s' I hq
  | ok fl =>
    cases fl with
    | ret w => exact I.after hq
    | next => exact False.elim hq
    | brk => exact False.elim hq
    | cont => exact False.elim hq
def rLenI (C : Addr) (sp : Sp) (E : XK) : List V → Hp → VK → Prop := fun xs H Q => ∃ (a dx : Addr) (fs : List (Str × V)), xs = [.ref a] ∧ H a = some (.ins C dx fs) ∧ sp [.ref a] H (fun v H' => ∃ n : Nat, v = .int (n : Nat) ∧ n < 1000000 ∧ Q (.int (n : Nat)) H') E
theorem call_lenI (F : FnOk X.prog X.w X.K X.mg X.base CX k g fd ps sp) (hr : Room (k + 1) X.A) (hb : Binds X.K fd ps []) (hx : Passes CX X E) (hs : PySem.W.findIn X.K (.ref C) "__len__" = some (some (.ref g))) (hf : PySem.W.isFn X.K (.ref g) = true) :
    CallR X (.builtin "len") (rLenI C sp E) := by
  rintro pins s σ H xs us Q I r ⟨a, dx, fs, rfl, ha, q⟩
  obtain ⟨u, rfl, ru⟩ := r.one
  cases ru
  obtain ⟨mA, J, _⟩ := ins_get I.hok ha
  obtain ⟨od, J, _⟩ := J.look
  obtain ⟨m, hF⟩ := I.fr
  refine PySem.W.len_K hF I.ok.mod.kin J hs hf (wpAny_mono (run_at (vs := [.ref a]) (Sub.in1 ⟨hr, rfl⟩) F hb hx I (.cons rfl .nil) q) (fun v s' hv => ?_) fun _ _ e => e)
  obtain ⟨x, H', I', rx, n, rfl, hn, q'⟩ := hv
  obtain ⟨t, rfl⟩ := rx
  exact ⟨⟨by omega, by omega⟩, .int (n : Nat), H', I'.tok _, ⟨_, rfl⟩, q'⟩
def rStrI (C : Addr) (sp : Sp) (E : XK) : List V → Hp → VK → Prop := fun xs H Q => ∃ (a dx : Addr) (fs : List (Str × V)), xs = [.ref a] ∧ H a = some (.ins C dx fs) ∧ sp [.ref a] H (fun v H' => ∃ y : Str, v = .str y ∧ Q (.str y) H') E
theorem call_strI (F : FnOk X.prog X.w X.K X.mg X.base CX k g fd ps sp) (hr : Room (k + 2) X.A) (hb : Binds X.K fd ps []) (hx : Passes CX X E) (hs : PySem.W.findIn X.K (.ref C) "__str__" = some (some (.ref g))) (hf : PySem.W.isFn X.K (.ref g) = true) :
    CallR X (.type "str") (rStrI C sp E) := by
  rintro pins s σ H xs us Q I r ⟨a, dx, fs, rfl, ha, q⟩
  obtain ⟨u, rfl, ru⟩ := r.one
  cases ru
  obtain ⟨mA, J, _⟩ := ins_get I.hok ha
  obtain ⟨od, J, _⟩ := J.look
  have sb : Sub X k X.A.in1.in1 := Sub.in1 (Sub.in1 ⟨hr, rfl⟩)
  refine PySem.W.kso_call sb.room.units0 I.kIn J hs hf (wpAny_mono (run_at (vs := [.ref a]) sb F hb hx I (.cons rfl .nil) q) (fun v s' hv => ?_) fun _ _ e => e)
  obtain ⟨x, H', I', rx, y, rfl, q'⟩ := hv
  obtain ⟨t, rfl⟩ := rx
  exact ⟨.str y, H', I', ⟨_, rfl⟩, q'⟩
/-- two objects of the class C, compared by its own == -/
def rEqI (C : Addr) (sp : Sp) (E : XK) : R2 := fun x y H Q => ∃ (a b dx dy : Addr) (fs gs : List (Str × V)), x = .ref a ∧ y = .ref b ∧ H a = some (.ins C dx fs) ∧ H b = some (.ins C dy gs) ∧ sp [.ref a, .ref b] H (fun v H' => ∃ z : Bool, v = .bl z ∧ Q (.bl z) H') E
theorem op_eqI (F : FnOk X.prog X.w X.K X.mg X.base CX k g fd ps sp) (hr : Room k X.A) (hb : Binds X.K fd ps []) (hx : Passes CX X E) (hs : PySem.W.findIn X.K (.ref C) "__eq__" = some (some (.ref g))) (hf : PySem.W.isFn X.K (.ref g) = true) :
    OpR X (compareOp .Eq) (rEqI C sp E) := by
  rintro pins s σ H x y v u Q I rx ry ⟨a, b, dx, dy, fs, gs, rfl, rfl, ha, hb', q⟩
  cases rx
  cases ry
  obtain ⟨mA, J, _⟩ := ins_get I.hok ha
  obtain ⟨mB, J', _⟩ := ins_get I.hok hb'
  obtain ⟨od, J, _⟩ := J.look
  obtain ⟨od', J', _⟩ := J'.look
  obtain ⟨m, hF⟩ := I.fr
  show wpAny (model X.prog X.w) X.A (richCompare .Eq (.ref a) (.ref b)) (EP X pins σ Q) X.xe s
  refine PySem.W.cmp_K (op := .Eq) (tb := .ref C) hr.units0 hF I.ok.mod.kin J J'.type (by simp [PySem.W.notFirst]) hs hf (wpAny_mono (run_at (vs := [.ref a, .ref b]) ⟨hr, rfl⟩ F hb hx I (.cons rfl (.cons rfl .nil)) q) (fun v s' hv => ?_) fun _ _ e => e)
  obtain ⟨x, H', I', rx, z, rfl, q'⟩ := hv
  cases rx
  exact ⟨.bl z, H', I', rfl, q'⟩
end
section
variable {X : Cx} {x : Str} {C fI : Addr} {k : Nat} {fd : FuncData} {ps : List Str} {sp : Sp} {e : Expr} {es : List Expr} {ta : TA} {p pos : Pos} {B newId initId : String} {bmB : List Value}
/-- C(e, ..) of an own error over any built-in base, to be raised -/
theorem pmk_oexG {CX : CXT} {ds : List Value} {dvs : List V} (FB : ExcBaseFacts B newId initId bmB) (T : OexG X.K C bmB newId) (exC : PySem.W.subIn X.K (.ref C) (.type "BaseException") = some true) (tyC : PySem.W.typeIn X.K (.ref C) = some (.type "type"))
    (iC : PySem.W.findIn X.K (.ref C) "__init__" = some (some (.ref fI))) (tI : PySem.W.typeIn X.K (.ref fI) = some (.type "function"))
    (F1 : FnOk X.prog X.w X.K X.mg X.base CX k fI fd ps sp) (hr : Room (k + 1) X.A) (hb : Binds X.K fd ps ds) (hd : Vals dvs ds) (hx : Passes CX X (fun _ _ _ => False)) (hg : Gl X x) (hm : X.mg x = some (.ref C)) (ha : PA X (e :: es) ta)
    (hdb : (x == ("__debug__" : Str)) = false) (he : starEach (e :: es) X.env = (false, eval e X.env) :: starEach es X.env) (hpl : ((backTo pos (starEach es X.env)).any fun x => x.1) = false) :
    PMk X (.Call (.Name x p) (e :: es) [] pos) (tMkO C sp dvs ta) := by
  intro pins s σ H Q I h
  refine wpAny_Call_Name_kw (ld_glob I hg hm ?_ hdb)
  refine PySem.W.callWith_K (h₀ := X.base) I.ok.mod.kin T.kC (thn (ha.run pos pins s σ H _ I h) fun us s1 ⟨vs, H1, I1, r1, hz, q1⟩ => ⟨I1.kIn, ?_⟩) he hpl
  show wpAny _ _ (call (.ref C) us) _ _ _
  obtain ⟨nm, N', qn, bs, bm, hdct, sn, sub, ab, col, dd, k0, k1, k2, k3, k5, hC, hT⟩ := PySem.W.excInit_of I1.kIn T.ini
  obtain ⟨hp, g, dr, tk, os⟩ := s1
  have hsz : hp.objs.size ≤ hp.objs.size + 1 := Nat.le_succ _
  have hn : H1 (hp.objs.size + 1) = none := I1.hok.fresh hsz
  have hq := q1 (hp.objs.size + 1) hn
  have kk : ∀ b o, hp.get? b = some o → ((hp.push (PySem.W.kdv_tup us)).push (PySem.HandSPX.excO C hp.objs.size)).get? b = some o := fun b o e => Heap.get?_push_of_some _ (Heap.get?_push_of_some _ e)
  have hget : ((hp.push (PySem.W.kdv_tup us)).push (PySem.HandSPX.excO C hp.objs.size)).get? (hp.objs.size + 1) = some (PySem.HandSPX.excO C hp.objs.size) := by heap_get
  have I2 : L2.Inv X pins σ (upd H1 (hp.objs.size + 1) (exo (hp.objs.size + 1) C none)) ⟨(hp.push (PySem.W.kdv_tup us)).push (PySem.HandSPX.excO C hp.objs.size), g, dr, tk, os⟩ :=
    I1.laid (t' := tk) (a := hp.objs.size + 1) (o := exo (hp.objs.size + 1) C none) (h' := (hp.push (PySem.W.kdv_tup us)).push (PySem.HandSPX.excO C hp.objs.size)) kk hsz (exo_ok hget)
  have r2 : Vals (V.ref (hp.objs.size + 1) :: (vs ++ dvs)) (Value.ref (hp.objs.size + 1) :: (us ++ ds)) := .cons rfl (r1.append hd)
  have hl : (Value.ref (hp.objs.size + 1) :: us ++ ds).length = ps.length := by
    have e := r2.length
    rw [F1.len _ _ _ _ hq] at e
    exact e.symm
  have hus : us.length ≤ sizeLine := by
    rw [← Paired.length r1, sizeLine_eq]
    omega
  refine wpAny_call (PySem.HandSPX.call_own FB hT hC (PySem.W.looks_findIn I1.kIn iC) (fun self => PySem.W.bind_fn I1.kIn self tI) hus
    (codeAny_mono (F1.run _ X.stack _ _ ⟨Value.ref (hp.objs.size + 1) :: us, []⟩ (Value.ref (hp.objs.size + 1) :: (us ++ ds)) _ _ (fun _ _ _ => False) (hr.make C us []) (I2.env0.make C us []) (hb _ (Value.ref (hp.objs.size + 1) :: us) I2.kIn hl) r2 hq) fun r s' hq' => ?_))
  cases r with
  | error er => exact hx pins σ _ _ er s' I2 hq'
  | ok fl =>
    cases fl with
    | ret u =>
      obtain ⟨v, H2, os2, bare2, un2, hok2, rv, ev, d, fs, ea, ed, hd1, q2⟩ := hq'
      subst ev
      obtain ⟨h2, g2, d2, t2, os'⟩ := s'
      exact ⟨rv, mk_end (raises_own exC tyC) I1 hsz kk un2 hok2 os2 bare2 ea ed hd1 q2⟩
    | next => exact False.elim hq'
    | brk => exact False.elim hq'
    | cont => exact False.elim hq'
end
/-- an error class of the text that can be raised with one argument, kept under f -/
structure RaiseAt (P : Program) (w : World) (K : PySem.W.Frag) (mg : Str → Option Value) (base : Heap) (x : Str) (C : Addr) (f : Str) : Prop where
  ex : ∃ (B newId initId : String) (bmB : List Value) (fI : Addr) (fd : FuncData), ExcBaseFacts B newId initId bmB ∧ XAt K mg x C f bmB newId fI fd ∧ FnOk P w K mg base CX0 1 fI fd ["self", f] (SpXI C f)
  exC : PySem.W.subIn K (.ref C) (.type "BaseException") = some true
  tyC : PySem.W.typeIn K (.ref C) = some (.type "type")
section
variable {X : Cx} {x f : Str} {C : Addr} {e : Expr} {te : TE} {p pos : Pos}
theorem pmk_rx (h : RaiseAt X.prog X.w X.K X.mg X.base x C f) (hr : Room 2 X.A) (hg : Gl X x) (he : PE X e te) (hdb : (x == ("__debug__" : Str)) = false) (hs : starEach [e] X.env = (false, eval e X.env) :: starEach [] X.env) (hpl : ((backTo pos (starEach [] X.env)).any fun x => x.1) = false) :
    PMk X (.Call (.Name x p) [e] [] pos) (tMkO C (SpXI C f) [] (tCons te tNil)) := by
  obtain ⟨B, newId, initId, bmB, fI, fd, FB, D, F⟩ := h.ex
  exact pmk_oexG FB D.T h.exC h.tyC D.ini D.ty F hr D.b .nil pass0 hg D.g (pa_cons he pa_nil hs) hdb hs hpl
/-- behind the argument -/
theorem xmkI {v : V} {H1 : Hp} {Q : XK} (k : ∀ d H', H1 d = none → Same H1 H' → H' d = some (.xd [(f, v)]) → Q (.ref C) (some d) H') :
    [v].length ≤ 1000 ∧ ∀ a, H1 a = none → SpXI C f (.ref a :: ([v] ++ [])) (upd H1 a (exo a C none))
      (fun u H2 => u = .non ∧ ∃ (d : Addr) (fs : List (Str × V)), H2 a = some (exo a C (some d)) ∧ H2 d = some (exd d fs) ∧ H1 d = none ∧ Q (.ref C) (some d) (upd (del H2 a) d (.xd fs))) (fun _ _ _ => False) := by
  refine ⟨(by show 1 ≤ 1000; decide), fun a ha => ⟨a, v, rfl, upd_same, fun d hd hda => ⟨rfl, d, [(f, v)], upd_same, ?_, ?_, k d _ ?_ (fun b o e => ?_) upd_same⟩⟩⟩
  · rw [upd_ne hda, upd_same]
  · rw [upd_ne hda] at hd
    exact hd
  · rw [upd_ne hda] at hd
    exact hd
  · rw [upd_ne hda] at hd
    have nb : b ≠ d := ne_of_none e hd
    have na : b ≠ a := ne_of_none e ha
    rw [upd_ne nb, del_ne na, upd_ne na, upd_ne nb, upd_ne na]
    exact e
end
/-! ### tuples known whole, so that their methods can be called -/
def Fz (H : Hp) (a : Addr) (xs : List V) : Prop := ∃ o : Obj, H a = some (.frz o (.tup xs)) ∧ o.dict = none ∧ o.cls = .type "tuple"
theorem Fz.rd {H : Hp} {a : Addr} {xs : List V} (h : Fz H a xs) : Rd H a (.tup xs) := by
  obtain ⟨o, e, _⟩ := h
  exact .inr ⟨o, e⟩
theorem Fz.keep {H H' : Hp} {a : Addr} {xs : List V} (h : Fz H a xs) (e : ∀ o, H a = some o → H' a = some o) : Fz H' a xs := by
  obtain ⟨o, e1, h1, h2⟩ := h
  exact ⟨o, e _ e1, h1, h2⟩
section
variable {X : Cx} {o e : Expr} {es : List Expr} {to : TE} {t : TA} {name : Str} {apos cpos : Pos} {id : String} {r : V → List V → Hp → VK → Prop}
theorem call_tupF : CallR X (.type "tuple") (fun xs H Q => ∃ p ys, xs = [.ref p] ∧ ((SqL X.K H p ys ∧ ∀ l H', H l = none → Same H H' → Fz H' l ys → Q (.ref l) H') ∨ (SqT X.K H p ys ∧ Q (.ref p) H))) := by
  intro pins s σ H xs us Q I r h
  obtain ⟨p, ys, rfl, h⟩ := h
  obtain ⟨u, rfl, rx⟩ := r.one
  cases rx
  rcases h with ⟨hq, q⟩ | ⟨hq, q⟩
  · obtain ⟨its, r', pl, hz⟩ := I.list hq
    have hlen := r'.length
    refine call_tuple_list pl.isList (fun h' kp => ?_) (by simp only [List.size_toArray] <;> omega)
    have I1 : L2.Inv X pins σ H { s with heap := h' } := I.kept (t' := s.toks) kp
    have I2 : L2.Inv X pins σ (upd H h'.objs.size (.frz { cls := .type "tuple", data := .seq its.toArray } (.tup ys))) { s with heap := h'.push { cls := .type "tuple", data := .seq its.toArray } } :=
      I1.laid (t' := s.toks) (fun b o e => Heap.get?_push_of_some _ e) (Nat.le_refl _) (show ObjOk X.prog X.w _ _ _ (.frz { cls := .type "tuple", data := .seq its.toArray } (.tup ys)) from ⟨Heap.get?_push_size h' rfl, hz, its, r', IsTup.new _ _⟩)
    have hn : H h'.objs.size = none := I1.hok.fresh (Nat.le_refl _)
    exact ⟨.ref h'.objs.size, _, I2, rfl, q _ _ hn (same_new hn) ⟨_, upd_same, rfl, rfl⟩⟩
  · obtain ⟨its, r', pl, hz⟩ := I.tuple hq
    exact call_tuple_same pl ⟨.ref p, H, I, rfl, q⟩
def tTM (r : V → List V → Hp → VK → Prop) (to : TE) (t : TA) : TE := fun σ H Q => to σ H fun x H1 => (∃ a xs, x = .ref a ∧ Fz H1 a xs) ∧ t σ H1 fun xs H2 => r x xs H2 Q
theorem pe_tbm (slot : Slot "tuple" name id) (hty : typeOf (.builtin id) = pure (.type "method_descriptor")) (hm : MtR X id r) (ho : PE X o to) (ha : PA X (e :: es) t)
    (hbase : attributeBase o name X.env (eval o X.env) = eval o X.env := by rfl)
    (hfew : ((backTo cpos (starEach (e :: es) X.env)).all (fun x => !x.1) && (backToKw cpos (keywordEach [] X.env)).all (fun x => x.1.isSome)
      && decide ((e :: es).length + ([] : List Keyword).length + (if ([] : List Keyword).isEmpty then 0 else 1) < 30)) = true := by rfl)
    (hline : (apos.endLine == cpos.line) = true := by rfl) (hs : starEach (e :: es) X.env = (false, eval e X.env) :: starEach es X.env := by rfl) (hplain : ((backTo cpos (starEach es X.env)).any fun x => x.1) = false := by rfl) :
    PE X (.Call (.Attribute o name apos) (e :: es) [] cpos) (tTM r to t) := by
  refine ⟨fun pins s σ H Q I h => ?_⟩
  refine wpAny_Call_method_late hbase hfew hline rfl (thn (ho.run pins s σ H _ I h) fun v s1 ⟨x, H1, I1, r1, ty, q1⟩ => ?_)
  have h12 : s1.TypeIs v "tuple" ∧ ∀ a, v = .ref a → ∃ ob, s1.heap.get? a = some ob ∧ ob.dict = none := by
    obtain ⟨a, xs, rfl, o, e1, h1, h2⟩ := ty
    cases r1
    have g := (show s1.heap.get? a = some o ∧ _ from I1.hok a _ e1).1
    refine ⟨⟨o, g, h2⟩, fun b z => ?_⟩
    cases z
    exact ⟨o, g, h1⟩
  refine ⟨"tuple", id, PySem.F.plainAttrs_tuple, slot, hty, h12.1, h12.2, ?_⟩
  have hA := ha.run cpos pins s1 σ H1 _ I1 q1
  rw [hs] at hA ⊢
  refine Calls.callWith_builtin (by show (false || ((backTo cpos (starEach es X.env)).any fun x => x.1)) = false; rw [hplain]; rfl) (Calls.evalArgs_plain ?_)
  exact thn hA fun us s2 ⟨vs, H2, I2, r2, q2⟩ => hm pins s2 σ H2 x vs v us Q I2 r1 r2 q2
end
def dCols (cs : List Str) : PyData := .tuple (cs.map PyData.str)
/-- v is a tuple of these texts, known whole -/
def NmT (p : Addr) (H : Hp) (v : V) (xs : List Str) : Prop := ∃ a, v = .ref a ∧ a ≠ p ∧ Fz H a (xs.map V.str) ∧ RpT p H v (dCols xs)
theorem NmT.keep {p : Addr} {H H' : Hp} {v : V} {xs : List Str} (h : NmT p H v xs) (e : ExB p H H') : NmT p H' v xs := by
  obtain ⟨a, rfl, n, f, r⟩ := h
  exact ⟨a, rfl, n, f.keep fun o q => e a o n q, r.keep (ExT.of e)⟩
theorem NmT.rp {p : Addr} {H : Hp} {v : V} {xs : List Str} (h : NmT p H v xs) : RpT p H v (dCols xs) := by
  obtain ⟨a, rfl, n, f, r⟩ := h
  exact r
end Cs
set_option maxHeartbeats 4000000
/-! Comprehensions over data. -/
namespace Cs
open PySem L2 PyProof.Rows
theorem RpTA.get {p : Addr} {H : Hp} : ∀ {vs : List V} {ds : List PyData} {i : Nat} {v : V}, RpTA p H vs ds → vs[i]? = some v → ∃ d, ds[i]? = some d ∧ RpT p H v d
  | _, _, i, v, .nil, h => by simp at h
  | _, _, 0, v, .cons r t, h => by
    cases h
    exact ⟨_, rfl, r⟩
  | _, _, i + 1, v, .cons r t, h => by
    rw [List.getElem?_cons_succ] at h
    obtain ⟨d, e, q⟩ := RpTA.get t h
    exact ⟨d, by rw [List.getElem?_cons_succ]; exact e, q⟩
theorem RpTA.at_ {p : Addr} {H : Hp} : ∀ {vs : List V} {ds : List PyData} {i : Nat} {d : PyData}, RpTA p H vs ds → ds[i]? = some d → ∃ v, vs[i]? = some v ∧ RpT p H v d
  | _, _, i, d, .nil, h => by simp at h
  | _, _, 0, d, .cons r t, h => by
    cases h
    exact ⟨_, rfl, r⟩
  | _, _, i + 1, d, .cons r t, h => by
    rw [List.getElem?_cons_succ] at h
    obtain ⟨v, e, q⟩ := RpTA.at_ t h
    exact ⟨v, by rw [List.getElem?_cons_succ]; exact e, q⟩
theorem RpTA.snoc {p : Addr} {H : Hp} {vs : List V} {ds : List PyData} {v : V} {d : PyData} (h : RpTA p H vs ds) (r : RpT p H v d) : RpTA p H (vs ++ [v]) (ds ++ [d]) := h.append (.cons r .nil)
theorem take_snoc {α : Type} {xs : List α} {i : Nat} {x : α} (h : xs[i]? = some x) : xs.take (i + 1) = xs.take i ++ [x] := by
  rw [List.take_succ, h]
  rfl
section
variable {K : PySem.W.Frag} {p : Addr} {ds es : List PyData} {tl : TE} {ta : TA} {g : TG} {te : TE} {vs : List Nat} {σ : L2.St} {H1 : Hp} {Q : VK}
theorem lc_data (hl : es.length = ds.length) (hz : ds.length ≤ 1000) (ht : ∀ R : VK, (∀ v H2, Same H1 H2 → RpT p H2 v (.tuple ds) → R v H2) → tl σ H1 R)
    (hs : ∀ (j : Nat) (z : V) (d e : PyData) (H : Hp), ds[j]? = some d → es[j]? = some e → Same H1 H → RpT p H z d → ∀ R : VK, (∀ y H3, Same H H3 → RpT p H3 y e → R y H3) → g z (wipe σ vs) H fun σ2 H2 => wipe σ2 vs = wipe σ vs ∧ te σ2 H2 R)
    (k : ∀ D ys H', H1 D = none → Same H1 H' → H' D = some (.lst ys) → RpTA p H' ys es → Q (.ref D) H') : tLc (iTup K tl) g tYes te vs σ H1 Q := by
  refine ht _ fun v H2 s12 rv => ?_
  cases rv with
  | @tup a xs _ n h z r =>
    refine ⟨a, rfl, ⟨xs, SqT.rd h⟩, fun D hD => ?_⟩
    have ln := r.length
    refine lc_tup (K := K) (a := a) (xs := xs) (fun i H => Same H2 H ∧ ∃ ys, H D = some (.lst ys) ∧ ys.length = i ∧ RpTA p H ys (es.take i)) ⟨same_new hD, [], upd_same, rfl, .nil⟩ (fun i H _ p => SqT.rd (Rd.same h p.1)) (fun i x H hi ⟨sm, ys, hd, ly, ry⟩ => ?_) (fun H ⟨sm, ys, hd, ly, ry⟩ => k D ys H (s12.free hD) (s12.trans sm) hd (by rw [List.take_of_length_le (by omega)] at ry; exact ry))
    have hi2 := (List.getElem?_eq_some_iff.mp hi).1
    obtain ⟨d, hd2, rd⟩ := r.get hi
    have hy : i < es.length := by omega
    have key := hs i x d es[i] H hd2 (List.getElem?_eq_getElem hy) (s12.trans sm) (rd.keep (ExT.of (ExB.of sm))) (fun y H4 => ∃ acc, H4 D = some (.lst acc) ∧ acc.length < sizeLine ∧ Same H2 (upd H4 D (.lst (acc ++ [y]))) ∧ ∃ ys, upd H4 D (.lst (acc ++ [y])) D = some (.lst ys) ∧ ys.length = i + 1 ∧ RpTA p (upd H4 D (.lst (acc ++ [y]))) ys (es.take (i + 1))) fun y H3 s3 r3 => ?_
    · exact key
    · have hd3 := s3 _ _ hd
      refine ⟨ys, hd3, ?_, fun b o e => ?_, _, upd_same, ?_, ?_⟩
      · rw [ly]
        exact Nat.lt_of_lt_of_le (by omega : i < 1000) (by decide)
      · rw [upd_ne (ne_of_none e hD)]
        exact s3 _ _ (sm _ _ e)
      · rw [List.length_append, ly]
        rfl
      · rw [take_snoc (List.getElem?_eq_getElem hy)]
        exact ((ry.keep (ExT.of (ExB.of s3))).snoc r3).keep (ExT.put hd3)
theorem lc_dataL (hl : es.length = ds.length) (hz : ds.length ≤ 1000) (ht : ∀ R : VK, (∀ a xs H2, Same H1 H2 → H2 a = some (.lst xs) → RpTA p H2 xs ds → R (.ref a) H2) → tl σ H1 R)
  (hs : ∀ (j : Nat) (z : V) (d e : PyData) (H : Hp), ds[j]? = some d → es[j]? = some e → Same H1 H → RpT p H z d → ∀ R : VK, (∀ y H3, Same H H3 → RpT p H3 y e → R y H3) → g z (wipe σ vs) H fun σ2 H2 => wipe σ2 vs = wipe σ vs ∧ te σ2 H2 R)
  (k : ∀ D ys H', H1 D = none → Same H1 H' → H' D = some (.lst ys) → RpTA p H' ys es → Q (.ref D) H') : tLc (iList K tl) g tYes te vs σ H1 Q := by
  refine ht _ fun a xs H2 s12 h r => ?_
  refine ⟨a, rfl, ⟨xs, SqL.of h⟩, fun D hD => ?_⟩
  have ln := r.length
  refine lc_list (K := K) (a := a) (xs := xs) (fun i H => Same H2 H ∧ ∃ ys, H D = some (.lst ys) ∧ ys.length = i ∧ RpTA p H ys (es.take i)) ⟨same_new hD, [], upd_same, rfl, .nil⟩ (fun i H _ p => SqL.of (p.1 _ _ h)) (fun i x H hi ⟨sm, ys, hd, ly, ry⟩ => ?_) (fun H ⟨sm, ys, hd, ly, ry⟩ => k D ys H (s12.free hD) (s12.trans sm) hd (by rw [List.take_of_length_le (by omega)] at ry; exact ry))
  have hi2 := (List.getElem?_eq_some_iff.mp hi).1
  obtain ⟨d, hd2, rd⟩ := r.get hi
  have hy : i < es.length := by omega
  have key := hs i x d es[i] H hd2 (List.getElem?_eq_getElem hy) (s12.trans sm) (rd.keep (ExT.of (ExB.of sm))) (fun y H4 => ∃ acc, H4 D = some (.lst acc) ∧ acc.length < sizeLine ∧ Same H2 (upd H4 D (.lst (acc ++ [y]))) ∧ ∃ ys, upd H4 D (.lst (acc ++ [y])) D = some (.lst ys) ∧ ys.length = i + 1 ∧ RpTA p (upd H4 D (.lst (acc ++ [y]))) ys (es.take (i + 1))) fun y H3 s3 r3 => ?_
  · exact key
  · have hd3 := s3 _ _ hd
    refine ⟨ys, hd3, ?_, fun b o e => ?_, _, upd_same, ?_, ?_⟩
    · rw [ly]
      exact Nat.lt_of_lt_of_le (by omega : i < 1000) (by decide)
    · rw [upd_ne (ne_of_none e hD)]
      exact s3 _ _ (sm _ _ e)
    · rw [List.length_append, ly]
      rfl
    · rw [take_snoc (List.getElem?_eq_getElem hy)]
      exact ((ry.keep (ExT.of (ExB.of s3))).snoc r3).keep (ExT.put hd3)
theorem lc_zipD {fs : List PyData} (hl : es.length = min ds.length fs.length) (hz : ds.length ≤ 1000) (ht : ∀ R : List V → Hp → Prop, (∀ u v H2, Same H1 H2 → RpT p H2 u (.tuple ds) → RpT p H2 v (.tuple fs) → R [u, v] H2) → ta σ H1 R)
    (hs : ∀ (j : Nat) (T : Addr) (x y : V) (d f e : PyData) (H : Hp), ds[j]? = some d → fs[j]? = some f → es[j]? = some e → Same H1 H → H T = some (.tup [x, y]) → RpT p H x d → RpT p H y f → ∀ R : VK, (∀ y H3, Same H H3 → RpT p H3 y e → R y H3) → g (.ref T) (wipe σ vs) H fun σ2 H2 => wipe σ2 vs = wipe σ vs ∧ te σ2 H2 R)
    (k : ∀ D ys H', H1 D = none → Same H1 H' → H' D = some (.lst ys) → RpTA p H' ys es → Q (.ref D) H') : tLc (RZ.iZipA K ta) g tYes te vs σ H1 Q := by
  refine ht _ fun u v H2 s12 ru rv => ?_
  cases ru with
  | @tup a xs _ n h z r =>
    cases rv with
    | @tup b zs _ n' h' z' r' =>
      have ln := r.length
      have ln' := r'.length
      refine ⟨a, b, xs, zs, rfl, .inr ⟨SqT.rd h, SqT.rd h', fun D hD => ?_⟩⟩
      refine ⟨fun i m H => m = es.length - i ∧ i ≤ es.length ∧ Same H2 H ∧ ∃ ys, H D = some (.lst ys) ∧ ys.length = i ∧ RpTA p H ys (es.take i), ⟨es.length, by simp, Nat.zero_le _, same_new hD, [], upd_same, rfl, .nil⟩, ?_⟩
      rintro i m H ⟨rfl, hi, sm, ys, hd, ly, ry⟩
      by_cases hlt : i < es.length
      · have hx : i < xs.length := by omega
        have hy : i < zs.length := by omega
        refine .inr ⟨⟨xs, zs, xs[i], zs[i], SqT.rd (Rd.same h sm), SqT.rd (Rd.same h' sm), List.getElem?_eq_getElem hx, List.getElem?_eq_getElem hy⟩, fun H' => Same H2 H' ∧ ∃ ys, H' D = some (.lst ys) ∧ ys.length = i + 1 ∧ RpTA p H' ys (es.take (i + 1)), fun H' p' => ⟨es.length - (i + 1), by omega, rfl, hlt, p'⟩, fun w H' yl => ?_⟩
        obtain ⟨T, x, y, rfl, hT, rfl, e1, e2⟩ := yl
        have gx := e1 xs (SqT.rd (Rd.same h sm))
        have gy := e2 zs (SqT.rd (Rd.same h' sm))
        obtain ⟨d, hd2, rd⟩ := r.get gx
        obtain ⟨f, hf2, rf⟩ := r'.get gy
        have sT : Same H (upd H T (.tup [x, y])) := same_new hT
        have key := hs i T x y d f es[i] _ hd2 hf2 (List.getElem?_eq_getElem hlt) ((s12.trans sm).trans sT) upd_same (rd.keep (ExT.of (ExB.of (sm.trans sT)))) (rf.keep (ExT.of (ExB.of (sm.trans sT))))
          (fun y H4 => ∃ acc, H4 D = some (.lst acc) ∧ acc.length < sizeLine ∧ Same H2 (upd H4 D (.lst (acc ++ [y]))) ∧ ∃ ys, upd H4 D (.lst (acc ++ [y])) D = some (.lst ys) ∧ ys.length = i + 1 ∧ RpTA p (upd H4 D (.lst (acc ++ [y]))) ys (es.take (i + 1))) fun y H3 s3 r3 => ?_
        · exact key
        · have hd3 := s3 _ _ (sT _ _ hd)
          refine ⟨ys, hd3, ?_, fun b o e => ?_, _, upd_same, ?_, ?_⟩
          · rw [ly]
            exact Nat.lt_of_lt_of_le (by omega : i < 1000) (by decide)
          · rw [upd_ne (ne_of_none e hD)]
            exact s3 _ _ (sT _ _ (sm _ _ e))
          · rw [List.length_append, ly]
            rfl
          · rw [take_snoc (List.getElem?_eq_getElem hlt)]
            exact ((ry.keep (ExT.of (ExB.of (sT.trans s3)))).snoc r3).keep (ExT.put hd3)
      · have e : i = es.length := by omega
        subst e
        refine .inl ⟨⟨xs, zs, SqT.rd (Rd.same h sm), SqT.rd (Rd.same h' sm), by omega⟩, k D ys H (s12.free hD) (s12.trans sm) hd (by rw [List.take_of_length_le (Nat.le_refl _)] at ry; exact ry)⟩
/-- over zip, by a test: as many v's as pass -/
theorem lc_zipF {fs : List PyData} {tt : TT} {c : PyData → PyData → Bool} {v : V} (hl : ds.length ≤ 1000) (ht : ∀ R : List V → Hp → Prop, (∀ u v H2, Same H1 H2 → RpT p H2 u (.tuple ds) → RpT p H2 v (.tuple fs) → R [u, v] H2) → ta σ H1 R)
    (hs : ∀ (j : Nat) (T : Addr) (x y : V) (d f : PyData) (H : Hp), ds[j]? = some d → fs[j]? = some f → Same H1 H → H T = some (.tup [x, y]) → RpT p H x d → RpT p H y f → ∀ R : Bool → Hp → Prop, (∀ H3, Same H H3 → R (c d f) H3) → g (.ref T) (wipe σ vs) H fun σ2 H2 => wipe σ2 vs = wipe σ vs ∧ tt σ2 H2 R)
    (k : ∀ D n H', H1 D = none → Same H1 H' → H' D = some (.lst (List.replicate n v)) → (decide (n = 0) = (ds.zip fs).all fun q => !c q.1 q.2) → Q (.ref D) H') : tLc (RZ.iZipA K ta) g tt (tC v) vs σ H1 Q := by
  refine ht _ fun u w H2 s12 ru rv => ?_
  cases ru with
  | @tup a xs _ n h z r =>
    cases rv with
    | @tup b zs _ n' h' z' r' =>
      have ln := r.length
      have ln' := r'.length
      have lz : (ds.zip fs).length = min ds.length fs.length := List.length_zip
      refine ⟨a, b, xs, zs, rfl, .inr ⟨SqT.rd h, SqT.rd h', fun D hD => ?_⟩⟩
      refine ⟨fun i m H => m = (ds.zip fs).length - i ∧ i ≤ (ds.zip fs).length ∧ Same H2 H ∧ ∃ n, H D = some (.lst (List.replicate n v)) ∧ n ≤ i ∧ decide (n = 0) = ((ds.zip fs).take i).all (fun q => !c q.1 q.2), ⟨(ds.zip fs).length, by simp, Nat.zero_le _, same_new hD, 0, upd_same, Nat.le_refl _, rfl⟩, ?_⟩
      rintro i m H ⟨rfl, hi, sm, cn, hd, lc, ec⟩
      by_cases hlt : i < (ds.zip fs).length
      · have hx : i < xs.length := by omega
        have hy : i < zs.length := by omega
        refine .inr ⟨⟨xs, zs, xs[i], zs[i], SqT.rd (Rd.same h sm), SqT.rd (Rd.same h' sm), List.getElem?_eq_getElem hx, List.getElem?_eq_getElem hy⟩, fun H' => Same H2 H' ∧ ∃ n, H' D = some (.lst (List.replicate n v)) ∧ n ≤ i + 1 ∧ decide (n = 0) = ((ds.zip fs).take (i + 1)).all (fun q => !c q.1 q.2), fun H' p' => ⟨(ds.zip fs).length - (i + 1), by omega, rfl, hlt, p'⟩, fun w' H' yl => ?_⟩
        obtain ⟨T, x, y, rfl, hT, rfl, e1, e2⟩ := yl
        have gx := e1 xs (SqT.rd (Rd.same h sm))
        have gy := e2 zs (SqT.rd (Rd.same h' sm))
        obtain ⟨d, hd2, rd⟩ := r.get gx
        obtain ⟨f, hf2, rf⟩ := r'.get gy
        have sT : Same H (upd H T (.tup [x, y])) := same_new hT
        have gz : (ds.zip fs)[i]? = some (d, f) := by
          rw [List.getElem?_zip_eq_some]
          exact ⟨hd2, hf2⟩
        have key := hs i T x y d f _ hd2 hf2 ((s12.trans sm).trans sT) upd_same (rd.keep (ExT.of (ExB.of (sm.trans sT)))) (rf.keep (ExT.of (ExB.of (sm.trans sT))))
          (fun b H3 => if b = true then ∃ acc, H3 D = some (.lst acc) ∧ acc.length < sizeLine ∧ (Same H2 (upd H3 D (.lst (acc ++ [v]))) ∧ ∃ n, upd H3 D (.lst (acc ++ [v])) D = some (.lst (List.replicate n v)) ∧ n ≤ i + 1 ∧ decide (n = 0) = ((ds.zip fs).take (i + 1)).all (fun q => !c q.1 q.2))
            else Same H2 H3 ∧ ∃ n, H3 D = some (.lst (List.replicate n v)) ∧ n ≤ i + 1 ∧ decide (n = 0) = ((ds.zip fs).take (i + 1)).all (fun q => !c q.1 q.2)) fun H3 s3 => ?_
        · exact key
        have hd3 := s3 _ _ (sT _ _ hd)
        have sA := sm.trans (sT.trans s3)
        cases e : c d f with
        | false =>
          rw [if_neg Bool.false_ne_true]
          refine ⟨sA, cn, hd3, by omega, ?_⟩
          rw [take_snoc gz, List.all_append, ← ec]
          simp [e]
        | true =>
          rw [if_pos rfl]
          refine ⟨_, hd3, ?_, fun b o q => ?_, cn + 1, ?_, by omega, ?_⟩
          · rw [List.length_replicate]
            exact Nat.lt_of_lt_of_le (by omega : cn < 1001) (by decide)
          · rw [upd_ne (ne_of_none q hD)]
            exact sA _ _ q
          · rw [upd_same, List.replicate_succ']
          · rw [take_snoc gz, List.all_append]
            simp [e]
      · have e : i = (ds.zip fs).length := by omega
        subst e
        refine .inl ⟨⟨xs, zs, SqT.rd (Rd.same h sm), SqT.rd (Rd.same h' sm), by omega⟩, k D cn H (s12.free hD) (s12.trans sm) hd ?_⟩
        rw [ec, List.take_of_length_le (Nat.le_refl _)]
end
section
variable {X : Cx} {K : PySem.W.Frag} {es : List Expr} {k n : Nat} {t : TGs} {pos : Pos} {e : Expr} {ta : TE} {f : Str}
/-- the target of a comprehension, K told apart -/
theorem pg_tupK (hK : X.K = K) (hc : X.calm = true) (h : PGs X es t) (hn : (assignEach es X.env).length = n := by rfl) (hst : (assignEach es X.env).findIdx? (fun x => x.1) = none := by rfl) : PG X (.Tuple es k pos) (gTup K n t) := by
  subst hK
  exact pg_tup hc h hn hst
theorem pe_fldK (hK : X.K = K) (ha : PE X e ta) (hb : attributeBase e f X.env (eval e X.env) = eval e X.env) : PE X (.Attribute e f pos) (tFld K ta f) := by
  subst hK
  exact pe_fld ha hb
end
mutual
theorem RpT.dp {p : Addr} {H : Hp} {K : PySem.W.Frag} : ∀ {v : V} {d : PyData}, RpT p H v d → Dp K H v d
  | _, _, .non => .non
  | _, _, .bl b => .bl b
  | _, _, .int i => .int i
  | _, _, .str x h => .str x
  | _, _, .tup n h z r => .tup (SqT.rd h) (RpTA.dp r)
theorem RpTA.dp {p : Addr} {H : Hp} {K : PySem.W.Frag} : ∀ {vs : List V} {ds : List PyData}, RpTA p H vs ds → DpAll K H vs ds
  | _, _, .nil => .nil
  | _, _, .cons h t => .cons (RpT.dp h) (RpTA.dp t)
end
theorem lay_map {α : Type} {f : α → PyData} : ∀ {xs : List α}, (∀ x ∈ xs, (f x).canLay0 = true) → PyData.canLayAll0 (xs.map f) = true
  | [], _ => rfl
  | x :: xs, h => by
    show ((f x).canLay0 && PyData.canLayAll0 (xs.map f)) = true
    rw [h x List.mem_cons_self, lay_map fun y hy => h y (List.mem_cons_of_mem _ hy)]
    rfl
theorem dep_map {α : Type} {f : α → PyData} {b : Nat} : ∀ {xs : List α}, (∀ x ∈ xs, (f x).depth ≤ b) → PyData.depthAll (xs.map f) ≤ b
  | [], _ => Nat.zero_le _
  | x :: xs, h => Nat.max_le.mpr ⟨h x List.mem_cons_self, dep_map fun y hy => h y (List.mem_cons_of_mem _ hy)⟩
theorem strOk_name {x : Str} (h : isName (.str x) = true) : PyData.strOk x = true := by
  have h2 := (Bool.and_eq_true_iff.mp (show ((decide (1 ≤ x.length) && decide (x.length ≤ 8)) && x.cps.toList.all letterC) = true from h)).2
  show x.cps.all (fun c => decide (c < 0x110000)) = true
  rw [← Array.all_toList, List.all_eq_true]
  intro c hc
  have h3 := List.all_eq_true.mp h2 c hc
  have h4 := of_decide_eq_true (Bool.and_eq_true_iff.mp (show (decide (97 ≤ c) && decide (c ≤ 122)) = true from h3)).2
  exact decide_eq_true (by omega)
end Cs
set_option maxHeartbeats 4000000
/-! Rules of my own: t[::-1] of a tuple, known whole. -/
namespace HT
open PySem PySem.Spec PyProof.Rows
section
variable {prog : Program} {w : World} {A : Around} {E : Value → Shared → Prop} {s : Shared}
theorem csr_places (n : Nat) : Builtin.Slice.slicePlaces ((n : Int) - 1) (-1) (-1) = n := by
  unfold Builtin.Slice.slicePlaces
  rw [if_neg (show ¬ ((-1 : Int) > 0) by decide)]
  by_cases h : n = 0
  · subst h
    rfl
  · rw [if_pos (show (n : Int) - 1 > -1 by omega), show (- -1 : Int) = 1 by decide, Int.ediv_one]
    omega
theorem csr_pick (xs : Array Value) : ((List.range xs.size).filterMap fun (m : Nat) => xs[(((xs.size : Int) - 1) + (m : Int) * -1).toNat]?).toArray = xs.toList.reverse.toArray := by
  have e : (List.range xs.size).filterMap (fun (m : Nat) => xs[(((xs.size : Int) - 1) + (m : Int) * -1).toNat]?) = ((List.range xs.size).map fun k => xs.size - 1 - k).filterMap (xs[·]?) := by
    rw [List.filterMap_map]
    congr 1
    funext m
    have : (((xs.size : Int) - 1) + (m : Int) * -1).toNat = xs.size - 1 - m := by omega
    rw [this]
    rfl
  rw [e, PySem.W.krv_range, List.filterMap_reverse, PySem.W.krv_all]
theorem csr_applied {sl : Addr} {n : Nat} {t : Tok} {Q : Int × Int × Nat → Shared → Prop} (hs : s.heap.IsSliceOf sl .none .none (.int (-1) t))
    (h : Q ((n : Int) - 1, -1, n) s) : wpAny (model prog w) A (Builtin.Slice.sliceApplied (.ref sl) (pure (n : Int))) Q E s := by
  obtain ⟨os, hos, hcs, hds⟩ := id hs
  unfold Builtin.Slice.sliceApplied Builtin.Slice.sliceFields
  refine wpAny_bind (wpAny_bind (wpAny_field hos hds (x := .none) rfl (wpAny_bind (wpAny_field hos hds (x := .none) rfl (wpAny_bind (wpAny_field hos hds (x := .int (-1) t) rfl (wpAny_pure ?_)))))))
  refine wpAny_bind (slicePart_int ?_)
  show wpAny _ _ (if ((-1 : Int) == 0) = true then _ else _) _ _ s
  rw [if_neg (by decide)]
  refine wpAny_bind (slicePart_none (wpAny_bind (slicePart_none (wpAny_bind (wpAny_pure ?_)))))
  show wpAny _ _ (pure ((n : Int) - 1, (-1 : Int), Builtin.Slice.slicePlaces ((n : Int) - 1) (-1) (-1))) _ _ s
  rw [csr_places]
  exact wpAny_pure h
theorem getItem_tuple_rev {t sl : Addr} {items : Array Value} {tk : Tok} {Q : Value → Shared → Prop} (ht : IsTup s.heap t items) (hs : s.heap.IsSliceOf sl .none .none (.int (-1) tk))
    (h : Q (.ref s.heap.objs.size) { s with heap := s.heap.push { cls := .type "tuple", data := .seq items.toList.reverse.toArray } })
    (hsz : items.size ≤ sizeLine) : wpAny (model prog w) A (getItem (.ref t) (.ref sl)) Q E s := by
  have htake : sizeOk (.seq items.toList.reverse.toArray) := by
    show items.toList.reverse.toArray.size ≤ sizeLine
    rw [List.size_toArray, List.length_reverse, Array.length_toList]
    exact hsz
  obtain ⟨os, hos, hcs, hds⟩ := id hs
  have hTs : s.TypeIs (.ref sl) "slice" := ⟨os, hos, hcs⟩
  unfold getItem
  try with_reducible refine wpAny_holding ?_
  first | refine wpAny_bind (wpAny_pure ?_) | skip
  refine wpAny_bind (wpAny_sequenceKey ht.typeIs (by decide) ?_)
  refine wpAny_bind (wpAny_callSpecial?_slot (name := Str.ofString "__getitem__") ht.typeIs PyProof.Rows.slot_tuple_getitem
    (wpAny_call_entry PyProof.Rows.slot_tuple_getitem ht.typeIs entry_tuple_getitem ?_ (args_tuple_getitem _ _)))
  show wpAny _ _ (Builtin.Tuple.tupleItemsOf (.ref t) >>= _) _ _ s
  refine wpAny_bind (tupleItemsOf_ ht ?_)
  refine wpAny_bind (wpAny_typeOf hTs ?_)
  rw [if_pos (by decide)]
  refine wpAny_bind (csr_applied hs ?_)
  have hno : ¬ ((((items.size : Int) - 1) == 0 && (-1 : Int) == 1 && items.size == items.size) = true) := by
    rw [show ((-1 : Int) == 1) = false by decide, Bool.and_false, Bool.false_and]
    exact Bool.false_ne_true
  show wpAny _ _ (if (((items.size : Int) - 1) == 0 && (-1 : Int) == 1 && items.size == items.size) = true then _ else _) _ _ s
  rw [if_neg hno, csr_pick]
  first
    | exact wpAny_bind (m := Builtin.Tuple.tupleExact _) (wpAny_newObj_type (wpAny_pure ⟨_, rfl, wpAny_pure h⟩) htake)
    | exact wpAny_bind (m := Builtin.Tuple.tupleExact _) (wpAny_newObj_type (wpAny_bind (wpAny_pure (wpAny_pure ⟨_, rfl, wpAny_pure h⟩))) htake)
    | exact wpAny_bind (wpAny_bind (m := Builtin.Tuple.tupleExact _) (wpAny_newObj_type (wpAny_pure (wpAny_pure ⟨_, rfl, wpAny_pure h⟩)) htake))
    | exact wpAny_bind (wpAny_bind (m := Builtin.Tuple.tupleExact _) (wpAny_newObj_type (wpAny_pure ⟨_, rfl, wpAny_pure h⟩) htake))
end
end HT
namespace Cs
open PySem L2 PyProof.Rows
theorem vals_rev : ∀ {vs : List V} {us : List Value}, Vals vs us → Vals vs.reverse us.reverse
  | _, _, .nil => .nil
  | _, _, .cons r t => by
    rw [List.reverse_cons, List.reverse_cons]
    exact (vals_rev t).append (.cons r .nil)
/-- t[::-1] of a tuple: a new one, known whole -/
def tRv (K : PySem.W.Frag) (te : TE) (tst : TO) : TE := fun σ H Q => te σ H fun x H1 => tst σ H1 fun o H2 => o = some (-1) ∧ ∃ a xs, x = .ref a ∧ SqT K H2 a xs ∧ ∀ l H', H2 l = none → Same H2 H' → Fz H' l xs.reverse → Q (.ref l) H'
section
variable {X : Cx} {e : Expr} {te : TE} {st : Option Expr} {tst : TO} {pos p2 : Pos}
theorem pe_rev (he : PE X e te) (hs : PO X st tst) (hsub : ∀ a b : Addr, ∃ ops : List Value, subscripted (.Slice none none st p2) false (.ref a) (.ref b) = operate ops (getItem (.ref a) (.ref b))) : PE X (.Subscript e (.Slice none none st p2) pos) (tRv X.K te tst) := by
  refine ⟨fun pins s σ H Q I h => ?_⟩
  refine Subscript_ (thn (he.run pins s σ H _ I h) fun v s1 ⟨x, H1, I1, r1, q1⟩ => ?_)
  refine wpAny_Slice ?_
  rw [evalPart_none]
  refine wpAny_pure ?_
  refine wpAny_pure ?_
  refine thn (hs.run pins s1 σ H1 _ I1 q1) fun vu s3 ⟨u, H3, I3, pu, q3⟩ => ?_
  obtain ⟨rfl, a, xs, rfl, hx, q⟩ := q3
  cases r1
  cases pu with
  | int i t =>
  have I4 : Inv X pins σ H3 { s3 with heap := s3.heap.push { cls := .type "slice", data := .fields #[.none, .none, .int (-1) t] } } := I3.kept (t' := s3.toks) fun b ob q => Heap.get?_push_of_some _ q
  obtain ⟨its, r, ht, hz⟩ := I4.tuple hx
  have hlen := r.length
  have hsl : ({ s3 with heap := s3.heap.push { cls := .type "slice", data := .fields #[.none, .none, .int (-1) t] } } : Shared).heap.IsSliceOf s3.heap.objs.size .none .none (.int (-1) t) := Heap.IsSliceOf.new ..
  show wpAny (model X.prog X.w) X.A (subscriptTail e (.Slice none none st p2) (.ref a) (.ref s3.heap.objs.size)) (EP X pins σ Q) X.xe { s3 with heap := s3.heap.push { cls := .type "slice", data := .fields #[.none, .none, .int (-1) t] } }
  obtain ⟨ops, hops⟩ := hsub a s3.heap.objs.size
  refine tail_any (ops := ops) ht.typeIs PyProof.Rows.slot_tuple_getitem.lookup (HT.getItem_tuple_rev ht hsl ?_ (by rw [List.size_toArray]; omega)) hops
  generalize ({ s3 with heap := s3.heap.push { cls := .type "slice", data := .fields #[.none, .none, .int (-1) t] } } : Shared) = s4 at *
  have hn : H3 s4.heap.objs.size = none := I4.hok.fresh (Nat.le_refl _)
  have I5 : L2.Inv X pins σ (upd H3 s4.heap.objs.size (.frz { cls := .type "tuple", data := .seq its.reverse.toArray } (.tup xs.reverse))) { s4 with heap := s4.heap.push { cls := .type "tuple", data := .seq its.reverse.toArray } } :=
    I4.laid (t' := s4.toks) (fun b o e => Heap.get?_push_of_some _ e) (Nat.le_refl _) (show ObjOk X.prog X.w _ _ _ (.frz { cls := .type "tuple", data := .seq its.reverse.toArray } (.tup xs.reverse)) from ⟨Heap.get?_push_size s4.heap rfl, by rw [List.length_reverse]; exact hz, its.reverse, vals_rev r, IsTup.new _ _⟩)
  exact ⟨.ref s4.heap.objs.size, _, I5, rfl, q _ _ hn (same_new hn) ⟨_, upd_same, rfl, rfl⟩⟩
end
end Cs
set_option maxHeartbeats 4000000
/-! Rules of my own: min and max of a tuple of whole numbers. -/
namespace PySem
namespace CsMin
section
variable {prog : Program} {w : World} {A : Around} {E : Value → Shared → Prop} {s : Shared} {l : Addr} {xs : Array (Int × Tok)}
theorem tup_kept {h' : Heap} {o0 : Obj} (hk : ∀ b o, b ∉ [s.heap.objs.size] → (s.heap.push o0).get? b = some o → h'.get? b = some o) :
    ∀ b o, s.heap.get? b = some o → h'.get? b = some o := fun b o e => by
  refine hk b o (fun hm => ?_) (Heap.get?_push_of_some _ e)
  rcases List.mem_cons.mp hm with e1 | hm
  · exact absurd (e1 ▸ Heap.lt_size e) (Nat.lt_irrefl _)
  · cases hm
theorem tup_in (hlt : l < s.heap.objs.size) {o0 : Obj} : ∀ b ∈ [s.heap.objs.size, l], b < (s.heap.push o0).objs.size := fun b hb => by
  rw [Heap.size_push]
  rcases List.mem_cons.mp hb with rfl | hb
  · exact Nat.lt_succ_self _
  · rcases List.mem_cons.mp hb with rfl | hb
    · exact Nat.lt_succ_of_lt hlt
    · cases hb
theorem min_tup {Q : Value → Shared → Prop} (hh : A.handled = none) (hl : s.heap.IsTuple l (intItems xs)) (hne : 0 < xs.size)
    (h : ∀ v h' tk, (intItems xs)[argBest (fun i j => decide (numAt xs i < numAt xs j)) (xs.size - 1)]? = some v → (∀ b o, s.heap.get? b = some o → h'.get? b = some o) → Q v { s with heap := h', toks := tk }) :
    wpAny (model prog w) A (call (.builtin "min") [.ref l]) Q E s := by
  have hlt : l < s.heap.objs.size := by obtain ⟨_, e, _⟩ := hl; exact Heap.lt_size e
  refine call_min_walk (wpAny_pyIter_tuple hl ?_)
  refine ⟨_, [s.heap.objs.size, l], [s.heap.objs.size], _, _, _, _, rfl, Walks.tuple (A := A.in1) hh _ l (Nat.ne_of_lt hlt) (intItems xs), ⟨⟨_, Heap.get?_push_size _ rfl, rfl, rfl⟩, hl.push _⟩, tup_in hlt, by simpa [intItems] using hne, CmpOf.ints_lt (numAt xs) (fun _ _ => intItems_at), fun v h' tk hP hk => ?_⟩
  exact h v h' tk (by simpa [intItems] using hP) (tup_kept hk)
theorem max_tup {Q : Value → Shared → Prop} (hh : A.handled = none) (hl : s.heap.IsTuple l (intItems xs)) (hne : 0 < xs.size)
    (h : ∀ v h' tk, (intItems xs)[argBest (fun i j => decide (numAt xs i > numAt xs j)) (xs.size - 1)]? = some v → (∀ b o, s.heap.get? b = some o → h'.get? b = some o) → Q v { s with heap := h', toks := tk }) :
    wpAny (model prog w) A (call (.builtin "max") [.ref l]) Q E s := by
  have hlt : l < s.heap.objs.size := by obtain ⟨_, e, _⟩ := hl; exact Heap.lt_size e
  refine call_max_walk (wpAny_pyIter_tuple hl ?_)
  refine ⟨_, [s.heap.objs.size, l], [s.heap.objs.size], _, _, _, _, rfl, Walks.tuple (A := A.in1) hh _ l (Nat.ne_of_lt hlt) (intItems xs), ⟨⟨_, Heap.get?_push_size _ rfl, rfl, rfl⟩, hl.push _⟩, tup_in hlt, by simpa [intItems] using hne, CmpOf.ints_gt (numAt xs) (fun _ _ => intItems_at), fun v h' tk hP hk => ?_⟩
  exact h v h' tk (by simpa [intItems] using hP) (tup_kept hk)
end
end CsMin
end PySem
namespace Cs
open PySem L2 PyProof.Rows
section
variable {prog : Program} {w : World} {A : Around} {E : Value → Shared → Prop} {s : Shared} {l : Addr} {its : List Value} {ns : List Int} {Q : Value → Shared → Prop}
theorem max_rawT (hh : A.handled = none) (hl : s.heap.IsTuple l its.toArray) (hi : IntsAre its ns) (hne : 0 < ns.length)
    (h : ∀ h' tk M t', (∀ b o, s.heap.get? b = some o → h'.get? b = some o) → M ∈ ns → (∀ a, a ∈ ns → a ≤ M) → Q (.int M t') { s with heap := h', toks := tk }) : wpAny (model prog w) A (call (.builtin "max") [.ref l]) Q E s := by
  obtain ⟨xs, e⟩ := hi.allInts.items
  have hn : numsOf (intItems xs).toList = ns := by rw [← e]; exact hi.numsOf
  rw [nums_intItems] at hn
  subst hn
  rw [e] at hl
  have hsz : 0 < xs.size := by simpa using hne
  refine CsMin.max_tup hh hl hsz fun v h' tk hv hk => ?_
  obtain ⟨t, rfl⟩ := intItems_at hv
  obtain ⟨h1, h2⟩ := argBest_gt (numAt xs) (xs.size - 1)
  refine h h' tk _ t hk ?_ fun a ha => ?_
  · rw [numAt_eq]; exact PySem.getD_mem (by rw [List.length_map, Array.length_toList]; omega)
  · obtain ⟨j, hj, rfl⟩ := mem_getD ha
    rw [List.length_map, Array.length_toList] at hj
    rw [← numAt_eq]; exact h2 j (by omega)
theorem min_rawT (hh : A.handled = none) (hl : s.heap.IsTuple l its.toArray) (hi : IntsAre its ns) (hne : 0 < ns.length)
    (h : ∀ h' tk M t', (∀ b o, s.heap.get? b = some o → h'.get? b = some o) → M ∈ ns → (∀ a, a ∈ ns → M ≤ a) → Q (.int M t') { s with heap := h', toks := tk }) : wpAny (model prog w) A (call (.builtin "min") [.ref l]) Q E s := by
  obtain ⟨xs, e⟩ := hi.allInts.items
  have hn : numsOf (intItems xs).toList = ns := by rw [← e]; exact hi.numsOf
  rw [nums_intItems] at hn
  subst hn
  rw [e] at hl
  have hsz : 0 < xs.size := by simpa using hne
  refine CsMin.min_tup hh hl hsz fun v h' tk hv hk => ?_
  obtain ⟨t, rfl⟩ := intItems_at hv
  obtain ⟨h1, h2⟩ := argBest_lt (numAt xs) (xs.size - 1)
  refine h h' tk _ t hk ?_ fun a ha => ?_
  · rw [numAt_eq]; exact PySem.getD_mem (by rw [List.length_map, Array.length_toList]; omega)
  · obtain ⟨j, hj, rfl⟩ := mem_getD ha
    rw [List.length_map, Array.length_toList] at hj
    rw [← numAt_eq]; exact h2 j (by omega)
end
section
variable {X : Cx}
def rMinT (K : PySem.W.Frag) : List V → Hp → VK → Prop := fun vs H Q => ∃ (a : Addr) (ns : List Int), vs = [V.ref a] ∧ SqT K H a (ns.map V.int) ∧ 0 < ns.length ∧ ∀ m, m ∈ ns → (∀ y, y ∈ ns → m ≤ y) → Q (.int m) H
def rMaxT (K : PySem.W.Frag) : List V → Hp → VK → Prop := fun vs H Q => ∃ (a : Addr) (ns : List Int), vs = [V.ref a] ∧ SqT K H a (ns.map V.int) ∧ 0 < ns.length ∧ ∀ m, m ∈ ns → (∀ y, y ∈ ns → y ≤ m) → Q (.int m) H
theorem cr_maxT (hc : X.calm = true) : CallR X (.builtin "max") (rMaxT X.K) := by
  intro pins s σ H vs us Q I r h
  obtain ⟨a, ns, rfl, hs, hne, q⟩ := h
  obtain ⟨its, rv, hl, _⟩ := I.tuple hs
  rw [Vals.ref1 r]
  exact max_rawT (I.ok.hd hc) hl rv.ints hne fun h' tk m t' hk h1 h2 => ⟨.int _, H, I.kept hk, ⟨_, rfl⟩, q m h1 h2⟩
theorem cr_minT (hc : X.calm = true) : CallR X (.builtin "min") (rMinT X.K) := by
  intro pins s σ H vs us Q I r h
  obtain ⟨a, ns, rfl, hs, hne, q⟩ := h
  obtain ⟨its, rv, hl, _⟩ := I.tuple hs
  rw [Vals.ref1 r]
  exact min_rawT (I.ok.hd hc) hl rv.ints hne fun h' tk m t' hk h1 h2 => ⟨.int _, H, I.kept hk, ⟨_, rfl⟩, q m h1 h2⟩
end
theorem wipe_set_not {τ : L2.St} {i : Nat} {x : Option V} : ∀ {vs : List Nat}, i ∉ vs → wipe (τ.set i x) vs = (wipe τ vs).set i x
  | [], _ => rfl
  | v :: vs, h => by
    have h1 : i ≠ v := fun e => h (by rw [e]; exact List.mem_cons_self)
    have h2 : i ∉ vs := fun e => h (List.mem_cons_of_mem _ e)
    show (wipe (τ.set i x) vs).set v none = ((wipe τ vs).set v none).set i x
    rw [wipe_set_not h2, List.set_comm _ _ h1]
theorem wipe_set_mem {τ : L2.St} {i : Nat} {x : Option V} : ∀ {vs : List Nat}, i ∈ vs → wipe (τ.set i x) vs = wipe τ vs
  | [], h => by cases h
  | v :: vs, h => by
    show (wipe (τ.set i x) vs).set v none = (wipe τ vs).set v none
    by_cases e : i ∈ vs
    · rw [wipe_set_mem e]
    · rcases List.mem_cons.mp h with rfl | h
      · rw [wipe_set_not e, List.set_set]
      · exact absurd h e
theorem wipe_wipe {τ : L2.St} : ∀ {ws vs : List Nat}, (∀ v ∈ ws, v ∈ vs) → wipe (wipe τ ws) vs = wipe τ vs
  | [], _, _ => rfl
  | w :: ws, vs, h => by
    show wipe ((wipe τ ws).set w none) vs = wipe τ vs
    rw [wipe_set_mem (h w List.mem_cons_self), wipe_wipe fun v hv => h v (List.mem_cons_of_mem _ hv)]
/-- the targets of a comprehension do not outlive it -/
theorem wipe_back {τ : L2.St} {vs : List Nat} : wipe (wipe τ vs) vs = wipe τ vs := wipe_wipe fun _ h => h
end Cs
set_option maxHeartbeats 4000000
/-! Rules of my own: zip of a tuple and a list, in either order. -/
namespace CsZip
open PySem
open PySem.Sem (wp)
/-- an iterator at i over the sequence at l; these are the items -/
structure Src (i l : Addr) (J : Nat → Heap → Prop) (B : Heap → Prop) (xs : Array Value) : Prop where
  go : ∀ {prog : Program} {w : World} {A : Around} {E : Value → Shared → Prop} {s : Shared} {k : Nat} {x : Value} {Q : Value → Shared → Prop}, J k s.heap → B s.heap → xs[k]? = some x →
    (∀ h', J (k + 1) h' → Heap.SameBut i s.heap h' → Q x { s with heap := h' }) → wpAny (model prog w) A (Builtin.SmallTypes.nextOf (.ref i)) Q E s
  fin : ∀ {prog : Program} {w : World} {A : Around} {E : Value → Shared → Prop} {s : Shared} {k : Nat} {Q : Value → Shared → Prop}, A.handled = none → J k s.heap → B s.heap → xs[k]? = none →
    (∀ h' e, Heap.ExtBut i s.heap h' → (∃ o, h'.get? e = some o ∧ o.cls = .type "StopIteration") → E (.ref e) { s with heap := h' }) → wpAny (model prog w) A (Builtin.SmallTypes.nextOf (.ref i)) Q E s
  jx : ∀ {c k h h'}, J k h → Heap.ExtBut c h h' → i ≠ c → J k h'
  bx : ∀ {c h h'}, B h → Heap.ExtBut c h h' → l ≠ c → B h'
  ja : ∀ {k h h'}, J k h → (∀ o, h.get? i = some o → h'.get? i = some o) → J k h'
  jo : ∀ {k h}, J k h → ∃ o, h.get? i = some o ∧ ∀ v, o.data ≠ .cell v
def jB (t : Bool) (i l : Addr) (k : Nat) (h : Heap) : Prop := match t with
  | true => h.IsTupleIter i l k
  | false => h.IsListIter i l k
def bB (t : Bool) (l : Addr) (xs : Array Value) (h : Heap) : Prop := match t with
  | true => h.IsTuple l xs
  | false => h.IsList l xs
theorem src (t : Bool) (i l : Addr) (xs : Array Value) : Src i l (jB t i l) (bB t l xs) xs := by
  cases t with
  | true => exact ⟨fun j b => RZ.nextOf_tuple_item j b, fun n j b => RZ.nextOf_tuple_end n j b, fun j e n => Heap.IsTupleIter.extBut j e n, fun j e n => Heap.IsTuple.extBut j e n, fun j e => Heap.IsTupleIter.at j e, fun ⟨o, e, _, d⟩ => ⟨o, e, fun v q => by rw [d] at q; cases q⟩⟩
  | false => exact ⟨fun j b => wpAny_nextOf_list_item j b, fun n j b => wpAny_nextOf_list_end n j b, fun j e n => Heap.IsListIter.extBut j e n, fun j e n => Heap.IsList.extBut j e n, fun j e => Heap.IsListIter.at j e, fun ⟨o, e, _, d⟩ => ⟨o, e, fun v q => by rw [d] at q; cases q⟩⟩
section
variable {prog : Program} {w : World} {A : Around} {E : Value → Shared → Prop} {s : Shared} {z P O i j l m : Addr} {k n : Nat} {xs ys : Array Value} {x y a b : Value} {J1 J2 : Nat → Heap → Prop} {B1 B2 : Heap → Prop}
theorem step {Q : Value → Shared → Prop} (D : ZipApart z P O i j l m) (S1 : Src i l J1 B1 xs) (S2 : Src j m J2 B2 ys) (hz : IsZip s.heap z P O .none) (hP : IsPair s.heap P (.ref i) (.ref j)) (hO : IsPair s.heap O a b) (g1 : J1 k s.heap) (g2 : J2 n s.heap) (c1 : B1 s.heap) (c2 : B2 s.heap)
    (ex : xs[k]? = some x) (ey : ys[n]? = some y)
    (K : ∀ h', IsZip h' z P O (rawInt s.heap.objs.size) → IsPair h' O x y → J1 (k + 1) h' → J2 (n + 1) h' → IsPair h' s.heap.objs.size x y → h'.objs.size = s.heap.objs.size + 1 → (∀ c o, c ≠ z → c ≠ O → c ≠ i → c ≠ j → s.heap.get? c = some o → h'.get? c = some o) →
      Q (.ref s.heap.objs.size) { s with heap := h' }) : wpAny (model prog w) A (Builtin.«zip.__next__» ⟨[.ref z], []⟩) (fun r t => ∃ v, r = .done (.ret v) ∧ Q v t) E s := by
  show wpAny _ _ (field (.ref z) 2 >>= _) _ _ s
  refine wpAny_bind (wpAny_field hz rfl (x := .bool false) rfl (show wpAny _ _ (field (.ref z) 3 >>= _) _ _ s from wpAny_bind (wpAny_field hz rfl (x := .ref P) rfl (wpAny_bind (wpAny_seqItems hP rfl ?_)))))
  refine (show wpAny _ _ (Builtin.SmallTypes.ownedTupleIsFree (.ref z) >>= _) _ _ s from wpAny_bind ?_)
  unfold Builtin.SmallTypes.ownedTupleIsFree
  refine wpAny_bind (wpAny_field hz rfl (x := .none) rfl (wpAny_pure ?_)); simp only [if_true]
  refine wpAny_bind (wpAny_rule (wpAny_bind (wpAny_field hz rfl (x := .ref O) rfl (wpAny_bind (wpAny_setField_rec hz (by simp) fun p1 z1 t1 => ?_)))))
  replace z1 : IsZip p1 z P O .ellipsis := z1
  refine wpAny_bind ?_; simp only [List.zipIdx_cons, List.zipIdx_nil, List.forIn_cons, List.forIn_nil]
  refine wpAny_bind (wpAny_bind (wpAny_onRaise (show wpAny _ _ (Builtin.SmallTypes.nextOf (.ref i) >>= _) _ _ _ from wpAny_bind (S1.go (S1.jx g1 t1.extBut D.i1z) (S1.bx c1 t1.extBut D.l1z) ex fun p2 u2 t2 => wpAny_pure ?_))))
  have o2 : IsPair p2 O a b := t2.extBut _ _ D.TOi1 (t1.extBut _ _ D.TOz hO)
  refine wpAny_bind (wpAny_seqItems o2 rfl (wpAny_bind (wpAny_updateSeq_pair o2 fun p3 o3 t3 => wpAny_bind (wpAny_letGo (wpAny_pure ?_)))))
  replace o3 : IsPair p3 O x b := o3
  refine wpAny_bind (wpAny_bind (wpAny_onRaise (show wpAny _ _ (Builtin.SmallTypes.nextOf (.ref j) >>= _) _ _ _ from wpAny_bind (S2.go (S2.jx (S2.jx (S2.jx g2 t1.extBut D.i2z) t2.extBut D.i12.symm) t3.extBut D.TOi2.symm)
    (S2.bx (S2.bx (S2.bx c2 t1.extBut D.l2z) t2.extBut D.l2i1) t3.extBut D.l2TO) ey fun p4 u4 t4 => wpAny_pure ?_))))
  have o4 : IsPair p4 O x b := t4.extBut _ _ D.TOi2 o3
  refine wpAny_bind (wpAny_seqItems o4 rfl (wpAny_bind (wpAny_updateSeq_pair o4 fun p5 o5 t5 => wpAny_bind (wpAny_letGo (wpAny_pure (wpAny_pure ?_))))))
  replace o5 : IsPair p5 O x y := o5
  refine wpAny_bind (wpAny_seqItems o5 rfl (wpAny_bind (wpAny_newTuple ?_)))
  have sz : p5.objs.size = s.heap.objs.size := by rw [t5.1, t4.1, t3.1, t2.1, t1.1]
  have z5 : IsZip p5 z P O .ellipsis := t5.extBut _ _ D.TOz.symm (t4.extBut _ _ D.i2z.symm (t3.extBut _ _ D.TOz.symm (t2.extBut _ _ D.i1z.symm z1)))
  have kp : ∀ c o, c ≠ z → c ≠ O → c ≠ i → c ≠ j → s.heap.get? c = some o → p5.get? c = some o := fun c o d1 d2 d3 d4 e => t5.extBut _ _ d2 (t4.extBut _ _ d4 (t3.extBut _ _ d2 (t2.extBut _ _ d3 (t1.extBut _ _ d1 e))))
  have v1 : J1 (k + 1) p5 := S1.jx (S1.jx (S1.jx u2 t3.extBut D.TOi1.symm) t4.extBut D.i12) t5.extBut D.TOi1.symm
  have v2 : J2 (n + 1) p5 := S2.jx u4 t5.extBut D.TOi2.symm
  have zl : z < p5.objs.size := Heap.lt_size z5
  refine (show wpAny _ _ (Builtin.SmallTypes.ownedTupleHandOut (.ref z) (.ref p5.objs.size) >>= _) _ _ _ from wpAny_bind ?_)
  unfold Builtin.SmallTypes.ownedTupleHandOut
  have z6 : IsZip (p5.push { cls := .type "tuple", data := .seq #[x, y] }) z P O .ellipsis := Heap.get?_push_of_some _ z5
  refine wpAny_bind (wpAny_setField_rec z6 (by simp) fun p7 z7 t7 => ?_)
  replace z7 : IsZip p7 z P O (rawInt p5.objs.size) := z7
  refine wpAny_setField_rec z7 (by simp) fun p8 z8 t8 => ?_
  replace z8 : IsZip p8 z P O (rawInt p5.objs.size) := z8
  have lift : ∀ c o, c ≠ z → p5.get? c = some o → p8.get? c = some o := fun c o d e => t8.extBut _ _ d (t7.extBut _ _ d (Heap.get?_push_of_some _ e))
  have T8 : IsPair p8 p5.objs.size x y := t8.extBut _ _ (Nat.ne_of_gt zl) (t7.extBut _ _ (Nat.ne_of_gt zl) (Heap.get?_push_size _ rfl))
  have n8 : p8.objs.size = p5.objs.size + 1 := by rw [t8.1, t7.1, Heap.size_push]
  rw [sz] at z8 T8 n8
  refine wpAny_pure ⟨_, rfl, ?_⟩
  show Q (.ref p5.objs.size) _; rw [sz]
  exact K p8 z8 (lift _ _ D.TOz o5) (S1.ja v1 fun o e => lift _ o D.i1z e) (S2.ja v2 fun o e => lift _ o D.i2z e) T8 n8 fun c o d1 d2 d3 d4 e => lift c o d1 (kp c o d1 d2 d3 d4 e)
theorem last {Q : Fin → Shared → Prop} (nh : A.handled = none) (D : ZipApart z P O i j l m) (S1 : Src i l J1 B1 xs) (S2 : Src j m J2 B2 ys) (hz : IsZip s.heap z P O .none) (hP : IsPair s.heap P (.ref i) (.ref j)) (hO : IsPair s.heap O a b) (g1 : J1 k s.heap) (g2 : J2 n s.heap) (c1 : B1 s.heap) (c2 : B2 s.heap)
    (ends : xs[k]? = none ∨ ys[n]? = none) (K : ∀ h' e, (∀ c o, c ≠ z → c ≠ O → c ≠ i → c ≠ j → s.heap.get? c = some o → h'.get? c = some o) → (∃ o, h'.get? e = some o ∧ o.cls = .type "StopIteration") → E (.ref e) { s with heap := h' }) :
    wpAny (model prog w) A (Builtin.«zip.__next__» ⟨[.ref z], []⟩) Q E s := by
  show wpAny _ _ (field (.ref z) 2 >>= _) _ _ s
  refine wpAny_bind (wpAny_field hz rfl (x := .bool false) rfl (show wpAny _ _ (field (.ref z) 3 >>= _) _ _ s from wpAny_bind (wpAny_field hz rfl (x := .ref P) rfl (wpAny_bind (wpAny_seqItems hP rfl ?_)))))
  refine (show wpAny _ _ (Builtin.SmallTypes.ownedTupleIsFree (.ref z) >>= _) _ _ s from wpAny_bind ?_)
  unfold Builtin.SmallTypes.ownedTupleIsFree
  refine wpAny_bind (wpAny_field hz rfl (x := .none) rfl (wpAny_pure ?_)); simp only [if_true]
  refine wpAny_bind (wpAny_rule (wpAny_bind (wpAny_field hz rfl (x := .ref O) rfl (wpAny_bind (wpAny_setField_rec hz (by simp) fun p1 z1 t1 => ?_)))))
  replace z1 : IsZip p1 z P O .ellipsis := z1
  refine wpAny_bind ?_; simp only [List.zipIdx_cons, List.zipIdx_nil, List.forIn_cons, List.forIn_nil]
  refine wpAny_bind (wpAny_bind (wpAny_onRaise (show wpAny _ _ (Builtin.SmallTypes.nextOf (.ref i) >>= _) _ _ _ from ?_)))
  cases ex : xs[k]? with
  | none =>
    refine wpAny_bind (S1.fin nh (S1.jx g1 t1.extBut D.i1z) (S1.bx c1 t1.extBut D.l1z) ex fun p2 e t2 ⟨oe, he, hc⟩ => ?_)
    have z2 : IsZip p2 z P O .ellipsis := t2 _ _ D.i1z.symm z1
    have ez : e ≠ z := fun q => by
      subst q
      rw [z2] at he
      cases he
      simp at hc
    exact wpAny_setField_rec z2 (by simp) fun p3 _ t3 => K p3 e (fun c o d1 _ d3 _ q => t3.extBut _ _ d1 (t2 _ _ d3 (t1.extBut _ _ d1 q))) ⟨oe, t3.extBut _ _ ez he, hc⟩
  | some x =>
    have ey : ys[n]? = none := ends.resolve_left fun q => by rw [ex] at q; cases q
    refine wpAny_bind (S1.go (S1.jx g1 t1.extBut D.i1z) (S1.bx c1 t1.extBut D.l1z) ex fun p2 u2 t2 => wpAny_pure ?_)
    have o2 : IsPair p2 O a b := t2.extBut _ _ D.TOi1 (t1.extBut _ _ D.TOz hO)
    refine wpAny_bind (wpAny_seqItems o2 rfl (wpAny_bind (wpAny_updateSeq_pair o2 fun p3 o3 t3 => wpAny_bind (wpAny_letGo (wpAny_pure ?_)))))
    refine wpAny_bind (wpAny_bind (wpAny_onRaise (show wpAny _ _ (Builtin.SmallTypes.nextOf (.ref j) >>= _) _ _ _ from wpAny_bind (S2.fin nh (S2.jx (S2.jx (S2.jx g2 t1.extBut D.i2z) t2.extBut D.i12.symm) t3.extBut D.TOi2.symm)
      (S2.bx (S2.bx (S2.bx c2 t1.extBut D.l2z) t2.extBut D.l2i1) t3.extBut D.l2TO) ey fun p4 e t4 ⟨oe, he, hc⟩ => ?_))))
    have z4 : IsZip p4 z P O .ellipsis := t4 _ _ D.i2z.symm (t3.extBut _ _ D.TOz.symm (t2.extBut _ _ D.i1z.symm z1))
    have ez : e ≠ z := fun q => by
      subst q
      rw [z4] at he
      cases he
      simp at hc
    exact wpAny_setField_rec z4 (by simp) fun p5 _ t5 => K p5 e (fun c o d1 d2 d3 d4 q => t5.extBut _ _ d1 (t4 _ _ d4 (t3.extBut _ _ d2 (t2.extBut _ _ d3 (t1.extBut _ _ d1 q))))) ⟨oe, t5.extBut _ _ ez he, hc⟩
theorem next {Q : Option Value → Shared → Prop} (D : ZipApart z P O i j l m) (S1 : Src i l J1 B1 xs) (S2 : Src j m J2 B2 ys) (hz : IsZip s.heap z P O .none) (hP : IsPair s.heap P (.ref i) (.ref j)) (hO : IsPair s.heap O a b) (g1 : J1 k s.heap) (g2 : J2 n s.heap) (c1 : B1 s.heap) (c2 : B2 s.heap)
    (ex : xs[k]? = some x) (ey : ys[n]? = some y)
    (K : ∀ h', IsZip h' z P O (rawInt s.heap.objs.size) → IsPair h' O x y → J1 (k + 1) h' → J2 (n + 1) h' → IsPair h' s.heap.objs.size x y → h'.objs.size = s.heap.objs.size + 1 → (∀ c o, c ≠ z → c ≠ O → c ≠ i → c ≠ j → s.heap.get? c = some o → h'.get? c = some o) →
      Q (some (.ref s.heap.objs.size)) { s with heap := h' }) : wpAny (model prog w) A (pyNext (.ref z)) Q E s := by
  have ty : s.TypeIs (.ref z) "zip" := ⟨_, hz, rfl⟩
  unfold pyNext
  exact wpAny_bind (wpAny_attempt (wpAny_callSpecial?_slot (name := Str.ofString "__next__") ty F.slot_zip_next (wpAny_call_entry F.slot_zip_next ty F.entry_zip_next
    (step D S1 S2 hz hP hO g1 g2 c1 c2 ex ey fun h' a1 a2 a3 a4 a5 a6 a7 => wpAny_pure (K h' a1 a2 a3 a4 a5 a6 a7)) (F.args_zip_next_1 _))))
theorem stop_ {Q : Option Value → Shared → Prop} (nh : A.handled = none) (D : ZipApart z P O i j l m) (S1 : Src i l J1 B1 xs) (S2 : Src j m J2 B2 ys) (hz : IsZip s.heap z P O .none) (hP : IsPair s.heap P (.ref i) (.ref j)) (hO : IsPair s.heap O a b) (g1 : J1 k s.heap) (g2 : J2 n s.heap) (c1 : B1 s.heap) (c2 : B2 s.heap)
    (ends : xs[k]? = none ∨ ys[n]? = none) (K : ∀ h', (∀ c o, c ≠ z → c ≠ O → c ≠ i → c ≠ j → s.heap.get? c = some o → h'.get? c = some o) → Q none { s with heap := h' }) : wpAny (model prog w) A (pyNext (.ref z)) Q E s := by
  have ty : s.TypeIs (.ref z) "zip" := ⟨_, hz, rfl⟩
  unfold pyNext
  refine wpAny_bind (wpAny_attempt (wpAny_callSpecial?_slot (name := Str.ofString "__next__") ty F.slot_zip_next (wpAny_call_entry F.slot_zip_next ty F.entry_zip_next (last nh D S1 S2 hz hP hO g1 g2 c1 c2 ends fun h' e hk ⟨o, ho, hc⟩ => ?_) (F.args_zip_next_1 _))))
  exact wpAny_bind (wpAny_isInstance (T := "StopIteration") (b := true) ⟨o, ho, hc⟩ isSubtype_stop (wpAny_pure (K _ hk)))
end
abbrev itC (t : Bool) : String := match t with
  | true => "tuple_iterator"
  | false => "list_iterator"
abbrev hp1 (t : Bool) (h : Heap) (l : Addr) : Heap := h.push { cls := .type (itC t), data := .fields #[.ref l, .int 0 0] }
abbrev hp3 (t u : Bool) (h : Heap) (l m : Addr) : Heap := (hp1 u (hp1 t h l) m).push { cls := .type "tuple", data := .seq #[.ref h.objs.size, .ref (hp1 t h l).objs.size] }
abbrev hp4 (t u : Bool) (h : Heap) (l m : Addr) : Heap := (hp3 t u h l m).push { cls := .type "tuple", data := .seq #[.none, .none] }
abbrev hp5 (t u : Bool) (h : Heap) (l m : Addr) : Heap := (hp4 t u h l m).push { cls := .type "zip", data := .fields #[.none, .bool false, .bool false, .ref (hp1 u (hp1 t h l) m).objs.size, .ref (hp3 t u h l m).objs.size] }
theorem made (t u : Bool) (ne : t ≠ u) (l m : Addr) (xs ys : Array Value) : Meets (Builtin.«zip.__new__» ⟨[.type "zip", .ref l, .ref m], []⟩) (fun _ R s => bB t l xs s.heap ∧ bB u m ys s.heap ∧ R (.ok (.ret (.ref (hp4 t u s.heap l m).objs.size))) { s with heap := hp5 t u s.heap l m }) :=
  .of_wp fun prog w A R s h => by
    obtain ⟨hp, g, d, tk, os⟩ := s
    obtain ⟨e1, e2, h⟩ := h
    have sub := sub_zip
    cases t <;> cases u
    · exact absurd rfl ne
    · have f1 : Heap.IsList (Shared.heap ⟨hp, g, d, tk, os⟩) l xs := e1
      have f2 : Heap.IsTuple (Shared.heap ⟨hp1 false hp l, g, d, tk, os⟩) m ys := Heap.IsTuple.push e2 _
      wp_walk using wpAny_pyIter_list f1, wpAny_pyIter_tuple f2
      exact ⟨_, rfl, h⟩
    · have f1 : Heap.IsTuple (Shared.heap ⟨hp, g, d, tk, os⟩) l xs := e1
      have f2 : Heap.IsList (Shared.heap ⟨hp1 true hp l, g, d, tk, os⟩) m ys := Heap.IsList.push e2 _
      wp_walk using wpAny_pyIter_tuple f1, wpAny_pyIter_list f2
      exact ⟨_, rfl, h⟩
    · exact absurd rfl ne
theorem call_zip {prog : Program} {w : World} {A : Around} {E : Value → Shared → Prop} {s : Shared} {t u : Bool} {l m : Addr} {xs ys : Array Value} {Q : Value → Shared → Prop} (ne : t ≠ u) (e1 : bB t l xs s.heap) (e2 : bB u m ys s.heap)
    (k : ∀ h', IsZip h' (s.heap.objs.size + 4) (s.heap.objs.size + 2) (s.heap.objs.size + 3) .none → IsPair h' (s.heap.objs.size + 2) (.ref s.heap.objs.size) (.ref (s.heap.objs.size + 1)) → IsPair h' (s.heap.objs.size + 3) .none .none → jB t s.heap.objs.size l 0 h' → jB u (s.heap.objs.size + 1) m 0 h' →
      (∀ c o, s.heap.get? c = some o → h'.get? c = some o) → Q (.ref (s.heap.objs.size + 4)) { s with heap := h' }) : wpAny (model prog w) A (call (.type "zip") [.ref l, .ref m]) Q E s := by
  refine callType_new F.called_zip (by decide) (F.typeCall_zip_2 _ _) (F.newCall_zip_2 _ _) (fun obj => F.args_object_init_3 obj _ _) F.entry_zip_new (made t u ne l m xs ys) ⟨e1, e2, ?_⟩
  have n1 : (hp1 t s.heap l).objs.size = s.heap.objs.size + 1 := Heap.size_push ..
  have n2 : (hp1 u (hp1 t s.heap l) m).objs.size = s.heap.objs.size + 2 := by rw [Heap.size_push, n1]
  have n3 : (hp3 t u s.heap l m).objs.size = s.heap.objs.size + 3 := by rw [Heap.size_push, n2]
  have n4 : (hp4 t u s.heap l m).objs.size = s.heap.objs.size + 4 := by rw [Heap.size_push, n3]
  have q5 : (hp5 t u s.heap l m).get? (hp4 t u s.heap l m).objs.size = some _ := Heap.get?_push_size _ rfl
  have q4 : (hp5 t u s.heap l m).get? (hp3 t u s.heap l m).objs.size = some _ := Heap.get?_push_of_some _ (Heap.get?_push_size _ rfl)
  have q3 : (hp5 t u s.heap l m).get? (hp1 u (hp1 t s.heap l) m).objs.size = some _ := Heap.get?_push_of_some _ (Heap.get?_push_of_some _ (Heap.get?_push_size _ rfl))
  have q2 : (hp5 t u s.heap l m).get? (hp1 t s.heap l).objs.size = some _ := Heap.get?_push_of_some _ (Heap.get?_push_of_some _ (Heap.get?_push_of_some _ (Heap.get?_push_size _ rfl)))
  have q1 : (hp5 t u s.heap l m).get? s.heap.objs.size = some _ := Heap.get?_push_of_some _ (Heap.get?_push_of_some _ (Heap.get?_push_of_some _ (Heap.get?_push_of_some _ (Heap.get?_push_size _ rfl))))
  show _ ∧ _
  rw [n2, n3, n4] at q5
  rw [n1, n2] at q3
  rw [n3] at q4
  rw [n1] at q2
  rw [n4]
  refine ⟨⟨_, q5, rfl⟩, k _ q5 q3 q4 ?_ ?_ fun c o x => Heap.get?_push_of_some _ (Heap.get?_push_of_some _ (Heap.get?_push_of_some _ (Heap.get?_push_of_some _ (Heap.get?_push_of_some _ x))))⟩
  · cases t <;> exact ⟨_, q1, rfl, rfl⟩
  · cases u <;> exact ⟨_, q2, rfl, rfl⟩
end CsZip
namespace Cs
open PySem L2 PyProof.Rows
/-- a tuple or a list -/
def SqB (K : PySem.W.Frag) (t : Bool) (H : Hp) (a : Addr) (xs : List V) : Prop := match t with
  | true => SqT K H a xs
  | false => SqL K H a xs
/-- what stands at a and b at each turn, the items in new pairs -/
def ItzB (K : PySem.W.Frag) (t u : Bool) (a b : Addr) : It :=
  ⟨fun i H => ∃ (xs ys : List V) (x y : V), SqB K t H a xs ∧ SqB K u H b ys ∧ xs[i]? = some x ∧ ys[i]? = some y,
    fun i H v H' => ∃ (T : Addr) (x y : V), v = .ref T ∧ H T = none ∧ H' = upd H T (.tup [x, y]) ∧ (∀ xs, SqB K t H a xs → xs[i]? = some x) ∧ ∀ ys, SqB K u H b ys → ys[i]? = some y,
    fun i H => ∃ xs ys : List V, SqB K t H a xs ∧ SqB K u H b ys ∧ (xs.length ≤ i ∨ ys.length ≤ i)⟩
section
variable {X : Cx} {pins : List (Addr × Obj)} {σ : L2.St} {H : Hp} {s : Shared} {t : Bool} {a : Addr} {xs ys : List V}
theorem seqB (I : L2.Inv X pins σ H s) (h : SqB X.K t H a xs) : ∃ its : List Value, Vals xs its ∧ CsZip.bB t a its.toArray s.heap ∧ a < s.heap.objs.size := by
  cases t with
  | true =>
    obtain ⟨its, rv, p, _⟩ := I.tuple h
    obtain ⟨o, ho, _⟩ := id p
    exact ⟨its, rv, p, Heap.lt_size ho⟩
  | false =>
    obtain ⟨its, rv, p, _⟩ := I.list h
    exact ⟨its, rv, p.isList, p.lt⟩
theorem injB (I : L2.Inv X pins σ H s) (h : SqB X.K t H a xs) (k : SqB X.K t H a ys) : xs = ys := by
  cases t with
  | true => exact I.tuple_inj h k
  | false => exact I.list_inj h k
end
theorem turn_zipB {P : Program} {w : World} {K : PySem.W.Frag} {elts : List Expr} {kk : Nat} {tpos : Pos} {t u : Bool} {a b z TI TO i1 i2 : Addr} (D : ZipApart z TI TO i1 i2 a b) :
    Turn P w K (.Tuple elts kk tpos) (ItzB K t u a b) [z, TI, TO, i1, i2] z (fun i h => IsZip h z TI TO .none ∧ IsPair h TI (.ref i1) (.ref i2) ∧ (∃ x y, IsPair h TO x y) ∧ CsZip.jB t i1 a i h ∧ CsZip.jB u i2 b i h) where
  mem := List.mem_cons_self
  obj := fun i h st c hc => by
    obtain ⟨g1, g2, ⟨x, y, g3⟩, g4, g5⟩ := st
    simp only [List.mem_cons, List.not_mem_nil, or_false] at hc
    rcases hc with rfl | rfl | rfl | rfl | rfl
    · exact ⟨_, g1, fun v q => nomatch q⟩
    · exact ⟨_, g2, fun v q => nomatch q⟩
    · exact ⟨_, g3, fun v q => nomatch q⟩
    · exact (CsZip.src t c a #[]).jo g4
    · exact (CsZip.src u c b #[]).jo g5
  keep := fun i h h' st k => by
    obtain ⟨g1, g2, ⟨x, y, g3⟩, g4, g5⟩ := st
    exact ⟨k z (by simp) _ g1, k TI (by simp) _ g2, ⟨x, y, k TO (by simp) _ g3⟩, (CsZip.src t i1 a #[]).ja g4 fun o q => k i1 (by simp) o q, (CsZip.src u i2 b #[]).ja g5 fun o q => k i2 (by simp) o q⟩
  item := by
    rintro X rfl rfl rfl hc i pins s σ H E I hf ⟨g1, g2, ⟨x0, y0, g3⟩, g4, g5⟩ ⟨xs, ys, x, y, qx, qy, ex, ey⟩
    obtain ⟨us, rv, p, _⟩ := seqB I qx
    obtain ⟨us2, rv2, p2, _⟩ := seqB I qy
    obtain ⟨v, hv, ru⟩ := rv.get ex
    obtain ⟨v2, hv2, ru2⟩ := rv2.get ey
    have zl : z < s.heap.objs.size := Heap.lt_size g1
    refine CsZip.next D (CsZip.src t i1 a us.toArray) (CsZip.src u i2 b us2.toArray) g1 g2 g3 g4 g5 p p2 (x := v) (y := v2) (by simpa using hv) (by simpa using hv2) fun h' k1 k2 k3 k4 k5 hsz kp => ?_
    refine ⟨_, rfl, wpAny_letOwnedTupleGo_zip (s := { s with heap := h' }) k1 fun h2 z2 sb => ?_⟩
    have T2 : h2.get? s.heap.objs.size = some { cls := .type "tuple", data := .seq #[v, v2] } := (sb.2 _ (Nat.ne_of_gt zl)).trans k5
    have ok : ObjOk X.prog X.w (upd H s.heap.objs.size (.tup [x, y])) h2 s.heap.objs.size (.tup [x, y]) := ⟨by show 2 ≤ sizeLine; decide, [v, v2], .cons ru (.cons ru2 .nil), ⟨_, T2, rfl, _, rfl⟩⟩
    have J : L2.Inv X pins σ (upd H s.heap.objs.size (.tup [x, y])) { s with heap := h2 } := I.turnedNew (t' := s.toks) (ch := [z, TI, TO, i1, i2]) (fun c o hb q => by
      simp only [List.mem_cons, List.not_mem_nil, or_false, not_or] at hb
      exact (sb.2 c hb.1).trans (kp c o hb.1 hb.2.2.1 hb.2.2.2.1 hb.2.2.2.2 q)) hf (Nat.le_refl _) ok
    refine ⟨.ref s.heap.objs.size, _, J, rfl, ⟨_, x, y, rfl, I.hok.fresh (Nat.le_refl _), rfl, fun l hl => by rw [injB I hl qx]; exact ex, fun l hl => by rw [injB I hl qy]; exact ey⟩, ⟨z2, (sb.2 _ D.TIz).trans (kp _ _ D.TIz D.TITO D.TIi1 D.TIi2 g2), ⟨v, v2, (sb.2 _ D.TOz).trans k2⟩,
      (CsZip.src t i1 a us.toArray).ja k3 fun o q => (sb.2 _ D.i1z).trans q, (CsZip.src u i2 b us2.toArray).ja k4 fun o q => (sb.2 _ D.i2z).trans q⟩, fun c hm => ?_⟩
    have lt : c < s.heap.objs.size := by
      simp only [List.mem_cons, List.not_mem_nil, or_false] at hm
      rcases hm with rfl | rfl | rfl | rfl | rfl
      · exact zl
      · exact Heap.lt_size g2
      · exact Heap.lt_size g3
      · obtain ⟨_, q, _⟩ := (CsZip.src t c a #[]).jo g4
        exact Heap.lt_size q
      · obtain ⟨_, q, _⟩ := (CsZip.src u c b #[]).jo g5
        exact Heap.lt_size q
    rw [upd_ne (Nat.ne_of_lt lt)]
    exact (hf c hm).1
  done := by
    rintro X rfl rfl rfl hc i pins s σ H E I hf ⟨g1, g2, ⟨x0, y0, g3⟩, g4, g5⟩ ⟨xs, ys, qx, qy, ends⟩
    obtain ⟨us, rv, p, _⟩ := seqB I qx
    obtain ⟨us2, rv2, p2, _⟩ := seqB I qy
    have l1 := rv.length
    have l2 := rv2.length
    have en : us.toArray[i]? = none ∨ us2.toArray[i]? = none := ends.imp (fun q => by simp; omega) fun q => by simp; omega
    exact CsZip.stop_ (I.ok.hd hc) D (CsZip.src t i1 a us.toArray) (CsZip.src u i2 b us2.toArray) g1 g2 g3 g4 g5 p p2 en fun h' hk => ⟨rfl, I.turnedL (t' := s.toks) (ch := [z, TI, TO, i1, i2]) (fun c o hb q => by
      simp only [List.mem_cons, List.not_mem_nil, or_false, not_or] at hb
      exact hk c o hb.1 hb.2.2.1 hb.2.2.2.1 hb.2.2.2.2 q) hf⟩
  self := fun A i s Q E st h => wpAny_pyIter_zip st.1 h
def iZipB (K : PySem.W.Frag) (t u : Bool) (ta : TA) : TI := fun σ H R => ta σ H fun vs H1 => ∃ a b xs ys, vs = [.ref a, .ref b] ∧ SqB K t H1 a xs ∧ SqB K u H1 b ys ∧ R (ItzB K t u a b) H1
theorem pi_zipB {X : Cx} {e e2 : Expr} {ta : TA} {p pos tpos : Pos} {elts : List Expr} {kk : Nat} (t u : Bool) (ne : t ≠ u) (hg : Gl X "zip") (hm : X.mg "zip" = none) (ha : PA X [e, e2] ta)
    (hs : starEach [e, e2] X.env = (false, eval e X.env) :: starEach [e2] X.env := by rfl) (hpl : (backTo pos (starEach [e2] X.env)).any (·.1) = false := by rfl) :
    PI X (.Tuple elts kk tpos) (.Call (.Name "zip" p) [e, e2] [] pos) (iZipB X.K t u ta) := by
  refine ⟨fun pins s σ H R I h => Call_ (ld_blt I hg hm PyProof.Rows.boot_zip (PyProof.Rows.callWith_type1 (thn (ha.run pos pins s σ H _ I h) fun us s1 ⟨vs, H1, I1, r1, a, b, xs, ys, ev, qx, qy, q⟩ => ?_) hs hpl))⟩
  subst ev
  obtain ⟨u1, us2, rfl, r, rr⟩ : ∃ u1 us2, us = u1 :: us2 ∧ RelV (.ref a) u1 ∧ Vals [.ref b] us2 := by
    cases r1 with
    | cons r rr => exact ⟨_, _, rfl, r, rr⟩
  obtain ⟨u2, rfl, r'⟩ := rr.one
  cases r
  cases r'
  obtain ⟨its, rv, p1, la⟩ := seqB I1 qx
  obtain ⟨its2, rv2, p2, lb⟩ := seqB I1 qy
  refine CsZip.call_zip ne p1 p2 fun h' k1 k2 k3 k4 k5 hk => wpAny_pyIter_zip k1 ?_
  refine ⟨_, [s1.heap.objs.size + 4, s1.heap.objs.size + 2, s1.heap.objs.size + 3, s1.heap.objs.size, s1.heap.objs.size + 1], _, _, H1, rfl, I1.kept (t' := s1.toks) hk, turn_zipB (PySem.W.ktu_apart s1.heap.objs.size a b la lb), ⟨k1, k2, ⟨_, _, k3⟩, k4, k5⟩, fun c hm => ?_, q⟩
  have le : s1.heap.objs.size ≤ c := by
    simp only [List.mem_cons, List.not_mem_nil, or_false] at hm
    rcases hm with rfl | rfl | rfl | rfl | rfl <;> first | exact Nat.le_add_right _ _ | exact Nat.le_refl _
  exact I1.fpOk le (I1.hok.fresh le)
section
variable {K : PySem.W.Frag} {p : Addr} {ta : TA} {g : TG} {te : TE} {vs : List Nat} {σ : L2.St} {H1 : Hp} {Q : VK}
/-- over zip of a tuple and a list, or a list and a tuple, of data -/
theorem lc_zipB {t u : Bool} {a b : Addr} {xs zs : List V} {ds fs es : List PyData} (hl : es.length = min ds.length fs.length) (hz : ds.length ≤ 1000) (qx : ∀ {H}, Same H1 H → SqB K t H a xs) (qz : ∀ {H}, Same H1 H → SqB K u H b zs) (r : RpTA p H1 xs ds) (r' : RpTA p H1 zs fs)
    (ht : ∀ R : List V → Hp → Prop, R [.ref a, .ref b] H1 → ta σ H1 R)
    (hs : ∀ (j : Nat) (T : Addr) (x y : V) (d f e : PyData) (H : Hp), ds[j]? = some d → fs[j]? = some f → es[j]? = some e → Same H1 H → H T = some (.tup [x, y]) → RpT p H x d → RpT p H y f → ∀ R : VK, (∀ y H3, Same H H3 → RpT p H3 y e → R y H3) → g (.ref T) (wipe σ vs) H fun σ2 H2 => wipe σ2 vs = wipe σ vs ∧ te σ2 H2 R)
    (k : ∀ D ys H', H1 D = none → Same H1 H' → H' D = some (.lst ys) → RpTA p H' ys es → Q (.ref D) H') : tLc (iZipB K t u ta) g tYes te vs σ H1 Q := by
  have ln := r.length
  have ln' := r'.length
  refine ht _ ⟨a, b, xs, zs, rfl, qx (Same.refl _), qz (Same.refl _), fun D hD => ?_⟩
  refine ⟨fun i m H => m = es.length - i ∧ i ≤ es.length ∧ Same H1 H ∧ ∃ ys, H D = some (.lst ys) ∧ ys.length = i ∧ RpTA p H ys (es.take i), ⟨es.length, by simp, Nat.zero_le _, same_new hD, [], upd_same, rfl, .nil⟩, ?_⟩
  rintro i m H ⟨rfl, hi, sm, ys, hd, ly, ry⟩
  by_cases lt : i < es.length
  · have hx : i < xs.length := by omega
    have hy : i < zs.length := by omega
    refine .inr ⟨⟨xs, zs, xs[i], zs[i], qx sm, qz sm, List.getElem?_eq_getElem hx, List.getElem?_eq_getElem hy⟩, fun H' => Same H1 H' ∧ ∃ ys, H' D = some (.lst ys) ∧ ys.length = i + 1 ∧ RpTA p H' ys (es.take (i + 1)), fun H' p' => ⟨es.length - (i + 1), by omega, rfl, lt, p'⟩, fun w H' yl => ?_⟩
    obtain ⟨T, x, y, rfl, hT, rfl, e1, e2⟩ := yl
    obtain ⟨d, hd2, rd⟩ := r.get (e1 xs (qx sm))
    obtain ⟨f, hf2, rf⟩ := r'.get (e2 zs (qz sm))
    have sT : Same H (upd H T (.tup [x, y])) := same_new hT
    have key := hs i T x y d f es[i] _ hd2 hf2 (List.getElem?_eq_getElem lt) (sm.trans sT) upd_same (rd.keep (ExT.of (ExB.of (sm.trans sT)))) (rf.keep (ExT.of (ExB.of (sm.trans sT))))
      (fun y H4 => ∃ acc, H4 D = some (.lst acc) ∧ acc.length < sizeLine ∧ Same H1 (upd H4 D (.lst (acc ++ [y]))) ∧ ∃ ys, upd H4 D (.lst (acc ++ [y])) D = some (.lst ys) ∧ ys.length = i + 1 ∧ RpTA p (upd H4 D (.lst (acc ++ [y]))) ys (es.take (i + 1))) fun y H3 s3 r3 => ?_
    · exact key
    · have hd3 := s3 _ _ (sT _ _ hd)
      refine ⟨ys, hd3, ?_, fun b o e => ?_, _, upd_same, ?_, ?_⟩
      · rw [ly]
        exact Nat.lt_of_lt_of_le (by omega : i < 1000) (by decide)
      · rw [upd_ne (ne_of_none e hD)]
        exact s3 _ _ (sT _ _ (sm _ _ e))
      · rw [List.length_append, ly]
        rfl
      · rw [take_snoc (List.getElem?_eq_getElem lt)]
        exact ((ry.keep (ExT.of (ExB.of (sT.trans s3)))).snoc r3).keep (ExT.put hd3)
  · have e : i = es.length := by omega
    subst e
    refine .inl ⟨⟨xs, zs, qx sm, qz sm, by omega⟩, k D ys H hD sm hd (by rw [List.take_of_length_le (Nat.le_refl _)] at ry; exact ry)⟩
end
end Cs
set_option maxHeartbeats 4000000
/-! How long data are when shown. -/
namespace Cs
open PySem L2 PyProof.Rows
/-- d may be shown within n characters, is at most k deep and holds no list -/
structure Shw (d : PyData) (n k : Nat) : Prop where
  sh : d.showable = true
  dp : d.depth ≤ k
  ln : d.shown.length ≤ n
  nl : noL d = true
theorem Shw.up {d : PyData} {n k n' k' : Nat} (h : Shw d n k) (a : n ≤ n') (b : k ≤ k') : Shw d n' k' := ⟨h.sh, Nat.le_trans h.dp b, Nat.le_trans h.ln a, h.nl⟩
theorem join_len {sep : Str} : ∀ {xs : List Str} {n : Nat}, (∀ x ∈ xs, x.length ≤ n) → (Str.join sep xs).length ≤ (n + sep.length) * xs.length
  | [], n, _ => by simp [Str.join]; decide
  | [x], n, h => by
    have := h x List.mem_cons_self
    show x.length ≤ (n + sep.length) * 1
    omega
  | x :: y :: xs, n, h => by
    have ih := join_len (sep := sep) (xs := y :: xs) (n := n) fun z hz => h z (List.mem_cons_of_mem _ hz)
    have h1 := h x List.mem_cons_self
    show (x ++ sep ++ Str.join sep (y :: xs)).length ≤ _
    rw [Str.length_append, Str.length_append, List.length_cons, Nat.mul_succ]
    omega
theorem from_len : ∀ {xs : List Str} {n k : Nat} {acc : Str}, (∀ x ∈ xs, x.length ≤ n) → (textFrom k acc xs).length ≤ acc.length + (n + 2) * xs.length
  | [], n, k, acc, _ => Nat.le_refl _
  | x :: xs, n, k, acc, h => by
    have h1 := h x List.mem_cons_self
    have c1 : ((", " : Str)).length = 2 := by decide
    have c2 : (("" : Str)).length = 0 := by decide
    have ih := from_len (xs := xs) (n := n) (k := k + 1) (acc := acc ++ (if k > 0 then ", " else "" : String) ++ x) fun z hz => h z (List.mem_cons_of_mem _ hz)
    have l : (acc ++ (if k > 0 then ", " else "" : String) ++ x).length ≤ acc.length + 2 + x.length := by
      rw [Str.length_append, Str.length_append]
      by_cases z : k > 0
      · rw [if_pos z]
        omega
      · rw [if_neg z]
        omega
    show (textFrom (k + 1) (acc ++ (if k > 0 then ", " else "" : String) ++ x) xs).length ≤ _
    rw [List.length_cons, Nat.mul_succ]
    omega
theorem shows_mem : ∀ {es : List PyData} {n k : Nat}, (∀ e ∈ es, Shw e n k) → PyData.showableAll es = true ∧ PyData.depthAll es ≤ k ∧ (∀ x ∈ PyData.shownAll es, x.length ≤ n) ∧ (PyData.shownAll es).length = es.length ∧ noLs es = true
  | [], n, k, _ => ⟨rfl, Nat.zero_le _, (fun _ h => by cases h), rfl, rfl⟩
  | e :: es, n, k, h => by
    obtain ⟨a1, a2, a3, a4, a5⟩ := shows_mem (es := es) fun z hz => h z (List.mem_cons_of_mem _ hz)
    have h1 := h e List.mem_cons_self
    refine ⟨?_, ?_, fun x hx => ?_, ?_, ?_⟩
    · show (e.showable && PyData.showableAll es) = true
      rw [h1.sh, a1]
      rfl
    · rw [PyData.depthAll]
      exact Nat.max_le.mpr ⟨h1.dp, a2⟩
    · rcases List.mem_cons.mp hx with rfl | hx
      · exact h1.ln
      · exact a3 x hx
    · show (e.shown :: PyData.shownAll es).length = _
      rw [List.length_cons, a4, List.length_cons]
    · show (noL e && noLs es) = true
      rw [h1.nl, a5]
      rfl
theorem tup_shw {es : List PyData} {n k m : Nat} (h : ∀ e ∈ es, Shw e n k) (hm : es.length ≤ m) : Shw (.tuple es) ((n + 2) * m + 3) (k + 1) := by
  obtain ⟨a1, a2, a3, a4, a5⟩ := shows_mem h
  refine ⟨a1, by rw [PyData.depth]; omega, ?_, a5⟩
  have j := join_len (sep := (", " : Str)) a3
  have c1 : ((", " : Str)).length = 2 := by decide
  have c2 : (("(" : Str)).length = 1 := by decide
  have c3 : ((",)" : Str)).length = 2 := by decide
  have c4 : ((")" : Str)).length = 1 := by decide
  rw [c1, a4] at j
  have mm := Nat.mul_le_mul_left (n + 2) hm
  show (("(" : Str) ++ Str.join ", " (PyData.shownAll es) ++ (if (PyData.shownAll es).length == 1 then ",)" else ")" : String)).length ≤ _
  rw [Str.length_append, Str.length_append, c2]
  by_cases z : (PyData.shownAll es).length == 1
  · rw [if_pos z, c3]
    omega
  · rw [if_neg z, c4]
    omega
/-- a list at the top -/
theorem lst_show {es : List PyData} {n k m : Nat} (h : ∀ e ∈ es, Shw e n k) (hm : es.length ≤ m) (hk : k < 60) (hn : (n + 2) * m + 2 ≤ 1000000) :
    (PyData.list es).showable = true ∧ topSafe (.list es) = true ∧ (PyData.list es).depth ≤ 60 ∧ (PyData.list es).shown.length ≤ sizeLine := by
  obtain ⟨a1, a2, a3, a4, a5⟩ := shows_mem h
  refine ⟨a1, ?_, by rw [PyData.depth]; omega, ?_⟩
  · show (!PyData.hasDictAll es || noLs es) = true
    rw [a5, Bool.or_true]
  · have j := from_len (k := 0) (acc := ("[" : Str)) a3
    have c2 : (("[" : Str)).length = 1 := by decide
    have c4 : (("]" : Str)).length = 1 := by decide
    have mm := Nat.mul_le_mul_left (n + 2) hm
    rw [c2, a4] at j
    refine Nat.le_trans (m := 1000000) ?_ (by decide)
    show (textFrom 0 "[" (PyData.shownAll es) ++ "]").length ≤ _
    rw [Str.length_append, c4]
    omega
theorem bl_shw (b : Bool) : Shw (.bool b) 5 0 := by cases b <;> exact ⟨rfl, Nat.le_refl 0, by decide, rfl⟩
theorem int_shw {a : Int} (h1 : -1000000000 < a) (h2 : a < 1000000000) : Shw (.int a) 10 0 := by
  refine ⟨?_, by simp [PyData.depth], ?_, rfl⟩
  · show decide (a.natAbs.log2 < 1920) = true
    refine decide_eq_true ?_
    by_cases h0 : a.natAbs = 0
    · rw [h0]
      decide
    · exact (Nat.log2_lt h0).mpr (Nat.lt_of_lt_of_le (show a.natAbs < 2 ^ 30 by omega) (Nat.pow_le_pow_right (by decide) (by decide)))
  · have e := int_text_length_le10 (a := a) (k := 9) (by decide) (by omega)
    show (Str.ofString (toString a)).length ≤ 10
    rw [PySem.ofString_length]
    exact e
end Cs
set_option maxHeartbeats 4000000
/-! Fractions in lowest terms. -/
namespace Cs
/-- a over b, b above 0, in lowest terms -/
def red (a b : Int) : Int × Int := (a / (Int.gcd a b : Int), b / (Int.gcd a b : Int))
theorem gcd_pos {a b : Int} (hb : 0 < b) : (0 : Int) < (Int.gcd a b : Int) := by
  have := Int.gcd_pos_of_ne_zero_right a (b := b) (by omega)
  omega
theorem red_fst {a b : Int} : (red a b).1 * (Int.gcd a b : Int) = a := Int.ediv_mul_cancel (Int.gcd_dvd_left a b)
theorem red_snd {a b : Int} : (red a b).2 * (Int.gcd a b : Int) = b := Int.ediv_mul_cancel (Int.gcd_dvd_right a b)
theorem red_pos {a b : Int} (hb : 0 < b) : 0 < (red a b).2 := by
  have h1 := @red_snd a b
  have h2 := @gcd_pos a b hb
  rcases Int.lt_trichotomy (red a b).2 0 with h | h | h
  · have := Int.mul_neg_of_neg_of_pos h h2
    omega
  · rw [h, Int.zero_mul] at h1
    omega
  · exact h
theorem red_cross {a b : Int} : (red a b).1 * b = a * (red a b).2 := by
  have h1 := @red_fst a b
  have h2 := @red_snd a b
  generalize (red a b).1 = x at *
  generalize (red a b).2 = y at *
  generalize (Int.gcd a b : Int) = g at *
  rw [← h1, ← h2, Int.mul_assoc x g y, Int.mul_comm g y]
theorem red_cop {a b : Int} (hb : 0 < b) : Int.gcd (red a b).1 (red a b).2 = 1 := Int.gcd_ediv_gcd_ediv_gcd (by have := @gcd_pos a b hb; omega)
theorem cop_dvd {a b c : Int} (h : Int.gcd a b = 1) (d : a ∣ c * b) : a ∣ c := by
  rw [← Int.natAbs_dvd_natAbs] at d ⊢
  rw [Int.natAbs_mul] at d
  exact Nat.Coprime.dvd_of_dvd_mul_right (show Nat.gcd a.natAbs b.natAbs = 1 from h) d
/-- lowest terms are told by their quotient -/
theorem low_one {x y u v : Int} (hy : 0 < y) (hv : 0 < v) (h1 : Int.gcd x y = 1) (h2 : Int.gcd u v = 1) (e : x * v = u * y) : x = u ∧ y = v := by
  have d1 : y ∣ v := by
    refine cop_dvd (b := x) (by rw [Int.gcd_comm]; exact h1) ⟨u, ?_⟩
    rw [Int.mul_comm v, e, Int.mul_comm]
  have d2 : v ∣ y := by
    refine cop_dvd (b := u) (by rw [Int.gcd_comm]; exact h2) ⟨x, ?_⟩
    rw [Int.mul_comm y, ← e, Int.mul_comm]
  have q : y = v := Int.dvd_antisymm (by omega) (by omega) d1 d2
  subst q
  exact ⟨Int.eq_of_mul_eq_mul_right (by omega) e, rfl⟩
theorem red_eq {a b c d : Int} (hb : 0 < b) (hd : 0 < d) (e : a * d = c * b) : red a b = red c d := by
  have p1 := @red_pos a b hb
  have p2 := @red_pos c d hd
  obtain ⟨q1, q2⟩ := low_one p1 p2 (red_cop hb) (red_cop hd) (by
    have c1 := @red_cross a b
    have c2 := @red_cross c d
    generalize (red a b).1 = x at *
    generalize (red a b).2 = y at *
    generalize (red c d).1 = u at *
    generalize (red c d).2 = v at *
    refine Int.eq_of_mul_eq_mul_right (a := b * d) (Int.mul_ne_zero (by omega) (by omega)) ?_
    calc x * v * (b * d) = (x * b) * (v * d) := by ac_rfl
      _ = (a * y) * (v * d) := by rw [c1]
      _ = (a * d) * (y * v) := by ac_rfl
      _ = (c * b) * (y * v) := by rw [e]
      _ = (c * v) * (y * b) := by ac_rfl
      _ = (u * d) * (y * b) := by rw [c2]
      _ = u * y * (b * d) := by ac_rfl)
  exact Prod.ext q1 q2
theorem red_of_cop {a b : Int} (h : Int.gcd a b = 1) : red a b = (a, b) := by
  unfold red
  rw [h]
  simp
theorem red_red {a b : Int} (hb : 0 < b) : red (red a b).1 (red a b).2 = red a b := red_of_cop (red_cop hb)
theorem red_neg {a b : Int} : red (-a) b = (-(red a b).1, (red a b).2) := by
  unfold red
  rw [Int.neg_gcd, Int.neg_ediv_of_dvd (Int.gcd_dvd_left a b)]
/-- a fraction beside a whole number of parts -/
theorem red_ltc {a b c d : Int} (hb : 0 < b) (hd : 0 < d) : (red a b).1 * (red c d).2 < (red c d).1 * (red a b).2 ↔ a * d < c * b := by
  have h1 := @red_fst a b
  have h2 := @red_snd a b
  have h3 := @red_fst c d
  have h4 := @red_snd c d
  have g1 := @gcd_pos a b hb
  have g2 := @gcd_pos c d hd
  generalize (red a b).1 = x at *
  generalize (red a b).2 = y at *
  generalize (red c d).1 = u at *
  generalize (red c d).2 = v at *
  generalize (Int.gcd a b : Int) = g at *
  generalize (Int.gcd c d : Int) = k at *
  subst h1 h2 h3 h4
  rw [show x * g * (v * k) = (g * k) * (x * v) by ac_rfl, show u * k * (y * g) = (g * k) * (u * y) by ac_rfl]
  exact (Int.mul_lt_mul_left (Int.mul_pos g1 g2)).symm
theorem red_lt {a c b : Int} (hb : 0 < b) : (red a b).1 * (red c b).2 < (red c b).1 * (red a b).2 ↔ a < c := by
  rw [red_ltc hb hb]
  constructor
  · intro h
    exact Int.lt_of_mul_lt_mul_right h (by omega)
  · intro h
    exact Int.mul_lt_mul_of_pos_right h hb
theorem red_le {a b i : Int} (hb : 0 < b) : (red a b).1 ≤ i * (red a b).2 ↔ a ≤ i * b := by
  have h1 := @red_fst a b
  have h2 := @red_snd a b
  have g1 := @gcd_pos a b hb
  generalize (red a b).1 = x at *
  generalize (red a b).2 = y at *
  generalize (Int.gcd a b : Int) = g at *
  subst h1 h2
  rw [show i * (y * g) = (i * y) * g by ac_rfl]
  exact (Int.mul_le_mul_right g1).symm
theorem red_pls {a b c d : Int} (hb : 0 < b) (hd : 0 < d) : red ((red a b).1 * (red c d).2 + (red c d).1 * (red a b).2) ((red a b).2 * (red c d).2) = red (a * d + c * b) (b * d) := by
  have p1 := @red_pos a b hb
  have p2 := @red_pos c d hd
  have c1 := @red_cross a b
  have c2 := @red_cross c d
  refine red_eq (Int.mul_pos p1 p2) (Int.mul_pos hb hd) ?_
  generalize (red a b).1 = x at *
  generalize (red a b).2 = y at *
  generalize (red c d).1 = u at *
  generalize (red c d).2 = v at *
  rw [Int.add_mul, Int.add_mul, show x * v * (b * d) = (x * b) * (v * d) by ac_rfl, show u * y * (b * d) = (u * d) * (y * b) by ac_rfl, c1, c2]
  congr 1 <;> ac_rfl
theorem red_mul {a b k : Int} (hb : 0 < b) : red (k * (red a b).1) (red a b).2 = red (k * a) b := by
  have c1 := @red_cross a b
  refine red_eq (red_pos hb) hb ?_
  rw [Int.mul_assoc, c1]
  ac_rfl
end Cs
set_option maxHeartbeats 4000000
local macro_rules | `(tactic| walk_at "hp") => `(tactic| first
  | assumption
  | with_reducible exact L2.upd_same
  | with_reducible exact Cs.upd_old (by assumption) (by assumption)
  | (with_reducible refine Cs.upd_old (by first | assumption | exact Cs.upd_new (by assumption)) ?_; walk_at "hp")
  | (with_reducible refine Cs.upd_mut (by walk_at "hp") (by intro z; cases z) ?_; walk_at "hp")
  | exact (by assumption : L2.Same _ _) _ _ (by walk_at "hp"))
local macro_rules | `(tactic| walk_at "rp") => `(tactic| first
  | assumption
  | exact Cs.Rp.keep (Cs.ExB.of (by assumption)) (by walk_at "rp"))
local macro_rules | `(tactic| walk_at "sm") => `(tactic| first
  | assumption
  | exact L2.Same.refl _
  | exact Cs.same_new (by assumption)
  | exact Cs.same_tr (by assumption) (by walk_at "sm")
  | exact Cs.same_tr (Cs.same_new (by assumption)) (by walk_at "sm"))
local macro_rules | `(tactic| walk_at "hz") => `(tactic| first
  | with_reducible assumption
  | exact Cs.Rd.back (by with_reducible assumption) (by with_reducible assumption)
  | exact Cs.Rd.back (by with_reducible assumption) (Cs.Rd.back (by with_reducible assumption) (by with_reducible assumption))
  | exact Cs.Rd.back (by with_reducible assumption) (Cs.Rd.back (by with_reducible assumption) (Cs.Rd.back (by with_reducible assumption) (by with_reducible assumption)))
  | exact Or.inl (by with_reducible assumption)
  | exact Or.inl (by with_reducible exact L2.upd_same)
  | exact Or.inl ((by with_reducible assumption : L2.Same _ _) _ _ (by with_reducible assumption)))
local macro_rules | `(tactic| walk_at "e") => `(tactic| first
  | refine ⟨_, rfl, ?_⟩
  | refine ⟨_, _, rfl, rfl, ?_⟩
  | refine Or.inr (Or.inl ⟨_, _, _, _, rfl, rfl, (Cs.SqT.rd (by walk_at "hz")), rfl, ?_⟩)
  | refine Or.inl ⟨_, _, rfl, Or.inr (Cs.SqT.rd (by walk_at "hz")), ?_⟩
  | refine ⟨_, _, rfl, (Cs.SqT.rd (by walk_at "hz")), rfl, ?_⟩
  | refine ⟨_, _, _, _, rfl, rfl, L2.SqL.of (by walk_at "hp"), rfl, ?_⟩
  | refine ⟨_, _, _, _, rfl, rfl, (by walk_at "hp"), rfl, ?_⟩
  | refine Or.inl ⟨_, rfl, ?_⟩
  | refine Or.inl ⟨rfl, ?_⟩
  | refine Or.inl ⟨_, _, rfl, rfl, ?_⟩
  | refine Or.inl ⟨_, _, _, _, rfl, rfl, L2.SqL.of (by walk_at "hp"), rfl, ?_⟩
  | refine Or.inr ⟨_, rfl, Cs.sz1000 (by assumption), ?_⟩
  | refine Or.inr ⟨_, _, rfl, rfl, ?_⟩
  | refine Or.inl ⟨_, _, rfl, Or.inl (L2.SqL.of (by walk_at "hp")), ?_⟩
  | refine ⟨_, _, _, _, _, rfl, .ty _, Cs.Rp.ty (by walk_at "rp"), (by first | exact Cs.kit_int | exact Cs.kit_bool | exact Cs.kit_str | exact Cs.kit_tup), ?_⟩
  | refine ⟨_, _, _, rfl, (by walk_at "rp"), fun _ _ => ?_⟩
  | refine ⟨_, _, _, _, rfl, (by walk_at "rp"), fun _ _ => ?_⟩
  | refine ⟨_, _, _, _, _, rfl, (by walk_at "rp"), fun _ _ => ?_⟩
  | refine ⟨_, _, rfl, ?_⟩
  | refine And.intro rfl ?_
  | refine And.intro (by first | decide | (dsimp only; decide)) ?_
  | refine And.intro (by first | assumption | (dsimp only; assumption)) ?_
  | refine And.intro (Or.inr ⟨by decide, by decide⟩) ?_
  | refine And.intro (Or.inl ⟨by omega, by omega⟩) ?_
  | refine And.intro ⟨by decide, by decide⟩ ?_
  | refine And.intro ⟨by assumption, by assumption⟩ ?_)
local macro_rules | `(tactic| walk_at "es") => `(tactic| repeat (walk_at "e"))
namespace Cs
open PySem L2 PyProof.Rows
def topS (i : Nat) : Stmt := PySem.Challenge.pw_cornersure_k39_whole_rows_by_answers.main.body.getD i (.Pass ⟨0, 0, 0, 0⟩)
structure DefAt (K : PySem.W.Frag) (mg : Str → Option Value) (x : Str) (st : Stmt) (ps : List Str) : Prop where
  ex : ∃ (f : Addr) (fd : FuncData), FunD K x x (defArgs st) (defBody st) (defScope st) [] [] f fd ∧ mg x = some (.ref f) ∧ Binds K fd ps []
/-- what the module has not, so that a built-in is meant; its numbers -/
structure Txt (mg : Str → Option Value) : Prop where
  len_ : mg "len" = none
  isinstance_ : mg "isinstance" = none
  int_ : mg "int" = none
  str_ : mg "str" = none
  bool_ : mg "bool" = none
  tuple_ : mg "tuple" = none
  list_ : mg "list" = none
  all_ : mg "all" = none
  abs_ : mg "abs" = none
  divmod_ : mg "divmod" = none
  range_ : mg "range" = none
  enumerate_ : mg "enumerate" = none
  repr_ : mg "repr" = none
  c__MOST_LETTERS : ∃ u, mg "_MOST_LETTERS" = some u ∧ RelV (.int 8) u
  c_MOST_END : ∃ u, mg "MOST_END" = some u ∧ RelV (.int 10000) u
  c_MOST_COLUMNS : ∃ u, mg "MOST_COLUMNS" = some u ∧ RelV (.int 4) u
  c_MOST_ROWS : ∃ u, mg "MOST_ROWS" = some u ∧ RelV (.int 8) u
/-- sums -/
structure TxtS (mg : Str → Option Value) : Prop where
  sum_ : mg "sum" = none
  min_ : mg "min" = none
  max_ : mg "max" = none
/-- the greatest weight -/
structure TxtW (mg : Str → Option Value) : Prop where
  c_MOST_WEIGHT : ∃ u, mg "MOST_WEIGHT" = some u ∧ RelV (.int 1000) u
section
variable {P : Program} {w : World} {K : PySem.W.Frag} {mg : Str → Option Value} {base : Heap}
theorem DefAt.cal {x : Str} {st : Stmt} {N ps : List Str} {k : Nat} {sp : Sp} (D : DefAt K mg x st ps) (S : FnScope N ps (defScope st)) (len : ∀ vs H Q E, sp vs H Q E → vs.length = ps.length)
    (hbody : ∀ (f : Addr) (cdv : Value) (A : Around) (outer : List Env) (s : Shared) (H : Hp) (vs : List V) (Q : VK) (E : XK), Room k (A.deeper (envOfC x (defScope st) s.heap.objs.size f cdv)) → sp vs H Q E →
      ∃ t, PSs (cxOf CX0 P w K mg base N x (defScope st) f cdv A outer s H E).nox (defBody st) t ∧ t { nx := fun _ H' => Q .non H', rt := Q } (start N vs) H) : C8.Cal P w K mg base (k + 1) x sp [] := by
  obtain ⟨f, fd, F, g, b⟩ := D.ex
  refine ⟨f, fd, ps, [], F.ok S len fun cdv A outer s H vs Q E hr h => ?_, g, F.kp, b, .nil⟩
  obtain ⟨t, h1, h2⟩ := hbody f cdv A outer s H vs Q E hr h
  exact ⟨t, h1.nox, h2⟩
/-! ### kinds -/
theorem sc_is_integer : FnScope ["value"] ["value"] (defScope (topS 14)) := ⟨rfl, rfl, rfl, by decide +kernel, rfl, by decide +kernel, by decide +kernel⟩
theorem ok_is_integer (D : DefAt K mg "is_integer" (topS 14) ["value"]) (T : Txt mg) : C8.Cal P w K mg base 1 "is_integer" (SpB isInt) [] := by
  refine D.cal sc_is_integer (fun vs H Q E h => by obtain ⟨p, v, d, rfl, _⟩ := h; rfl) fun f cdv A outer s H vs Q E hr h => ?_
  obtain ⟨p, v, d, rfl, r, k⟩ := h
  refine ⟨_, (pss_one (ps_ret (pe_and (pe_callB call_isi (by rfl) T.isinstance_ (by decide +kernel) (pa_cons (pv 0) (pa_cons (pe_bltn (v := .ty "int") (u := .type "int") (by rfl) T.int_ (by decide +kernel) rfl) pa_nil))) (pe_one (pe_not (pe_callB call_isi (by rfl) T.isinstance_ (by decide +kernel) (pa_cons (pv 0) (pa_cons (pe_bltn (v := .ty "bool") (u := .type "bool") (by rfl) T.bool_ (by decide +kernel) rfl) pa_nil)))))))), ?_⟩
  walk_at "es"
  have e : isInt d = (if isInt d || isBl d then !isBl d else false) := by cases d <;> rfl
  refine ite2 (fun h => ?_) (fun h => ?_)
  · walk_at "es"
    have q := k H (Same.refl H)
    rw [e, if_pos h] at q
    exact q
  · have q := k H (Same.refl H)
    rw [e, if_neg h] at q
    exact q
theorem sc_is_tuple_of : FnScope ["value", "many"] ["value", "many"] (defScope (topS 15)) := ⟨rfl, rfl, rfl, by decide +kernel, rfl, by decide +kernel, by decide +kernel⟩
theorem ok_is_tuple_of (D : DefAt K mg "is_tuple_of" (topS 15) ["value", "many"]) (T : Txt mg) : C8.Cal P w K mg base 1 "is_tuple_of" SpTN [] := by
  refine D.cal sc_is_tuple_of (fun vs H Q E h => by obtain ⟨p, v, d, n, rfl, _⟩ := h; rfl) fun f cdv A outer s H vs Q E hr h => ?_
  obtain ⟨p, v, d, n, rfl, r, k⟩ := h
  have hu64 := hr.units
  refine ⟨_, (pss_one (ps_ret (pe_and (pe_callB call_isi (by rfl) T.isinstance_ (by decide +kernel) (pa_cons (pv 0) (pa_cons (pe_bltn (v := .ty "tuple") (u := .type "tuple") (by rfl) T.tuple_ (by decide +kernel) rfl) pa_nil))) (pe_one (pe_cmpR (opEq hu64) (pe_callB call_lenA (by rfl) T.len_ (by decide +kernel) (pa_cons (pv 0) pa_nil)) (pv 1) (nomark _)))))), ?_⟩
  walk_at "es"
  have q := k H (Same.refl H)
  cases r with
  | @tup a xs ds nn h z ra =>
    refine iteT ?_
    walk_at "es"
    show Q (V.bl (decide (V.int ((xs.length : Nat) : Int) = V.int ((n : Nat) : Int)))) H
    rw [vint_eq, ra.length]
    exact q
  | _ => exact iteF q
theorem sc_is_pair_of_integers : FnScope ["value"] ["value"] (defScope (topS 16)) := ⟨rfl, rfl, rfl, by decide +kernel, rfl, by decide +kernel, by decide +kernel⟩
theorem ok_is_pair_of_integers (D : DefAt K mg "is_pair_of_integers" (topS 16) ["value"]) (T : Txt mg) (cis_tuple_of : C8.Cal P w K mg base 1 "is_tuple_of" SpTN []) (cis_integer : C8.Cal P w K mg base 1 "is_integer" (SpB isInt) []) :
    C8.Cal P w K mg base 2 "is_pair_of_integers" (SpB isPair) [] := by
  refine D.cal sc_is_pair_of_integers (fun vs H Q E h => by obtain ⟨p, v, d, rfl, _⟩ := h; rfl) fun f cdv A outer s H vs Q E hr h => ?_
  obtain ⟨p, v, d, rfl, r, k⟩ := h
  have hu64 := hr.units
  refine ⟨_, (pss_one (ps_ret (pe_and (C8.pe_c cis_tuple_of hr (by decide) rfl (pa_cons (pv 0) (pa_cons pe_int pa_nil))) (pe_and (C8.pe_c cis_integer hr (by decide) rfl (pa_cons (pe_ix ix_seq (pv 0) pe_int (fun _ _ => rfl)) pa_nil)) (pe_one (C8.pe_c cis_integer hr (by decide) rfl (pa_cons (pe_ix ix_seq (pv 0) pe_int (fun _ _ => rfl)) pa_nil))))))), ?_⟩
  walk_at "e"
  refine ⟨p, v, d, 2, rfl, r, fun H1 s1 => ?_⟩
  walk_at "es"
  cases hd : isTupN 2 d with
  | false =>
    have e : isPair d = false := by
      unfold isPair
      split
      · simp [isTupN] at hd
      · rfl
    have q := k H1 s1
    rw [e] at q
    exact iteF q
  | true =>
    cases r with
    | @tup a xs ds nn h z ra =>
      cases ra with
      | nil => simp [isTupN] at hd
      | @cons v1 vs1 d1 ds1 r1 ra =>
        cases ra with
        | nil => simp [isTupN] at hd
        | @cons v2 vs2 d2 ds2 r2 ra =>
          cases ra with
          | cons _ _ => simp [isTupN] at hd
          | nil =>
            refine iteT ?_
            walk_at "es"
            walk_at "es"
            refine ite2 (fun e1 => ?_) (fun e1 => ?_)
            · walk_at "es"
              exact fin_b k (by simp_all [isPair]) (by walk_at "sm")
            · exact fin_b k (by simp_all [isPair]) (by walk_at "sm")
    | _ => simp [isTupN] at hd
theorem sc_is_stretch : FnScope ["value", "least", "most", "low", "high"] ["value", "least", "most"] (defScope (topS 19)) := ⟨rfl, rfl, rfl, by decide +kernel, rfl, by decide +kernel, by decide +kernel⟩
theorem ok_is_stretch (D : DefAt K mg "is_stretch" (topS 19) ["value", "least", "most"]) (cis_pair_of_integers : C8.Cal P w K mg base 2 "is_pair_of_integers" (SpB isPair) []) :
    C8.Cal P w K mg base 3 "is_stretch" SpSpan [] := by
  refine D.cal sc_is_stretch (fun vs H Q E h => by obtain ⟨p, v, d, lo, hi, rfl, _⟩ := h; rfl) fun f cdv A outer s H vs Q E hr h => ?_
  obtain ⟨p, v, d, lo, hi, rfl, r, k⟩ := h
  have nd := sc_is_stretch.nd
  refine ⟨_, (pss_cons (ps_if (pt_not (pt_val (C8.pe_c cis_pair_of_integers hr (by decide) rfl (pa_cons (pv 0) pa_nil)))) (pss_one (ps_ret pe_bl)) pss_nil)
      (pss_cons (ps_asg (pv 0) (pg_tup (by rfl) (pgs_cons (pg_name (i := 3) nd rfl (.inl rfl)) (pgs_cons (pg_name (i := 4) nd rfl (.inl rfl)) pgs_nil))))
      (pss_one (ps_ret (pe_chain3 opLe opLe opLe (pv 1) (pv 3) (pv 4) (pv 2)))))), ?_⟩
  walk_at "es"
  cases hd : isPair d with
  | false =>
    refine iteT ?_
    exact fin_b k (isPair_not hd _ _) (by walk_at "sm")
  | true =>
    refine iteF ?_
    cases r with
    | @tup a xs ds nn h z ra =>
      cases ra with
      | nil => simp [isPair] at hd
      | @cons v1 vs1 d1 ds1 r1 ra =>
        cases ra with
        | nil => simp [isPair] at hd
        | @cons v2 vs2 d2 ds2 r2 ra =>
          cases ra with
          | cons _ _ => simp [isPair] at hd
          | nil =>
            cases r1 with
            | int i =>
              cases r2 with
              | int j =>
                walk_at "es"
                refine ite2 (fun e1 => ?_) (fun e1 => ?_)
                · walk_at "es"
                  refine ite2 (fun e2 => ?_) (fun e2 => ?_)
                  · walk_at "es"
                    exact fin_b k (by show (decide _ && (decide _ && decide _)) = _; rw [e1, e2]; rfl) (by walk_at "sm")
                  · exact fin_b k (by show (decide _ && (decide _ && decide _)) = _; rw [e1, eq_false_of_ne_true e2]; rfl) (by walk_at "sm")
                · exact fin_b k (by show (decide _ && (decide _ && decide _)) = _; rw [eq_false_of_ne_true e1]; rfl) (by walk_at "sm")
              | _ => simp [isPair, isInt] at hd
            | _ => simp [isPair, isInt] at hd
    | _ => simp [isPair] at hd
theorem sc__is_end_pair : FnScope ["value"] ["value"] (defScope (topS 39)) := ⟨rfl, rfl, rfl, by decide +kernel, rfl, by decide +kernel, by decide +kernel⟩
theorem ok__is_end_pair (D : DefAt K mg "_is_end_pair" (topS 39) ["value"]) (T : Txt mg) (cis_stretch : C8.Cal P w K mg base 3 "is_stretch" SpSpan []) :
    C8.Cal P w K mg base 4 "_is_end_pair" (SpB (isSpan (-10000) 10000)) [] := by
  refine D.cal sc__is_end_pair (fun vs H Q E h => by obtain ⟨p, v, d, rfl, _⟩ := h; rfl) fun f cdv A outer s H vs Q E hr h => ?_
  obtain ⟨p, v, d, rfl, r, k⟩ := h
  refine ⟨_, (pss_one (ps_ret (C8.pe_c cis_stretch hr (by decide) rfl (pa_cons (pv 0) (pa_cons (pe_un un_neg (C8.pe_gc rfl T.c_MOST_END)) (pa_cons (C8.pe_gc rfl T.c_MOST_END) pa_nil)))))), ?_⟩
  walk_at "es"
  exact k _ (by walk_at "sm")
end
end Cs
set_option maxHeartbeats 4000000
namespace Cs
open PySem L2 PyProof.Rows
section
variable {P : Program} {w : World} {K : PySem.W.Frag} {mg : Str → Option Value} {base : Heap}
theorem sc_is_name : FnScope ["value", "letter"] ["value"] (defScope (topS 17)) := ⟨rfl, rfl, rfl, by decide +kernel, rfl, by decide +kernel, by decide +kernel⟩
theorem ok_is_name (D : DefAt K mg "is_name" (topS 17) ["value"]) (T : Txt mg) : C8.Cal P w K mg base 1 "is_name" (SpB isName) [] := by
  refine D.cal sc_is_name (fun vs H Q E h => by obtain ⟨p, v, d, rfl, _⟩ := h; rfl) fun f cdv A outer s H vs Q E hr h => ?_
  obtain ⟨p, v, d, rfl, r, k⟩ := h
  have nd := sc_is_name.nd
  refine ⟨_, (pss_cons (ps_if (PW.pt (pw_or (pt_not (pt_val (pe_callB call_isi (by rfl) T.isinstance_ (by decide +kernel) (pa_cons (pv 0) (pa_cons (pe_bltn (v := .ty "str") (u := .type "str") (by rfl) T.str_ (by decide +kernel) rfl) pa_nil))))) (pw_or1 (pt_not (pt_chain opLe opLe pe_int (pe_callB call_lenA (by rfl) T.len_ (by decide +kernel) (pa_cons (pv 0) pa_nil)) (C8.pe_gc rfl T.c__MOST_LETTERS)))))) (pss_one (ps_ret pe_bl)) pss_nil)
      (pss_one (ps_ret (pe_callB (cr_all rfl) (by rfl) T.all_ (by decide +kernel) (pa_cons (pe_lc (own := [("letter", 1)]) rfl nd (pi_str (pv 0)) (blkOk_by (N := ["value", "letter"]) (sc := defScope (topS 17)) (by decide +kernel)) (fun _ _ _ _ _ => (pg_name (i := 1) nd rfl (.inl rfl))) (fun _ _ _ _ _ => pts_nil) (fun _ _ _ _ _ => (pe_chain opLe opLe pe_str (pv 1) pe_str))) pa_nil))))), ?_⟩
  walk_at "es"
  have q := k _ (Same.refl H)
  cases r with
  | str x hx =>
    refine iteF ?_
    walk_at "es"
    have il : (x.length : Int) = x.cps.toList.length := rfl
    refine ite2 (fun e1 => ?_) (fun e1 => ?_)
    · walk_at "es"
      refine ite2 (fun e2 => ?_) (fun e2 => ?_)
      · exact fin_b k (by
          have q : ¬ ((x.length : Int) ≤ 8) := of_decide_eq_false (by simpa using e2)
          have q2 : decide (x.length ≤ 8) = false := decide_eq_false (by omega)
          show ((_ && decide (x.length ≤ 8)) && _) = false
          rw [q2, Bool.and_false, Bool.false_and]) (by walk_at "sm")
      · dsimp only [tNext, tRet, tCB, tCons]
        refine lc_txt (x := x) (ys := x.cps.toList.map fun c => V.bl (letterC c)) (by rw [List.length_map]; rfl) hx (fun R hR => ⟨_, rfl, hR⟩) (fun j c y H1 hc hy s1 R hR => ?_) (fun D H1 hD s1 h1 => ?_)
        · have ey : y = V.bl (letterC c) := by
            have q2 : x.cps.toList[j]? = some c := by rw [Array.getElem?_toList]; exact hc
            rw [List.getElem?_map, q2] at hy
            exact (Option.some.inj hy).symm
          subst ey
          refine ⟨rfl, ?_⟩
          walk_at "es"
          refine ite2 (fun e3 => ?_) (fun e3 => ?_)
          · walk_at "es"
            refine fin_b (b := letterC c) hR ?_ (Same.refl _)
            have q : decide (97 ≤ c) = true := (letter_lo c).symm.trans e3
            exact (show (decide (97 ≤ c) && decide (c ≤ 122)) = _ by rw [q, Bool.true_and]; exact (letter_hi c).symm)
          · refine fin_b (b := letterC c) hR ?_ (Same.refl _)
            have q : decide (97 ≤ c) = false := (letter_lo c).symm.trans (eq_false_of_ne_true e3)
            exact (show (decide (97 ≤ c) && decide (c ≤ 122)) = _ by rw [q, Bool.false_and])
        · refine ⟨D, x.cps.toList.map letterC, rfl, SqL.of (by rw [List.map_map]; exact h1), ?_⟩
          refine fin_b k ?_ (by walk_at "sm")
          have q : (x.length : Int) ≤ 8 := of_decide_eq_true (by simpa using e2)
          have q2 : (1 : Int) ≤ x.length := of_decide_eq_true e1
          show ((decide (1 ≤ x.length) && decide (x.length ≤ 8)) && _) = _
          rw [decide_eq_true (by omega), decide_eq_true (by omega), Bool.true_and, Bool.true_and, List.all_map]
          rfl
    · have q : ¬ ((1 : Int) ≤ x.length) := of_decide_eq_false (eq_false_of_ne_true e1)
      refine ⟨_, rfl, iteT ?_⟩
      refine fin_b k ?_ (by walk_at "sm")
      show ((decide (1 ≤ x.length) && _) && _) = false
      rw [decide_eq_false (by omega)]
      rfl
  | _ => exact iteT q
end
end Cs
set_option maxHeartbeats 4000000
namespace Cs
open PySem L2 PyProof.Rows
def isEPs (n : Nat) : PyData → Bool
  | .tuple ss => decide (ss.length = n) && ss.all (isSpan (-10000) 10000)
  | _ => false
def SpEP : Sp := fun vs H Q _ => ∃ p v d n, vs = [v, .int ((n : Nat) : Int)] ∧ Rp p H v d ∧ ∀ H', Same H H' → Q (.bl (isEPs n d)) H'
section
variable {P : Program} {w : World} {K : PySem.W.Frag} {mg : Str → Option Value} {base : Heap}
theorem sc_are_end_pairs : FnScope ["value", "many", "part"] ["value", "many"] (defScope (topS 38)) := ⟨rfl, rfl, rfl, by decide +kernel, rfl, by decide +kernel, by decide +kernel⟩
theorem ok_are_end_pairs (D : DefAt K mg "are_end_pairs" (topS 38) ["value", "many"]) (T : Txt mg) (cis_tuple_of : C8.Cal P w K mg base 1 "is_tuple_of" SpTN [])
    (c_is_end_pair : C8.Cal P w K mg base 4 "_is_end_pair" (SpB (isSpan (-10000) 10000)) []) : C8.Cal P w K mg base 5 "are_end_pairs" SpEP [] := by
  refine D.cal sc_are_end_pairs (fun vs H Q E h => by obtain ⟨p, v, d, n, rfl, _⟩ := h; rfl) fun f cdv A outer s H vs Q E hr h => ?_
  obtain ⟨p, v, d, n, rfl, r, k⟩ := h
  have nd := sc_are_end_pairs.nd
  refine ⟨_, (pss_one (ps_ret (pe_and (C8.pe_c cis_tuple_of hr (by decide) rfl (pa_cons (pv 0) (pa_cons (pv 1) pa_nil))) (pe_one (pe_callB (cr_all rfl) (by rfl) T.all_ (by decide +kernel) (pa_cons (pe_lc (own := [("part", 2)]) rfl nd (pi_tup (pv 0)) (blkOk_by (N := ["value", "many", "part"]) (sc := defScope (topS 38)) (by decide +kernel)) (fun _ _ _ _ _ => (pg_name (i := 2) nd rfl (.inl rfl))) (fun _ _ _ _ _ => pts_nil) (fun _ _ _ _ _ => (C8.pe_c c_is_end_pair hr (by decide) rfl (pa_cons (pv 2) pa_nil)))) pa_nil)))))), ?_⟩
  refine ⟨_, rfl, _, rfl, p, v, d, n, rfl, r, fun H1 s1 => ?_⟩
  walk_at "es"
  cases e2 : isTupN n d with
  | false =>
    refine iteF (fin_b k ?_ (by walk_at "sm"))
    unfold isEPs
    split
    · have e3 : decide (_ = n) = false := e2
      rw [e3, Bool.false_and]
    · rfl
  | true =>
    cases r with
    | @tup a2 xs2 ds2 nn2 h2 z2 ra2 =>
      refine iteT ?_
      dsimp only [tCB, tCons]
      refine lc_tupM (xs := xs2) (ys := ds2.map fun d => V.bl (isSpan (-10000) 10000 d)) (Cs.SqT.rd (by walk_at "hz")) (by rw [List.length_map, ra2.length]) z2 (fun R hR => ⟨_, rfl, hR⟩) (fun j y b H3 hy hb s3 R hR => ?_) (fun D' H3 hD s3 h3 => ?_)
      · obtain ⟨d3, hd3, r3⟩ := ra2.get hy
        have eb : b = V.bl (isSpan (-10000) 10000 d3) := by
          rw [List.getElem?_map, hd3] at hb
          exact (Option.some.inj hb).symm
        subst eb
        refine ⟨rfl, ?_⟩
        walk_at "e"
        refine ⟨p, y, d3, rfl, (by walk_at "rp"), fun H4 s4 => hR H4 s4⟩
      · refine ⟨D', ds2.map (isSpan (-10000) 10000), rfl, SqL.of (by rw [List.map_map]; exact h3), fin_b k ?_ (by walk_at "sm")⟩
        have e3 : decide (ds2.length = n) = true := e2
        show (decide (ds2.length = n) && _) = _
        rw [e3, Bool.true_and, List.all_map]
        rfl
    | _ => simp [isTupN] at e2
theorem isRow_eq {n : Nat} {d1 d2 : PyData} : isRow n (.tuple [d1, d2]) = (isName d1 && isEPs n d2) := by
  cases d2 <;> first | rfl | (simp only [isRow, isEPs, Bool.and_false])
theorem sc__is_row : FnScope ["value", "many", "name", "stretches"] ["value", "many"] (defScope (topS 40)) := ⟨rfl, rfl, rfl, by decide +kernel, rfl, by decide +kernel, by decide +kernel⟩
theorem ok__is_row (D : DefAt K mg "_is_row" (topS 40) ["value", "many"]) (T : Txt mg) (cis_tuple_of : C8.Cal P w K mg base 1 "is_tuple_of" SpTN []) (cis_name : C8.Cal P w K mg base 1 "is_name" (SpB isName) [])
    (care_end_pairs : C8.Cal P w K mg base 5 "are_end_pairs" SpEP []) : C8.Cal P w K mg base 6 "_is_row" SpRow [] := by
  refine D.cal sc__is_row (fun vs H Q E h => by obtain ⟨p, v, d, n, rfl, _⟩ := h; rfl) fun f cdv A outer s H vs Q E hr h => ?_
  obtain ⟨p, v, d, n, rfl, r, k⟩ := h
  have nd := sc__is_row.nd
  refine ⟨_, (pss_cons (ps_if (pt_not (pt_val (C8.pe_c cis_tuple_of hr (by decide) rfl (pa_cons (pv 0) (pa_cons pe_int pa_nil))))) (pss_one (ps_ret pe_bl)) pss_nil)
      (pss_cons (ps_asg (pv 0) (pg_tup (by rfl) (pgs_cons (pg_name (i := 2) nd rfl (.inl rfl)) (pgs_cons (pg_name (i := 3) nd rfl (.inl rfl)) pgs_nil))))
      (pss_one (ps_ret (pe_and (C8.pe_c cis_name hr (by decide) rfl (pa_cons (pv 2) pa_nil)) (pe_one (C8.pe_c care_end_pairs hr (by decide) rfl (pa_cons (pv 3) (pa_cons (pv 1) pa_nil))))))))), ?_⟩
  walk_at "e"
  refine ⟨p, v, d, 2, rfl, r, fun H1 s1 => ?_⟩
  walk_at "es"
  cases hd : isTupN 2 d with
  | false =>
    refine iteT (fin_b k ?_ (by walk_at "sm"))
    unfold isRow
    split
    · simp [isTupN] at hd
    · rfl
  | true =>
    refine iteF ?_
    cases r with
    | @tup a xs ds nn h z ra =>
      cases ra with
      | nil => simp [isTupN] at hd
      | @cons v1 vs1 d1 ds1 r1 ra =>
        cases ra with
        | nil => simp [isTupN] at hd
        | @cons v2 vs2 d2 ds2 r2 ra =>
          cases ra with
          | cons _ _ => simp [isTupN] at hd
          | nil =>
            walk_at "es"
            refine ite2 (fun e1 => ?_) (fun e1 => ?_)
            · refine ⟨_, rfl, _, rfl, p, v2, d2, n, rfl, (by walk_at "rp"), fun H2 s2 => ?_⟩
              refine fin_b k ?_ (by walk_at "sm")
              rw [isRow_eq, e1, Bool.true_and]
            · refine fin_b k ?_ (by walk_at "sm")
              rw [isRow_eq, eq_false_of_ne_true e1, Bool.false_and]
    | _ => simp [isTupN] at hd
end
end Cs
set_option maxHeartbeats 4000000
namespace Cs
open PySem L2 PyProof.Rows
def idxV : Option Nat → V
  | none => .non
  | some i => .int ((i : Nat) : Int)
/-- __init__ of an exception that keeps what it is made with under the name f -/
def SpXInit (C : Addr) (f : Str) : Sp := fun vs H Q _ => ∃ (a : Addr) (y : V), vs = [.ref a, y] ∧ H a = some (exo a C none) ∧
  ∀ d, H d = none → d ≠ a → Q .non (upd (upd H d (exd d [(f, y)])) a (exo a C (some d)))
/-- what is known of the class x at C, which keeps one thing under f -/
structure ExAt (K : PySem.W.Frag) (mg : Str → Option Value) (x : Str) (C : Addr) (f : Str) (st : Stmt) : Prop where
  T : OexC K C
  g : mg x = some (.ref C)
  no : PySem.W.findIn K (.ref C) f = some none
  ini : ∃ (fI : Addr) (fd : FuncData) (q : Str), PySem.W.findIn K (.ref C) "__init__" = some (some (.ref fI)) ∧ PySem.W.typeIn K (.ref fI) = some (.type "function") ∧
    FunD K "__init__" q (defArgs st) (defBody st) (defScope st) [] [] fI fd ∧ Binds K fd ["self", f] []
section
variable {P : Program} {w : World} {K : PySem.W.Frag} {mg : Str → Option Value} {base : Heap}
theorem ok_xinit {C fI : Addr} {fd : FuncData} {q : Str} (F : FunD K "__init__" q (defArgs (inClass (topS 8) 0)) (defBody (inClass (topS 8) 0)) (defScope (inClass (topS 8) 0)) [] [] fI fd)
    (T : OexC K C) (no : PySem.W.findIn K (.ref C) "index" = some none) : FnOk P w K mg base CX0 1 fI fd ["self", "index"] (SpXInit C "index") := by
  refine F.ok (N := ["self", "index"]) ⟨rfl, rfl, rfl, by decide +kernel, rfl, by decide +kernel, by decide +kernel⟩ (fun vs H Q E h => by obtain ⟨a, y, rfl, _⟩ := h; rfl) fun cdv A outer s H vs Q E hr h => ?_
  obtain ⟨a, y, rfl, ha, k⟩ := h
  refine ⟨_, PSs.nox (pss_one (ps_ost (pv 0) (pv 1))), ?_⟩
  walk_at "es"
  exact ⟨a, C, rfl, T, no, .inl ⟨ha, fun dx h1 h2 => k dx h1 h2⟩⟩
end
section
variable {X : Cx} {x f : Str} {C : Addr} {st : Stmt} {e : Expr} {te : TE} {p pos : Pos}
theorem pmk_ix (A : ExAt X.K X.mg x C f st) (hI : ∀ (fI : Addr) (fd : FuncData) (q : Str), FunD X.K "__init__" q (defArgs st) (defBody st) (defScope st) [] [] fI fd → FnOk X.prog X.w X.K X.mg X.base CX0 1 fI fd ["self", f] (SpXInit C f))
    (hr : Room 2 X.A) (hg : Gl X x) (he : PE X e te) (hdb : (x == ("__debug__" : Str)) = false) (hs : starEach [e] X.env = (false, eval e X.env) :: starEach [] X.env) :
    PMk X (.Call (.Name x p) [e] [] pos) (tMkO C (SpXInit C f) [] (tCons te tNil)) := by
  obtain ⟨fI, fd, q, h1, h2, F, b⟩ := A.ini
  exact pmk_oex (k := 1) (dvs := []) A.T h1 h2 (hI fI fd q F) hr b .nil pass0 hg A.g (pa_cons he pa_nil hs) hdb hs rfl
/-- behind the argument -/
theorem xmk {v : V} {H1 : Hp} {Q : XK} (k : ∀ d H', H1 d = none → Same H1 H' → H' d = some (.xd [(f, v)]) → Q (.ref C) (some d) H') :
    [v].length ≤ 1000 ∧ ∀ a, H1 a = none → SpXInit C f (.ref a :: ([v] ++ [])) (upd H1 a (exo a C none))
      (fun u H2 => u = .non ∧ ∃ (d : Addr) (fs : List (Str × V)), H2 a = some (exo a C (some d)) ∧ H2 d = some (exd d fs) ∧ H1 d = none ∧ Q (.ref C) (some d) (upd (del H2 a) d (.xd fs))) (fun _ _ _ => False) := by
  refine ⟨(by show 1 ≤ 1000; decide), fun a ha => ⟨a, v, rfl, upd_same, fun d hd hda => ⟨rfl, d, [(f, v)], upd_same, ?_, ?_, k d _ ?_ (fun b o e => ?_) upd_same⟩⟩⟩
  · rw [upd_ne hda, upd_same]
  · rw [upd_ne hda] at hd
    exact hd
  · rw [upd_ne hda] at hd
    exact hd
  · rw [upd_ne hda] at hd
    have nb : b ≠ d := ne_of_none e hd
    have na : b ≠ a := ne_of_none e ha
    rw [upd_ne nb, del_ne na, upd_ne na, upd_ne nb, upd_ne na]
    exact e
end
/-! ### what is wrong of columns, of rows: none for nothing, some none for what is no tuple or empty -/
def colsBad : Nat → List Str → List PyData → Option Nat
  | _, _, [] => none
  | i, seen, .str x :: r => if i = 4 then some i else if isName (.str x) && !seen.contains x then colsBad (i + 1) (seen ++ [x]) r else some i
  | i, _, _ :: _ => some i
def colsErr : PyData → Option (Option Nat)
  | .tuple [] => some none
  | .tuple ds => (colsBad 0 [] ds).map some
  | _ => some none
theorem colsBad_4 {seen : List Str} {d : PyData} {r : List PyData} : colsBad 4 seen (d :: r) = some 4 := by cases d <;> simp [colsBad]
theorem colsBad_bad {i : Nat} {seen : List Str} {d : PyData} {r : List PyData} (h : isName d = false) : colsBad i seen (d :: r) = some i := by
  cases d <;> first | rfl | (simp only [colsBad, h, Bool.false_and]; split <;> rfl)
theorem colsBad_in {i : Nat} {seen : List Str} {x : Str} {r : List PyData} (h : seen.contains x = true) : colsBad i seen (.str x :: r) = some i := by
  simp only [colsBad, h, Bool.not_true, Bool.and_false]
  split <;> rfl
theorem colsBad_ok {i : Nat} {seen : List Str} {x : Str} {r : List PyData} (h4 : i ≠ 4) (hn : isName (.str x) = true) (h : seen.contains x = false) : colsBad i seen (.str x :: r) = colsBad (i + 1) (seen ++ [x]) r := by
  simp only [colsBad, h, hn, Bool.not_false, Bool.and_true]
  rw [if_neg h4, if_pos trivial]
theorem inV_str {x : Str} : ∀ {l : List Str}, inV (.str x) (l.map V.str) = l.contains x
  | [] => rfl
  | y :: l => by
    have ih := inV_str (x := x) (l := l)
    unfold inV at ih ⊢
    rw [List.map_cons, List.any_cons, ih, List.contains_cons]
    have e : eqV (.str y) (.str x) = (x == y) := Bool.beq_comm
    rw [e]
theorem flat_str : ∀ {l : List Str}, (l.map V.str).all flatV = true
  | [] => rfl
  | y :: l => by rw [List.map_cons, List.all_cons, flat_str]; rfl
theorem cutV_to {xs : List V} {i : Nat} (h : i ≤ xs.length) : cutV xs none (some ((i : Nat) : Int)) = xs.take i := by
  unfold cutV
  rw [HT.sIx_none, HT.sIx_nat, List.drop_zero, Nat.min_eq_left h, Nat.sub_zero]
def SpCC (C : Addr) : Sp := fun vs H Q E => ∃ (p : Addr) (v : V) (d : PyData), vs = [v] ∧ Rp p H v d ∧ (colsErr d = none → ∀ H', Same H H' → Q .non H') ∧
  ∀ e, colsErr d = some e → ∀ dd H', H dd = none → Same H H' → H' dd = some (.xd [("index", idxV e)]) → E (.ref C) (some dd) H'
/-- a def that may raise -/
structure CalX (P : Program) (w : World) (K : PySem.W.Frag) (mg : Str → Option Value) (base : Heap) (k : Nat) (x : Str) (sp : Sp) : Prop where
  ex : ∃ (f : Addr) (fd : FuncData) (ps : List Str), FnOk P w K mg base (L2.CX P w) k f fd ps sp ∧ mg x = some (.ref f) ∧ PySem.W.keepIn K (.ref f) = true ∧ Binds K fd ps []
section
variable {P : Program} {w : World} {K : PySem.W.Frag} {mg : Str → Option Value} {base : Heap}
theorem DefAt.calX {x : Str} {st : Stmt} {N ps : List Str} {k : Nat} {sp : Sp} (D : DefAt K mg x st ps) (S : FnScope N ps (defScope st)) (len : ∀ vs H Q E, sp vs H Q E → vs.length = ps.length)
    (hbody : ∀ (f : Addr) (cdv : Value) (A : Around) (outer : List Env) (s : Shared) (H : Hp) (vs : List V) (Q : VK) (E : XK), Room k (A.deeper (envOfC x (defScope st) s.heap.objs.size f cdv)) → sp vs H Q E →
      ∃ t, PSs (cxOf (L2.CX P w) P w K mg base N x (defScope st) f cdv A outer s H E) (defBody st) t ∧ t { nx := fun _ H' => Q .non H', rt := Q } (start N vs) H) : CalX P w K mg base (k + 1) x sp := by
  obtain ⟨f, fd, F, g, b⟩ := D.ex
  exact ⟨⟨f, fd, ps, F.ok S len fun cdv A outer s H vs Q E hr h => hbody f cdv A outer s H vs Q E hr h, g, F.kp, b⟩⟩
theorem sc_check_columns : FnScope ["columns", "index", "name"] ["columns"] (defScope (topS 32)) := ⟨rfl, rfl, rfl, by decide +kernel, rfl, by decide +kernel, by decide +kernel⟩
theorem ok_check_columns {C : Addr} (D : DefAt K mg "check_columns" (topS 32) ["columns"]) (T : Txt mg) (cis_name : C8.Cal P w K mg base 1 "is_name" (SpB isName) [])
    (xInvalidColumns : ExAt K mg "InvalidColumns" C "index" (inClass (topS 8) 0)) : CalX P w K mg base 4 "check_columns" (SpCC C) := by
  refine D.calX sc_check_columns (fun vs H Q E h => by obtain ⟨p, v, d, rfl, _⟩ := h; rfl) fun f cdv A outer s H vs Q E hr h => ?_
  obtain ⟨p, v, d, rfl, r, kn, kx⟩ := h
  have nd := sc_check_columns.nd
  have hu64 := hr.units
  have iInvalidColumns : ∀ (fI : Addr) (fd : FuncData) (q : Str), FunD K "__init__" q (defArgs (inClass (topS 8) 0)) (defBody (inClass (topS 8) 0)) (defScope (inClass (topS 8) 0)) [] [] fI fd → FnOk P w K mg base CX0 1 fI fd ["self", "index"] (SpXInit C "index") :=
    fun fI fd q F => ok_xinit F xInvalidColumns.T xInvalidColumns.no
  refine ⟨_, (pss_cons (ps_if (PW.pt (pw_or (pt_not (pt_val (pe_callB call_isi (by rfl) T.isinstance_ (by decide +kernel) (pa_cons (pv 0) (pa_cons (pe_bltn (v := .ty "tuple") (u := .type "tuple") (by rfl) T.tuple_ (by decide +kernel) rfl) pa_nil))))) (pw_or1 (pt_not (pt_truth (pv 0) (by intro _; rfl)))))) (pss_one (ps_raise rfl (takes_of rfl rfl rfl rfl) (pmk_ix xInvalidColumns iInvalidColumns (hr.mono (by decide)) rfl pe_non (by decide) rfl))) pss_nil)
      (pss_one (ps_for (passes_of rfl) rfl (pi_enumT rfl T.enumerate_ (pa_cons (pv 0) pa_nil)) (pg_tup (by rfl) (pgs_cons (pg_name (i := 1) nd rfl (.inl rfl)) (pgs_cons (pg_name (i := 2) nd rfl (.inl rfl)) pgs_nil))) (pss_one (ps_if (PW.pt (pw_or (pt_cmpR (opEq hu64) (pv 1) (C8.pe_gc rfl T.c_MOST_COLUMNS) (nomark _)) (pw_or (pt_not (pt_val (C8.pe_c cis_name hr (by decide) rfl (pa_cons (pv 2) pa_nil)))) (pw_or1 (pt_cmpR opIn (pv 2) (pe_slice slAny (pv 0) po_none (po_some (pv 1))) (by rfl)))))) (pss_one (ps_raise rfl (takes_of rfl rfl rfl rfl) (pmk_ix xInvalidColumns iInvalidColumns (hr.mono (by decide)) rfl (pv 1) (by decide) rfl))) pss_nil))))), ?_⟩
  walk_at "es"
  cases r with
  | @tup a xs ds nn h z ra =>
    refine iteF ?_
    walk_at "e"
    refine ⟨!xs.isEmpty, .inr (.inl ⟨xs, SqT.rd h, rfl⟩), ?_⟩
    cases ra with
    | nil => exact iteT (xmk fun dd H' n s e => kx none rfl dd H' n s e)
    | @cons v1 vs1 d1 ds1 r1 ra =>
      refine iteF ?_
      generalize hxs : v1 :: vs1 = xs at *
      generalize hds : d1 :: ds1 = ds at *
      have ra : RpA p H xs ds := by rw [← hxs, ← hds]; exact .cons r1 ra
      have ce : colsErr (.tuple ds) = (colsBad 0 [] ds).map some := by rw [← hds]; rfl
      refine ⟨_, rfl, a, rfl, ⟨xs, SqT.rd h⟩, for_enumT (xs := xs) (fun i σ H' => ∃ u1 u2 seen, σ = [some (.ref a), u1, u2] ∧ Same H H' ∧ seen.length = i ∧ xs.take i = seen.map V.str ∧ colsBad 0 [] ds = colsBad i seen (ds.drop i))
        ⟨none, none, [], rfl, Same.refl H, rfl, rfl, rfl⟩ (fun i σ H' _ ⟨_, _, _, _, sm, _⟩ => SqT.rd (Rd.same h sm)) ?_ ?_⟩
      · rintro i x t σ H' hi ⟨u1, u2, seen, rfl, sm, sl, e1, e2⟩ ht
        obtain ⟨d, hd, rd⟩ := ra.get hi
        have hdrop : ds.drop i = d :: ds.drop (i + 1) := (List.drop_eq_getElem?_toList_append).trans (by rw [hd]; rfl)
        rw [hdrop] at e2
        have s2 : Same H (upd H' t (.tup [.int ((i : Nat) : Int), x])) := same_tr (same_new ht) sm
        walk_at "es"
        have il := (List.getElem?_eq_some_iff.mp hi).1
        refine ite2 (fun q1 => ?_) (fun q1 => ?_)
        · have i4 : i = 4 := by
            have z := of_decide_eq_true q1
            injection z with z
            omega
          subst i4
          exact iteT ⟨_, rfl, xmk fun dd H2 n s3 e => kx (some _) (by rw [ce, e2, colsBad_4]; rfl) dd H2 (s2.free n) (s2.trans s3) e⟩
        · have i4 : i ≠ 4 := fun z => q1 (by rw [z]; rfl)
          walk_at "e"
          refine ⟨p, x, d, rfl, Rp.keep (ExB.of s2) rd, fun H2 s3 => ?_⟩
          walk_at "es"
          have s4 : Same H H2 := s2.trans s3
          cases q2 : isName d with
          | false => exact iteT (iteT ⟨_, rfl, xmk fun dd H2 n s3 e => kx (some i) (by rw [ce, e2, colsBad_bad q2]; rfl) dd H2 (s4.free n) (s4.trans s3) e⟩)
          | true =>
            refine iteF ?_
            cases rd with
            | str y hy =>
              walk_at "es"
              refine .inr (.inl ⟨_, xs, rfl, SqT.rd (Rd.same h s4), fun hw => ?_, fun _ p2 hp2 => ?_⟩)
              · have z := hw.2
                rw [HT.sIx_nat] at z
                omega
              · rw [cutV_to (by omega), e1]
                refine .inl ⟨p2, _, rfl, .inr (SqT.of upd_same), rfl, flat_str, ?_⟩
                walk_at "es"
                have s5 : Same H (upd H2 p2 (.tup (seen.map V.str))) := same_tr (same_new hp2) s4
                show (if inV (.str y) (seen.map V.str) = true then _ else _)
                rw [inV_str]
                cases q3 : seen.contains y with
                | true => exact iteT ⟨_, rfl, xmk fun dd H2 n s3 e => kx (some i) (by rw [ce, e2, colsBad_in q3]; rfl) dd H2 (s5.free n) (s5.trans s3) e⟩
                | false =>
                  refine iteF ⟨_, _, seen ++ [y], rfl, s5, by rw [List.length_append, sl]; rfl, ?_, ?_⟩
                  · rw [List.take_succ, hi, e1, List.map_append]
                    rfl
                  · rw [e2, colsBad_ok i4 q2 q3]
            | _ => simp [isName] at q2
      · rintro σ H' ⟨u1, u2, seen, rfl, sm, sl, e1, e2⟩
        rw [ra.length, List.drop_length] at e2
        exact kn (by rw [ce, e2]; rfl) H' sm
  | _ => exact iteT (iteT (xmk fun dd H' n s e => kx none rfl dd H' n s e))
end
end Cs
set_option maxHeartbeats 4000000
namespace Cs
open PySem L2 PyProof.Rows
def nameOf : PyData → Option Str
  | .tuple (.str x :: _) => some x
  | _ => none
def rowsBad (n : Nat) : Nat → List Str → List PyData → Option Nat
  | _, _, [] => none
  | i, seen, d :: r => if i = 8 then some i else if isRow n d then (match nameOf d with
    | some x => if seen.contains x then some i else rowsBad n (i + 1) (seen ++ [x]) r
    | none => some i) else some i
def rowsErr (n : Nat) : PyData → Option (Option Nat)
  | .tuple [] => some none
  | .tuple ds => (rowsBad n 0 [] ds).map some
  | _ => some none
theorem isRow_name {n : Nat} {d : PyData} (h : isRow n d = true) : ∃ x r, d = .tuple (.str x :: r) := by
  unfold isRow at h
  split at h
  · rename_i nm ss
    cases nm <;> first | exact ⟨_, _, rfl⟩ | simp [isName] at h
  · cases h
def SpCR (C : Addr) : Sp := fun vs H Q E => ∃ (p : Addr) (vc v : V) (cs : List PyData) (d : PyData), vs = [vc, v] ∧ Rp p H vc (.tuple cs) ∧ Rp p H v d ∧ (rowsErr cs.length d = none → ∀ H', Same H H' → Q .non H') ∧
  ∀ e, rowsErr cs.length d = some e → ∀ dd H', H dd = none → Same H H' → H' dd = some (.xd [("index", idxV e)]) → E (.ref C) (some dd) H'
section
variable {P : Program} {w : World} {K : PySem.W.Frag} {mg : Str → Option Value} {base : Heap}
theorem ok_xinit2 {C fI : Addr} {fd : FuncData} {q : Str} (F : FunD K "__init__" q (defArgs (inClass (topS 9) 0)) (defBody (inClass (topS 9) 0)) (defScope (inClass (topS 9) 0)) [] [] fI fd)
    (T : OexC K C) (no : PySem.W.findIn K (.ref C) "index" = some none) : FnOk P w K mg base CX0 1 fI fd ["self", "index"] (SpXInit C "index") := by
  refine F.ok (N := ["self", "index"]) ⟨rfl, rfl, rfl, by decide +kernel, rfl, by decide +kernel, by decide +kernel⟩ (fun vs H Q E h => by obtain ⟨a, y, rfl, _⟩ := h; rfl) fun cdv A outer s H vs Q E hr h => ?_
  obtain ⟨a, y, rfl, ha, k⟩ := h
  refine ⟨_, PSs.nox (pss_one (ps_ost (pv 0) (pv 1))), ?_⟩
  walk_at "es"
  exact ⟨a, C, rfl, T, no, .inl ⟨ha, fun dx h1 h2 => k dx h1 h2⟩⟩
theorem sc_check_rows : FnScope ["columns", "rows", "names", "index", "row"] ["columns", "rows"] (defScope (topS 33)) := ⟨rfl, rfl, rfl, by decide +kernel, rfl, by decide +kernel, by decide +kernel⟩
theorem ok_check_rows {C : Addr} (D : DefAt K mg "check_rows" (topS 33) ["columns", "rows"]) (T : Txt mg) (c_is_row : C8.Cal P w K mg base 6 "_is_row" SpRow [])
    (xInvalidRows : ExAt K mg "InvalidRows" C "index" (inClass (topS 9) 0)) : CalX P w K mg base 7 "check_rows" (SpCR C) := by
  refine D.calX sc_check_rows (fun vs H Q E h => by obtain ⟨p, vc, v, cs, d, rfl, _⟩ := h; rfl) fun f cdv A outer s H vs Q E hr h => ?_
  obtain ⟨p, vc, v, cs, d, rfl, rc, r, kn, kx⟩ := h
  have nd := sc_check_rows.nd
  have hu64 := hr.units
  have iInvalidRows : ∀ (fI : Addr) (fd : FuncData) (q : Str), FunD K "__init__" q (defArgs (inClass (topS 9) 0)) (defBody (inClass (topS 9) 0)) (defScope (inClass (topS 9) 0)) [] [] fI fd → FnOk P w K mg base CX0 1 fI fd ["self", "index"] (SpXInit C "index") :=
    fun fI fd q F => ok_xinit2 F xInvalidRows.T xInvalidRows.no
  refine ⟨_, (pss_cons (ps_if (PW.pt (pw_or (pt_not (pt_val (pe_callB call_isi (by rfl) T.isinstance_ (by decide +kernel) (pa_cons (pv 1) (pa_cons (pe_bltn (v := .ty "tuple") (u := .type "tuple") (by rfl) T.tuple_ (by decide +kernel) rfl) pa_nil))))) (pw_or1 (pt_not (pt_truth (pv 1) (by intro _; rfl)))))) (pss_one (ps_raise rfl (takes_of rfl rfl rfl rfl) (pmk_ix xInvalidRows iInvalidRows (hr.mono (by decide)) rfl pe_non (by decide) rfl))) pss_nil)
      (pss_cons (ps_set (i := 2) nd rfl (.inl rfl) (pe_lst pa_nil))
      (pss_one (ps_for (passes_of rfl) rfl (pi_enumT rfl T.enumerate_ (pa_cons (pv 1) pa_nil)) (pg_tup (by rfl) (pgs_cons (pg_name (i := 3) nd rfl (.inl rfl)) (pgs_cons (pg_name (i := 4) nd rfl (.inl rfl)) pgs_nil))) (pss_cons (ps_if (PW.pt (pw_or (pt_cmpR (opEq hu64) (pv 3) (C8.pe_gc rfl T.c_MOST_ROWS) (nomark _)) (pw_or (pt_not (pt_val (C8.pe_c c_is_row hr (by decide) rfl (pa_cons (pv 4) (pa_cons (pe_callB call_lenA (by rfl) T.len_ (by decide +kernel) (pa_cons (pv 0) pa_nil)) pa_nil))))) (pw_or1 (pt_cmpR opIn (pe_ix ix_seq (pv 4) pe_int (fun _ _ => rfl)) (pv 2) (by rfl)))))) (pss_one (ps_raise rfl (takes_of rfl rfl rfl rfl) (pmk_ix xInvalidRows iInvalidRows (hr.mono (by decide)) rfl (pv 3) (by decide) rfl))) pss_nil)
      (pss_one (ps_expr (pe_bm PySem.F.plainAttrs_list PySem.F.slot_list_append PySem.F.type_list_append mt_append (pv 2) (pa_cons (pe_ix ix_seq (pv 4) pe_int (fun _ _ => rfl)) pa_nil))))))))), ?_⟩
  refine ⟨_, rfl, _, _, _, _, _, rfl, .ty _, Cs.Rp.ty r, Cs.kit_tup, ?_⟩
  walk_at "es"
  cases rc with
  | @tup ac xc _ nc hc zc rac =>
    cases r with
    | @tup a xs ds nn h z ra =>
      refine iteF ?_
      walk_at "e"
      refine ⟨!xs.isEmpty, .inr (.inl ⟨xs, SqT.rd h, rfl⟩), ?_⟩
      cases ra with
      | nil => exact iteT (xmk fun dd H' n s e => kx none rfl dd H' n s e)
      | @cons v1 vs1 d1 ds1 r1 ra =>
        refine iteF ?_
        generalize hxs : v1 :: vs1 = xs at *
        generalize hds : d1 :: ds1 = ds at *
        have ra : RpA p H xs ds := by rw [← hxs, ← hds]; exact .cons r1 ra
        have ce : rowsErr cs.length (.tuple ds) = (rowsBad cs.length 0 [] ds).map some := by rw [← hds]; rfl
        refine ⟨Nat.zero_le _, fun l hl => ?_⟩
        have s0 : Same H (upd H l (.lst [])) := same_new hl
        refine ⟨_, rfl, a, rfl, ⟨xs, SqT.rd (Rd.same h s0)⟩, for_enumT (xs := xs) (fun i σ H' => ∃ u1 u2 seen, σ = [some (.ref ac), some (.ref a), some (.ref l), u1, u2] ∧ Same H H' ∧ H' l = some (.lst (seen.map V.str)) ∧ seen.length = i ∧ rowsBad cs.length 0 [] ds = rowsBad cs.length i seen (ds.drop i))
          ⟨none, none, [], rfl, s0, upd_same, rfl, rfl⟩ (fun i σ H' _ ⟨_, _, _, _, sm, _⟩ => SqT.rd (Rd.same h sm)) ?_ ?_⟩
        · rintro i x t σ H' hi ⟨u1, u2, seen, rfl, sm, hl', sl, e2⟩ ht
          obtain ⟨d, hd, rd⟩ := ra.get hi
          have hdrop : ds.drop i = d :: ds.drop (i + 1) := (List.drop_eq_getElem?_toList_append).trans (by rw [hd]; rfl)
          rw [hdrop] at e2
          have s2 : Same H (upd H' t (.tup [.int ((i : Nat) : Int), x])) := same_tr (same_new ht) sm
          walk_at "es"
          refine ite2 (fun q1 => ?_) (fun q1 => ?_)
          · have i4 : i = 8 := by
              have z := of_decide_eq_true q1
              injection z with z
              omega
            subst i4
            exact iteT ⟨_, rfl, xmk fun dd H2 n s3 e => kx (some _) (by rw [ce, e2]; simp [rowsBad]) dd H2 (s2.free n) (s2.trans s3) e⟩
          · have i4 : i ≠ 8 := fun z => q1 (by rw [z]; rfl)
            walk_at "e"
            walk_at "e"
            walk_at "e"
            refine ⟨p, x, d, xc.length, rfl, Rp.keep (ExB.of s2) rd, fun H2 s3 => ?_⟩
            have s4 : Same H H2 := s2.trans s3
            have hl2 : H2 l = some (.lst (seen.map V.str)) := s3 _ _ (upd_old ht hl')
            rw [rac.length]
            walk_at "es"
            cases q2 : isRow cs.length d with
            | false => exact iteT (iteT ⟨_, rfl, xmk fun dd H2 n s3 e => kx (some i) (by rw [ce, e2]; simp [rowsBad, i4, q2, idxV]) dd H2 (s4.free n) (s4.trans s3) e⟩)
            | true =>
              refine iteF ?_
              obtain ⟨y, rr, rfl⟩ := isRow_name q2
              cases rd with
              | @tup ar xr _ nr hr2 zr rr =>
                cases rr with
                | @cons v2 vs2 _ _ r2 rr =>
                  cases r2 with
                  | str _ hy =>
                    walk_at "es"
                    refine .inr (.inl ⟨ar, _, 0, V.str y, rfl, rfl, SqT.rd (Rd.same hr2 s4), atI_nat (j := 0) rfl, ?_⟩)
                    walk_at "es"
                    refine And.intro flat_str ?_
                    walk_at "es"
                    show (if inV (.str y) (seen.map V.str) = true then _ else _)
                    rw [inV_str]
                    cases q3 : seen.contains y with
                    | true => exact iteT ⟨_, rfl, xmk fun dd H2 n s3 e => kx (some i) (by rw [ce, e2]; simp only [rowsBad, q2, nameOf, q3, if_neg i4]; rfl) dd H2 (s4.free n) (s4.trans s3) e⟩
                    | false =>
                      refine iteF ?_
                      walk_at "e"
                      refine And.intro (.inl ⟨rfl, _, SqL.of hl2⟩) ?_
                      walk_at "e"
                      refine .inr (.inl ⟨ar, _, 0, V.str y, rfl, rfl, SqT.rd (Rd.same hr2 s4), atI_nat (j := 0) rfl, ?_⟩)
                      refine ⟨l, _, _, rfl, rfl, hl2, ?_, ?_⟩
                      · rw [List.length_map, sl]
                        exact Nat.lt_of_lt_of_le (Nat.lt_of_lt_of_le (List.getElem?_eq_some_iff.mp hi).1 z) (by decide)
                      · have nl : ∀ b o, H b = some o → b ≠ l := fun b o e => ne_of_none e hl
                        refine ⟨_, _, seen ++ [y], rfl, fun b o e => ?_, ?_, by rw [List.length_append, sl]; rfl, ?_⟩
                        · rw [upd_ne (nl b o e)]
                          exact s4 _ _ e
                        · rw [upd_same, List.map_append]
                          rfl
                        · rw [e2]
                          simp only [rowsBad, q2, nameOf, q3, if_neg i4]
                          rfl
        · rintro σ H' ⟨u1, u2, seen, rfl, sm, hl', sl, e2⟩
          rw [ra.length, List.drop_length] at e2
          exact kn (by rw [ce, e2]; rfl) H' sm
    | _ => exact iteT (iteT (xmk fun dd H' n s e => kx none rfl dd H' n s e))
end
end Cs
set_option maxHeartbeats 4000000
namespace Cs
open PySem L2 PyProof.Rows
/-- what is wrong of columns and rows: 0 for the columns, 1 for the rows, with the index -/
def tabErr (dc dr : PyData) : Option (Nat × Option Nat) := match colsErr dc with
  | some e => some (0, e)
  | none => match dc with
    | .tuple cs => (rowsErr cs.length dr).map fun e => (1, e)
    | _ => none
def SpTI (c : Nat → Addr) : Sp := fun vs H Q E => ∃ (p a : Addr) (vc vr : V) (dc dr : PyData) (n : Nat) (e : Option Nat), vs = [.ref a, vc, vr] ∧ Rp p H vc dc ∧ Rp p H vr dr ∧ tabErr dc dr = some (n, e) ∧
  ∀ dd H', H dd = none → Same H H' → H' dd = some (.xd [("index", idxV e)]) → E (.ref (c n)) (some dd) H'
section
variable {P : Program} {w : World} {K : PySem.W.Frag} {mg : Str → Option Value} {base : Heap} {c : Nat → Addr}
abbrev sTI : Stmt := inClass (topS 31) 0
theorem sc_tinit : FnScope ["self", "columns", "rows"] ["self", "columns", "rows"] (defScope sTI) := ⟨rfl, rfl, rfl, by decide +kernel, rfl, by decide +kernel, by decide +kernel⟩
theorem ok_tinit {f : Addr} {fd : FuncData} {q : Str} (F : FunD K "__init__" q (defArgs sTI) (defBody sTI) (defScope sTI) [] [] f fd)
    (cC : CalX P w K mg base 4 "check_columns" (SpCC (c 0))) (cR : CalX P w K mg base 7 "check_rows" (SpCR (c 1))) : FnOk P w K mg base (L2.CX P w) 8 f fd ["self", "columns", "rows"] (SpTI c) := by
  refine F.ok sc_tinit (fun vs H Q E h => by obtain ⟨p, a, vc, vr, dc, dr, n, e, rfl, _⟩ := h; rfl) fun cdv A outer s H vs Q E hr h => ?_
  obtain ⟨p, a, vc, vr, dc, dr, n, e, rfl, rc, rr, he, k⟩ := h
  obtain ⟨f1, fd1, ps1, F1, g1, k1, b1⟩ := cC.ex
  obtain ⟨f2, fd2, ps2, F2, g2, k2, b2⟩ := cR.ex
  refine ⟨_, pss_cons (ps_expr (pe_call F1 (hr.mono (by decide)) rfl g1 k1 b1 .nil (passes_call (takes_of rfl rfl rfl rfl) (fun _ _ _ _ h => h)) (pa_cons (pv 1) pa_nil)))
    (pss_cons (ps_expr (pe_call F2 hr rfl g2 k2 b2 .nil (passes_call (takes_of rfl rfl rfl rfl) (fun _ _ _ _ h => h)) (pa_cons (pv 1) (pa_cons (pv 2) pa_nil))))
    (pss_cons (ps_fld (pv 0) (pv 1) rfl) (pss_one (ps_fld (pv 0) (pv 2) rfl)))), ?_⟩
  refine ⟨_, rfl, p, vc, dc, rfl, rc, fun hn H1 s1 => ?_, fun e' he' dd H' hd s hx => ?_⟩
  · unfold tabErr at he
    rw [hn] at he
    dsimp only at he
    · split at he
      · rename_i cs
        obtain ⟨e2, he2, hq⟩ := Option.map_eq_some_iff.mp he
        cases hq
        refine ⟨_, rfl, _, rfl, p, vc, vr, cs, dr, rfl, Rp.keep (ExB.of s1) rc, Rp.keep (ExB.of s1) rr, fun hz => ?_, fun e' he' dd H' hd s hx => ?_⟩
        · rw [hz] at he2
          cases he2
        · rw [he'] at he2
          cases he2
          exact k dd H' (s1.free hd) (s1.trans s) hx
      · cases he
  · unfold tabErr at he
    rw [he'] at he
    cases he
    exact k dd H' hd s hx
/-- the class Table -/
structure TabAt (K : PySem.W.Frag) (mg : Str → Option Value) (C f : Addr) (fd : FuncData) : Prop where
  mkT : Mk K C f
  g : mg "Table" = some (.ref C)
  F : ∃ q, FunD K "__init__" q (defArgs sTI) (defBody sTI) (defScope sTI) [] [] f fd
  b : Binds K fd ["self", "columns", "rows"] []
  kb : KBn K fd ["self", "columns", "rows"] 1 ["rows", "columns"] (fun us ws => us ++ ws.reverse) (fun vs zs => vs ++ zs.reverse)
theorem make_err {H1 : Hp} {p C : Addr} {vc vr : V} {dc dr : PyData} {n : Nat} {e : Option Nat} {E : XK} {R : Addr → V → Hp → Prop} (rc : Rp p H1 vc dc) (rr : Rp p H1 vr dr) (he : tabErr dc dr = some (n, e))
    (k : ∀ dd H', H1 dd = none → Same H1 H' → H' dd = some (.xd [("index", idxV e)]) → E (.ref (c n)) (some dd) H') :
    ∀ x dx, H1 x = none → H1 dx = none → dx ≠ x → SpTI c [.ref x, vc, vr] (upd (upd H1 dx (.own x)) x (.ins C dx [])) (R x) E := fun x dx hx hd hne => by
  have s : Same H1 (upd (upd H1 dx (.own x)) x (.ins C dx [])) := fun b o hb => by
    rw [upd_ne (ne_of_none hb hx), upd_ne (ne_of_none hb hd)]
    exact hb
  exact ⟨p, x, vc, vr, dc, dr, n, e, rfl, Rp.keep (ExB.of s) rc, Rp.keep (ExB.of s) rr, he, fun dd H' h1 h2 h3 => k dd H' (s.free h1) (s.trans h2) h3⟩
end
end Cs
set_option maxHeartbeats 4000000
/-! what all laws draw from, names and stretches as data -/
namespace Cs
open PySem L2 PyProof.Rows
def PailAt (H : Hp) (p : Addr) (n : Nat) : Prop := ∃ a b c : Int, 0 ≤ c ∧ c ≤ n ∧ H p = some (.lst [.int a, .int b, .int c])
theorem PailAt.keep {H H' : Hp} {p : Addr} {n : Nat} (h : PailAt H p n) (s : Same H H') : PailAt H' p n := by
  obtain ⟨a, b, c, h1, h2, h3⟩ := h
  exact ⟨a, b, c, h1, h2, s _ _ h3⟩
theorem PailAt.more {H : Hp} {p : Addr} {n m : Nat} (h : PailAt H p n) (z : n ≤ m) : PailAt H p m := by
  obtain ⟨a, b, c, h1, h2, h3⟩ := h
  exact ⟨a, b, c, h1, by omega, h3⟩
def SpScoop : Sp := fun vs H Q _ => ∃ (p : Addr) (m : Int) (n : Nat), vs = [.ref p, .int m] ∧ 0 < m ∧ m < 1073741824 ∧ PailAt H p n ∧ n < 1000000000 ∧
  ∀ (r : Int) (H' : Hp), 0 ≤ r → r < m → ExB p H H' → PailAt H' p (n + 1) → Q (.int r) H'
def SpAny : Sp := fun vs H Q _ => ∃ (p : Addr) (v : V) (ds : List PyData) (n : Nat), vs = [.ref p, v] ∧ Rp p H v (.list ds) ∧ 1 ≤ ds.length ∧ PailAt H p n ∧ n < 1000000000 ∧
  ∀ (u : V) (d : PyData) (H' : Hp), d ∈ ds → Rp p H' u d → ExB p H H' → PailAt H' p (n + 1) → Q u H'
def SpPail (K : PySem.W.Frag) : Sp := fun vs H Q _ => ∃ (a : Addr) (ns : List Int) (i : Nat), vs = [.ref a, .int (i : Nat)] ∧ SqL K H a (ns.map V.int) ∧ ns.length ≤ 1000 ∧ i ≤ 1 ∧
  ∀ p H', H p = none → Same H H' → PailAt H' p 0 → Q (.ref p) H'
theorem PailAt.has {H : Hp} {p : Addr} {n : Nat} (h : PailAt H p n) : Has p H := by
  obtain ⟨a, b, c, _, _, e⟩ := h
  exact ⟨_, e⟩
theorem span_inv {lo hi : Int} {d : PyData} (h : isSpan lo hi d = true) : ∃ a b : Int, d = .tuple [.int a, .int b] ∧ lo ≤ a ∧ a ≤ b ∧ b ≤ hi := by
  unfold isSpan at h
  split at h
  · rw [Bool.and_eq_true, Bool.and_eq_true, decide_eq_true_eq, decide_eq_true_eq, decide_eq_true_eq] at h
    exact ⟨_, _, rfl, h.1, h.2.1, h.2.2⟩
  · cases h
theorem span_t {p : Addr} {H : Hp} {v : V} {lo hi : Int} {d : PyData} (h : isSpan lo hi d = true) (r : Rp p H v d) : RpT p H v d := by
  obtain ⟨a, b, rfl, _⟩ := span_inv h
  obtain ⟨t, xs, rfl, n, ht, z, ra⟩ := r.tup_inv
  cases ra with
  | cons r1 ra =>
    cases ra with
    | cons r2 ra =>
      cases ra with
      | nil =>
        cases r1
        cases r2
        exact .tup n ht z (.cons (.int _) (.cons (.int _) .nil))
theorem erase_perm {α : Type} : ∀ {xs : List α} {k : Nat} {y : α}, xs[k]? = some y → (y :: xs.eraseIdx k).Perm xs
  | [], k, y, h => by simp at h
  | x :: xs, 0, y, h => by
    cases h
    exact List.Perm.refl _
  | x :: xs, k + 1, y, h => by
    rw [List.eraseIdx_cons_succ]
    exact (List.Perm.swap ..).trans ((erase_perm (xs := xs) (k := k) h).cons x)
theorem erase_map {α β : Type} (f : α → β) : ∀ (xs : List α) (k : Nat), (xs.map f).eraseIdx k = (xs.eraseIdx k).map f
  | [], _ => rfl
  | _ :: _, 0 => rfl
  | x :: xs, k + 1 => by
    rw [List.map_cons, List.eraseIdx_cons_succ, List.eraseIdx_cons_succ, List.map_cons, erase_map f xs k]
structure Pool (N : Nat) (names rest : List Str) : Prop where
  len : names.length + rest.length = N
  nd : (names ++ rest).Nodup
  nm : ∀ x ∈ names ++ rest, isName (.str x) = true
theorem Pool.step {N k : Nat} {names rest : List Str} {y : Str} (h : Pool N names rest) (e : rest[k]? = some y) : Pool N (names ++ [y]) (rest.eraseIdx k) := by
  have hp : (names ++ [y] ++ rest.eraseIdx k).Perm (names ++ rest) := by
    rw [List.append_assoc]
    exact (erase_perm e).append_left names
  refine ⟨?_, hp.nodup_iff.mpr h.nd, fun x hx => h.nm x (hp.mem_iff.mp hx)⟩
  have l := hp.length_eq
  have l2 := h.len
  simp only [List.length_append] at l ⊢
  omega
theorem name_len {x : Str} (h : isName (.str x) = true) : x.length ≤ 8 := by
  unfold isName at h
  rw [Bool.and_eq_true, Bool.and_eq_true, decide_eq_true_eq, decide_eq_true_eq] at h
  exact h.1.2
theorem rp_names {p : Addr} {H : Hp} : ∀ {xs : List Str}, (∀ x ∈ xs, isName (.str x) = true) → RpTA p H (xs.map V.str) (xs.map PyData.str)
  | [], _ => .nil
  | x :: xs, h => .cons (.str x (Nat.le_trans (name_len (h x List.mem_cons_self)) (by decide))) (rp_names fun y hy => h y (List.mem_cons_of_mem _ hy))
theorem ExB.putN {p l : Addr} {H H' : Hp} {o : HO} (e : ExB p H H') (n : H l = none) : ExB p H (upd H' l o) := fun b u nb h => by
  rw [upd_ne (ne_of_none h n)]
  exact e b u nb h
theorem ixn {α : Type} {xs : List α} {k : Nat} (h : k < xs.length) : seqIndex? ((k : Nat) : Int) xs.length = some k := by
  have h1 : ¬ ((k : Nat) : Int) < 0 := by omega
  have h2 : ((k : Nat) : Int) < (xs.length : Nat) := by omega
  simp only [seqIndex?, if_neg h1, decide_eq_true h2, decide_eq_true (Int.natCast_nonneg k), Bool.and_self, if_true, Int.toNat_natCast]
theorem PailAt.put {H : Hp} {p l : Addr} {n : Nat} {o : HO} (h : PailAt H p n) (ne : l ≠ p) : PailAt (upd H l o) p n := by
  obtain ⟨a, b, c, h1, h2, h3⟩ := h
  exact ⟨a, b, c, h1, h2, by rw [upd_ne ne.symm]; exact h3⟩
end Cs
set_option maxHeartbeats 4000000
namespace Cs
open PySem L2 PyProof.Rows
/-! ### right columns and rows -/
abbrev Rw : Type := Str × List (Int × Int)
def dSp (q : Int × Int) : PyData := .tuple [.int q.1, .int q.2]
def dRw (r : Rw) : PyData := .tuple [.str r.1, .tuple (r.2.map dSp)]
def dRows (rs : List Rw) : PyData := .tuple (rs.map dRw)
structure Good (cs : List Str) (rs : List Rw) : Prop where
  c1 : 1 ≤ cs.length
  c4 : cs.length ≤ 4
  cnd : cs.Nodup
  cnm : ∀ x ∈ cs, isName (.str x) = true
  r1 : 1 ≤ rs.length
  r8 : rs.length ≤ 8
  rnd : (rs.map (·.1)).Nodup
  rnm : ∀ r ∈ rs, isName (.str r.1) = true
  rl : ∀ r ∈ rs, r.2.length = cs.length
  sp : ∀ r ∈ rs, ∀ q ∈ r.2, -10000 ≤ q.1 ∧ q.1 ≤ q.2 ∧ q.2 ≤ 10000
theorem not_in {x : Str} {seen xs : List Str} (nd : (seen ++ x :: xs).Nodup) : seen.contains x = false := by
  rw [List.contains_eq_mem, decide_eq_false_iff_not]
  intro z
  exact (List.nodup_append.mp nd).2.2 x z x List.mem_cons_self rfl
theorem nd_next {x : Str} {seen xs : List Str} (nd : (seen ++ x :: xs).Nodup) : ((seen ++ [x]) ++ xs).Nodup := by
  rw [List.append_assoc]
  exact nd
theorem colsBad_good : ∀ (xs : List Str) (i : Nat) (seen : List Str), i + xs.length ≤ 4 → (∀ x ∈ xs, isName (.str x) = true) → (seen ++ xs).Nodup → colsBad i seen (xs.map PyData.str) = none
  | [], _, _, _, _, _ => rfl
  | x :: xs, i, seen, hl, hn, nd => by
    have hi : i ≠ 4 := by
      rw [List.length_cons] at hl
      omega
    show (if i = 4 then some i else if isName (.str x) && !seen.contains x then colsBad (i + 1) (seen ++ [x]) (xs.map PyData.str) else some i) = none
    rw [if_neg hi, hn x List.mem_cons_self, not_in nd]
    exact colsBad_good xs (i + 1) (seen ++ [x]) (by rw [List.length_cons] at hl; omega) (fun y hy => hn y (List.mem_cons_of_mem _ hy)) (nd_next nd)
theorem row_ok {m : Nat} {r : Rw} (hn : isName (.str r.1) = true) (hl : r.2.length = m) (hs : ∀ q ∈ r.2, -10000 ≤ q.1 ∧ q.1 ≤ q.2 ∧ q.2 ≤ 10000) : isRow m (dRw r) = true := by
  show (isName (.str r.1) && (decide ((r.2.map dSp).length = m) && (r.2.map dSp).all (isSpan (-10000) 10000))) = true
  rw [hn, List.length_map, decide_eq_true hl, Bool.true_and, Bool.true_and, List.all_map, List.all_eq_true]
  intro q hq
  obtain ⟨h1, h2, h3⟩ := hs q hq
  show (decide (-10000 ≤ q.1) && (decide (q.1 ≤ q.2) && decide (q.2 ≤ 10000))) = true
  rw [decide_eq_true h1, decide_eq_true h2, decide_eq_true h3]
  rfl
theorem rowsBad_good {m : Nat} : ∀ (rs : List Rw) (i : Nat) (seen : List Str), i + rs.length ≤ 8 → (∀ r ∈ rs, isRow m (dRw r) = true) → (seen ++ rs.map (·.1)).Nodup → rowsBad m i seen (rs.map dRw) = none
  | [], _, _, _, _, _ => rfl
  | r :: rs, i, seen, hl, hn, nd => by
    have hi : i ≠ 8 := by
      rw [List.length_cons] at hl
      omega
    rw [List.map_cons] at nd
    have e : rowsBad m i seen (dRw r :: rs.map dRw) = rowsBad m (i + 1) (seen ++ [r.1]) (rs.map dRw) := by
      have e2 : nameOf (dRw r) = some r.1 := rfl
      simp only [rowsBad, hn r List.mem_cons_self, e2, not_in nd, if_neg hi, if_true, Bool.false_eq_true, if_false]
    rw [List.map_cons, e]
    exact rowsBad_good rs (i + 1) (seen ++ [r.1]) (by rw [List.length_cons] at hl; omega) (fun y hy => hn y (List.mem_cons_of_mem _ hy)) (nd_next nd)
theorem Good.cols {cs : List Str} {rs : List Rw} (g : Good cs rs) : colsErr (dCols cs) = none := by
  have h := colsBad_good cs 0 [] (by rw [Nat.zero_add]; exact g.c4) g.cnm g.cnd
  cases cs with
  | nil => exact absurd g.c1 (by decide)
  | cons x xs =>
    show (colsBad 0 [] (.str x :: xs.map PyData.str)).map some = none
    rw [List.map_cons] at h
    rw [h]
    rfl
theorem Good.rows {cs : List Str} {rs : List Rw} (g : Good cs rs) : rowsErr cs.length (dRows rs) = none := by
  have h := rowsBad_good (m := cs.length) rs 0 [] (by rw [Nat.zero_add]; exact g.r8) (fun r hr => row_ok (g.rnm r hr) (g.rl r hr) (g.sp r hr)) g.rnd
  cases rs with
  | nil => exact absurd g.r1 (by decide)
  | cons x xs =>
    show (rowsBad cs.length 0 [] (dRw x :: xs.map dRw)).map some = none
    rw [List.map_cons] at h
    rw [h]
    rfl
/-- a table of the class C at t: its columns, its rows -/
def TabD (C : Addr) (p : Addr) (H : Hp) (t : Addr) (cs : List Str) (rs : List Rw) : Prop := ∃ dx vc vr, H t = some (.ins C dx [("_columns", vc), ("_rows", vr)]) ∧ RpT p H vc (dCols cs) ∧ RpT p H vr (dRows rs)
/-- .. its columns known whole -/
def TabF (C : Addr) (p : Addr) (H : Hp) (t : Addr) (cs : List Str) : Prop := ∃ dx vc vr, H t = some (.ins C dx [("_columns", vc), ("_rows", vr)]) ∧ NmT p H vc cs
theorem TabF.same {C p t : Addr} {H H' : Hp} {cs : List Str} (h : TabF C p H t cs) (e : Same H H') : TabF C p H' t cs := by
  obtain ⟨dx, vc, vr, h1, h2⟩ := h
  exact ⟨dx, vc, vr, e _ _ h1, h2.keep (ExB.of e)⟩
theorem TabF.keep {C p t : Addr} {H H' : Hp} {cs : List Str} (h : TabF C p H t cs) (n : t ≠ p) (e : ExB p H H') : TabF C p H' t cs := by
  obtain ⟨dx, vc, vr, h1, h2⟩ := h
  exact ⟨dx, vc, vr, e _ _ n h1, h2.keep e⟩
theorem TabD.keep {C p t : Addr} {H H' : Hp} {cs : List Str} {rs : List Rw} (h : TabD C p H t cs rs) (n : t ≠ p) (e : ExB p H H') : TabD C p H' t cs rs := by
  obtain ⟨dx, vc, vr, h1, h2, h3⟩ := h
  exact ⟨dx, vc, vr, e _ _ n h1, h2.keep (ExT.of e), h3.keep (ExT.of e)⟩
theorem TabD.same {C p t : Addr} {H H' : Hp} {cs : List Str} {rs : List Rw} (h : TabD C p H t cs rs) (e : Same H H') : TabD C p H' t cs rs := by
  obtain ⟨dx, vc, vr, h1, h2, h3⟩ := h
  exact ⟨dx, vc, vr, e _ _ h1, h2.keep (ExT.of (ExB.of e)), h3.keep (ExT.of (ExB.of e))⟩
/-- what is known of the class Table itself -/
structure TabC (K : PySem.W.Frag) (C : Addr) : Prop where
  c : Cls K C
  n1 : NoAttr K C "_columns"
  n2 : NoAttr K C "_rows"
  ha : PySem.W.findIn K (.ref C) "__class__" = some (some (.builtin "object.__class__"))
  hn : PySem.W.specialIn K (.builtin "object.__class__") "__get__" = some (some (.builtin "getset_descriptor.__get__"))
  ht : PySem.W.takesIn K (.builtin "object.__class__") = some true
  hm : PySem.W.mroIn K C (.type "object") = some true
  ki : PySem.W.kitOne K (.ref C) (.ref C) = some true
/-- __init__ of right columns and rows -/
def SpTO (C : Addr) : Sp := fun vs H Q _ => ∃ (p a dx : Addr) (vc vr : V) (cs : List Str) (rs : List Rw), vs = [.ref a, vc, vr] ∧ H a = some (.ins C dx []) ∧ a ≠ p ∧ RpT p H vc (dCols cs) ∧ RpT p H vr (dRows rs) ∧ Good cs rs ∧
  ∀ H', (∀ b o, b ≠ a → H b = some o → H' b = some o) → H' a = some (.ins C dx [("_columns", vc), ("_rows", vr)]) → Q .non H'
section
variable {P : Program} {w : World} {K : PySem.W.Frag} {mg : Str → Option Value} {base : Heap} {c : Nat → Addr}
theorem ok_tinitO {f C : Addr} {fd : FuncData} {q : Str} (F : FunD K "__init__" q (defArgs sTI) (defBody sTI) (defScope sTI) [] [] f fd) (TC : TabC K C)
    (cC : CalX P w K mg base 4 "check_columns" (SpCC (c 0))) (cR : CalX P w K mg base 7 "check_rows" (SpCR (c 1))) : FnOk P w K mg base (L2.CX P w) 8 f fd ["self", "columns", "rows"] (SpTO C) := by
  refine F.ok sc_tinit (fun vs H Q E h => by obtain ⟨p, a, dx, vc, vr, cs, rs, rfl, _⟩ := h; rfl) fun cdv A outer s H vs Q E hr h => ?_
  obtain ⟨p, a, dx, vc, vr, cs, rs, rfl, ha, hap, rc, rr, G, k⟩ := h
  obtain ⟨f1, fd1, ps1, F1, g1, k1, b1⟩ := cC.ex
  obtain ⟨f2, fd2, ps2, F2, g2, k2, b2⟩ := cR.ex
  refine ⟨_, pss_cons (ps_expr (pe_call F1 (hr.mono (by decide)) rfl g1 k1 b1 .nil (passes_call (takes_of rfl rfl rfl rfl) (fun _ _ _ _ h => h)) (pa_cons (pv 1) pa_nil)))
    (pss_cons (ps_expr (pe_call F2 hr rfl g2 k2 b2 .nil (passes_call (takes_of rfl rfl rfl rfl) (fun _ _ _ _ h => h)) (pa_cons (pv 1) (pa_cons (pv 2) pa_nil))))
    (pss_cons (ps_fld (pv 0) (pv 1) rfl) (pss_one (ps_fld (pv 0) (pv 2) rfl)))), ?_⟩
  have gc := G.cols
  have gr := G.rows
  refine ⟨_, rfl, p, vc, dCols cs, rfl, rc.rp, fun _ H1 s1 => ?_, fun e' he' => by rw [gc] at he'; cases he'⟩
  have rc1 := rc.keep (ExT.of (ExB.of s1))
  have rr1 := rr.keep (ExT.of (ExB.of s1))
  refine ⟨_, rfl, _, rfl, p, vc, vr, cs.map PyData.str, dRows rs, rfl, rc1.rp, rr1.rp, fun _ H2 s2 => ?_, fun e' he' => by rw [List.length_map, gr] at he'; cases he'⟩
  have sA := s1.trans s2
  refine ⟨_, rfl, _, rfl, a, C, dx, [], rfl, sA _ _ ha, TC.c, TC.n1, by show 0 < 1000; decide, ?_⟩
  refine ⟨_, rfl, _, rfl, a, C, dx, _, rfl, upd_same, TC.c, TC.n2, by show 1 < 1000; decide, ?_⟩
  refine k _ (fun b o nb e => ?_) upd_same
  rw [upd_ne nb, upd_ne nb]
  exact sA _ _ e
end
end Cs
set_option maxHeartbeats 4000000
namespace Cs
open PySem L2 PyProof.Rows
local macro_rules | `(tactic| walk_at "goD0") => `(tactic| try dsimp only [gName, tSeq, tAsg, tRet, tLst, tCons, tOp, tTup, tCall, tNil, tC, tDrop, tCB, tPar, tNext, tM1, tJs, tAndV])
def SpGet (C : Addr) (f : Str) : Sp := fun vs H Q _ => ∃ (a dx : Addr) (fs : List (Str × V)) (v : V), vs = [.ref a] ∧ H a = some (.ins C dx fs) ∧ fs.lookup f = some v ∧ Q v H
def SpNm (C : Addr) : Sp := fun vs H Q _ => ∃ (p t : Addr) (cs : List Str) (rs : List Rw), vs = [.ref t] ∧ Has p H ∧ TabD C p H t cs rs ∧ rs.length ≤ 8 ∧ (∀ x ∈ rs.map (·.1), isName (.str x) = true) ∧ ∀ v H', Same H H' → NmT p H' v (rs.map (·.1)) → Q v H'
def SpLn (C : Addr) : Sp := fun vs H Q _ => ∃ (p t : Addr) (cs : List Str) (rs : List Rw), vs = [.ref t] ∧ TabD C p H t cs rs ∧ Q (.int (rs.length : Nat)) H
/-- data that can be compared -/
structure Tidy (cs : List Str) (rs : List Rw) : Prop where
  c : SeqAt.shaped (dCols cs) = true
  r : SeqAt.shaped (dRows rs) = true
theorem Good.tidy {cs : List Str} {rs : List Rw} (g : Good cs rs) : Tidy cs rs := by
  refine ⟨?_, ?_⟩
  · show (PyData.canLay0 (dCols cs) && decide ((dCols cs).depth ≤ 64)) = true
    have h1 : PyData.canLayAll0 (cs.map PyData.str) = true := lay_map fun x hx => strOk_name (g.cnm x hx)
    have h2 : PyData.depthAll (cs.map PyData.str) ≤ 0 := dep_map fun x _ => Nat.le_refl _
    have h3 : (dCols cs).depth = PyData.depthAll (cs.map PyData.str) + 1 := by rw [dCols, PyData.depth]
    rw [h3, decide_eq_true (by omega), Bool.and_true]
    exact h1
  · show (PyData.canLay0 (dRows rs) && decide ((dRows rs).depth ≤ 64)) = true
    have h1 : PyData.canLayAll0 (rs.map dRw) = true := lay_map fun r hr => by
      show (PyData.canLay0 (.str r.1) && (PyData.canLayAll0 (r.2.map dSp) && true)) = true
      have e : PyData.canLayAll0 (r.2.map dSp) = true := lay_map fun q _ => rfl
      have e2 : PyData.canLay0 (.str r.1) = true := strOk_name (g.rnm r hr)
      rw [e, e2]
      rfl
    have h2 : PyData.depthAll (rs.map dRw) ≤ 3 := dep_map fun r _ => by
      have e : PyData.depthAll (r.2.map dSp) ≤ 1 := dep_map fun q _ => by
        show PyData.depth (.tuple [.int q.1, .int q.2]) ≤ 1
        simp [PyData.depth, PyData.depthAll]
      show PyData.depth (.tuple [.str r.1, .tuple (r.2.map dSp)]) ≤ 3
      simp only [PyData.depth, PyData.depthAll]
      omega
    have h3 : (dRows rs).depth = PyData.depthAll (rs.map dRw) + 1 := by rw [dRows, PyData.depth]
    rw [h3, decide_eq_true (by omega), Bool.and_true]
    exact h1
/-- two tables are equal just if their columns and rows are -/
def sameT (cs : List Str) (rs : List Rw) (cs2 : List Str) (rs2 : List Rw) : Bool := (dCols cs).eqv (dCols cs2) && (dRows rs).eqv (dRows rs2)
def SpEqT (C : Addr) : Sp := fun vs H Q _ => ∃ (p t u : Addr) (cs : List Str) (rs : List Rw) (cs2 : List Str) (rs2 : List Rw), vs = [.ref t, .ref u] ∧ TabD C p H t cs rs ∧ TabD C p H u cs2 rs2 ∧ Tidy cs rs ∧ Tidy cs2 rs2 ∧ ∀ H', Same H H' → Q (.bl (sameT cs rs cs2 rs2)) H'
structure TabG (mg : Str → Option Value) (C : Addr) : Prop where
  v_Table : ∃ u, mg "Table" = some u ∧ RelV (.ref C) u
/-! ### texts -/
def spT (q : Int × Int) : Str := toString q.1 ++ ((" " : Str) ++ toString q.2)
def stT (qs : List (Int × Int)) : Str := Txt.join " " (qs.map spT)
def rwT (r : Rw) : Str := r.1 ++ ((" " : Str) ++ stT r.2)
def pageT (cs : List Str) (rs : List Rw) : Str := Txt.join "\n" (Txt.join " " cs :: rs.map rwT)
def SpSt : Sp := fun vs H Q _ => ∃ (p : Addr) (v : V) (qs : List (Int × Int)), vs = [v] ∧ RpT p H v (.tuple (qs.map dSp)) ∧ qs.length ≤ 4 ∧ (∀ q ∈ qs, -10000 ≤ q.1 ∧ q.1 ≤ q.2 ∧ q.2 ≤ 10000) ∧ ∀ H', Same H H' → Q (.str (stT qs)) H'
theorem it_len {a : Int} (h1 : -100000 < a) (h2 : a < 100000) : (Str.ofString (toString a)).length ≤ 6 := by
  have e := int_text_length_le10 (a := a) (k := 5) (by decide) (by omega)
  rw [PySem.ofString_length]
  exact e
theorem spT_len {q : Int × Int} (h : -10000 ≤ q.1 ∧ q.1 ≤ q.2 ∧ q.2 ≤ 10000) : (spT q).length ≤ 13 := by
  have e1 := it_len (a := q.1) (by omega) (by omega)
  have e2 := it_len (a := q.2) (by omega) (by omega)
  unfold spT
  rw [Str.length_append, Str.length_append]
  have e3 : ((" " : Str)).length = 1 := by decide
  omega
theorem sum_le {xs : List Str} {b : Nat} (h : ∀ x ∈ xs, x.length ≤ b) : (xs.map (·.length)).sum ≤ xs.length * b := by
  induction xs with
  | nil => simp
  | cons x xs ih =>
    rw [List.map_cons, List.sum_cons, List.length_cons, Nat.succ_mul]
    have h1 := h x List.mem_cons_self
    have h2 := ih fun y hy => h y (List.mem_cons_of_mem _ hy)
    omega
theorem log_small {a : Int} (h1 : -100000 < a) (h2 : a < 100000) : a.natAbs.log2 < 1920 := by
  by_cases h0 : a.natAbs = 0
  · rw [h0]
    decide
  · exact (Nat.log2_lt h0).mpr (Nat.lt_of_lt_of_le (show a.natAbs < 2 ^ 20 by omega) (Nat.pow_le_pow_right (by decide) (by decide)))
theorem rpta_str {p : Addr} {H : Hp} : ∀ {vs : List V} {xs : List Str}, RpTA p H vs (xs.map PyData.str) → vs = xs.map V.str
  | _, [], .nil => rfl
  | _, x :: xs, .cons r t => by
    cases r
    rw [rpta_str t]
    rfl
theorem sp_fin (a b : Int) : Str.empty ++ Str.ofString (toString a) ++ (" " : Str) ++ Str.ofString (toString b) = spT (a, b) := by
  unfold spT
  rw [Str.empty_append, Str.append_assoc]
theorem sz_small {x : Str} {n : Nat} (h : x.length ≤ n) (z : n ≤ 1000) : x.length ≤ sizeLine := Nat.le_trans h (sz1000 z)
theorem map_get {α β : Type} {f : α → β} {xs : List α} {j : Nat} {y : β} (h : (xs.map f)[j]? = some y) : ∃ x, xs[j]? = some x ∧ y = f x := by
  rw [List.getElem?_map] at h
  obtain ⟨x, h1, h2⟩ := Option.map_eq_some_iff.mp h
  exact ⟨x, h1, h2.symm⟩
theorem unp2 {p : Addr} {H : Hp} {z : V} {d e : PyData} (r : RpT p H z (.tuple [d, e])) : ∃ a x y, z = .ref a ∧ Rd H a (.tup [x, y]) ∧ RpT p H x d ∧ RpT p H y e := by
  cases r with
  | @tup a xs _ n h z r =>
    cases r with
    | cons r1 r =>
      cases r with
      | cons r2 r =>
        cases r
        exact ⟨a, _, _, rfl, h, r1, r2⟩
section
variable {P : Program} {w : World} {K : PySem.W.Frag} {mg : Str → Option Value} {base : Heap} {C : Addr}
theorem ok_t_columns {f : Addr} {fd : FuncData} {q : Str} (F : FunD K "columns" q (defArgs (inClass (topS 31) 2)) (defBody (inClass (topS 31) 2)) (defScope (inClass (topS 31) 2)) [] [] f fd) (TC : TabC K C) : FnOk P w K mg base CX0 1 f fd ["self"] (SpGet C "_columns") := by
  refine F.ok (N := ["self"]) ⟨rfl, rfl, rfl, by decide +kernel, rfl, by decide +kernel, by decide +kernel⟩ (fun vs H Q E h => by obtain ⟨_, _, _, _, rfl, _⟩ := h; rfl) fun cdv A outer s H vs Q E hr h => ?_
  obtain ⟨a, dx, fs, v, rfl, ha, hf, k⟩ := h
  exact ⟨_, PSs.nox (pss_one (ps_ret (pe_fld (pv 0) rfl))), _, rfl, a, C, dx, fs, v, rfl, ha, TC.c, TC.n1, hf, k⟩
theorem ok_t_rows {f : Addr} {fd : FuncData} {q : Str} (F : FunD K "rows" q (defArgs (inClass (topS 31) 3)) (defBody (inClass (topS 31) 3)) (defScope (inClass (topS 31) 3)) [] [] f fd) (TC : TabC K C) : FnOk P w K mg base CX0 1 f fd ["self"] (SpGet C "_rows") := by
  refine F.ok (N := ["self"]) ⟨rfl, rfl, rfl, by decide +kernel, rfl, by decide +kernel, by decide +kernel⟩ (fun vs H Q E h => by obtain ⟨_, _, _, _, rfl, _⟩ := h; rfl) fun cdv A outer s H vs Q E hr h => ?_
  obtain ⟨a, dx, fs, v, rfl, ha, hf, k⟩ := h
  exact ⟨_, PSs.nox (pss_one (ps_ret (pe_fld (pv 0) rfl))), _, rfl, a, C, dx, fs, v, rfl, ha, TC.c, TC.n2, hf, k⟩
theorem sc_t_names : FnScope ["self", "name", "_"] ["self"] (defScope (inClass (topS 31) 4)) := ⟨rfl, rfl, rfl, by decide +kernel, rfl, by decide +kernel, by decide +kernel⟩
theorem ok_t_names {f : Addr} {fd : FuncData} {q : Str} (F : FunD K "names" q (defArgs (inClass (topS 31) 4)) (defBody (inClass (topS 31) 4)) (defScope (inClass (topS 31) 4)) [] [] f fd) (TC : TabC K C) (T : Txt mg) : FnOk P w K mg base CX0 1 f fd ["self"] (SpNm C) := by
  refine F.ok sc_t_names (fun vs H Q E h => by obtain ⟨_, _, _, _, rfl, _⟩ := h; rfl) fun cdv A outer s H vs Q E hr h => ?_
  obtain ⟨p, t, cs, rs, rfl, hp, ht, h8, hnm, k⟩ := h
  have nd := sc_t_names.nd
  refine ⟨_, PSs.nox (pss_one (ps_ret (pe_callTy call_tupF (by rfl) T.tuple_ (by decide +kernel) (pa_cons (pe_lc (own := [("name", 1), ("_", 2)]) rfl nd (pi_tup (pe_fld (pv 0) rfl)) (blkOk_by (N := ["self", "name", "_"]) (sc := defScope (inClass (topS 31) 4)) (by decide +kernel)) (fun _ _ _ _ _ => (pg_tupK (K := K) (n := 2) rfl rfl (pgs_cons (pg_name (i := 1) nd rfl (.inl rfl)) (pgs_cons (pg_name (i := 2) nd rfl (.inl rfl)) pgs_nil)))) (fun _ _ _ _ _ => pts_nil) (fun _ _ _ _ _ => (pv 1))) pa_nil)))), ?_⟩
  obtain ⟨dx, vc, vr, h1, h2, h3⟩ := ht
  walk_at "goD0"
  refine lc_data (p := p) (ds := rs.map dRw) (es := (rs.map (·.1)).map PyData.str) (by rw [List.length_map, List.length_map, List.length_map]) (by rw [List.length_map]; omega) (fun R hR => ?_) (fun j z d e H' hd he sm rz R hR => ?_) (fun D ys H' hD sm hd ry => ?_)
  · exact ⟨_, rfl, t, C, dx, _, vr, rfl, h1, TC.c, TC.n2, rfl, hR _ _ (Same.refl _) h3⟩
  · obtain ⟨r, hr2, rfl⟩ := map_get hd
    rw [List.map_map] at he
    obtain ⟨r', hr3, rfl⟩ := map_get he
    rw [hr2] at hr3
    cases hr3
    obtain ⟨a, x, y, rfl, h4, h5, h6⟩ := unp2 rz
    exact ⟨a, [x, y], rfl, SqT.rd h4, rfl, x, [y], rfl, y, [], rfl, rfl, rfl, x, rfl, hR _ _ (Same.refl _) h5⟩
  · rw [rpta_str ry] at hd
    refine ⟨D, _, rfl, .inl ⟨SqL.of hd, fun l H2 hl s2 fz => ?_⟩⟩
    have hne : l ≠ p := (hp.keep sm).ne hl
    exact k _ _ (sm.trans s2) ⟨l, rfl, hne, fz, .tup hne fz.rd (by rw [List.length_map, List.length_map]; omega) (rp_names hnm)⟩
theorem sc_t_len : FnScope ["self"] ["self"] (defScope (inClass (topS 31) 6)) := ⟨rfl, rfl, rfl, by decide +kernel, rfl, by decide +kernel, by decide +kernel⟩
theorem ok_t_len {f : Addr} {fd : FuncData} {q : Str} (F : FunD K "__len__" q (defArgs (inClass (topS 31) 6)) (defBody (inClass (topS 31) 6)) (defScope (inClass (topS 31) 6)) [] [] f fd) (TC : TabC K C) (T : Txt mg) : FnOk P w K mg base CX0 1 f fd ["self"] (SpLn C) := by
  refine F.ok sc_t_len (fun vs H Q E h => by obtain ⟨_, _, _, _, rfl, _⟩ := h; rfl) fun cdv A outer s H vs Q E hr h => ?_
  obtain ⟨p, t, cs, rs, rfl, ht, k⟩ := h
  refine ⟨_, PSs.nox (pss_one (ps_ret (pe_callB call_lenA (by rfl) T.len_ (by decide +kernel) (pa_cons (pe_fld (pv 0) rfl) pa_nil)))), ?_⟩
  obtain ⟨dx, vc, vr, h1, h2, h3⟩ := ht
  cases h3 with
  | @tup a xs _ n h z r =>
    refine ⟨_, rfl, t, C, dx, _, .ref a, rfl, h1, TC.c, TC.n2, rfl, .inl ⟨a, xs, rfl, .inr (SqT.rd h), ?_⟩⟩
    rw [r.length, List.length_map]
    exact k
theorem sc_t_eq : FnScope ["self", "other"] ["self", "other"] (defScope (inClass (topS 31) 7)) := ⟨rfl, rfl, rfl, by decide +kernel, rfl, by decide +kernel, by decide +kernel⟩
theorem ok_t_eq {f : Addr} {fd : FuncData} {q : Str} (F : FunD K "__eq__" q (defArgs (inClass (topS 31) 7)) (defBody (inClass (topS 31) 7)) (defScope (inClass (topS 31) 7)) [] [] f fd) (TC : TabC K C) (T : Txt mg) (G : TabG mg C) : FnOk P w K mg base CX0 1 f fd ["self", "other"] (SpEqT C) := by
  refine F.ok sc_t_eq (fun vs H Q E h => by obtain ⟨_, _, _, _, _, _, _, rfl, _⟩ := h; rfl) fun cdv A outer s H vs Q E hr h => ?_
  obtain ⟨p, t, u, cs, rs, cs2, rs2, rfl, ht, hu, td, td2, k⟩ := h
  have nd := sc_t_eq.nd
  have hu64 := hr.units
  refine ⟨_, PSs.nox (pss_one (ps_ret (pe_and (pe_callB call_isi (by rfl) T.isinstance_ (by decide +kernel) (pa_cons (pv 1) (pa_cons (C8.pe_gc rfl G.v_Table) pa_nil))) (pe_and (pe_cmpR (opEq hu64) (pe_fld (pv 0) rfl) (pe_fld (pv 1) rfl) (nomark _)) (pe_one (pe_cmpR (opEq hu64) (pe_fld (pv 0) rfl) (pe_fld (pv 1) rfl) (nomark _))))))), ?_⟩
  obtain ⟨dx, vc, vr, h1, h2, h3⟩ := ht
  obtain ⟨dy, wc, wr, j1, j2, j3⟩ := hu
  walk_at "goD0"
  refine ⟨_, rfl, _, _, _, .ref C, true, rfl, .own _, .base (.ins j1 TC.c TC.ha TC.hn TC.ht TC.hm), TC.ki, true, rfl, iteT ?_⟩
  refine ⟨_, rfl, t, C, dx, _, vc, rfl, h1, TC.c, TC.n1, rfl, _, rfl, u, C, dy, _, wc, rfl, j1, TC.c, TC.n1, rfl, ?_⟩
  refine .inr ⟨_, _, h2.dp, j2.dp, td.c, td2.c, _, rfl, ?_⟩
  have fin : ∀ b, sameT cs rs cs2 rs2 = b → Q (.bl b) H := fun b e => e ▸ k H (Same.refl _)
  cases e : (dCols cs).eqv (dCols cs2) with
  | false => exact iteF (fin _ (by unfold sameT; rw [e]; rfl))
  | true =>
    refine iteT ⟨_, rfl, t, C, dx, _, vr, rfl, h1, TC.c, TC.n2, rfl, _, rfl, u, C, dy, _, wr, rfl, j1, TC.c, TC.n2, rfl, ?_⟩
    exact .inr ⟨_, _, h3.dp, j3.dp, td.r, td2.r, fin _ (by unfold sameT; rw [e]; rfl)⟩
theorem sc_stretches_text : FnScope ["stretches", "low", "high"] ["stretches"] (defScope (topS 21)) := ⟨rfl, rfl, rfl, by decide +kernel, rfl, by decide +kernel, by decide +kernel⟩
theorem ok_stretches_text (D : DefAt K mg "stretches_text" (topS 21) ["stretches"]) (T : Txt mg) : C8.Cal P w K mg base 1 "stretches_text" SpSt [] := by
  refine D.cal sc_stretches_text (fun vs H Q E h => by obtain ⟨_, _, _, rfl, _⟩ := h; rfl) fun f cdv A outer s H vs Q E hr h => ?_
  obtain ⟨p, v, qs, rfl, hv, h8, hb, k⟩ := h
  have nd := sc_stretches_text.nd
  refine ⟨_, (pss_one (ps_ret (pe_join pe_str (pe_lc (own := [("low", 1), ("high", 2)]) rfl nd (pi_tup (pv 0)) (blkOk_by (N := ["stretches", "low", "high"]) (sc := defScope (topS 21)) (by decide +kernel)) (fun _ _ _ _ _ => (pg_tupK (K := K) (n := 2) rfl rfl (pgs_cons (pg_name (i := 1) nd rfl (.inl rfl)) (pgs_cons (pg_name (i := 2) nd rfl (.inl rfl)) pgs_nil)))) (fun _ _ _ _ _ => pts_nil) (fun _ _ _ _ _ => (pe_joined (PJ.cons (pe_fmt (pv 1)) (PJ.cons pe_str (PJ.cons (pe_fmt (pv 2)) PJ.nil))))))))), ?_⟩
  walk_at "goD0"
  refine ⟨⟨_, rfl⟩, ?_⟩
  refine lc_data (p := p) (ds := qs.map dSp) (es := (qs.map spT).map PyData.str) (by rw [List.length_map, List.length_map, List.length_map]) (by rw [List.length_map]; omega) (fun R hR => ?_) (fun j z d e H' hd he sm rz R hR => ?_) (fun D ys H' hD sm hd ry => ?_)
  · exact ⟨_, rfl, hR _ _ (Same.refl _) hv⟩
  · obtain ⟨r, hr2, rfl⟩ := map_get hd
    rw [List.map_map] at he
    obtain ⟨r', hr3, rfl⟩ := map_get he
    rw [hr2] at hr3
    cases hr3
    obtain ⟨a, x, y, rfl, h4, h5, h6⟩ := unp2 rz
    cases h5
    cases h6
    refine ⟨a, [_, _], rfl, SqT.rd h4, rfl, _, [_], rfl, _, [], rfl, rfl, rfl, ?_⟩
    obtain ⟨b1, b2, b3⟩ := hb r (List.mem_of_getElem? hr2)
    have l1 := it_len (a := r.1) (by omega) (by omega)
    have l2 := it_len (a := r.2) (by omega) (by omega)
    have l3 : ((" " : Str)).length = 1 := by decide
    have l0 : Str.empty.length = 0 := by decide
    walk_at "goD0"
    refine ⟨_, rfl, .inr ⟨r.1, rfl, log_small (by omega) (by omega), _, rfl, sz_small (n := 6) (by rw [Str.empty_append]; exact l1) (by decide), _, rfl, sz_small (n := 7) (by rw [Str.empty_append, Str.length_append]; omega) (by decide), ?_⟩⟩
    refine ⟨_, rfl, .inr ⟨r.2, rfl, log_small (by omega) (by omega), _, rfl, sz_small (n := 13) (by rw [sp_fin]; exact spT_len ⟨b1, b2, b3⟩) (by decide), ?_⟩⟩
    rw [sp_fin]
    exact hR _ _ (Same.refl _) (.str _ (Nat.le_trans (spT_len ⟨b1, b2, b3⟩) (by decide)))
  · rw [rpta_str ry] at hd
    refine ⟨_, D, qs.map spT, rfl, rfl, .inl (SqL.of hd), ?_, k _ sm⟩
    have z := sum_le (xs := qs.map spT) (b := 13) fun x hx => by
      obtain ⟨q, hq, rfl⟩ := List.mem_map.mp hx
      exact spT_len (hb q hq)
    rw [List.length_map] at z ⊢
    have l3 : ((" " : Str)).length = 1 := by decide
    rw [l3]
    omega
end
end Cs
set_option maxHeartbeats 4000000
/-! The layer over tables that all laws share: rows and columns by name, check_table, what is made, calls by keywords. -/
namespace Cs
open PySem L2 L2H PyProof.Rows
local macro_rules | `(tactic| walk_at "goD1") => `(tactic| try dsimp only [gName, tSeq, tAsg, tRet, tLst, tCons, tOp, tTup, tCall, tNil, tC, tDrop, tCB, tPar, tNext, tM1, tJs, tAndV, tFmt, tIfS, tOr, tNot, tB, tTest, tProp])
theorem passF {X : Cx} : Passes (L2.CX X.prog X.w) X (fun _ _ _ => False) := fun _ _ _ _ _ _ _ h => by
  obtain ⟨_, _, _, _, _, _, _, _, _, _, _, _, hq⟩ := h
  exact hq.elim
theorem pe_cX {X : Cx} {k j : Nat} {sp : Sp} {x : Str} {q pos : Pos} {e : Expr} {es : List Expr} {t : TA} {E : XK} (c : CalX X.prog X.w X.K X.mg X.base k x sp) (hr : Room j X.A) (hk : k ≤ j) (hg : Gl X x) (hx : Passes (L2.CX X.prog X.w) X E) (ha : PA X (e :: es) t)
    (hdb : (x == ("__debug__" : Str)) = false := by rfl) (he : starEach (e :: es) X.env = (false, eval e X.env) :: starEach es X.env := by rfl) (hpl : ((backTo pos (starEach es X.env)).any fun x => x.1) = false := by rfl) :
    PE X (.Call (.Name x q) (e :: es) [] pos) (tCall sp [] E t) := by
  obtain ⟨f, fd, ps, F, g, kp, b⟩ := c.ex
  exact pe_call F (hr.mono hk) hg g kp b .nil hx ha hdb he hpl
theorem DefAt.calG {P : Program} {w : World} {K : PySem.W.Frag} {mg : Str → Option Value} {base : Heap} {x : Str} {st : Stmt} {N ps : List Str} {k : Nat} {sp : Sp} (D : DefAt K mg x st ps) (S : FnScope N ps (defScope st)) (len : ∀ vs H Q E, sp vs H Q E → vs.length = ps.length)
    (hbody : ∀ (f : Addr) (cdv : Value) (A : Around) (outer : List Env) (s : Shared) (H : Hp) (vs : List V) (Q : VK) (E : XK), A.guards = some [] → Room k (A.deeper (envOfC x (defScope st) s.heap.objs.size f cdv)) → sp vs H Q E →
      ∃ t, PSs (cxOf CX0 P w K mg base N x (defScope st) f cdv A outer s H E).nox (defBody st) t ∧ t { nx := fun _ H' => Q .non H', rt := Q } (start N vs) H) : CalG P w K mg base (k + 1) x sp := by
  obtain ⟨f, fd, F, g, b⟩ := D.ex
  refine ⟨f, fd, ps, ?_, g, F.kp, b⟩
  obtain ⟨oc, od, dV, kV, doc, pm, an, cdv, ct, osl, rfl, lk, hcd, _, _⟩ := F.ex
  refine fn_ofG lk hcd S len fun A outer s H vs Q E hg hr h => ?_
  obtain ⟨t, h1, h2⟩ := hbody f cdv A outer s H vs Q E hg hr h
  exact ⟨t, h1.nox, h2⟩
def tG (sp : Sp) (t : TA) : TE := fun σ H Q => t σ H fun vs H1 => sp vs H1 Q fun _ _ _ => False
theorem pe_cG2 {X : Cx} {k j : Nat} {sp : Sp} {x : Str} {q pos : Pos} {e : Expr} {es : List Expr} {t : TA} (c : CalG X.prog X.w X.K X.mg X.base k x sp) (hG : X.A.guards = some []) (hr : Room j X.A) (hk : k ≤ j) (hg : Gl X x) (ha : PA X (e :: es) t)
    (hdb : (x == ("__debug__" : Str)) = false := by rfl) (he : starEach (e :: es) X.env = (false, eval e X.env) :: starEach es X.env := by rfl) (hpl : ((backTo pos (starEach es X.env)).any fun x => x.1) = false := by rfl) :
    PE X (.Call (.Name x q) (e :: es) [] pos) (tG sp t) := pe_cG c hG hr hk hg ha hdb he hpl
/-- a def by its name, with what it is made of -/
structure CalY (P : Program) (w : World) (K : PySem.W.Frag) (mg : Str → Option Value) (base : Heap) (k : Nat) (x : Str) (sp : Sp) (st : Stmt) (ps : List Str) : Prop where
  ex : ∃ (f : Addr) (fd : FuncData), FunD K x x (defArgs st) (defBody st) (defScope st) [] [] f fd ∧ FnOk P w K mg base (L2.CX P w) k f fd ps sp ∧ mg x = some (.ref f) ∧ Binds K fd ps []
section
variable {P : Program} {w : World} {K : PySem.W.Frag} {mg : Str → Option Value} {base : Heap} {C : Addr}
theorem CalY.x {k : Nat} {x : Str} {sp : Sp} {st : Stmt} {ps : List Str} (c : CalY P w K mg base k x sp st ps) : CalX P w K mg base k x sp := by
  obtain ⟨f, fd, D, F, g, b⟩ := c.ex
  exact ⟨⟨f, fd, ps, F, g, D.kp, b⟩⟩
theorem DefAt.calY {x : Str} {st : Stmt} {N ps : List Str} {k : Nat} {sp : Sp} (D : DefAt K mg x st ps) (S : FnScope N ps (defScope st)) (len : ∀ vs H Q E, sp vs H Q E → vs.length = ps.length)
    (hbody : ∀ (f : Addr) (cdv : Value) (A : Around) (outer : List Env) (s : Shared) (H : Hp) (vs : List V) (Q : VK) (E : XK), Room k (A.deeper (envOfC x (defScope st) s.heap.objs.size f cdv)) → sp vs H Q E →
      ∃ t, PSs (cxOf (L2.CX P w) P w K mg base N x (defScope st) f cdv A outer s H E) (defBody st) t ∧ t { nx := fun _ H' => Q .non H', rt := Q } (start N vs) H) : CalY P w K mg base (k + 1) x sp st ps := by
  obtain ⟨f, fd, F, g, b⟩ := D.ex
  exact ⟨⟨f, fd, F, F.ok S len fun cdv A outer s H vs Q E hr h => hbody f cdv A outer s H vs Q E hr h, g, b⟩⟩
/-- a def that can be called by the keywords ks alone -/
structure CalK (P : Program) (w : World) (K : PySem.W.Frag) (mg : Str → Option Value) (base : Heap) (k : Nat) (x : Str) (sp : Sp) (ks : List Str) (gV : List V → List V → List V) : Prop where
  ex : ∃ (f : Addr) (fd : FuncData) (ps : List Str) (g : List Value → List Value → List Value), FnOk P w K mg base (L2.CX P w) k f fd ps sp ∧ mg x = some (.ref f) ∧ PySem.W.keepIn K (.ref f) = true ∧ KBn K fd ps 0 ks g gV
end
section
variable {X : Cx} {CX : CXT} {k : Nat} {f : Addr} {fd : FuncData} {ps ks : List Str} {sp : Sp} {E : XK} {x : Str} {p pos : Pos} {kws : List Keyword} {tk : TA} {g : List Value → List Value → List Value} {gV : List V → List V → List V}
theorem pe_callK0 (F : FnOk X.prog X.w X.K X.mg X.base CX k f fd ps sp) (hr : Room k X.A) (hg : Gl X x) (hm : X.mg x = some (.ref f)) (hk : PySem.W.keepIn X.K (.ref f) = true) (hb : KBn X.K fd ps 0 ks g gV) (hx : Passes CX X E) (hkw : PK X kws tk)
    (hall : (backToKw pos (keywordEach kws X.env)).all (·.1.isSome) = true := by rfl) (hks : (backToKw pos (keywordEach kws X.env)).filterMap (·.1) = ks := by rfl) (hdb : (x == ("__debug__" : Str)) = false := by decide)
    (hpl : ((backTo pos (starEach [] X.env)).any (·.1) || (backToKw pos (keywordEach kws X.env)).any (·.1.isNone)) = false := by rfl) :
    PE X (.Call (.Name x p) [] kws pos) (tCallN 0 ks.length sp gV E tNil tk) := by
  refine ⟨fun pins s σ H Q I h => ?_⟩
  refine wpAny_Call_Name_kw (ld_glob I hg hm ?_ hdb)
  refine PySem.W.callWith_KW0 (h₀ := X.base) I.ok.mod.kin hk hall ?_ hpl
  refine thn (hkw.run pos pins s σ H _ I h) fun ws s2 ⟨zs, H2, I2, rz, l1, l2, q2⟩ => ⟨I2.kIn, ?_⟩
  rw [hks]
  exact run_fnN (us := []) (vs := []) F hr hb hx I2 .nil rz rfl l2 q2
theorem pe_cK {j : Nat} {q : Pos} (c : CalK X.prog X.w X.K X.mg X.base k x sp ks gV) (hr : Room j X.A) (hk : k ≤ j) (hg : Gl X x) (hx : Passes (L2.CX X.prog X.w) X E) (ha : PK X kws tk)
    (hall : (backToKw pos (keywordEach kws X.env)).all (·.1.isSome) = true := by rfl) (hks : (backToKw pos (keywordEach kws X.env)).filterMap (·.1) = ks := by rfl) (hdb : (x == ("__debug__" : Str)) = false := by rfl)
    (hpl : ((backTo pos (starEach [] X.env)).any (·.1) || (backToKw pos (keywordEach kws X.env)).any (·.1.isNone)) = false := by rfl) :
    PE X (.Call (.Name x q) [] kws pos) (tCallN 0 ks.length sp gV E tNil tk) := by
  obtain ⟨f, fd, ps, g, F, gg, kp, b⟩ := c.ex
  exact pe_callK0 F (hr.mono hk) hg gg kp b hx ha hall hks hdb hpl
end
/-! ### rows -/
def RowOk (r : Rw) : Prop := isName (.str r.1) = true ∧ r.2.length ≤ 4 ∧ ∀ q ∈ r.2, -10000 ≤ q.1 ∧ q.1 ≤ q.2 ∧ q.2 ≤ 10000
theorem Good.row {cs : List Str} {rs : List Rw} (g : Good cs rs) {r : Rw} (h : r ∈ rs) : RowOk r := ⟨g.rnm r h, by rw [g.rl r h]; exact g.c4, g.sp r h⟩
theorem Good.nms {cs : List Str} {rs : List Rw} (g : Good cs rs) : ∀ x ∈ rs.map (·.1), isName (.str x) = true := fun x hx => by
  obtain ⟨r', hr', rfl⟩ := List.mem_map.mp hx
  exact g.rnm r' hr'
def RowIn (m : Nat) (r : Rw) : Prop := isName (.str r.1) = true ∧ r.2.length = m ∧ ∀ q ∈ r.2, -10000 ≤ q.1 ∧ q.1 ≤ q.2 ∧ q.2 ≤ 10000
theorem Good.rin {cs : List Str} {rs : List Rw} (g : Good cs rs) {r : Rw} (h : r ∈ rs) : RowIn cs.length r := ⟨g.rnm r h, g.rl r h, g.sp r h⟩
def SpCk (C : Addr) : Sp := fun vs H Q _ => ∃ (t dx : Addr) (fs : List (Str × V)), vs = [.ref t] ∧ H t = some (.ins C dx fs) ∧ Q .non H
def SpOO : Sp := fun vs H Q _ => ∃ (p : Addr) (v : V) (x : Str) (xs : List Str), vs = [.str x, v] ∧ NmT p H v xs ∧ Q (.bl (xs.contains x)) H
def SpRi (C : Addr) : Sp := fun vs H Q _ => ∃ (p t : Addr) (cs : List Str) (rs : List Rw) (x : Str) (i : Nat), vs = [.ref t, .str x] ∧ Has p H ∧ TabD C p H t cs rs ∧ Good cs rs ∧ (rs.map (·.1))[i]? = some x ∧ ∀ H', Same H H' → Q (.int (i : Nat)) H'
def SpCi (C : Addr) : Sp := fun vs H Q _ => ∃ (p t : Addr) (cs : List Str) (rs : List Rw) (x : Str) (i : Nat), vs = [.ref t, .str x] ∧ TabF C p H t cs ∧ Good cs rs ∧ cs[i]? = some x ∧ ∀ H', Same H H' → Q (.int (i : Nat)) H'
def SpRs (C : Addr) : Sp := fun vs H Q _ => ∃ (p t : Addr) (cs : List Str) (rs : List Rw) (r : Rw) (i : Nat), vs = [.ref t, .str r.1] ∧ Has p H ∧ TabD C p H t cs rs ∧ Good cs rs ∧ rs[i]? = some r ∧ ∀ v H', Same H H' → RpT p H' v (.tuple (r.2.map dSp)) → Q v H'
/-- the stretch of a row under a column -/
def SpSx (C : Addr) : Sp := fun vs H Q _ => ∃ (p t : Addr) (cs : List Str) (rs : List Rw) (r : Rw) (y : Str) (i j : Nat) (q : Int × Int), vs = [.ref t, .str r.1, .str y] ∧ Has p H ∧ TabD C p H t cs rs ∧ TabF C p H t cs ∧ Good cs rs ∧ rs[i]? = some r ∧ cs[j]? = some y ∧ r.2[j]? = some q ∧
  ∀ v H', Same H H' → RpT p H' v (dSp q) → Q v H'
theorem first_at {xs : List Str} {i : Nat} {x : Str} (nd : xs.Nodup) (h : xs[i]? = some x) : ∀ m, m < i → xs[m]? ≠ some x := fun m hm e => by
  obtain ⟨h1, e1⟩ := List.getElem?_eq_some_iff.mp h
  obtain ⟨h2, e2⟩ := List.getElem?_eq_some_iff.mp e
  exact (List.pairwise_iff_getElem.mp nd) m i h2 h1 hm (e2.trans e1.symm)
theorem has_of {xs : List Str} {i : Nat} {x : Str} (h : xs[i]? = some x) : xs.contains x = true := by
  rw [List.contains_eq_mem, decide_eq_true_eq]
  exact List.mem_of_getElem? h
/-- a table is made -/
theorem make_ok {C p x dx : Addr} {H1 : Hp} {vc vr : V} {cs : List Str} {rs : List Rw} {E : XK} {R : Hp → Prop} (hp : Has p H1) (nm : RpT p H1 vc (dCols cs)) (rr : RpT p H1 vr (dRows rs)) (g : Good cs rs) (hx : H1 x = none) (hd : H1 dx = none) (hne : dx ≠ x)
    (k : ∀ H', Same H1 H' → TabD C p H' x cs rs → R H') : SpTO C [.ref x, vc, vr] (upd (upd H1 dx (.own x)) x (.ins C dx [])) (fun v H2 => v = .non ∧ R H2) E := by
  have s : Same H1 (upd (upd H1 dx (.own x)) x (.ins C dx [])) := fun b o hb => by
    rw [upd_ne (ne_of_none hb hx), upd_ne (ne_of_none hb hd)]
    exact hb
  refine ⟨p, x, dx, vc, vr, cs, rs, rfl, upd_same, hp.ne hx, nm.keep (ExT.of (ExB.of s)), rr.keep (ExT.of (ExB.of s)), g, fun H' e ea => ⟨rfl, ?_⟩⟩
  have s2 : Same H1 H' := fun b o hb => e b o (ne_of_none hb hx) (s _ _ hb)
  exact k H' s2 ⟨dx, vc, vr, ea, nm.keep (ExT.of (ExB.of s2)), rr.keep (ExT.of (ExB.of s2))⟩
section
variable {P : Program} {w : World} {K : PySem.W.Frag} {mg : Str → Option Value} {base : Heap} {C : Addr}
theorem sc_check_table : FnScope ["table"] ["table"] (defScope (topS 34)) := ⟨rfl, rfl, rfl, by decide +kernel, rfl, by decide +kernel, by decide +kernel⟩
theorem ok_check_table {CU : Addr} (D : DefAt K mg "check_table" (topS 34) ["table"]) (T : Txt mg) (TC : TabC K C) (G : TabG mg C) (xNotATable : RaiseAt P w K mg base "NotATable" CU "given") : CalX P w K mg base 3 "check_table" (SpCk C) := by
  refine D.calX sc_check_table (fun vs H Q E h => by obtain ⟨_, _, _, rfl, _⟩ := h; rfl) fun f cdv A outer s H vs Q E hr h => ?_
  obtain ⟨t, dx, fs, rfl, ht, k⟩ := h
  refine ⟨_, (pss_one (ps_if (pt_not (pt_val (pe_callB call_isi (by rfl) T.isinstance_ (by decide +kernel) (pa_cons (pv 0) (pa_cons (C8.pe_gc rfl G.v_Table) pa_nil))))) (pss_one (ps_raise rfl (takes_of rfl rfl rfl rfl) (pmk_rx xNotATable (hr.mono (by decide)) rfl (pv 0) (by rfl) rfl rfl))) pss_nil)), ?_⟩
  walk_at "goD1"
  refine ⟨_, rfl, _, _, _, .ref C, true, rfl, .own _, .base (.ins ht TC.c TC.ha TC.hn TC.ht TC.hm), TC.ki, true, rfl, iteF ?_⟩
  exact k
theorem sc_is_one_of : FnScope ["value", "names"] ["value", "names"] (defScope (topS 18)) := ⟨rfl, rfl, rfl, by decide +kernel, rfl, by decide +kernel, by decide +kernel⟩
theorem ok_is_one_of (D : DefAt K mg "is_one_of" (topS 18) ["value", "names"]) (T : Txt mg) : C8.Cal P w K mg base 1 "is_one_of" SpOO [] := by
  refine D.cal sc_is_one_of (fun vs H Q E h => by obtain ⟨_, _, _, _, rfl, _⟩ := h; rfl) fun f cdv A outer s H vs Q E hr h => ?_
  obtain ⟨p, v, x, xs, rfl, ⟨l, rfl, nl, fz, nr⟩, k⟩ := h
  refine ⟨_, (pss_one (ps_ret (pe_and (pe_callB call_isi (by rfl) T.isinstance_ (by decide +kernel) (pa_cons (pv 0) (pa_cons (pe_bltn (v := .ty "str") (u := .type "str") (by rfl) T.str_ (by decide +kernel) rfl) pa_nil))) (pe_one (pe_cmpR opIn (pv 0) (pv 1) (by rfl)))))), ?_⟩
  walk_at "goD1"
  refine ⟨_, rfl, _, _, _, _, true, rfl, .ty _, .base (.str x), kit_str (d := .str x), true, rfl, iteT ?_⟩
  refine ⟨_, rfl, _, rfl, .inl ⟨l, _, rfl, .inr (SqT.rd fz.rd), rfl, flat_strs _, ?_⟩⟩
  rw [inV_str]
  exact k
theorem sc_row_index : FnScope ["table", "name"] ["table", "name"] (defScope (topS 35)) := ⟨rfl, rfl, rfl, by decide +kernel, rfl, by decide +kernel, by decide +kernel⟩
theorem ok_row_index {pn gn CU : Addr} {fdn : FuncData} (D : DefAt K mg "row_index" (topS 35) ["table", "name"]) (T : Txt mg) (TC : TabC K C) (cis_one_of : C8.Cal P w K mg base 1 "is_one_of" SpOO [])
    (F_names : FnOk P w K mg base CX0 1 gn fdn ["self"] (SpNm C)) (hp_names : PropOf K C "names" pn gn) (b_names : Binds K fdn ["self"] []) (xUnknownName : RaiseAt P w K mg base "UnknownName" CU "given") : CalX P w K mg base 3 "row_index" (SpRi C) := by
  refine D.calX sc_row_index (fun vs H Q E h => by obtain ⟨_, _, _, _, _, _, rfl, _⟩ := h; rfl) fun f cdv A outer s H vs Q E hr h => ?_
  obtain ⟨p, t, cs, rs, x, i, rfl, hp, ht, g, hi, k⟩ := h
  have nd := sc_row_index.nd
  have hTC := TC.c
  refine ⟨_, (pss_cons (ps_if (pt_not (pt_val (C8.pe_c cis_one_of hr (by decide) rfl (pa_cons (pv 1) (pa_cons (pe_prop (pv 0) hTC hp_names F_names (hr.mono (by decide)) b_names .nil pass0 rfl) pa_nil))))) (pss_one (ps_raise rfl (takes_of rfl rfl rfl rfl) (pmk_rx xUnknownName (hr.mono (by decide)) rfl (pv 1) (by rfl) rfl rfl))) pss_nil)
      (pss_one (ps_ret (pe_tbm PySem.F.slot_tuple_index PySem.F.type_tuple_index mt_tup_index (pe_prop (pv 0) hTC hp_names F_names (hr.mono (by decide)) b_names .nil pass0 rfl) (pa_cons (pv 1) pa_nil))))), ?_⟩
  walk_at "goD1"
  obtain ⟨dx, vc, vr, h1, h2, h3⟩ := id ht
  refine ⟨_, rfl, _, rfl, t, dx, _, rfl, h1, p, t, cs, rs, rfl, hp, ht, g.r8, g.nms, fun v H1 s1 nm => ⟨p, v, x, _, rfl, nm, ?_⟩⟩
  rw [has_of hi]
  refine ⟨_, rfl, iteF ?_⟩
  refine ⟨_, rfl, t, dx, _, rfl, s1 _ _ h1, p, t, cs, rs, rfl, hp.keep s1, ht.same s1, g.r8, g.nms, fun v2 H2 s2 nm2 => ?_⟩
  obtain ⟨l2, rfl, nl2, fz2, nr2⟩ := nm2
  exact ⟨⟨l2, _, rfl, fz2⟩, _, rfl, l2, rs.map (·.1), x, i, rfl, rfl, SqT.rd fz2.rd, hi, first_at g.rnd hi, k _ (s1.trans s2)⟩
theorem sc_column_index : FnScope ["table", "column"] ["table", "column"] (defScope (topS 37)) := ⟨rfl, rfl, rfl, by decide +kernel, rfl, by decide +kernel, by decide +kernel⟩
theorem ok_column_index {pc gc CU : Addr} {fdc : FuncData} (D : DefAt K mg "column_index" (topS 37) ["table", "column"]) (T : Txt mg) (TC : TabC K C) (cis_one_of : C8.Cal P w K mg base 1 "is_one_of" SpOO [])
    (F_columns : FnOk P w K mg base CX0 1 gc fdc ["self"] (SpGet C "_columns")) (hp_columns : PropOf K C "columns" pc gc) (b_columns : Binds K fdc ["self"] []) (xInvalidColumn : RaiseAt P w K mg base "InvalidColumn" CU "given") : CalX P w K mg base 3 "column_index" (SpCi C) := by
  refine D.calX sc_column_index (fun vs H Q E h => by obtain ⟨_, _, _, _, _, _, rfl, _⟩ := h; rfl) fun f cdv A outer s H vs Q E hr h => ?_
  obtain ⟨p, t, cs, rs, x, i, rfl, ht, g, hi, k⟩ := h
  have nd := sc_column_index.nd
  have hTC := TC.c
  refine ⟨_, (pss_cons (ps_if (pt_not (pt_val (C8.pe_c cis_one_of hr (by decide) rfl (pa_cons (pv 1) (pa_cons (pe_prop (pv 0) hTC hp_columns F_columns (hr.mono (by decide)) b_columns .nil pass0 rfl) pa_nil))))) (pss_one (ps_raise rfl (takes_of rfl rfl rfl rfl) (pmk_rx xInvalidColumn (hr.mono (by decide)) rfl (pv 1) (by rfl) rfl rfl))) pss_nil)
      (pss_one (ps_ret (pe_tbm PySem.F.slot_tuple_index PySem.F.type_tuple_index mt_tup_index (pe_prop (pv 0) hTC hp_columns F_columns (hr.mono (by decide)) b_columns .nil pass0 rfl) (pa_cons (pv 1) pa_nil))))), ?_⟩
  walk_at "goD1"
  obtain ⟨dx, vc, vr, h1, h2⟩ := id ht
  refine ⟨_, rfl, _, rfl, t, dx, _, rfl, h1, t, dx, _, vc, rfl, h1, rfl, p, vc, x, cs, rfl, h2, ?_⟩
  rw [has_of hi]
  refine ⟨_, rfl, iteF ?_⟩
  obtain ⟨l, rfl, nl, fz, nr⟩ := h2
  exact ⟨_, rfl, t, dx, _, rfl, h1, t, dx, _, _, rfl, h1, rfl, ⟨l, _, rfl, fz⟩, _, rfl, l, cs, x, i, rfl, rfl, SqT.rd fz.rd, hi, first_at g.cnd hi, k _ (Same.refl _)⟩
theorem sc_row_stretches : FnScope ["table", "name"] ["table", "name"] (defScope (topS 36)) := ⟨rfl, rfl, rfl, by decide +kernel, rfl, by decide +kernel, by decide +kernel⟩
theorem ok_row_stretches {pr gr : Addr} {fdr : FuncData} (D : DefAt K mg "row_stretches" (topS 36) ["table", "name"]) (T : Txt mg) (TC : TabC K C) (crow_index : CalX P w K mg base 3 "row_index" (SpRi C))
    (F_rows : FnOk P w K mg base CX0 1 gr fdr ["self"] (SpGet C "_rows")) (hp_rows : PropOf K C "rows" pr gr) (b_rows : Binds K fdr ["self"] []) : CalX P w K mg base 4 "row_stretches" (SpRs C) := by
  refine D.calX sc_row_stretches (fun vs H Q E h => by obtain ⟨_, _, _, _, _, _, rfl, _⟩ := h; rfl) fun f cdv A outer s H vs Q E hr h => ?_
  obtain ⟨p, t, cs, rs, r, i, rfl, hp, ht, g, hi, k⟩ := h
  have nd := sc_row_stretches.nd
  have hTC := TC.c
  refine ⟨_, (pss_one (ps_ret (pe_ix ix_seq (pe_ix ix_seq (pe_prop (pv 0) hTC hp_rows F_rows (hr.mono (by decide)) b_rows .nil pass0 rfl) (pe_cX crow_index hr (by decide) rfl (passes_call (takes_of rfl rfl rfl rfl) (fun _ _ _ _ h => h)) (pa_cons (pv 0) (pa_cons (pv 1) pa_nil))) (fun _ _ => rfl)) pe_int (fun _ _ => rfl)))), ?_⟩
  walk_at "goD1"
  obtain ⟨dx, vc, vr, h1, h2, h3⟩ := id ht
  have hi' : (rs.map (·.1))[i]? = some r.1 := by rw [List.getElem?_map, hi]; rfl
  refine ⟨_, rfl, t, dx, _, rfl, h1, t, dx, _, vr, rfl, h1, rfl, _, rfl, _, rfl, p, t, cs, rs, r.1, i, rfl, hp, ht, g, hi', fun H1 s1 => ?_⟩
  have r2 := h3.keep (ExT.of (ExB.of s1))
  cases r2 with
  | @tup a xs _ n h z ra =>
    obtain ⟨v, hv, rv⟩ := ra.at_ (i := i) (d := dRw r) (by rw [List.getElem?_map, hi]; rfl)
    refine .inr (.inl ⟨a, _, (i : Nat), v, rfl, rfl, SqT.rd h, atI_nat hv, ?_⟩)
    obtain ⟨a2, x2, y2, rfl, h4, h5, h6⟩ := unp2 rv
    exact .inr (.inl ⟨a2, _, 1, y2, rfl, rfl, SqT.rd h4, atI_nat (j := 1) rfl, k _ _ s1 h6⟩)
theorem sc_t_stretch : FnScope ["self", "name", "column"] ["self", "name", "column"] (defScope (inClass (topS 31) 8)) := ⟨rfl, rfl, rfl, by decide +kernel, rfl, by decide +kernel, by decide +kernel⟩
theorem ok_t_stretch {f : Addr} {fd : FuncData} {q : Str} (F : FunD K "stretch" q (defArgs (inClass (topS 31) 8)) (defBody (inClass (topS 31) 8)) (defScope (inClass (topS 31) 8)) [] [] f fd) (TC : TabC K C) (T : Txt mg)
    (crow_stretches : CalX P w K mg base 4 "row_stretches" (SpRs C)) (ccolumn_index : CalX P w K mg base 3 "column_index" (SpCi C)) :
    FnOk P w K mg base (L2.CX P w) 5 f fd ["self", "name", "column"] (SpSx C) := by
  refine F.ok sc_t_stretch (fun vs H Q E h => by obtain ⟨_, _, _, _, _, _, _, _, _, rfl, _⟩ := h; rfl) fun cdv A outer s H vs Q E hr h => ?_
  obtain ⟨p, t, cs, rs, r, y, i, j, q, rfl, hp, ht, hf, g, hi, hj, hq, k⟩ := h
  have nd := sc_t_stretch.nd
  have hTC := TC.c
  refine ⟨_, (pss_one (ps_ret (pe_ix ix_seq (pe_cX crow_stretches hr (by decide) rfl (passes_call (takes_of rfl rfl rfl rfl) (fun _ _ _ _ h => h)) (pa_cons (pv 0) (pa_cons (pv 1) pa_nil))) (pe_cX ccolumn_index hr (by decide) rfl (passes_call (takes_of rfl rfl rfl rfl) (fun _ _ _ _ h => h)) (pa_cons (pv 0) (pa_cons (pv 2) pa_nil))) (fun _ _ => rfl)))), ?_⟩
  walk_at "goD1"
  refine ⟨_, rfl, _, rfl, p, t, cs, rs, r, i, rfl, hp, ht, g, hi, fun v H1 s1 rv => ?_⟩
  refine ⟨_, rfl, _, rfl, p, t, cs, rs, y, j, rfl, hf.same s1, g, hj, fun H2 s2 => ?_⟩
  have r2 := rv.keep (ExT.of (ExB.of s2))
  cases r2 with
  | @tup a3 xs3 _ n3 h7 z3 ra3 =>
    obtain ⟨v3, hv3, rv3⟩ := ra3.at_ (i := j) (d := dSp q) (by rw [List.getElem?_map, hq]; rfl)
    exact .inr (.inl ⟨a3, _, (j : Nat), v3, rfl, rfl, SqT.rd h7, atI_nat hv3, k _ _ (s1.trans s2) rv3⟩)
end
end Cs
set_option maxHeartbeats 4000000
/-! tools over data -/
namespace Cs
open PySem L2 L2H PyProof.Rows
structure TxtZ (mg : Str → Option Value) : Prop where
  zip_ : mg "zip" = none
theorem zip_get {α β : Type} {xs : List α} {ys : List β} {j : Nat} {x : α} {y : β} (h1 : xs[j]? = some x) (h2 : ys[j]? = some y) : (xs.zip ys)[j]? = some (x, y) := by
  rw [List.getElem?_zip_eq_some]
  exact ⟨h1, h2⟩
theorem rpta_int {p : Addr} {H : Hp} {α : Type} {f : α → Int} : ∀ {vs : List V} {xs : List α}, RpTA p H vs (xs.map fun x => PyData.int (f x)) → vs = (xs.map f).map V.int
  | _, [], .nil => rfl
  | _, x :: xs, .cons r t => by
    cases r
    rw [rpta_int t]
    rfl
theorem rpta_bool {p : Addr} {H : Hp} {α : Type} {f : α → Bool} : ∀ {vs : List V} {xs : List α}, RpTA p H vs (xs.map fun x => PyData.bool (f x)) → vs = (xs.map f).map V.bl
  | _, [], .nil => rfl
  | _, x :: xs, .cons r t => by
    cases r
    rw [rpta_bool t]
    rfl
theorem rp_span {p t : Addr} {H : Hp} {a b : Int} (n : t ≠ p) (h : H t = some (.tup [.int a, .int b])) : RpT p H (.ref t) (dSp (a, b)) := .tup n (.inl h) (by exact Nat.le_of_ble_eq_true rfl) (.cons (.int _) (.cons (.int _) .nil))
theorem sh_int {a : Int} (h1 : -1000000000 < a) (h2 : a < 1000000000) : (Str.ofString (toString a)).length ≤ 10 := by
  have e := int_text_length_le10 (a := a) (k := 9) (by decide) (by omega)
  rw [PySem.ofString_length]
  exact e
theorem log_int {a : Int} (h1 : -1000000000 < a) (h2 : a < 1000000000) : a.natAbs.log2 < 1920 := by
  by_cases h0 : a.natAbs = 0
  · rw [h0]
    decide
  · exact (Nat.log2_lt h0).mpr (Nat.lt_of_lt_of_le (show a.natAbs < 2 ^ 30 by omega) (Nat.pow_le_pow_right (by decide) (by decide)))
def Fit (q : Int × Int) : Prop := (-1000000000 < q.1 ∧ q.1 < 1000000000) ∧ -1000000000 < q.2 ∧ q.2 < 1000000000
theorem bool2 : ∀ a b : Bool, (PyData.list [.bool a, .bool b]).showable = true ∧ topSafe (.list [.bool a, .bool b]) = true ∧ (PyData.list [.bool a, .bool b]).depth ≤ 60 ∧ (PyData.list [.bool a, .bool b]).shown.length ≤ sizeLine := by
  intro a b
  refine ⟨by cases a <;> cases b <;> decide +kernel, by cases a <;> cases b <;> decide +kernel, by cases a <;> cases b <;> decide +kernel, ?_⟩
  have e : (PyData.list [.bool a, .bool b]).shown.length ≤ 100 := by cases a <;> cases b <;> decide +kernel
  exact Nat.le_trans e (by decide)
theorem rep_int {K : PySem.W.Frag} {H : Hp} (n : Nat) : DpAll K H (List.replicate n (.int 1)) (List.replicate n (.int 1)) := by
  induction n with
  | zero => exact .nil
  | succ n ih => exact .cons (.int 1) ih
theorem rep_shaped (n : Nat) : SeqAt.shaped (.list (List.replicate n (.int 1))) = true := by
  have h1 : PyData.canLayAll0 (List.replicate n (PyData.int 1)) = true := by
    have := lay_map (f := fun _ : Nat => PyData.int 1) (xs := List.range n) fun x _ => rfl
    rwa [List.map_const', List.length_range] at this
  have h2 : PyData.depthAll (List.replicate n (PyData.int 1)) ≤ 0 := by
    have := dep_map (f := fun _ : Nat => PyData.int 1) (xs := List.range n) (b := 0) fun x _ => Nat.le_refl _
    rwa [List.map_const', List.length_range] at this
  have h3 : (PyData.list (List.replicate n (.int 1))).depth = PyData.depthAll (List.replicate n (PyData.int 1)) + 1 := by rw [PyData.depth]
  show (PyData.canLay0 (.list (List.replicate n (.int 1))) && decide ((PyData.list (List.replicate n (.int 1))).depth ≤ 64)) = true
  rw [h3, decide_eq_true (by omega), Bool.and_true]
  exact h1
theorem rep_eqv (n : Nat) : (PyData.list (List.replicate n (.int 1))).eqv (.list []) = decide (n = 0) := by cases n <;> rfl
theorem unp2n {p : Addr} {H : Hp} {z : V} {d e : PyData} (r : RpT p H z (.tuple [d, e])) : ∃ a x y, z = .ref a ∧ a ≠ p ∧ Rd H a (.tup [x, y]) ∧ RpT p H x d ∧ RpT p H y e := by
  cases r with
  | @tup a xs _ n h z r =>
    cases r with
    | cons r1 r =>
      cases r with
      | cons r2 r =>
        cases r
        exact ⟨a, _, _, rfl, n, h, r1, r2⟩
theorem shaped_sp (q : Int × Int) : SeqAt.shaped (dSp q) = true := by
  have h : (dSp q).depth ≤ 64 := by simp [dSp, PyData.depth, PyData.depthAll]
  show (PyData.canLay0 (dSp q) && decide ((dSp q).depth ≤ 64)) = true
  rw [decide_eq_true h]
  rfl
theorem eqv_sp (q : Int × Int) : (dSp q).eqv (dSp q) = true := by
  simp [dSp, PyData.eqv, PyData.eqvAll]
theorem viaB {t : TT} {σ : L2.St} {H : Hp} {K : Bool → Hp → Prop} (P : Bool → Hp → Prop) (h : ∀ R : Bool → Hp → Prop, (∀ v H1, P v H1 → R v H1) → t σ H R) (k : ∀ v H1, P v H1 → K v H1) : t σ H K := h K k
theorem via {t : TE} {σ : L2.St} {H : Hp} {K : VK} (P : V → Hp → Prop) (h : ∀ R : VK, (∀ v H1, P v H1 → R v H1) → t σ H R) (k : ∀ v H1, P v H1 → K v H1) : t σ H K := h K k
theorem lc_draws {p : Addr} {n m g c : Nat} {tl : TA} {te : TE} {vs : List Nat} {σ : L2.St} {H1 : Hp} {Q : VK} {ok : PyData → Prop} (hp : PailAt H1 p n) (hn : n + c * m < 1000000) (hm : m ≤ 100)
    (hw : ∀ x, wipe ((wipe σ vs).set g (some x)) vs = wipe σ vs) (ht : ∀ R, R [.int (m : Nat)] H1 → tl σ H1 R)
    (hs : ∀ (x : V) (H : Hp) (R : VK) (q : Nat), ExB p H1 H → PailAt H p q → q < 1000000 → (∀ (v : V) (d : PyData) (H' : Hp), ok d → RpT p H' v d → ExB p H H' → PailAt H' p (q + c) → R v H') → te ((wipe σ vs).set g (some x)) H R)
    (k : ∀ D xs ds H', H1 D = none → H' D = some (.lst xs) → RpTA p H' xs ds → ds.length = m → (∀ d ∈ ds, ok d) → ExB p H1 H' → PailAt H' p (n + c * m) → Q (.ref D) H') :
    tLc (iRng1 tl) (gName g) tYes te vs σ H1 Q := by
  refine ht _ ⟨_, rfl, by omega, by omega, fun D hD => ?_⟩
  have nD : D ≠ p := hp.has.ne hD
  refine lc_range (fun i H => ∃ xs ds, H D = some (.lst xs) ∧ RpTA p H xs ds ∧ ds.length = i ∧ (∀ d ∈ ds, ok d) ∧ ExB p H1 H ∧ PailAt H p (n + c * i))
    ⟨[], [], upd_same, .nil, rfl, (fun _ h => by cases h), ExB.new hD, hp.put nD⟩ (fun i H hi ⟨xs, ds, h1, h2, h3, h4, h5, h6⟩ => ?_) (fun H ⟨xs, ds, h1, h2, h3, h4, h5, h6⟩ => k D xs ds H hD h1 h2 h3 h4 h5 h6)
  refine ⟨hw _, ?_⟩
  have hi2 : i < m := hi
  have z1 : c * i ≤ c * m := Nat.mul_le_mul_left c (Nat.le_of_lt hi2)
  refine hs _ H _ (n + c * i) h5 h6 (by omega) fun v d H' s1 s2 s3 s4 => ?_
  have lx := h2.length
  have hD' := s3 D _ nD h1
  refine ⟨xs, hD', Nat.lt_of_lt_of_le (by omega : xs.length < 1000) (by decide), xs ++ [v], ds ++ [d], upd_same, ?_, by rw [List.length_append, h3]; rfl, fun d' hd' => ?_, (h5.trans s3).putN hD, ?_⟩
  · exact RpTA.append ((h2.keep (ExT.of s3)).keep (ExT.put hD')) (.cons (s2.keep (ExT.put hD')) .nil)
  · rcases List.mem_append.mp hd' with h | h
    · exact h4 d' h
    · rw [List.mem_singleton.mp h]
      exact s1
  · exact (s4.more (by rw [Nat.mul_succ]; omega)).put nD
/-- over a tuple, what is drawn for each of its items -/
theorem lc_drawT {K : PySem.W.Frag} {p a : Addr} {n c : Nat} {xs : List V} {ds : List PyData} {tl : TE} {g : TG} {te : TE} {vs : List Nat} {σ : L2.St} {H1 : Hp} {Q : VK} {ok : PyData → PyData → Prop} (hp : PailAt H1 p n) (hn : n + c * ds.length < 1000000) (hm : ds.length ≤ 100)
    (ha : Rd H1 a (.tup xs)) (na : a ≠ p) (hr : RpTA p H1 xs ds) (ht : ∀ R : VK, R (.ref a) H1 → tl σ H1 R)
    (hs : ∀ (z : V) (d : PyData) (H : Hp) (R : VK) (q : Nat), d ∈ ds → ExB p H1 H → PailAt H p q → q < 1000000 → RpT p H z d → (∀ (v : V) (e : PyData) (H' : Hp), ok d e → RpT p H' v e → ExB p H H' → PailAt H' p (q + c) → R v H') →
      g z (wipe σ vs) H fun σ2 H2 => wipe σ2 vs = wipe σ vs ∧ te σ2 H2 R)
    (k : ∀ D ys es H', H1 D = none → H' D = some (.lst ys) → RpTA p H' ys es → es.length = ds.length → (∀ (j : Nat) (d e : PyData), ds[j]? = some d → es[j]? = some e → ok d e) → ExB p H1 H' → PailAt H' p (n + c * ds.length) → Q (.ref D) H') :
    tLc (iTup K tl) g tYes te vs σ H1 Q := by
  have lx := hr.length
  refine ht _ ⟨a, rfl, ⟨xs, SqT.rd ha⟩, fun D hD => ?_⟩
  have nD : D ≠ p := hp.has.ne hD
  have rdk : ∀ {H}, ExB p H1 H → Rd H a (.tup xs) := fun e => (ExT.of e) _ _ na ha
  refine lc_tup (K := K) (a := a) (xs := xs) (fun i H => ∃ ys es, H D = some (.lst ys) ∧ RpTA p H ys es ∧ es.length = i ∧ (∀ (j : Nat) (d e : PyData), ds[j]? = some d → es[j]? = some e → ok d e) ∧ ExB p H1 H ∧ PailAt H p (n + c * i))
    ⟨[], [], upd_same, .nil, rfl, (fun _ _ _ _ h => by simp at h), ExB.new hD, hp.put nD⟩ (fun i H _ ⟨_, _, _, _, _, _, e, _⟩ => SqT.rd (rdk e)) (fun i z H hi ⟨ys, es, h1, h2, h3, h4, h5, h6⟩ => ?_) (fun H ⟨ys, es, h1, h2, h3, h4, h5, h6⟩ => k D ys es H hD h1 h2 (by rw [h3, lx]) h4 h5 (by rw [lx] at h6; exact h6))
  have hi2 := (List.getElem?_eq_some_iff.mp hi).1
  obtain ⟨d, hd2, rd⟩ := hr.get hi
  have z1 : c * i ≤ c * ds.length := Nat.mul_le_mul_left c (by omega)
  have key := hs z d H (fun y H4 => ∃ acc, H4 D = some (.lst acc) ∧ acc.length < sizeLine ∧ ∃ ys es, upd H4 D (.lst (acc ++ [y])) D = some (.lst ys) ∧ RpTA p (upd H4 D (.lst (acc ++ [y]))) ys es ∧ es.length = i + 1 ∧ (∀ (j : Nat) (d e : PyData), ds[j]? = some d → es[j]? = some e → ok d e) ∧ ExB p H1 (upd H4 D (.lst (acc ++ [y]))) ∧ PailAt (upd H4 D (.lst (acc ++ [y]))) p (n + c * (i + 1)))
    (n + c * i) (List.mem_of_getElem? hd2) h5 h6 (by omega) (rd.keep (ExT.of h5)) fun v e H' s1 s2 s3 s4 => ?_
  · exact key
  · have ly := h2.length
    have hD' := s3 D _ nD h1
    refine ⟨ys, hD', Nat.lt_of_lt_of_le (by omega : ys.length < 1000) (by decide), ys ++ [v], es ++ [e], upd_same, ?_, by rw [List.length_append, h3]; rfl, fun j d' e' hd' he' => ?_, (h5.trans s3).putN hD, ?_⟩
    · exact RpTA.append ((h2.keep (ExT.of s3)).keep (ExT.put hD')) (.cons (s2.keep (ExT.put hD')) .nil)
    · by_cases hj : j < es.length
      · rw [List.getElem?_append_left hj] at he'
        exact h4 j d' e' hd' he'
      · rw [List.getElem?_append_right (by omega)] at he'
        have hj2 : j = i := by
          have z := (List.getElem?_eq_some_iff.mp he').1
          rw [List.length_singleton] at z
          omega
        subst hj2
        rw [h3, Nat.sub_self] at he'
        cases he'
        rw [hd2] at hd'
        cases hd'
        exact s1
    · exact (s4.more (by rw [Nat.mul_succ]; omega)).put nD
theorem rp_ints {p : Addr} {H : Hp} : ∀ {f : List Int}, RpTA p H (f.map V.int) (f.map PyData.int)
  | [] => .nil
  | x :: f => .cons (.int x) rp_ints
/-- over a tuple, by a test that nothing passes -/
theorem lc_none {K : PySem.W.Frag} {p a : Addr} {n c : Nat} {xs : List V} {tl : TE} {g : TG} {tt : TT} {te : TE} {vs : List Nat} {σ : L2.St} {H1 : Hp} {Q : VK} (hp : PailAt H1 p n) (hn : n + c * xs.length < 700000) (ha : Rd H1 a (.tup xs)) (na : a ≠ p) (ht : ∀ R : VK, R (.ref a) H1 → tl σ H1 R)
    (hs : ∀ (j : Nat) (z : V) (H : Hp) (q : Nat) (R : L2.St → Bool → Hp → Prop), xs[j]? = some z → ExB p H1 H → PailAt H p q → q < 700000 → (∀ τ H', ExB p H H' → PailAt H' p (q + c) → R τ false H') → g z (wipe σ vs) H fun σ2 H2 => wipe σ2 vs = wipe σ vs ∧ tt σ2 H2 (R σ2))
    (k : ∀ D H', H1 D = none → H' D = some (.lst []) → ExB p H1 H' → PailAt H' p (n + c * xs.length) → Q (.ref D) H') : tLc (iTup K tl) g tt te vs σ H1 Q := by
  refine ht _ ⟨a, rfl, ⟨xs, SqT.rd ha⟩, fun D hD => ?_⟩
  have nD : D ≠ p := hp.has.ne hD
  refine lc_tup (K := K) (a := a) (xs := xs) (fun i H => H D = some (.lst []) ∧ ExB p H1 H ∧ PailAt H p (n + c * i)) ⟨upd_same, ExB.new hD, hp.put nD⟩ (fun i H _ ⟨_, e, _⟩ => SqT.rd ((ExT.of e) _ _ na ha)) (fun i z H hi ⟨h1, h2, h3⟩ => ?_) (fun H ⟨h1, h2, h3⟩ => k D H hD h1 h2 h3)
  have hi2 := (List.getElem?_eq_some_iff.mp hi).1
  have z1 : c * i ≤ c * xs.length := Nat.mul_le_mul_left c (Nat.le_of_lt hi2)
  refine hs i z H (n + c * i) (fun σ2 b H3 => if b = true then te σ2 H3 fun y H4 => ∃ acc, H4 D = some (.lst acc) ∧ acc.length < sizeLine ∧ _ else _) hi h2 h3 (by omega) fun τ H' e hp' => ?_
  rw [if_neg Bool.false_ne_true]
  exact ⟨e _ _ nD h1, h2.trans e, by rw [Nat.mul_succ, ← Nat.add_assoc]; exact hp'⟩
end Cs
set_option maxHeartbeats 4000000
/-! the ends of sums -/
namespace Cs
def wLo (qs : List (Int × Int)) (ws : List Int) : Int := ((qs.zip ws).map fun z => min (z.1.1 * z.2) (z.1.2 * z.2)).sum
def wHi (qs : List (Int × Int)) (ws : List Int) : Int := ((qs.zip ws).map fun z => max (z.1.1 * z.2) (z.1.2 * z.2)).sum
theorem w_fit : ∀ (qs : List (Int × Int)) (ws : List Int) (n : Nat), qs.length ≤ n → (∀ q ∈ qs, -10000 ≤ q.1 ∧ q.1 ≤ q.2 ∧ q.2 ≤ 10000) → (∀ w ∈ ws, -1000 ≤ w ∧ w ≤ 1000) → (-(n * 10000000 : Int) ≤ wLo qs ws ∧ wLo qs ws ≤ n * 10000000) ∧ -(n * 10000000 : Int) ≤ wHi qs ws ∧ wHi qs ws ≤ n * 10000000
  | [], _, n, _, _, _ => by simp [wLo, wHi]; omega
  | _ :: _, [], n, _, _, _ => by simp [wLo, wHi]; omega
  | q :: qs, w :: ws, 0, h, _, _ => by simp at h
  | q :: qs, w :: ws, n + 1, h, hq, hw => by
    have ih := w_fit qs ws n (by simpa using h) (fun q' h' => hq q' (List.mem_cons_of_mem _ h')) (fun q' h' => hw q' (List.mem_cons_of_mem _ h'))
    obtain ⟨a1, a2, a3⟩ := hq q List.mem_cons_self
    obtain ⟨b1, b2⟩ := hw w List.mem_cons_self
    have key : ∀ x : Int, -10000 ≤ x → x ≤ 10000 → -10000000 ≤ x * w ∧ x * w ≤ 10000000 := fun x x1 x2 => by
      have h1 : (x * w).natAbs ≤ 10000 * 1000 := by
        rw [Int.natAbs_mul]
        exact Nat.mul_le_mul (by omega) (by omega)
      omega
    have k1 := key q.1 a1 (by omega)
    have k2 := key q.2 (by omega) a3
    unfold wLo wHi at ih ⊢
    simp only [List.zip_cons_cons, List.map_cons, List.sum_cons]
    generalize (List.map (fun z : (Int × Int) × Int => min (z.1.1 * z.2) (z.1.2 * z.2)) (qs.zip ws)).sum = A at *
    generalize (List.map (fun z : (Int × Int) × Int => max (z.1.1 * z.2) (z.1.2 * z.2)) (qs.zip ws)).sum = B at *
    generalize q.1 * w = X at *
    generalize q.2 * w = Y at *
    push_cast
    omega
/-- all sums -/
def csum (zs : List ((Int × Int) × Int)) (f : List Int) : List Int := zs.foldl (fun f z => (f.map fun x => x + z.1.1 * z.2) ++ f.map fun x => x + z.1.2 * z.2) f
theorem csum_snoc {zs : List ((Int × Int) × Int)} {z : (Int × Int) × Int} {f : List Int} : csum (zs ++ [z]) f = ((csum zs f).map fun x => x + z.1.1 * z.2) ++ (csum zs f).map fun x => x + z.1.2 * z.2 := by
  unfold csum
  rw [List.foldl_append]
  rfl
theorem csum_len {f : List Int} : ∀ {n : Nat} {zs : List ((Int × Int) × Int)}, zs.length ≤ n → (csum zs f).length ≤ f.length * 2 ^ n := by
  intro n zs
  induction zs generalizing f n with
  | nil => 
    intro _
    show f.length ≤ _
    exact Nat.le_mul_of_pos_right _ (Nat.two_pow_pos n)
  | cons z zs ih =>
    intro h
    cases n with
    | zero => simp at h
    | succ n =>
      have q := ih (f := (f.map fun x => x + z.1.1 * z.2) ++ f.map fun x => x + z.1.2 * z.2) (n := n) (by rw [List.length_cons] at h; omega)
      rw [List.length_append, List.length_map, List.length_map] at q
      show (csum zs _).length ≤ _
      refine Nat.le_trans q ?_
      rw [Nat.pow_succ, show f.length + f.length = f.length * 2 by omega, Nat.mul_assoc, Nat.mul_comm 2]
      exact Nat.le_refl _
/-- they go from the least to the greatest, and both are there -/
theorem csum_ends : ∀ (zs : List ((Int × Int) × Int)) (f : List Int), (∀ x ∈ f, x + (zs.map fun z => min (z.1.1 * z.2) (z.1.2 * z.2)).sum ∈ csum zs f ∧ x + (zs.map fun z => max (z.1.1 * z.2) (z.1.2 * z.2)).sum ∈ csum zs f) ∧
    ∀ y ∈ csum zs f, ∃ x ∈ f, x + (zs.map fun z => min (z.1.1 * z.2) (z.1.2 * z.2)).sum ≤ y ∧ y ≤ x + (zs.map fun z => max (z.1.1 * z.2) (z.1.2 * z.2)).sum
  | [], f => ⟨fun x h => by simpa [csum] using h, fun y h => ⟨y, h, by simp⟩⟩
  | z :: zs, f => by
    obtain ⟨h1, h2⟩ := csum_ends zs ((f.map fun x => x + z.1.1 * z.2) ++ f.map fun x => x + z.1.2 * z.2)
    simp only [List.map_cons, List.sum_cons]
    have e : csum (z :: zs) f = csum zs ((f.map fun x => x + z.1.1 * z.2) ++ f.map fun x => x + z.1.2 * z.2) := rfl
    rw [e]
    generalize (zs.map fun z => min (z.1.1 * z.2) (z.1.2 * z.2)).sum = lo at *
    generalize (zs.map fun z => max (z.1.1 * z.2) (z.1.2 * z.2)).sum = hi at *
    generalize z.1.1 * z.2 = A at *
    generalize z.1.2 * z.2 = B at *
    refine ⟨fun x hx => ?_, fun y hy => ?_⟩
    · have a1 := h1 (x + A) (List.mem_append_left _ (List.mem_map.mpr ⟨x, hx, rfl⟩))
      have a2 := h1 (x + B) (List.mem_append_right _ (List.mem_map.mpr ⟨x, hx, rfl⟩))
      refine ⟨?_, ?_⟩
      · by_cases q : A ≤ B
        · rw [show x + (min A B + lo) = x + A + lo by omega]
          exact a1.1
        · rw [show x + (min A B + lo) = x + B + lo by omega]
          exact a2.1
      · by_cases q : A ≤ B
        · rw [show x + (max A B + hi) = x + B + hi by omega]
          exact a2.2
        · rw [show x + (max A B + hi) = x + A + hi by omega]
          exact a1.2
    · obtain ⟨x, hx, l1, l2⟩ := h2 y hy
      rcases List.mem_append.mp hx with hx | hx <;> obtain ⟨x', hx', rfl⟩ := List.mem_map.mp hx <;> exact ⟨x', hx', by omega, by omega⟩
theorem csum_lo {qs : List (Int × Int)} {ws : List Int} : wLo qs ws ∈ csum (qs.zip ws) [0] ∧ wHi qs ws ∈ csum (qs.zip ws) [0] ∧ ∀ y ∈ csum (qs.zip ws) [0], wLo qs ws ≤ y ∧ y ≤ wHi qs ws := by
  obtain ⟨h1, h2⟩ := csum_ends (qs.zip ws) [0]
  have q := h1 0 List.mem_cons_self
  rw [Int.zero_add, Int.zero_add] at q
  refine ⟨q.1, q.2, fun y hy => ?_⟩
  obtain ⟨x, hx, l1, l2⟩ := h2 y hy
  rw [List.mem_singleton.mp hx, Int.zero_add] at l1
  rw [List.mem_singleton.mp hx, Int.zero_add] at l2
  exact ⟨l1, l2⟩
end Cs
set_option maxHeartbeats 4000000
/-! fractions in the program -/
namespace Cs
open PySem L2 L2H PyProof.Rows
local macro_rules | `(tactic| walk_at "goD2") => `(tactic| try dsimp only [gName, tSeq, tAsg, tRet, tLst, tCons, tOp, tTup, tCall, tNil, tC, tDrop, tCB, tPar, tNext, tM1, tJs, tAndV, tFmt, tIfS, tOr, tNot, tB, tTest, tProp])
section
variable {X : Cx}
def rLcm : List V → Hp → VK → Prop := fun vs H Q => ∃ a b : Int, vs = [.int a, .int b] ∧ a.natAbs < 2 ^ 64 ∧ b.natAbs < 2 ^ 64 ∧ Q (.int ((Nat.lcm a.natAbs b.natAbs : Nat) : Int)) H
theorem cr_lcm : CallR X (.builtin "math.lcm") rLcm := by
  intro pins s σ H vs us Q I r h
  obtain ⟨a, b, rfl, ha, hb, q⟩ := h
  obtain ⟨t, u, rfl⟩ := Vals.int2 r
  exact PySem.W.mc_lcm ha hb fun _ => ⟨.int _, H, I.tok _, ⟨_, rfl⟩, q⟩
end
structure TxtM (mg : Str → Option Value) : Prop where
  gcd_ : mg "gcd" = some (.builtin "math.gcd")
  lcm_ : mg "lcm" = some (.builtin "math.lcm")
def Low (f : Int × Int) : Prop := 0 < f.2 ∧ Int.gcd f.1 f.2 = 1
/-- the bottom that fractions have in common, and their tops over it -/
def botL (fs : List (Int × Int)) (b : Int) : Int := fs.foldl (fun b f => ((Nat.lcm b.natAbs f.2.natAbs : Nat) : Int)) b
def bot (fs : List (Int × Int)) : Int := botL fs 1
def tops (fs : List (Int × Int)) : List Int := fs.map fun f => f.1 * (bot fs / f.2)
def Few (f : Int × Int) : Prop := (f.2 = 1 ∨ f.2 = 2 ∨ f.2 = 3) ∧ -4 ≤ f.1 ∧ f.1 ≤ 4
def SpIf : Sp := fun vs H Q _ => ∃ (p : Addr) (v : V) (f : Int × Int), vs = [v] ∧ RpT p H v (dSp f) ∧ Low f ∧ ∀ H', Same H H' → Q (.bl true) H'
def SpRed : Sp := fun vs H Q _ => ∃ (p : Addr) (a b : Int), vs = [.int a, .int b] ∧ Has p H ∧ 0 < b ∧ b < 1000000 ∧ ∀ y H', Same H H' → RpT p H' y (dSp (red a b)) → Q y H'
def SpAo : Sp := fun vs H Q _ => ∃ (p : Addr) (v : V) (ns : List Int) (b : Int), vs = [v, .int b] ∧ Has p H ∧ RpT p H v (.tuple (ns.map PyData.int)) ∧ ns.length ≤ 100 ∧ 0 < b ∧ b < 1000000 ∧ ∀ y H', Same H H' → RpT p H' y (.tuple (ns.map fun n => dSp (red n b))) → Q y H'
def SpWob : Sp := fun vs H Q _ => ∃ (p : Addr) (v : V) (fs : List (Int × Int)), vs = [v] ∧ Has p H ∧ RpT p H v (.tuple (fs.map dSp)) ∧ fs.length ≤ 4 ∧ (∀ f ∈ fs, Few f) ∧
  ∀ a l H', Same H H' → a ≠ p → l ≠ p → H' a = some (.tup [.ref l, .int (bot fs)]) → H' l = some (.lst ((tops fs).map V.int)) → Q (.ref a) H'
def SpWL : Sp := fun vs H Q _ => ∃ (p : Addr) (v : V) (l : Addr) (qs : List (Int × Int)) (ws : List Int), vs = [v, .ref l] ∧ Has p H ∧ RpT p H v (.tuple (qs.map dSp)) ∧ H l = some (.lst (ws.map V.int)) ∧ qs.length ≤ 4 ∧ (∀ w ∈ ws, -1000 ≤ w ∧ w ≤ 1000) ∧ ∀ y H', Same H H' → RpT p H' y (dSp (wLo qs ws, wHi qs ws)) → Q y H'
def blB (f g : Int × Int) : Bool := decide (f.1 * g.2 < g.1 * f.2)
def SpBl : Sp := fun vs H Q _ => ∃ (p : Addr) (v u : V) (f g : Int × Int), vs = [v, u] ∧ RpT p H v (dSp f) ∧ RpT p H u (dSp g) ∧ Fit f ∧ Fit g ∧ Q (.bl (blB f g)) H
section
variable {P : Program} {w : World} {K : PySem.W.Frag} {mg : Str → Option Value} {base : Heap} {C : Addr}
theorem sc_is_fraction : FnScope ["value", "top", "bottom"] ["value"] (defScope (topS 20)) := ⟨rfl, rfl, rfl, by decide +kernel, rfl, by decide +kernel, by decide +kernel⟩
theorem ok_is_fraction (D : DefAt K mg "is_fraction" (topS 20) ["value"]) (T : Txt mg) (M : TxtM mg) (cis_pair_of_integers : C8.Cal P w K mg base 2 "is_pair_of_integers" (SpB isPair) []) : C8.Cal P w K mg base 3 "is_fraction" SpIf [] := by
  refine D.cal sc_is_fraction (fun vs H Q E h => by obtain ⟨p, v, f, rfl, _⟩ := h; rfl) fun f cdv A outer s H vs Q E hr h => ?_
  obtain ⟨p, v, f, rfl, r, hf, k⟩ := h
  have nd := sc_is_fraction.nd
  have hu64 := hr.units
  refine ⟨_, (pss_cons (ps_if (pt_not (pt_val (C8.pe_c cis_pair_of_integers hr (by decide) rfl (pa_cons (pv 0) pa_nil)))) (pss_one (ps_ret pe_bl)) pss_nil)
      (pss_cons (ps_asg (pv 0) (pg_tup (by rfl) (pgs_cons (pg_name (i := 1) nd rfl (.inl rfl)) (pgs_cons (pg_name (i := 2) nd rfl (.inl rfl)) pgs_nil))))
      (pss_one (ps_ret (pe_and (pe_cmpR op_gt (pv 2) pe_int (nomark _)) (pe_one (pe_cmpR (opEq hu64) (pe_callBfun cr_gcd rfl M.gcd_ (pa_cons (pv 1) (pa_cons (pv 2) pa_nil))) pe_int (nomark _)))))))), ?_⟩
  walk_at "goD2"
  refine ⟨_, rfl, p, v, dSp f, rfl, r.rp, fun H1 s1 => ⟨_, rfl, ?_⟩⟩
  refine iteF ?_
  obtain ⟨a1, x1, z1, rfl, g1, g2, g3⟩ := unp2 (r.keep (ExT.of (ExB.of s1)))
  cases g2
  cases g3
  refine ⟨_, rfl, a1, [_, _], rfl, SqT.rd g1, rfl, _, [_], rfl, _, [], rfl, rfl, ?_⟩
  walk_at "goD2"
  refine ⟨_, rfl, _, _, rfl, rfl, _, rfl, ?_⟩
  refine ite2 (fun e1 => ?_) (fun e1 => ?_)
  · refine ⟨_, rfl, _, rfl, f.1, f.2, rfl, .inl ⟨rfl, ?_⟩⟩
    have e : (V.int ((Nat.gcd f.1.natAbs f.2.natAbs : Nat) : Int)) = V.int 1 := by
      rw [show Nat.gcd f.1.natAbs f.2.natAbs = 1 from hf.2]
      rfl
    have e2 : decide ((V.int ((Nat.gcd f.1.natAbs f.2.natAbs : Nat) : Int)) = V.int 1) = true := decide_eq_true e
    rw [e2]
    exact k _ s1
  · exact absurd (decide_eq_true hf.1) e1
theorem sc_reduced : FnScope ["top", "bottom", "part"] ["top", "bottom"] (defScope (topS 23)) := ⟨rfl, rfl, rfl, by decide +kernel, rfl, by decide +kernel, by decide +kernel⟩
theorem ok_reduced (D : DefAt K mg "reduced" (topS 23) ["top", "bottom"]) (T : Txt mg) (M : TxtM mg) : C8.Cal P w K mg base 1 "reduced" SpRed [] := by
  refine D.cal sc_reduced (fun vs H Q E h => by obtain ⟨p, a, b, rfl, _⟩ := h; rfl) fun f cdv A outer s H vs Q E hr h => ?_
  obtain ⟨p, a, b, rfl, hp, hb, hb2, k⟩ := h
  have nd := sc_reduced.nd
  refine ⟨_, (pss_cons (ps_set (i := 2) nd rfl (.inl rfl) (pe_callBfun cr_gcd rfl M.gcd_ (pa_cons (pv 0) (pa_cons (pv 1) pa_nil))))
      (pss_one (ps_ret (pe_tup (pa_cons (pe_op op_fdiv (pv 0) (pv 2)) (pa_cons (pe_op op_fdiv (pv 1) (pv 2)) pa_nil)))))), ?_⟩
  walk_at "goD2"
  have g1 : (0 : Int) < ((Nat.gcd a.natAbs b.natAbs : Nat) : Int) := gcd_pos hb
  have g2 : ((Nat.gcd a.natAbs b.natAbs : Nat) : Int) ≤ b := Int.le_of_dvd hb (Int.gcd_dvd_right a b)
  refine ⟨_, rfl, _, rfl, a, b, rfl, ?_⟩
  have cd : CDiv a ((Nat.gcd a.natAbs b.natAbs : Nat) : Int) := ⟨g1, by omega⟩
  have cd2 : CDiv b ((Nat.gcd a.natAbs b.natAbs : Nat) : Int) := ⟨g1, by omega⟩
  refine ⟨_, rfl, _, rfl, _, _, rfl, rfl, cd, _, rfl, _, rfl, _, _, rfl, rfl, cd2, len_le (n := 2) rfl (by decide), fun t ht => ?_⟩
  exact k _ _ (same_new ht) (rp_span (a := (red a b).1) (b := (red a b).2) (hp.ne ht) upd_same)
theorem sc_all_over : FnScope ["tops", "bottom", "top"] ["tops", "bottom"] (defScope (topS 24)) := ⟨rfl, rfl, rfl, by decide +kernel, rfl, by decide +kernel, by decide +kernel⟩
theorem ok_all_over (D : DefAt K mg "all_over" (topS 24) ["tops", "bottom"]) (T : Txt mg) (creduced : C8.Cal P w K mg base 1 "reduced" SpRed []) : C8.Cal P w K mg base 2 "all_over" SpAo [] := by
  refine D.cal sc_all_over (fun vs H Q E h => by obtain ⟨p, v, ns, b, rfl, _⟩ := h; rfl) fun f cdv A outer s H vs Q E hr h => ?_
  obtain ⟨p, v, ns, b, rfl, hp, hv, hl, hb, hb2, k⟩ := h
  have nd := sc_all_over.nd
  refine ⟨_, (pss_one (ps_ret (pe_callTy call_tuple_of (by rfl) T.tuple_ (by decide +kernel) (pa_cons (pe_lc (own := [("top", 2)]) rfl nd (pi_tup (pv 0)) (blkOk_by (N := ["tops", "bottom", "top"]) (sc := defScope (topS 24)) (by decide +kernel)) (fun _ _ _ _ _ => (pg_name (i := 2) nd rfl (.inl rfl))) (fun _ _ _ _ _ => pts_nil) (fun _ _ _ _ _ => (C8.pe_c creduced hr (by decide) rfl (pa_cons (pv 2) (pa_cons (pv 1) pa_nil))))) pa_nil)))), ?_⟩
  walk_at "goD2"
  refine lc_data (p := p) (ds := ns.map PyData.int) (es := ns.map fun n => dSp (red n b)) (by rw [List.length_map, List.length_map]) (by rw [List.length_map]; omega) (fun R hR => ⟨_, rfl, hR _ _ (Same.refl _) hv⟩) (fun j z d e H' hd he sm rz R hR => ?_) (fun D ys H' hD sm hd ry => ?_)
  · obtain ⟨n1, h5, rfl⟩ := map_get hd
    obtain ⟨n2, h6, rfl⟩ := map_get he
    rw [h5] at h6
    cases h6
    cases rz
    exact ⟨rfl, _, rfl, _, rfl, p, n1, b, rfl, hp.keep sm, hb, hb2, fun y H3 s3 r3 => hR _ _ s3 r3⟩
  · refine ⟨D, _, rfl, .inl ⟨SqL.of hd, fun t ht => ?_⟩⟩
    exact k _ _ (sm.trans (same_new ht)) (.tup ((hp.keep sm).ne ht) (.inl upd_same) (by rw [ry.length, List.length_map]; omega) (ry.keep (ExT.of (ExB.of (same_new ht)))))
theorem sc_is_below : FnScope ["one", "other"] ["one", "other"] (defScope (topS 26)) := ⟨rfl, rfl, rfl, by decide +kernel, rfl, by decide +kernel, by decide +kernel⟩
theorem ok_is_below (D : DefAt K mg "is_below" (topS 26) ["one", "other"]) (T : Txt mg) : C8.Cal P w K mg base 1 "is_below" SpBl [] := by
  refine D.cal sc_is_below (fun vs H Q E h => by obtain ⟨p, v, u, f, g, rfl, _⟩ := h; rfl) fun fn cdv A outer s H vs Q E hr h => ?_
  obtain ⟨p, v, u, f, g, rfl, r1, r2, f1, f2, k⟩ := h
  refine ⟨_, (pss_one (ps_ret (pe_cmpR opLt (pe_op opMul (pe_ix ix_seq (pv 0) pe_int (fun _ _ => rfl)) (pe_ix ix_seq (pv 1) pe_int (fun _ _ => rfl))) (pe_op opMul (pe_ix ix_seq (pv 1) pe_int (fun _ _ => rfl)) (pe_ix ix_seq (pv 0) pe_int (fun _ _ => rfl))) (nomark _)))), ?_⟩
  walk_at "goD2"
  obtain ⟨a1, x1, z1, rfl, g1, g2, g3⟩ := unp2 r1
  obtain ⟨a2, x2, z2, rfl, j1, j2, j3⟩ := unp2 r2
  cases g2
  cases g3
  cases j2
  cases j3
  obtain ⟨⟨b1, b2⟩, b3, b4⟩ := f1
  obtain ⟨⟨b5, b6⟩, b7, b8⟩ := f2
  have i1 : ∀ K' : VK, K' (.int f.1) H → rIx K (.ref a1) (.int 0) H K' := fun K' q => .inr (.inl ⟨a1, _, 0, _, rfl, rfl, SqT.rd g1, atI_nat (j := 0) rfl, q⟩)
  have i2 : ∀ K' : VK, K' (.int f.2) H → rIx K (.ref a1) (.int 1) H K' := fun K' q => .inr (.inl ⟨a1, _, 1, _, rfl, rfl, SqT.rd g1, atI_nat (j := 1) rfl, q⟩)
  have i3 : ∀ K' : VK, K' (.int g.1) H → rIx K (.ref a2) (.int 0) H K' := fun K' q => .inr (.inl ⟨a2, _, 0, _, rfl, rfl, SqT.rd j1, atI_nat (j := 0) rfl, q⟩)
  have i4 : ∀ K' : VK, K' (.int g.2) H → rIx K (.ref a2) (.int 1) H K' := fun K' q => .inr (.inl ⟨a2, _, 1, _, rfl, rfl, SqT.rd j1, atI_nat (j := 1) rfl, q⟩)
  refine ⟨_, rfl, i1 _ ⟨_, rfl, i4 _ (.inl ⟨_, _, rfl, rfl, .inl ⟨by omega, by omega⟩, ⟨_, rfl, i3 _ ⟨_, rfl, i2 _ (.inl ⟨_, _, rfl, rfl, .inl ⟨by omega, by omega⟩, .inl ⟨_, _, rfl, rfl, k⟩⟩)⟩⟩⟩)⟩⟩
end
end Cs
set_option maxHeartbeats 4000000
/-! fractions over one bottom, sums by them -/
namespace Cs
open PySem L2 L2H PyProof.Rows
local macro_rules | `(tactic| walk_at "goD3") => `(tactic| try dsimp only [gName, tSeq, tAsg, tRet, tLst, tCons, tOp, tTup, tCall, tNil, tC, tDrop, tCB, tPar, tNext, tM1, tJs, tAndV, tFmt, tIfS, tOr, tNot, tB, tTest, tProp])
def six (b : Int) : Prop := b = 1 ∨ b = 2 ∨ b = 3 ∨ b = 6
theorem lcm_six {b c : Int} (hb : six b) (hc : c = 1 ∨ c = 2 ∨ c = 3) : six ((Nat.lcm b.natAbs c.natAbs : Nat) : Int) ∧ b ∣ ((Nat.lcm b.natAbs c.natAbs : Nat) : Int) ∧ c ∣ ((Nat.lcm b.natAbs c.natAbs : Nat) : Int) := by
  unfold six at *
  rcases hb with rfl | rfl | rfl | rfl <;> rcases hc with rfl | rfl | rfl <;> decide
theorem botL_six : ∀ {fs : List (Int × Int)} {b : Int}, six b → (∀ f ∈ fs, Few f) → six (botL fs b) ∧ b ∣ botL fs b ∧ ∀ f ∈ fs, f.2 ∣ botL fs b
  | [], b, hb, _ => ⟨hb, Int.dvd_refl b, fun _ h => by cases h⟩
  | f :: fs, b, hb, h => by
    obtain ⟨h1, h2, h3⟩ := lcm_six hb (h f List.mem_cons_self).1
    obtain ⟨k1, k2, k3⟩ := botL_six (fs := fs) h1 fun g hg => h g (List.mem_cons_of_mem _ hg)
    refine ⟨k1, Int.dvd_trans h2 k2, fun g hg => ?_⟩
    rcases List.mem_cons.mp hg with rfl | hg
    · exact Int.dvd_trans h3 k2
    · exact k3 g hg
theorem bot_six {fs : List (Int × Int)} (h : ∀ f ∈ fs, Few f) : six (bot fs) ∧ ∀ f ∈ fs, f.2 ∣ bot fs := ⟨(botL_six (.inl rfl) h).1, (botL_six (.inl rfl) h).2.2⟩
theorem six_pos {b : Int} (h : six b) : 0 < b ∧ b ≤ 6 := by
  unfold six at h
  omega
theorem div_six {b c : Int} (hb : six b) (hc : c = 1 ∨ c = 2 ∨ c = 3) : 0 ≤ b / c ∧ b / c ≤ 6 := by
  have := six_pos hb
  rcases hc with rfl | rfl | rfl <;> omega
theorem botL_snoc {fs : List (Int × Int)} {f : Int × Int} {b : Int} : botL (fs ++ [f]) b = ((Nat.lcm (botL fs b).natAbs f.2.natAbs : Nat) : Int) := by
  unfold botL
  rw [List.foldl_append]
  rfl
theorem tops_small {fs : List (Int × Int)} (h : ∀ f ∈ fs, Few f) : ∀ w ∈ tops fs, -1000 ≤ w ∧ w ≤ 1000 := fun w hw => by
  obtain ⟨f, hf, rfl⟩ := List.mem_map.mp hw
  obtain ⟨h1, h2, h3⟩ := h f hf
  obtain ⟨d1, d2⟩ := div_six (bot_six h).1 h1
  generalize bot fs / f.2 = q at *
  obtain ⟨z, hz⟩ : ∃ z, z = f.1 := ⟨_, rfl⟩
  rw [← hz] at h2 h3 ⊢
  have a1 := Int.mul_le_mul_of_nonneg_right h3 d1
  have a2 := Int.mul_le_mul_of_nonneg_right h2 d1
  omega
section
variable {P : Program} {w : World} {K : PySem.W.Frag} {mg : Str → Option Value} {base : Heap} {C : Addr}
theorem sc_with_one_bottom : FnScope ["fractions", "bottom", "_", "part", "top"] ["fractions"] (defScope (topS 25)) := ⟨rfl, rfl, rfl, by decide +kernel, rfl, by decide +kernel, by decide +kernel⟩
theorem ok_with_one_bottom (D : DefAt K mg "with_one_bottom" (topS 25) ["fractions"]) (T : Txt mg) (M : TxtM mg) : C8.Cal P w K mg base 1 "with_one_bottom" SpWob [] := by
  refine D.cal sc_with_one_bottom (fun vs H Q E h => by obtain ⟨p, v, fs, rfl, _⟩ := h; rfl) fun fn cdv A outer s H vs Q E hr h => ?_
  obtain ⟨p, v, fs, rfl, hp, hv, h4, hf, k⟩ := h
  have nd := sc_with_one_bottom.nd
  refine ⟨_, (pss_cons (ps_set (i := 1) nd rfl (.inr rfl) pe_int)
      (pss_cons (ps_for PassesOwn.never rfl (pi_tup (pv 0)) (pg_tup (by rfl) (pgs_cons (pg_name (i := 2) nd rfl (.inl rfl)) (pgs_cons (pg_name (i := 3) nd rfl (.inl rfl)) pgs_nil))) (pss_one (ps_set (i := 1) nd rfl (.inr rfl) (pe_callBfun cr_lcm rfl M.lcm_ (pa_cons (pv 1) (pa_cons (pv 3) pa_nil))))))
      (pss_one (ps_ret (pe_tup (pa_cons (pe_lc (own := [("top", 4), ("part", 3)]) rfl nd (pi_tup (pv 0)) (blkOk_by (N := ["fractions", "bottom", "_", "part", "top"]) (sc := defScope (topS 25)) (by decide +kernel)) (fun _ _ _ _ _ => (pg_tupK (K := K) (n := 2) rfl rfl (pgs_cons (pg_name (i := 4) nd rfl (.inl rfl)) (pgs_cons (pg_name (i := 3) nd rfl (.inl rfl)) pgs_nil)))) (fun _ _ _ _ _ => pts_nil) (fun _ _ _ _ _ => (pe_op op_mul (pv 4) (pe_op op_fdiv (pv 1) (pv 3))))) (pa_cons (pv 1) pa_nil))))))), ?_⟩
  walk_at "goD3"
  have rv := hv
  cases hv with
  | @tup a xs _ na ha za ra =>
  have lx := ra.length
  rw [List.length_map] at lx
  refine ⟨_, rfl, a, rfl, ⟨xs, SqT.rd ha⟩, for_tup (xs := xs) (fun i σ H' => ∃ u2 u3, σ = [some (.ref a), some (.int (botL (fs.take i) 1)), u2, u3, none] ∧ H' = H) ⟨none, none, rfl, rfl⟩ (fun i σ H' _ ⟨_, _, _, e⟩ => by rw [e]; exact SqT.rd ha) ?_ ?_⟩
  · rintro i x σ H' hx ⟨u2, u3, rfl, rfl⟩
    obtain ⟨d, hd, rd⟩ := ra.get hx
    obtain ⟨f, ef, rfl⟩ := map_get hd
    obtain ⟨a1, x1, z1, rfl, g1, g2, g3⟩ := unp2 rd
    cases g2
    cases g3
    have hft := hf f (List.mem_of_getElem? ef)
    have hb := (botL_six (fs := fs.take i) (b := 1) (.inl rfl) fun g hg => hf g (List.mem_of_mem_take hg)).1
    have hb2 := six_pos hb
    have hs := botL_snoc (fs := fs.take i) (f := f) (b := 1)
    rw [← take_snoc ef] at hs
    refine ⟨a1, [_, _], rfl, SqT.rd g1, rfl, _, [_], rfl, _, [], rfl, rfl, ?_⟩
    walk_at "goD3"
    refine ⟨_, rfl, _, rfl, _, _, rfl, by omega, by have := hft.1; omega, ?_⟩
    rw [← hs]
    exact ⟨_, _, rfl, rfl⟩
  · rintro σ H' ⟨u2, u3, rfl, rfl⟩
    rw [List.take_of_length_le (by omega)]
    have hb := bot_six hf
    have hb2 := six_pos hb.1
    walk_at "goD3"
    refine lc_data (p := p) (ds := fs.map dSp) (es := fs.map fun f => PyData.int (f.1 * (bot fs / f.2))) (by rw [List.length_map, List.length_map]) (by rw [List.length_map]; omega) (fun R hR => ⟨_, rfl, hR _ _ (Same.refl _) rv⟩) (fun j z d e H' hd he sm rz R hR => ?_) (fun D ys H' hD sm hd ry => ?_)
    · obtain ⟨f1, h5, rfl⟩ := map_get hd
      obtain ⟨f2, h6, rfl⟩ := map_get he
      rw [h5] at h6
      cases h6
      obtain ⟨a1, x1, z1, rfl, g1, g2, g3⟩ := unp2 rz
      cases g2
      cases g3
      have hft := hf f1 (List.mem_of_getElem? h5)
      have dv := div_six hb.1 hft.1
      have q2 := hft.2
      refine ⟨a1, [_, _], rfl, SqT.rd g1, rfl, _, [_], rfl, _, [], rfl, rfl, rfl, ?_⟩
      refine ⟨_, rfl, _, rfl, _, rfl, _, _, rfl, rfl, ⟨by have := hft.1; omega, by have := hft.1; omega⟩, _, _, rfl, rfl, .inl ⟨by omega, by omega⟩, hR _ _ (Same.refl _) (.int _)⟩
    · have i3 := rpta_int ry
      rw [i3] at hd
      refine ⟨_, rfl, len_le (n := 2) rfl (by decide), fun t ht => ?_⟩
      have st := same_new (o := .tup [V.ref D, V.int (botL fs 1)]) ht
      have nD : D ≠ p := hp.ne hD
      exact k t D _ (sm.trans st) ((hp.keep sm).ne ht) nD upd_same (st _ _ hd)
theorem sc_weighed_ends : FnScope ["stretches", "weights", "ends", "low", "high", "weight", "pair"] ["stretches", "weights"] (defScope (topS 43)) := ⟨rfl, rfl, rfl, by decide +kernel, rfl, by decide +kernel, by decide +kernel⟩
theorem ok_weighed_ends (D : DefAt K mg "weighed_ends" (topS 43) ["stretches", "weights"]) (T : Txt mg) (S : TxtS mg) (Z : TxtZ mg) : C8.Cal P w K mg base 1 "weighed_ends" SpWL [] := by
  refine D.cal sc_weighed_ends (fun vs H Q E h => by obtain ⟨_, _, _, _, _, rfl, _⟩ := h; rfl) fun f cdv A outer s H vs Q E hr h => ?_
  obtain ⟨p, v, l, qs, ws, rfl, hp, hv, hu, h4, hw, k⟩ := h
  have nd := sc_weighed_ends.nd
  refine ⟨_, (pss_cons (ps_setLc (i := 2) (own := [("low", 3), ("high", 4), ("weight", 5)]) rfl nd rfl rfl (sw_true rfl rfl rfl (by decide +kernel)) (pi_zipB true false (by decide) rfl Z.zip_ (pa_cons (pv 0) (pa_cons (pv 1) pa_nil))) (blkOk_by (N := ["stretches", "weights", "ends", "low", "high", "weight", "pair"]) (sc := defScope (topS 43)) (by decide +kernel)) (fun _ _ _ _ _ => (pg_tupK (K := K) (n := 2) rfl rfl (pgs_cons (pg_tupK (K := K) (n := 2) rfl rfl (pgs_cons (pg_name (i := 3) nd rfl (.inl rfl)) (pgs_cons (pg_name (i := 4) nd rfl (.inl rfl)) pgs_nil))) (pgs_cons (pg_name (i := 5) nd rfl (.inl rfl)) pgs_nil)))) (fun _ _ _ _ _ => pts_nil) (fun _ _ _ _ _ => (pe_tup (pa_cons (pe_op op_mul (pv 3) (pv 5)) (pa_cons (pe_op op_mul (pv 4) (pv 5)) pa_nil)))))
      (pss_one (ps_ret (pe_tup (pa_cons (pe_callB (cr_sum rfl) (by rfl) S.sum_ (by decide +kernel) (pa_cons (pe_lc (own := [("pair", 6)]) rfl nd (pi_list (pv 2)) (blkOk_by (N := ["stretches", "weights", "ends", "low", "high", "weight", "pair"]) (sc := defScope (topS 43)) (by decide +kernel)) (fun _ _ _ _ _ => (pg_name (i := 6) nd rfl (.inl rfl))) (fun _ _ _ _ _ => pts_nil) (fun _ _ _ _ _ => (pe_callB (show CallR _ (.builtin "min") (rMinT K) from cr_minT rfl) (by rfl) S.min_ (by decide +kernel) (pa_cons (pv 6) pa_nil)))) pa_nil)) (pa_cons (pe_callB (cr_sum rfl) (by rfl) S.sum_ (by decide +kernel) (pa_cons (pe_lc (own := [("pair", 6)]) rfl nd (pi_list (pv 2)) (blkOk_by (N := ["stretches", "weights", "ends", "low", "high", "weight", "pair"]) (sc := defScope (topS 43)) (by decide +kernel)) (fun _ _ _ _ _ => (pg_name (i := 6) nd rfl (.inl rfl))) (fun _ _ _ _ _ => pts_nil) (fun _ _ _ _ _ => (pe_callB (show CallR _ (.builtin "max") (rMaxT K) from cr_maxT rfl) (by rfl) S.max_ (by decide +kernel) (pa_cons (pv 6) pa_nil)))) pa_nil)) pa_nil)))))), ?_⟩
  walk_at "goD3"
  cases hv with
  | @tup a xs _ na ha za ra =>
  refine lc_zipB (t := true) (u := false) (p := p) (xs := xs) (zs := ws.map V.int) (ds := qs.map dSp) (fs := ws.map PyData.int) (es := (qs.zip ws).map fun z => dSp (z.1.1 * z.2, z.1.2 * z.2)) (by rw [List.length_map, List.length_map, List.length_map, List.length_zip]) (by rw [List.length_map]; omega)
    (fun s => SqT.rd (Rd.same ha s)) (fun s => SqL.of (s _ _ hu)) ra rp_ints (fun R hR => ?_) (fun j T' x y d f e H' hd hf he sm hT rx ry R hR => ?_) (fun D ys H' hD sm hd ry => ?_)
  · exact ⟨_, rfl, _, rfl, hR⟩
  · obtain ⟨q1, e1, rfl⟩ := map_get hd
    obtain ⟨q2, e2, rfl⟩ := map_get hf
    obtain ⟨q3, e3, rfl⟩ := map_get he
    rw [zip_get e1 e2] at e3
    cases e3
    obtain ⟨a1, l1, h1, rfl, z1, z2, z3⟩ := unp2 rx
    cases z2
    cases z3
    cases ry
    refine ⟨T', [_, _], rfl, SqT.of hT, rfl, _, [_], rfl, ?_⟩
    refine ⟨a1, [_, _], rfl, SqT.rd z1, rfl, _, [_], rfl, _, [], rfl, rfl, ?_⟩
    have b2 := hw q2 (List.mem_of_getElem? e2)
    have cm : ∀ i : Int, CMul i q2 := fun i => .inr ⟨by omega, by omega⟩
    refine ⟨_, [], rfl, rfl, rfl, ?_⟩
    exact ⟨_, rfl, _, rfl, _, _, rfl, rfl, cm _, _, rfl, _, rfl, _, _, rfl, rfl, cm _, len_le (n := 2) rfl (by decide), fun t ht => hR _ _ (same_new ht) (rp_span ((hp.keep sm).ne ht) upd_same)⟩
  · walk_at "goD3"
    have lz : (qs.zip ws).length ≤ 4 := by
      rw [List.length_zip]
      omega
    refine lc_dataL (p := p) (ds := (qs.zip ws).map fun z => dSp (z.1.1 * z.2, z.1.2 * z.2)) (es := (qs.zip ws).map fun z => PyData.int (min (z.1.1 * z.2) (z.1.2 * z.2))) (by rw [List.length_map, List.length_map]) (by rw [List.length_map]; omega) (fun R hR => ⟨_, rfl, hR _ _ _ (Same.refl _) hd ry⟩) (fun j z d e H2 hd2 he2 sm2 rz R hR => ?_) (fun D2 ys2 H2 hD2 sm2 hd2 ry2 => ?_)
    · obtain ⟨q, e1, rfl⟩ := map_get hd2
      obtain ⟨q', e2, rfl⟩ := map_get he2
      rw [e1] at e2
      cases e2
      obtain ⟨a1, l1, h1, rfl, z1, z2, z3⟩ := unp2 rz
      cases z2
      cases z3
      refine ⟨rfl, _, rfl, a1, [_, _], rfl, SqT.rd z1, (by show 0 < 2; decide), fun m hm hle => hR _ _ (Same.refl _) ?_⟩
      have z := hle _ List.mem_cons_self
      have z' := hle _ (List.mem_cons_of_mem _ List.mem_cons_self)
      rw [show m = min (q.1.1 * q.2) (q.1.2 * q.2) by
        simp only [List.mem_cons, List.not_mem_nil, or_false] at hm
        dsimp only at hm z z'
        omega]
      exact .int _
    · have i2 := rpta_int ry2
      rw [i2] at hd2
      refine ⟨D2, _, rfl, SqL.of hd2, ?_⟩
      have hd' := sm2 _ _ hd
      have ry' := ry.keep (ExT.of (ExB.of sm2))
      refine lc_dataL (p := p) (ds := (qs.zip ws).map fun z => dSp (z.1.1 * z.2, z.1.2 * z.2)) (es := (qs.zip ws).map fun z => PyData.int (max (z.1.1 * z.2) (z.1.2 * z.2))) (by rw [List.length_map, List.length_map]) (by rw [List.length_map]; omega) (fun R hR => ⟨_, rfl, hR _ _ _ (Same.refl _) hd' ry'⟩) (fun j z d e H3 hd3 he3 sm3 rz R hR => ?_) (fun D3 ys3 H3 hD3 sm3 hd3 ry3 => ?_)
      · obtain ⟨q, e1, rfl⟩ := map_get hd3
        obtain ⟨q', e2, rfl⟩ := map_get he3
        rw [e1] at e2
        cases e2
        obtain ⟨a1, l1, h1, rfl, z1, z2, z3⟩ := unp2 rz
        cases z2
        cases z3
        refine ⟨rfl, _, rfl, a1, [_, _], rfl, SqT.rd z1, (by show 0 < 2; decide), fun m hm hle => hR _ _ (Same.refl _) ?_⟩
        have z := hle _ List.mem_cons_self
        have z' := hle _ (List.mem_cons_of_mem _ List.mem_cons_self)
        rw [show m = max (q.1.1 * q.2) (q.1.2 * q.2) by
          simp only [List.mem_cons, List.not_mem_nil, or_false] at hm
          dsimp only at hm z z'
          omega]
        exact .int _
      · have i3 := rpta_int ry3
        rw [i3] at hd3
        have sA := sm.trans (sm2.trans sm3)
        exact ⟨D3, _, rfl, SqL.of hd3, len_le (n := 2) rfl (by decide), fun t ht => k _ _ (sA.trans (same_new ht)) (rp_span ((hp.keep sA).ne ht) upd_same)⟩
end
end Cs
set_option maxHeartbeats 4000000
/-! systems -/
namespace Cs
open PySem L2 L2H PyProof.Rows
local macro_rules | `(tactic| walk_at "goD4") => `(tactic| try dsimp only [gName, tSeq, tAsg, tRet, tLst, tCons, tOp, tTup, tCall, tNil, tC, tDrop, tCB, tPar, tNext, tM1, tJs, tAndV, tFmt, tIfS, tOr, tNot, tB, tTest, tProp])
def BsOk (n : Nat) (bs : List (Int × Int)) : Prop := bs.length = n ∧ ∀ b ∈ bs, -10000 ≤ b.1 ∧ b.1 ≤ b.2 ∧ b.2 ≤ 10000
def FsOk (n : Nat) (fs : List (Int × Int)) : Prop := fs.length = n ∧ ∀ f ∈ fs, Few f ∧ Low f
def feLo (r : Rw) (fs : List (Int × Int)) : Int × Int := red (wLo r.2 (tops fs)) (bot fs)
def feHi (r : Rw) (fs : List (Int × Int)) : Int × Int := red (wHi r.2 (tops fs)) (bot fs)
def dFE (fs : List (Int × Int)) (r : Rw) : PyData := .tuple [dSp (feLo r fs), dSp (feHi r fs)]
def SpCb (C : Addr) : Sp := fun vs H Q _ => ∃ (p t : Addr) (v : V) (cs : List Str) (rs : List Rw) (bs : List (Int × Int)), vs = [.ref t, v] ∧ TabD C p H t cs rs ∧ Good cs rs ∧ RpT p H v (.tuple (bs.map dSp)) ∧ BsOk rs.length bs ∧ ∀ H', Same H H' → Q .non H'
def SpCa (C : Addr) : Sp := fun vs H Q _ => ∃ (p t : Addr) (v : V) (cs : List Str) (rs : List Rw) (fs : List (Int × Int)), vs = [.ref t, v] ∧ TabD C p H t cs rs ∧ Good cs rs ∧ RpT p H v (.tuple (fs.map dSp)) ∧ FsOk cs.length fs ∧ ∀ H', Same H H' → Q .non H'
def SpRe (C : Addr) : Sp := fun vs H Q _ => ∃ (p t : Addr) (v : V) (cs : List Str) (rs : List Rw) (fs : List (Int × Int)), vs = [.ref t, v] ∧ Has p H ∧ TabD C p H t cs rs ∧ Good cs rs ∧ RpT p H v (.tuple (fs.map dSp)) ∧ FsOk cs.length fs ∧ ∀ y H', Same H H' → RpT p H' y (.tuple (rs.map (dFE fs))) → Q y H'
def sureB (rs : List Rw) (bs fs : List (Int × Int)) : Bool := !((rs.zip bs).map fun z => blB (z.2.1, 1) (feHi z.1 fs)).any id
def someB (rs : List Rw) (bs fs : List (Int × Int)) : Bool := !((rs.zip bs).map fun z => blB (z.2.2, 1) (feLo z.1 fs)).any id
def SpSy (C : Addr) (f : List Rw → List (Int × Int) → List (Int × Int) → Bool) : Sp := fun vs H Q _ => ∃ (p t : Addr) (u v : V) (cs : List Str) (rs : List Rw) (bs fs : List (Int × Int)), vs = [.ref t, u, v] ∧ Has p H ∧ TabD C p H t cs rs ∧ Good cs rs ∧
  RpT p H u (.tuple (bs.map dSp)) ∧ BsOk rs.length bs ∧ RpT p H v (.tuple (fs.map dSp)) ∧ FsOk cs.length fs ∧ ∀ H', Same H H' → Q (.bl (f rs bs fs)) H'
theorem red_fit {a b : Int} (hb : 0 < b) (h1 : -1000000000 < a) (h2 : a < 1000000000) (h3 : b < 1000000000) : Fit (red a b) := by
  have g := @gcd_pos a b hb
  have e1 := @red_fst a b
  have e2 := @red_snd a b
  have p2 := @red_pos a b hb
  unfold Fit
  generalize (red a b).1 = x at *
  generalize (red a b).2 = y at *
  generalize (Int.gcd a b : Int) = k at *
  have n1 : x.natAbs ≤ a.natAbs := by
    rw [← e1, Int.natAbs_mul]
    exact Nat.le_mul_of_pos_right _ (by omega)
  have n2 : y.natAbs ≤ b.natAbs := by
    rw [← e2, Int.natAbs_mul]
    exact Nat.le_mul_of_pos_right _ (by omega)
  omega
theorem fe_fit {r : Rw} {fs : List (Int × Int)} (hr : RowOk r) (hf : ∀ f ∈ fs, Few f) : Fit (feLo r fs) ∧ Fit (feHi r fs) := by
  obtain ⟨⟨a1, a2⟩, a3, a4⟩ := w_fit r.2 (tops fs) 4 hr.2.1 hr.2.2 (tops_small hf)
  have b := six_pos (bot_six hf).1
  exact ⟨red_fit b.1 (by omega) (by omega) (by omega), red_fit b.1 (by omega) (by omega) (by omega)⟩
section
variable {P : Program} {w : World} {K : PySem.W.Frag} {mg : Str → Option Value} {base : Heap} {C : Addr}
theorem sc_check_bounds : FnScope ["table", "bounds"] ["table", "bounds"] (defScope (topS 45)) := ⟨rfl, rfl, rfl, by decide +kernel, rfl, by decide +kernel, by decide +kernel⟩
theorem ok_check_bounds {CU : Addr} (D : DefAt K mg "check_bounds" (topS 45) ["table", "bounds"]) (T : Txt mg) (TC : TabC K C) (care_end_pairs : C8.Cal P w K mg base 5 "are_end_pairs" SpEP [])
    {gl : Addr} {fdl : FuncData} (F_len : FnOk P w K mg base CX0 1 gl fdl ["self"] (SpLn C)) (b_len : Binds K fdl ["self"] []) (hs_len : PySem.W.findIn K (.ref C) "__len__" = some (some (.ref gl))) (hf_len : PySem.W.isFn K (.ref gl) = true)
    (xInvalidBounds : RaiseAt P w K mg base "InvalidBounds" CU "given") : CalX P w K mg base 6 "check_bounds" (SpCb C) := by
  refine D.calX sc_check_bounds (fun vs H Q E h => by obtain ⟨_, _, _, _, _, _, rfl, _⟩ := h; rfl) fun f cdv A outer s H vs Q E hr h => ?_
  obtain ⟨p, t, v, cs, rs, bs, rfl, ht, g, hv, hb, k⟩ := h
  have nd := sc_check_bounds.nd
  have hTC := TC.c
  refine ⟨_, (pss_one (ps_if (pt_not (pt_val (C8.pe_c care_end_pairs hr (by decide) rfl (pa_cons (pv 1) (pa_cons (pe_callB (call_lenI F_len (hr.mono (by decide)) b_len pass0 hs_len hf_len) (by rfl) T.len_ (by decide +kernel) (pa_cons (pv 0) pa_nil)) pa_nil))))) (pss_one (ps_raise rfl (takes_of rfl rfl rfl rfl) (pmk_rx xInvalidBounds (hr.mono (by decide)) rfl (pv 1) (by rfl) rfl rfl))) pss_nil)), ?_⟩
  walk_at "goD4"
  obtain ⟨dx, vc, vr, h1, h2, h3⟩ := id ht
  have r8 := g.r8
  refine ⟨_, rfl, _, rfl, t, dx, _, rfl, h1, p, t, cs, rs, rfl, ht, rs.length, rfl, by omega, p, v, .tuple (bs.map dSp), rs.length, rfl, hv.rp, fun H1 s1 => ⟨_, rfl, ?_⟩⟩
  have e : isEPs rs.length (.tuple (bs.map dSp)) = true := by
    show (decide ((bs.map dSp).length = rs.length) && (bs.map dSp).all (isSpan (-10000) 10000)) = true
    rw [List.length_map, decide_eq_true hb.1, Bool.true_and, List.all_map, List.all_eq_true]
    intro q hq
    obtain ⟨b1, b2, b3⟩ := hb.2 q hq
    show (decide (-10000 ≤ q.1) && (decide (q.1 ≤ q.2) && decide (q.2 ≤ 10000))) = true
    rw [decide_eq_true b1, decide_eq_true b2, decide_eq_true b3]
    rfl
  rw [e]
  exact iteF (k _ s1)
theorem sc_check_answer : FnScope ["table", "answer", "part"] ["table", "answer"] (defScope (topS 46)) := ⟨rfl, rfl, rfl, by decide +kernel, rfl, by decide +kernel, by decide +kernel⟩
theorem ok_check_answer {pc gc CU : Addr} {fdc : FuncData} (D : DefAt K mg "check_answer" (topS 46) ["table", "answer"]) (T : Txt mg) (TC : TabC K C) (cis_tuple_of : C8.Cal P w K mg base 1 "is_tuple_of" SpTN []) (cis_fraction : C8.Cal P w K mg base 3 "is_fraction" SpIf [])
    (F_columns : FnOk P w K mg base CX0 1 gc fdc ["self"] (SpGet C "_columns")) (hp_columns : PropOf K C "columns" pc gc) (b_columns : Binds K fdc ["self"] []) (xInvalidAnswer : RaiseAt P w K mg base "InvalidAnswer" CU "given") : CalX P w K mg base 4 "check_answer" (SpCa C) := by
  refine D.calX sc_check_answer (fun vs H Q E h => by obtain ⟨_, _, _, _, _, _, rfl, _⟩ := h; rfl) fun f cdv A outer s H vs Q E hr h => ?_
  obtain ⟨p, t, v, cs, rs, fs, rfl, ht, g, hv, hw, k⟩ := h
  have nd := sc_check_answer.nd
  have hTC := TC.c
  refine ⟨_, (pss_one (ps_if (PW.pt (pw_or (pt_not (pt_val (C8.pe_c cis_tuple_of hr (by decide) rfl (pa_cons (pv 1) (pa_cons (pe_callB call_lenA (by rfl) T.len_ (by decide +kernel) (pa_cons (pe_prop (pv 0) hTC hp_columns F_columns (hr.mono (by decide)) b_columns .nil pass0 rfl) pa_nil)) pa_nil))))) (pw_or1 (pt_not (pt_val (pe_callB (cr_all rfl) (by rfl) T.all_ (by decide +kernel) (pa_cons (pe_lc (own := [("part", 2)]) rfl nd (pi_tup (pv 1)) (blkOk_by (N := ["table", "answer", "part"]) (sc := defScope (topS 46)) (by decide +kernel)) (fun _ _ _ _ _ => (pg_name (i := 2) nd rfl (.inl rfl))) (fun _ _ _ _ _ => pts_nil) (fun _ _ _ _ _ => (C8.pe_c cis_fraction hr (by decide) rfl (pa_cons (pv 2) pa_nil)))) pa_nil))))))) (pss_one (ps_raise rfl (takes_of rfl rfl rfl rfl) (pmk_rx xInvalidAnswer (hr.mono (by decide)) rfl (pv 1) (by rfl) rfl rfl))) pss_nil)), ?_⟩
  walk_at "goD4"
  obtain ⟨dx, vc, vr, h1, h2, h3⟩ := id ht
  cases h2 with
  | @tup ac xc _ nac hac zac rac =>
  have lc := rac.length
  rw [List.length_map] at lc
  refine ⟨_, rfl, _, rfl, t, dx, _, rfl, h1, t, dx, _, .ref ac, rfl, h1, rfl, ?_⟩
  refine .inl ⟨ac, _, rfl, .inr (SqT.rd hac), p, v, .tuple (fs.map dSp), xc.length, rfl, hv.rp, fun H1 s1 => ⟨_, rfl, ?_⟩⟩
  have e1 : isTupN xc.length (.tuple (fs.map dSp)) = true := by
    show decide ((fs.map dSp).length = xc.length) = true
    rw [List.length_map, lc, hw.1]
    exact decide_eq_true rfl
  rw [e1]
  refine iteF ?_
  have l4 : fs.length ≤ 4 := by
    rw [hw.1]
    exact g.c4
  refine lc_data (p := p) (ds := fs.map dSp) (es := fs.map fun w => PyData.bool true) (by rw [List.length_map, List.length_map]) (by rw [List.length_map]; omega) (fun R hR => ⟨_, rfl, hR _ _ (Same.refl _) (hv.keep (ExT.of (ExB.of s1)))⟩) (fun j z d e H' hd he sm rz R hR => ?_) (fun D ys H' hD sm hd ry => ?_)
  · obtain ⟨w1, h5, rfl⟩ := map_get hd
    obtain ⟨w2, h6, rfl⟩ := map_get he
    exact ⟨rfl, _, rfl, p, z, w1, rfl, rz, (hw.2 w1 (List.mem_of_getElem? h5)).2, fun H4 s4 => hR _ _ s4 (.bl _)⟩
  · have eb := rpta_bool ry
    rw [eb] at hd
    have ea : (fs.map fun _ => true).all id = true := by
      rw [List.all_map, List.all_eq_true]
      intro w1 _
      rfl
    refine ⟨D, _, rfl, SqL.of hd, _, rfl, ?_⟩
    rw [ea]
    exact iteF (k _ (s1.trans sm))
theorem sc_row_ends : FnScope ["table", "answer", "tops", "bottom", "_", "stretches"] ["table", "answer"] (defScope (topS 47)) := ⟨rfl, rfl, rfl, by decide +kernel, rfl, by decide +kernel, by decide +kernel⟩
theorem ok_row_ends {pr gr : Addr} {fdr : FuncData} (D : DefAt K mg "row_ends" (topS 47) ["table", "answer"]) (T : Txt mg) (TC : TabC K C) (ccheck_table : CalX P w K mg base 3 "check_table" (SpCk C)) (ccheck_answer : CalX P w K mg base 4 "check_answer" (SpCa C))
    (cwith_one_bottom : C8.Cal P w K mg base 1 "with_one_bottom" SpWob []) (call_over : C8.Cal P w K mg base 2 "all_over" SpAo []) (cweighed_ends : C8.Cal P w K mg base 1 "weighed_ends" SpWL [])
    (F_rows : FnOk P w K mg base CX0 1 gr fdr ["self"] (SpGet C "_rows")) (hp_rows : PropOf K C "rows" pr gr) (b_rows : Binds K fdr ["self"] []) : CalY P w K mg base 5 "row_ends" (SpRe C) (topS 47) ["table", "answer"] := by
  refine D.calY sc_row_ends (fun vs H Q E h => by obtain ⟨_, _, _, _, _, _, rfl, _⟩ := h; rfl) fun f cdv A outer s H vs Q E hr h => ?_
  obtain ⟨p, t, v, cs, rs, fs, rfl, hp, ht, g, hv, hw, k⟩ := h
  have nd := sc_row_ends.nd
  have hTC := TC.c
  refine ⟨_, (pss_cons (ps_expr (pe_cX ccheck_table hr (by decide) rfl (passes_call (takes_of rfl rfl rfl rfl) (fun _ _ _ _ h => h)) (pa_cons (pv 0) pa_nil)))
      (pss_cons (ps_expr (pe_cX ccheck_answer hr (by decide) rfl (passes_call (takes_of rfl rfl rfl rfl) (fun _ _ _ _ h => h)) (pa_cons (pv 0) (pa_cons (pv 1) pa_nil))))
      (pss_cons (ps_asg (C8.pe_c cwith_one_bottom hr (by decide) rfl (pa_cons (pv 1) pa_nil)) (pg_tup (by rfl) (pgs_cons (pg_name (i := 2) nd rfl (.inr rfl)) (pgs_cons (pg_name (i := 3) nd rfl (.inr rfl)) pgs_nil))))
      (pss_one (ps_ret (pe_callTy call_tuple_of (by rfl) T.tuple_ (by decide +kernel) (pa_cons (pe_lc (own := [("_", 4), ("stretches", 5)]) rfl nd (pi_tup (pe_prop (pv 0) hTC hp_rows F_rows (hr.mono (by decide)) b_rows .nil pass0 rfl)) (blkOk_by (N := ["table", "answer", "tops", "bottom", "_", "stretches"]) (sc := defScope (topS 47)) (by decide +kernel)) (fun _ _ _ _ _ => (pg_tupK (K := K) (n := 2) rfl rfl (pgs_cons (pg_name (i := 4) nd rfl (.inl rfl)) (pgs_cons (pg_name (i := 5) nd rfl (.inl rfl)) pgs_nil)))) (fun _ _ _ _ _ => pts_nil) (fun _ _ _ _ _ => (C8.pe_c call_over hr (by decide) rfl (pa_cons (C8.pe_c cweighed_ends hr (by decide) rfl (pa_cons (pv 5) (pa_cons (pv 2) pa_nil))) (pa_cons (pv 3) pa_nil))))) pa_nil))))))), ?_⟩
  walk_at "goD4"
  obtain ⟨dx, vc, vr, h1, h2, h3⟩ := id ht
  have r8 := g.r8
  have l4 : fs.length ≤ 4 := by
    rw [hw.1]
    exact g.c4
  have few : ∀ f ∈ fs, Few f := fun f hf => (hw.2 f hf).1
  have b6 := six_pos (bot_six few).1
  refine ⟨_, rfl, t, dx, _, rfl, h1, ?_⟩
  refine ⟨_, rfl, _, rfl, p, t, v, cs, rs, fs, rfl, ht, g, hv, hw, fun H1 s1 => ?_⟩
  refine ⟨_, rfl, p, v, fs, rfl, hp.keep s1, hv.keep (ExT.of (ExB.of s1)), l4, few, fun a l H2 s2 na nl ha hl => ?_⟩
  have s12 := s1.trans s2
  refine ⟨a, [_, _], rfl, SqT.of ha, rfl, _, [_], rfl, _, [], rfl, rfl, ?_⟩
  walk_at "goD4"
  have h3' := h3.keep (ExT.of (ExB.of s12))
  refine lc_data (p := p) (ds := rs.map dRw) (es := rs.map (dFE fs)) (by rw [List.length_map, List.length_map]) (by rw [List.length_map]; omega) (fun R hR => ⟨_, rfl, t, dx, _, rfl, s12 _ _ h1, t, dx, _, vr, rfl, s12 _ _ h1, rfl, hR _ _ (Same.refl _) h3'⟩) (fun j z d e H' hd he sm rz R hR => ?_) (fun D ys H' hD sm hd ry => ?_)
  · obtain ⟨r1, h5, rfl⟩ := map_get hd
    obtain ⟨r2, h6, rfl⟩ := map_get he
    rw [h5] at h6
    cases h6
    have ro := g.row (List.mem_of_getElem? h5)
    obtain ⟨a1, x1, z1, rfl, g1, g2, g3⟩ := unp2 rz
    refine ⟨a1, [_, _], rfl, SqT.rd g1, rfl, _, [_], rfl, _, [], rfl, rfl, rfl, ?_⟩
    refine ⟨_, rfl, _, rfl, p, z1, l, r1.2, tops fs, rfl, hp.keep (s12.trans sm), g3, sm _ _ hl, ro.2.1, tops_small few, fun y1 H3 s3 ry1 => ?_⟩
    refine ⟨_, rfl, p, y1, [wLo r1.2 (tops fs), wHi r1.2 (tops fs)], bot fs, rfl, hp.keep (s12.trans (sm.trans s3)), ry1, by show 2 ≤ 100; decide, b6.1, by omega, fun y2 H4 s4 ry2 => hR _ _ (s3.trans s4) ry2⟩
  · refine ⟨D, _, rfl, .inl ⟨SqL.of hd, fun t2 ht2 => ?_⟩⟩
    have sA := s12.trans sm
    exact k _ _ (sA.trans (same_new ht2)) (.tup ((hp.keep sA).ne ht2) (.inl upd_same) (by rw [ry.length, List.length_map]; omega) (ry.keep (ExT.of (ExB.of (same_new ht2)))))
theorem sc__check_system : FnScope ["table", "bounds"] ["table", "bounds"] (defScope (topS 50)) := ⟨rfl, rfl, rfl, by decide +kernel, rfl, by decide +kernel, by decide +kernel⟩
theorem ok__check_system (D : DefAt K mg "_check_system" (topS 50) ["table", "bounds"]) (T : Txt mg) (ccheck_table : CalX P w K mg base 3 "check_table" (SpCk C)) (ccheck_bounds : CalX P w K mg base 6 "check_bounds" (SpCb C)) : CalX P w K mg base 7 "_check_system" (SpCb C) := by
  refine D.calX sc__check_system (fun vs H Q E h => by obtain ⟨_, _, _, _, _, _, rfl, _⟩ := h; rfl) fun f cdv A outer s H vs Q E hr h => ?_
  obtain ⟨p, t, v, cs, rs, bs, rfl, ht, g, hv, hb, k⟩ := h
  refine ⟨_, (pss_cons (ps_expr (pe_cX ccheck_table hr (by decide) rfl (passes_call (takes_of rfl rfl rfl rfl) (fun _ _ _ _ h => h)) (pa_cons (pv 0) pa_nil)))
      (pss_one (ps_expr (pe_cX ccheck_bounds hr (by decide) rfl (passes_call (takes_of rfl rfl rfl rfl) (fun _ _ _ _ h => h)) (pa_cons (pv 0) (pa_cons (pv 1) pa_nil)))))), ?_⟩
  walk_at "goD4"
  obtain ⟨dx, vc, vr, h1, h2, h3⟩ := id ht
  exact ⟨_, rfl, t, dx, _, rfl, h1, _, rfl, _, rfl, p, t, v, cs, rs, bs, rfl, ht, g, hv, hb, fun H1 s1 => k _ s1⟩
theorem sc_is_sure_answer : FnScope ["table", "bounds", "answer", "ends", "_", "high", "low"] ["table", "bounds", "answer"] (defScope (topS 48)) := ⟨rfl, rfl, rfl, by decide +kernel, rfl, by decide +kernel, by decide +kernel⟩
theorem ok_is_sure_answer (D : DefAt K mg "is_sure_answer" (topS 48) ["table", "bounds", "answer"]) (T : Txt mg) (Z : TxtZ mg) (A1 : mg "any" = none) (TC : TabC K C) (c_check_system : CalX P w K mg base 7 "_check_system" (SpCb C)) (crow_ends : CalX P w K mg base 5 "row_ends" (SpRe C)) (cis_below : C8.Cal P w K mg base 1 "is_below" SpBl []) :
    CalY P w K mg base 8 "is_sure_answer" (SpSy C sureB) (topS 48) ["table", "bounds", "answer"] := by
  refine D.calY sc_is_sure_answer (fun vs H Q E h => by obtain ⟨_, _, _, _, _, _, _, _, rfl, _⟩ := h; rfl) fun f cdv A outer s H vs Q E hr h => ?_
  obtain ⟨p, t, u, v, cs, rs, bs, fs, rfl, hp, ht, g, hu, hb, hv, hw, k⟩ := h
  have nd := sc_is_sure_answer.nd
  refine ⟨_, (pss_cons (ps_expr (pe_cX c_check_system hr (by decide) rfl (passes_call (takes_of rfl rfl rfl rfl) (fun _ _ _ _ h => h)) (pa_cons (pv 0) (pa_cons (pv 1) pa_nil))))
      (pss_cons (ps_set (i := 3) nd rfl (.inl rfl) (pe_cX crow_ends hr (by decide) rfl (passes_call (takes_of rfl rfl rfl rfl) (fun _ _ _ _ h => h)) (pa_cons (pv 0) (pa_cons (pv 2) pa_nil))))
      (pss_one (ps_ret (pe_not (pe_callB (cr_any rfl) (by rfl) A1 (by decide +kernel) (pa_cons (pe_lc (own := [("_", 4), ("high", 5), ("low", 6)]) rfl nd (RZ.pi_zipA rfl Z.zip_ (pa_cons (pv 3) (pa_cons (pv 1) pa_nil))) (blkOk_by (N := ["table", "bounds", "answer", "ends", "_", "high", "low"]) (sc := defScope (topS 48)) (by decide +kernel)) (fun _ _ _ _ _ => (pg_tupK (K := K) (n := 2) rfl rfl (pgs_cons (pg_tupK (K := K) (n := 2) rfl rfl (pgs_cons (pg_name (i := 4) nd rfl (.inl rfl)) (pgs_cons (pg_name (i := 5) nd rfl (.inl rfl)) pgs_nil))) (pgs_cons (pg_tupK (K := K) (n := 2) rfl rfl (pgs_cons (pg_name (i := 6) nd rfl (.inl rfl)) (pgs_cons (pg_name (i := 4) nd rfl (.inl rfl)) pgs_nil))) pgs_nil)))) (fun _ _ _ _ _ => pts_nil) (fun _ _ _ _ _ => (C8.pe_c cis_below hr (by decide) rfl (pa_cons (pe_tup (pa_cons (pv 6) (pa_cons pe_int pa_nil))) (pa_cons (pv 5) pa_nil))))) pa_nil))))))), ?_⟩
  walk_at "goD4"
  have few : ∀ f ∈ fs, Few f := fun f hf => (hw.2 f hf).1
  have r8 := g.r8
  refine ⟨_, rfl, _, rfl, p, t, u, cs, rs, bs, rfl, ht, g, hu, hb, fun H1 s1 => ?_⟩
  refine ⟨_, rfl, _, rfl, p, t, v, cs, rs, fs, rfl, hp.keep s1, ht.same s1, g, hv.keep (ExT.of (ExB.of s1)), hw, fun y H2 s2 ry => ?_⟩
  have s12 := s1.trans s2
  dsimp only [tNotV, tCB, tCons]
  refine lc_zipD (p := p) (ds := rs.map (dFE fs)) (fs := bs.map dSp) (es := (rs.zip bs).map fun z => PyData.bool (blB (z.2.1, 1) (feHi z.1 fs))) (by rw [List.length_map, List.length_map, List.length_map, List.length_zip]) (by rw [List.length_map]; omega) (fun R hR => ⟨_, rfl, _, rfl, hR _ _ _ (Same.refl _) ry (hu.keep (ExT.of (ExB.of s12)))⟩) (fun j T' x y d f e' H' hd hf he sm hT rx ry' R hR => ?_) (fun D ys H' hD sm hd ry' => ?_)
  · obtain ⟨r1, e1, rfl⟩ := map_get hd
    obtain ⟨b1, e2, rfl⟩ := map_get hf
    obtain ⟨q3, e3, rfl⟩ := map_get he
    rw [zip_get e1 e2] at e3
    cases e3
    obtain ⟨a1, x1, y1, rfl, z1, z2, z3⟩ := unp2 rx
    obtain ⟨a2, x2, y2, rfl, w1, w2, w3⟩ := unp2 ry'
    cases w2
    cases w3
    have ft := fe_fit (g.row (List.mem_of_getElem? e1)) few
    have bb := hb.2 b1 (List.mem_of_getElem? e2)
    refine ⟨T', [_, _], rfl, SqT.of hT, rfl, _, [_], rfl, ?_⟩
    refine ⟨a1, [_, _], rfl, SqT.rd z1, rfl, _, [_], rfl, _, [], rfl, rfl, ?_⟩
    refine ⟨_, [], rfl, ?_⟩
    refine ⟨a2, [_, _], rfl, SqT.rd w1, rfl, _, [_], rfl, _, [], rfl, rfl, rfl, rfl, ?_⟩
    refine ⟨_, rfl, len_le (n := 2) rfl (by decide), fun t2 ht2 => ?_⟩
    have st := same_new (o := .tup [V.int b1.1, V.int 1]) ht2
    refine ⟨_, rfl, p, .ref t2, y1, (b1.1, 1), feHi r1 fs, rfl, rp_span ((hp.keep (s12.trans sm)).ne ht2) upd_same, z3.keep (ExT.of (ExB.of st)), ?_, ft.2, hR _ _ st (.bl _)⟩
    unfold Fit
    dsimp only
    omega
  · have eb := rpta_bool ry'
    rw [eb] at hd
    exact ⟨D, _, rfl, SqL.of hd, _, rfl, k _ (s12.trans sm)⟩
theorem sc_is_possible_answer : FnScope ["table", "bounds", "answer", "ends", "low", "_", "high"] ["table", "bounds", "answer"] (defScope (topS 49)) := ⟨rfl, rfl, rfl, by decide +kernel, rfl, by decide +kernel, by decide +kernel⟩
theorem ok_is_possible_answer (D : DefAt K mg "is_possible_answer" (topS 49) ["table", "bounds", "answer"]) (T : Txt mg) (Z : TxtZ mg) (A1 : mg "any" = none) (TC : TabC K C) (c_check_system : CalX P w K mg base 7 "_check_system" (SpCb C)) (crow_ends : CalX P w K mg base 5 "row_ends" (SpRe C)) (cis_below : C8.Cal P w K mg base 1 "is_below" SpBl []) :
    CalY P w K mg base 8 "is_possible_answer" (SpSy C someB) (topS 49) ["table", "bounds", "answer"] := by
  refine D.calY sc_is_possible_answer (fun vs H Q E h => by obtain ⟨_, _, _, _, _, _, _, _, rfl, _⟩ := h; rfl) fun f cdv A outer s H vs Q E hr h => ?_
  obtain ⟨p, t, u, v, cs, rs, bs, fs, rfl, hp, ht, g, hu, hb, hv, hw, k⟩ := h
  have nd := sc_is_possible_answer.nd
  refine ⟨_, (pss_cons (ps_expr (pe_cX c_check_system hr (by decide) rfl (passes_call (takes_of rfl rfl rfl rfl) (fun _ _ _ _ h => h)) (pa_cons (pv 0) (pa_cons (pv 1) pa_nil))))
      (pss_cons (ps_set (i := 3) nd rfl (.inl rfl) (pe_cX crow_ends hr (by decide) rfl (passes_call (takes_of rfl rfl rfl rfl) (fun _ _ _ _ h => h)) (pa_cons (pv 0) (pa_cons (pv 2) pa_nil))))
      (pss_one (ps_ret (pe_not (pe_callB (cr_any rfl) (by rfl) A1 (by decide +kernel) (pa_cons (pe_lc (own := [("low", 4), ("_", 5), ("high", 6)]) rfl nd (RZ.pi_zipA rfl Z.zip_ (pa_cons (pv 3) (pa_cons (pv 1) pa_nil))) (blkOk_by (N := ["table", "bounds", "answer", "ends", "low", "_", "high"]) (sc := defScope (topS 49)) (by decide +kernel)) (fun _ _ _ _ _ => (pg_tupK (K := K) (n := 2) rfl rfl (pgs_cons (pg_tupK (K := K) (n := 2) rfl rfl (pgs_cons (pg_name (i := 4) nd rfl (.inl rfl)) (pgs_cons (pg_name (i := 5) nd rfl (.inl rfl)) pgs_nil))) (pgs_cons (pg_tupK (K := K) (n := 2) rfl rfl (pgs_cons (pg_name (i := 5) nd rfl (.inl rfl)) (pgs_cons (pg_name (i := 6) nd rfl (.inl rfl)) pgs_nil))) pgs_nil)))) (fun _ _ _ _ _ => pts_nil) (fun _ _ _ _ _ => (C8.pe_c cis_below hr (by decide) rfl (pa_cons (pe_tup (pa_cons (pv 6) (pa_cons pe_int pa_nil))) (pa_cons (pv 4) pa_nil))))) pa_nil))))))), ?_⟩
  walk_at "goD4"
  have few : ∀ f ∈ fs, Few f := fun f hf => (hw.2 f hf).1
  have r8 := g.r8
  refine ⟨_, rfl, _, rfl, p, t, u, cs, rs, bs, rfl, ht, g, hu, hb, fun H1 s1 => ?_⟩
  refine ⟨_, rfl, _, rfl, p, t, v, cs, rs, fs, rfl, hp.keep s1, ht.same s1, g, hv.keep (ExT.of (ExB.of s1)), hw, fun y H2 s2 ry => ?_⟩
  have s12 := s1.trans s2
  dsimp only [tNotV, tCB, tCons]
  refine lc_zipD (p := p) (ds := rs.map (dFE fs)) (fs := bs.map dSp) (es := (rs.zip bs).map fun z => PyData.bool (blB (z.2.2, 1) (feLo z.1 fs))) (by rw [List.length_map, List.length_map, List.length_map, List.length_zip]) (by rw [List.length_map]; omega) (fun R hR => ⟨_, rfl, _, rfl, hR _ _ _ (Same.refl _) ry (hu.keep (ExT.of (ExB.of s12)))⟩) (fun j T' x y d f e' H' hd hf he sm hT rx ry' R hR => ?_) (fun D ys H' hD sm hd ry' => ?_)
  · obtain ⟨r1, e1, rfl⟩ := map_get hd
    obtain ⟨b1, e2, rfl⟩ := map_get hf
    obtain ⟨q3, e3, rfl⟩ := map_get he
    rw [zip_get e1 e2] at e3
    cases e3
    obtain ⟨a1, x1, y1, rfl, z1, z2, z3⟩ := unp2 rx
    obtain ⟨a2, x2, y2, rfl, w1, w2, w3⟩ := unp2 ry'
    cases w2
    cases w3
    have ft := fe_fit (g.row (List.mem_of_getElem? e1)) few
    have bb := hb.2 b1 (List.mem_of_getElem? e2)
    refine ⟨T', [_, _], rfl, SqT.of hT, rfl, _, [_], rfl, ?_⟩
    refine ⟨a1, [_, _], rfl, SqT.rd z1, rfl, _, [_], rfl, _, [], rfl, rfl, ?_⟩
    refine ⟨_, [], rfl, ?_⟩
    refine ⟨a2, [_, _], rfl, SqT.rd w1, rfl, _, [_], rfl, _, [], rfl, rfl, rfl, rfl, ?_⟩
    refine ⟨_, rfl, len_le (n := 2) rfl (by decide), fun t2 ht2 => ?_⟩
    have st := same_new (o := .tup [V.int b1.2, V.int 1]) ht2
    refine ⟨_, rfl, p, .ref t2, x1, (b1.2, 1), feLo r1 fs, rfl, rp_span ((hp.keep (s12.trans sm)).ne ht2) upd_same, z2.keep (ExT.of (ExB.of st)), ?_, ft.1, hR _ _ st (.bl _)⟩
    unfold Fit
    dsimp only
    omega
  · have eb := rpta_bool ry'
    rw [eb] at hd
    exact ⟨D, _, rfl, SqL.of hd, _, rfl, k _ (s12.trans sm)⟩
end
end Cs
set_option maxHeartbeats 4000000
namespace Cs
open PySem L2 PyProof.Rows
local macro_rules | `(tactic| walk_at "goD5") => `(tactic| try dsimp only [gName, tSeq, tAsg, tRet, tLst, tCons, tOp, tTup, tCall, tNil, tC, tDrop, tCB, tPar, tNext, tM1, tJs, tAndV, tFmt, tIfS, tOr, tNot, tB, tTest, tProp])
/-- a drawn stretch -/
def SpStr39 : Sp := fun vs H Q _ => ∃ (p : Addr) (m : Int) (n : Nat), vs = [.ref p, .int m] ∧ 0 < m ∧ m ≤ 4 ∧ PailAt H p n ∧ n < 900000000 ∧
  ∀ (v : V) (q : Int × Int) (H' : Hp), (-10000 ≤ q.1 ∧ q.1 ≤ q.2 ∧ q.2 ≤ 10000) → RpT p H' v (dSp q) → ExB p H H' → PailAt H' p (n + 4) → Q v H'
section
variable {P : Program} {w : World} {K : PySem.W.Frag} {mg : Str → Option Value} {base : Heap}
theorem sc__law_dip : FnScope ["_law_pail_here", "_law_size", "_law_digit", "_law_more"] ["_law_pail_here", "_law_size"] (defScope (topS 53)) := ⟨rfl, rfl, rfl, by decide +kernel, rfl, by decide +kernel, by decide +kernel⟩
theorem ok__law_dip (D : DefAt K mg "_law_dip" (topS 53) ["_law_pail_here", "_law_size"]) (T : Txt mg) : C8.Cal P w K mg base 1 "_law_dip" SpScoop [] := by
  refine D.cal sc__law_dip (fun vs H Q E h => by obtain ⟨p, m, n, rfl, _⟩ := h; rfl) fun f cdv A outer s H vs Q E hr h => ?_
  obtain ⟨p, m, n, rfl, m0, m1, ⟨a, b, c, c0, c1, hp⟩, hn, k⟩ := h
  have nd := sc__law_dip.nd
  refine ⟨_, (pss_cons (ps_asg (pe_op opAdd (pe_ix ix_seq (pv 0) pe_int (fun _ _ => rfl)) pe_int) (pg_sub (pv 0) pe_int set_list))
      (pss_cons (ps_if (pt_cmpR op_gt (pe_ix ix_seq (pv 0) pe_int (fun _ _ => rfl)) pe_int (nomark _)) (pss_cons (ps_asg (pe_callB call_divmod (by rfl) T.divmod_ (by decide +kernel) (pa_cons (pe_ix ix_seq (pv 0) pe_int (fun _ _ => rfl)) (pa_cons (pv 1) pa_nil))) (pg_tup (by rfl) (pgs_cons (pg_sub (pv 0) pe_int set_list) (pgs_cons (pg_name (i := 2) nd rfl (.inl rfl)) pgs_nil))))
      (pss_one (ps_ret (pv 2)))) pss_nil)
      (pss_cons (ps_set (i := 3) nd rfl (.inl rfl) (pe_op opAdd (pe_op opMul pe_int (pe_ix ix_seq (pv 0) pe_int (fun _ _ => rfl))) (pe_op opMul (pe_op opMul pe_int (pe_ix ix_seq (pv 0) pe_int (fun _ _ => rfl))) (pe_ix ix_seq (pv 0) pe_int (fun _ _ => rfl)))))
      (pss_cons (ps_asg (pe_op op_mod (pe_callTy call_int1 (by rfl) T.int_ (by decide +kernel) (pa_cons (pe_op opAdd (pe_op opMul (pe_ix ix_seq (pv 0) pe_int (fun _ _ => rfl)) pe_int) (pv 3)) pa_nil)) pe_int) (pg_sub (pv 0) pe_int set_list))
      (pss_one (ps_ret (pe_op op_mod (pe_callTy call_int1 (by rfl) T.int_ (by decide +kernel) (pa_cons (pe_op op_fdiv (pe_ix ix_seq (pv 0) pe_int (fun _ _ => rfl)) pe_int) pa_nil)) (pv 1)))))))), ?_⟩
  walk_at "es"
  refine ite2 (fun e1 => ?_) (fun e1 => ?_)
  · walk_at "es"
    intro t ht
    walk_at "es"
    refine k _ _ (Int.emod_nonneg _ (by omega)) (Int.emod_lt_of_pos _ m0) (fun b o nb e => ?_) ⟨_, _, _, ?_, ?_, L2.upd_same⟩
    · rw [upd_ne nb]
      refine upd_old ht ?_
      rw [upd_ne nb]
      exact e
    · omega
    · omega
  · walk_at "es"
    refine k _ _ (Int.emod_nonneg _ (by omega)) (Int.emod_lt_of_pos _ m0) (fun b o nb e => ?_) ⟨_, _, _, ?_, ?_, L2.upd_same⟩
    · rw [upd_ne nb, upd_ne nb]
      exact e
    · omega
    · omega
theorem sc__law_any : FnScope ["_law_pail_here", "_law_some"] ["_law_pail_here", "_law_some"] (defScope (topS 54)) := ⟨rfl, rfl, rfl, by decide +kernel, rfl, by decide +kernel, by decide +kernel⟩
theorem ok__law_any (D : DefAt K mg "_law_any" (topS 54) ["_law_pail_here", "_law_some"]) (T : Txt mg) (c_law_dip : C8.Cal P w K mg base 1 "_law_dip" SpScoop []) : C8.Cal P w K mg base 2 "_law_any" SpAny [] := by
  refine D.cal sc__law_any (fun vs H Q E h => by obtain ⟨p, v, ds, n, rfl, _⟩ := h; rfl) fun f cdv A outer s H vs Q E hr h => ?_
  obtain ⟨p, v, ds, n, rfl, r, hl, hp, hn, k⟩ := h
  refine ⟨_, (pss_one (ps_ret (pe_ix ix_seq (pv 1) (C8.pe_c c_law_dip hr (by decide) rfl (pa_cons (pv 0) (pa_cons (pe_callB call_lenA (by rfl) T.len_ (by decide +kernel) (pa_cons (pv 1) pa_nil)) pa_nil))) (fun _ _ => rfl)))), ?_⟩
  cases r with
  | @lst a xs _ na h z ra =>
    walk_at "es"
    have ln := ra.length
    refine ⟨p, (xs.length : Nat), n, rfl, by omega, by omega, hp, hn, fun i H' i0 i1 eb hp' => ?_⟩
    obtain ⟨j, rfl⟩ : ∃ j : Nat, i = (j : Nat) := ⟨i.toNat, by omega⟩
    have hi : j < xs.length := by omega
    obtain ⟨d, hd, rd⟩ := ra.get (List.getElem?_eq_getElem hi)
    refine .inl ⟨a, _, _, xs[j], rfl, rfl, SqL.of (eb _ _ na h), atI_nat (List.getElem?_eq_getElem hi), ?_⟩
    exact k _ d H' (List.mem_of_getElem? hd) (rd.keep eb) eb hp'
theorem sc__law_pail : FnScope ["_law_script", "_law_turn", "_law_mixed", "_law_each", "_law_own", "_law_held"] ["_law_script", "_law_turn"] (defScope (topS 52)) := ⟨rfl, rfl, rfl, by decide +kernel, rfl, by decide +kernel, by decide +kernel⟩
theorem ok__law_pail (D : DefAt K mg "_law_pail" (topS 52) ["_law_script", "_law_turn"]) (T : Txt mg) : C8.Cal P w K mg base 1 "_law_pail" (SpPail K) [] := by
  refine D.cal sc__law_pail (fun vs H Q E h => by obtain ⟨a, ns, i, rfl, _⟩ := h; rfl) fun f cdv A outer s H vs Q E hr h => ?_
  obtain ⟨a, ns, i, rfl, hq, hl, hi, k⟩ := h
  have nd := sc__law_pail.nd
  refine ⟨_, (pss_cons (ps_set (i := 2) nd rfl (.inl rfl) (pe_op opAdd pe_int (pe_op opMul pe_int (pv 1))))
      (pss_cons (ps_for PassesOwn.never rfl (pi_list (pe_slice slAny (pv 0) po_none (po_some pe_int))) (pg_name (i := 3) nd rfl (.inl rfl)) (pss_one (ps_set (i := 2) nd rfl (.inl rfl) (pe_op op_mod (pe_callTy call_int1 (by rfl) T.int_ (by decide +kernel) (pa_cons (pe_op opAdd (pe_op opAdd (pe_op opMul (pv 2) pe_int) (pe_op opMul (pe_callTy call_int1 (by rfl) T.int_ (by decide +kernel) (pa_cons (pv 3) pa_nil)) pe_int)) pe_int) pa_nil)) pe_int))))
      (pss_cons (ps_set (i := 4) nd rfl (.inl rfl) (pe_ifExp (pt_cmpR opLt (pv 1) (pe_callB call_lenA (by rfl) T.len_ (by decide +kernel) (pa_cons (pv 0) pa_nil)) (nomark _)) (pe_callTy call_int1 (by rfl) T.int_ (by decide +kernel) (pa_cons (pe_ix ix_seq (pv 0) (pv 1) (fun _ _ => rfl)) pa_nil)) (pe_op opAdd (pe_op opMul pe_int (pv 1)) pe_int)))
      (pss_cons (ps_set (i := 5) nd rfl (.inl rfl) (pe_ifExp (PW.pt (pw_or (pt_cmpR opLt (pv 4) pe_int (nomark _)) (pw_or1 (pt_cmpR op_ge (pv 4) (pe_op op_pow pe_int pe_int) (nomark _))))) (pe_callB call_abs (by rfl) T.abs_ (by decide +kernel) (pa_cons (pv 4) pa_nil)) pe_int))
      (pss_one (ps_ret (pe_lst (pa_cons (pv 5) (pa_cons (pe_op op_mod (pe_callTy call_int1 (by rfl) T.int_ (by decide +kernel) (pa_cons (pe_op opAdd (pe_op opMul (pv 2) pe_int) (pv 4)) pa_nil)) pe_int) (pa_cons pe_int pa_nil)))))))))), ?_⟩
  walk_at "es"
  refine .inl ⟨a, _, rfl, hq, fun l hl0 => ?_⟩
  have s0 : Same H (upd H l (.lst (cutV (ns.map V.int) none (some 47)))) := same_new hl0
  have hcut : cutV (ns.map V.int) none (some 47) = (ns.take 47).map V.int := by
    unfold cutV
    rw [HT.sIx_none, List.drop_zero, List.map_take]
    by_cases h6 : 47 ≤ ns.length
    · rw [show (47 : Int) = ((47 : Nat) : Int) from rfl, HT.sIx_nat, List.length_map, Nat.min_eq_left h6, Nat.sub_zero]
    · rw [show (47 : Int) = ((47 : Nat) : Int) from rfl, HT.sIx_nat, List.length_map, Nat.min_eq_right (by omega), Nat.sub_zero, List.take_of_length_le (by rw [List.length_map]; omega), List.take_of_length_le (by rw [List.length_map]; omega)]
  rw [hcut] at s0 ⊢
  refine ⟨l, rfl, ⟨_, SqL.of upd_same⟩, for_list (xs := (ns.take 47).map V.int) (fun j σ H' => ∃ m u, σ = [some (.ref a), some (.int (i : Nat)), some (.int m), u, none, none] ∧ 0 ≤ m ∧ m < 2147483497 ∧ Same (upd H l (.lst ((ns.take 47).map V.int))) H')
    ⟨1414213 + 156917 * ((i : Nat) : Int), none, rfl, by omega, by omega, Same.refl _⟩ (fun j σ H' _ ⟨_, _, _, _, _, sm⟩ => SqL.of (sm _ _ upd_same)) ?_ ?_⟩
  · rintro j x σ H' hx ⟨m, u, rfl, m0, m1, sm⟩
    rw [List.getElem?_map] at hx
    obtain ⟨y, hy, rfl⟩ := Option.map_eq_some_iff.mp hx
    walk_at "es"
    exact ⟨Int.emod_nonneg _ (by decide), Int.emod_lt_of_pos _ (by decide), sm⟩
  · rintro σ H' ⟨m, u, rfl, m0, m1, sm⟩
    have s1 := s0.trans sm
    have hq' : SqL K H' a (ns.map V.int) := by
      rcases hq with (h | ⟨o, h⟩) | h
      · exact .inl (.inl (s1 _ _ h))
      · exact .inl (.inr ⟨o, s1 _ _ h⟩)
      · exact .inr h
    walk_at "e"
    walk_at "e"
    refine .inl ⟨a, _, rfl, .inl hq', ?_⟩
    refine .inl ⟨_, _, rfl, rfl, _, rfl, ?_⟩
    have fin : ∀ x : Int, ∀ b : Int, ∀ p, H' p = none → Q (.ref p) (upd H' p (.lst [.int x, .int b, .int 0])) := fun x b p hp => k p _ (s1.free hp) (s1.trans (same_new hp)) ⟨x, b, 0, by decide, by decide, upd_same⟩
    have hl2 : (List.map V.int ns).length = ns.length := List.length_map ..
    refine ite2 (fun e1 => ?_) (fun e1 => ?_)
    · have e2 : i < ns.length := by
        have z := of_decide_eq_true e1
        rw [hl2] at z
        omega
      walk_at "e"
      walk_at "e"
      refine .inl ⟨a, _, _, .int ns[i], rfl, rfl, hq', atI_nat (by rw [List.getElem?_map, List.getElem?_eq_getElem e2]; rfl), ?_⟩
      refine .inl ⟨_, rfl, ?_⟩
      refine ⟨_, rfl, .inl ⟨_, _, rfl, rfl, _, rfl, ?_⟩⟩
      refine ite2 (fun e5 => ?_) (fun e5 => ?_) <;> clear e5
      · refine ⟨_, rfl, _, rfl, ?_⟩
        walk_at "es"
        exact ⟨len_le (n := 3) rfl (by decide), fin _ _⟩
      · refine ⟨_, rfl, _, _, rfl, rfl, ⟨by decide, by decide, by decide⟩, _, _, rfl, rfl, _, rfl, ?_⟩
        refine ite2 (fun e5 => ?_) (fun e5 => ?_) <;> clear e5
        · refine ⟨_, rfl, _, rfl, ?_⟩
          walk_at "es"
          exact ⟨len_le (n := 3) rfl (by decide), fin _ _⟩
        · walk_at "es"
          exact ⟨len_le (n := 3) rfl (by decide), fin _ _⟩
    · refine ⟨_, rfl, .inl ⟨_, _, rfl, rfl, .inr ⟨by omega, by omega⟩, .inl ⟨_, _, rfl, rfl, ?_⟩⟩⟩
      refine ⟨_, rfl, .inl ⟨_, _, rfl, rfl, _, rfl, ?_⟩⟩
      refine ite2 (fun e5 => ?_) (fun e5 => ?_) <;> clear e5
      · refine ⟨_, rfl, _, rfl, ?_⟩
        walk_at "es"
        exact ⟨len_le (n := 3) rfl (by decide), fin _ _⟩
      · refine ⟨_, rfl, _, _, rfl, rfl, ⟨by decide, by decide, by decide⟩, _, _, rfl, rfl, _, rfl, ?_⟩
        refine ite2 (fun e5 => ?_) (fun e5 => ?_) <;> clear e5
        · refine ⟨_, rfl, _, rfl, ?_⟩
          walk_at "es"
          exact ⟨len_le (n := 3) rfl (by decide), fin _ _⟩
        · walk_at "es"
          exact ⟨len_le (n := 3) rfl (by decide), fin _ _⟩
theorem sc__law_stretch : FnScope ["_law_pail_here", "_law_wide", "_law_low"] ["_law_pail_here", "_law_wide"] (defScope (topS 55)) := ⟨rfl, rfl, rfl, by decide +kernel, rfl, by decide +kernel, by decide +kernel⟩
theorem ok__law_stretch (D : DefAt K mg "_law_stretch" (topS 55) ["_law_pail_here", "_law_wide"]) (T : Txt mg) (c_law_dip : C8.Cal P w K mg base 1 "_law_dip" SpScoop []) (c_law_any : C8.Cal P w K mg base 2 "_law_any" SpAny []) : C8.Cal P w K mg base 3 "_law_stretch" SpStr39 [] := by
  refine D.cal sc__law_stretch (fun vs H Q E h => by obtain ⟨p, m, n, rfl, _⟩ := h; rfl) fun f cdv A outer s H vs Q E hr h => ?_
  obtain ⟨p, m, n, rfl, m0, m1, hp, hn, k⟩ := h
  have nd := sc__law_stretch.nd
  have hu64 := hr.units
  refine ⟨_, (pss_cons (ps_set (i := 2) nd rfl (.inl rfl) (pe_op op_sub (C8.pe_c c_law_dip hr (by decide) rfl (pa_cons (pv 0) (pa_cons pe_int pa_nil))) pe_int))
      (pss_cons (ps_if (pt_cmpR (opEq hu64) (C8.pe_c c_law_dip hr (by decide) rfl (pa_cons (pv 0) (pa_cons pe_int pa_nil))) pe_int (nomark _)) (pss_one (ps_set (i := 2) nd rfl (.inl rfl) (C8.pe_c c_law_any hr (by decide) rfl (pa_cons (pv 0) (pa_cons (pe_lst (pa_cons (pe_un un_neg pe_int) (pa_cons pe_int (pa_cons (pe_un un_neg pe_int) (pa_cons pe_int pa_nil))))) pa_nil))))) pss_nil)
      (pss_one (ps_ret (pe_tup (pa_cons (pv 2) (pa_cons (pe_op opAdd (pv 2) (C8.pe_c c_law_dip hr (by decide) rfl (pa_cons (pv 0) (pa_cons (pv 1) pa_nil)))) pa_nil))))))), ?_⟩
  walk_at "goD5"
  refine ⟨_, rfl, p, 9, n, rfl, by decide, by decide, hp, by omega, fun r H1 r0 r1 e1 hp1 => ⟨_, _, rfl, rfl, ?_⟩⟩
  refine ⟨_, rfl, p, 30, _, rfl, by decide, by decide, hp1, by omega, fun r2 H2 r20 r21 e2 hp2 => .inl ⟨rfl, _, rfl, ?_⟩⟩
  refine ite2 (fun _ => ?_) (fun _ => ?_)
  · refine ⟨_, rfl, _, rfl, _, rfl, len_le (n := 4) rfl (by decide), fun l hl => ?_⟩
    have s3 := same_new (o := .lst [V.int (-10000), V.int 9997, V.int (-1000), V.int 500]) hl
    refine ⟨p, .ref l, [.int (-10000), .int 9997, .int (-1000), .int 500], n + 2, rfl, .lst (hp2.has.ne hl) upd_same (by exact Nat.le_of_ble_eq_true rfl) (.cons (.int _) (.cons (.int _) (.cons (.int _) (.cons (.int _) .nil)))), by exact Nat.le_of_ble_eq_true rfl, hp2.keep s3, by omega, fun u d H3 hd rd e3 hp3 => ?_⟩
    obtain ⟨a, rfl, ha⟩ : ∃ a : Int, d = .int a ∧ -10000 ≤ a ∧ a ≤ 9997 := by
      simp only [List.mem_cons, List.not_mem_nil, or_false] at hd
      rcases hd with rfl | rfl | rfl | rfl <;> exact ⟨_, rfl, by decide, by decide⟩
    rw [rd.int_inv]
    refine ⟨_, rfl, _, rfl, _, rfl, _, rfl, p, m, n + 3, rfl, m0, by omega, hp3, by omega, fun r4 H4 r40 r41 e4 hp4 => .inl ⟨_, _, rfl, rfl, len_le (n := 2) rfl (by decide), fun t ht => ?_⟩⟩
    exact k _ (a, a + r4) _ ⟨ha.1, by show a ≤ a + r4; omega, by show a + r4 ≤ 10000; omega⟩ (rp_span (hp4.has.ne ht) upd_same) (e1.trans (e2.trans ((ExB.of s3).trans (e3.trans (e4.trans (ExB.new ht)))))) (hp4.put (hp4.has.ne ht))
  · refine ⟨_, rfl, _, rfl, _, rfl, _, rfl, p, m, n + 2, rfl, m0, by omega, hp2, by omega, fun r4 H4 r40 r41 e4 hp4 => .inl ⟨_, _, rfl, rfl, len_le (n := 2) rfl (by decide), fun t ht => ?_⟩⟩
    exact k _ (r - 4, r - 4 + r4) _ ⟨by show -10000 ≤ r - 4; omega, by show r - 4 ≤ r - 4 + r4; omega, by show r - 4 + r4 ≤ 10000; omega⟩ (rp_span (hp4.has.ne ht) upd_same) (e1.trans (e2.trans (e4.trans (ExB.new ht)))) ((hp4.put (hp4.has.ne ht)).more (by omega))
end
end Cs
set_option maxHeartbeats 4000000
/-! k39: the law's own fractions -/
namespace Cs
open PySem L2 L2H PyProof.Rows
local macro_rules | `(tactic| walk_at "goD6") => `(tactic| try dsimp only [gName, tSeq, tAsg, tRet, tLst, tCons, tOp, tTup, tCall, tNil, tC, tDrop, tCB, tPar, tNext, tM1, tJs, tAndV, tFmt, tIfS, tOr, tNot, tB, tTest, tProp])
local macro_rules | `(tactic| walk_at "flat7") => `(tactic| try simp only [List.set_cons_succ, List.set_cons_zero])
/-! sums over six -/
def t6 (f : Int × Int) : Int := f.1 * (6 / f.2)
def csf (zs : List ((Int × Int) × Int)) (f : List Int) : List Int := zs.foldl (fun f z => f.flatMap fun x => [x + z.1.1 * z.2, x + z.1.2 * z.2]) f
theorem csf_snoc {zs : List ((Int × Int) × Int)} {z : (Int × Int) × Int} {f : List Int} : csf (zs ++ [z]) f = (csf zs f).flatMap fun x => [x + z.1.1 * z.2, x + z.1.2 * z.2] := by
  unfold csf
  rw [List.foldl_append]
  rfl
theorem csf_mem : ∀ (zs : List ((Int × Int) × Int)) (f g : List Int), (∀ y, y ∈ f ↔ y ∈ g) → ∀ y, y ∈ csf zs f ↔ y ∈ csum zs g
  | [], f, g, h, y => h y
  | z :: zs, f, g, h, y => csf_mem zs (f.flatMap fun x => [x + z.1.1 * z.2, x + z.1.2 * z.2]) ((g.map fun x => x + z.1.1 * z.2) ++ g.map fun x => x + z.1.2 * z.2) (fun y => by
      simp only [List.mem_flatMap, List.mem_cons, List.not_mem_nil, or_false, List.mem_append, List.mem_map]
      constructor
      · rintro ⟨x, hx, rfl | rfl⟩
        · exact .inl ⟨x, (h x).mp hx, rfl⟩
        · exact .inr ⟨x, (h x).mp hx, rfl⟩
      · rintro (⟨x, hx, rfl⟩ | ⟨x, hx, rfl⟩)
        · exact ⟨x, (h x).mpr hx, .inl rfl⟩
        · exact ⟨x, (h x).mpr hx, .inr rfl⟩) y
theorem csf_lo {qs : List (Int × Int)} {ws : List Int} : wLo qs ws ∈ csf (qs.zip ws) [0] ∧ wHi qs ws ∈ csf (qs.zip ws) [0] ∧ ∀ y ∈ csf (qs.zip ws) [0], wLo qs ws ≤ y ∧ y ≤ wHi qs ws := by
  obtain ⟨h1, h2, h3⟩ := @csum_lo qs ws
  have m := csf_mem (qs.zip ws) [0] [0] fun _ => Iff.rfl
  exact ⟨(m _).mpr h1, (m _).mpr h2, fun y hy => h3 y ((m y).mp hy)⟩
theorem flat2_len {f : List Int} {g h : Int → Int} : (f.flatMap fun x => [g x, h x]).length = f.length * 2 := by
  induction f with
  | nil => rfl
  | cons x f ih =>
    rw [List.flatMap_cons, List.length_append, ih, List.length_cons]
    simp only [List.length_cons, List.length_nil]
    omega
theorem flat2_map {f : List Int} {g h : Int → Int} {e : Int → PyData} : (f.flatMap fun x => [g x, h x]).map e = f.flatMap fun x => [e (g x), e (h x)] := by
  rw [List.map_flatMap]
  rfl
theorem t6_small {f : Int × Int} (h : Few f) : -24 ≤ t6 f ∧ t6 f ≤ 24 := by
  obtain ⟨h1, h2, h3⟩ := h
  unfold t6
  obtain ⟨z, hz⟩ : ∃ z, z = f.1 := ⟨_, rfl⟩
  rw [← hz] at h2 h3 ⊢
  rcases h1 with h | h | h <;> rw [h] <;> omega
theorem t6_div {f : Int × Int} (h : Few f) : (6 / f.2) * f.2 = 6 ∧ 0 < f.2 ∧ f.2 ≤ 3 := by
  rcases h.1 with h | h | h <;> rw [h] <;> decide
theorem red_six {f : Int × Int} (h : Few f) (n : Int) : red (n * f.1) f.2 = red (n * t6 f) 6 := by
  obtain ⟨h1, h2, h3⟩ := t6_div h
  refine red_eq h2 (by decide) ?_
  unfold t6
  calc n * f.1 * 6 = n * f.1 * ((6 / f.2) * f.2) := by rw [h1]
    _ = n * (f.1 * (6 / f.2)) * f.2 := by ac_rfl
theorem red_add6 {a b : Int} : red ((red a 6).1 * (red b 6).2 + (red b 6).1 * (red a 6).2) ((red a 6).2 * (red b 6).2) = red (a + b) 6 := by
  rw [red_pls (by decide) (by decide)]
  refine red_eq (by decide) (by decide) ?_
  omega
theorem red_bot {a : Int} {b : Int} (hb : 0 < b) : 0 < (red a b).2 ∧ (red a b).2 ≤ b := by
  have g := @gcd_pos a b hb
  have p := @red_pos a b hb
  have e := @red_snd a b
  refine ⟨p, ?_⟩
  generalize (red a b).2 = y at *
  generalize (Int.gcd a b : Int) = k at *
  have := Int.mul_le_mul_of_nonneg_left (show (1 : Int) ≤ k by omega) (show 0 ≤ y by omega)
  omega
def SpPt : Sp := fun vs H Q _ => ∃ (p : Addr) (a b : Int), vs = [.int a, .int b] ∧ Has p H ∧ 0 < b ∧ b ≤ 200 ∧ ∀ y H', Same H H' → RpT p H' y (dSp (red a b)) → Q y H'
def SpPl : Sp := fun vs H Q _ => ∃ (p : Addr) (v u : V) (f g : Int × Int), vs = [v, u] ∧ Has p H ∧ RpT p H v (dSp f) ∧ RpT p H u (dSp g) ∧ 0 < f.2 ∧ f.2 ≤ 6 ∧ 0 < g.2 ∧ g.2 ≤ 6 ∧
  ∀ y H', Same H H' → RpT p H' y (dSp (red (f.1 * g.2 + g.1 * f.2) (f.2 * g.2))) → Q y H'
def d6 (n : Int) : PyData := dSp (red n 6)
def SpSm39 : Sp := fun vs H Q _ => ∃ (p : Addr) (v u : V) (qs fs : List (Int × Int)), vs = [v, u] ∧ Has p H ∧ RpT p H v (.tuple (qs.map dSp)) ∧ RpT p H u (.tuple (fs.map dSp)) ∧ qs.length = fs.length ∧ qs.length ≤ 4 ∧ (∀ q ∈ qs, -10000 ≤ q.1 ∧ q.1 ≤ q.2 ∧ q.2 ≤ 10000) ∧ (∀ f ∈ fs, Few f) ∧
  ∀ l ys H', l ≠ p → Same H H' → H' l = some (.lst ys) → RpTA p H' ys ((csf (qs.zip (fs.map t6)) [0]).map d6) → Q (.ref l) H'
def SpLs39 : Sp := fun vs H Q _ => ∃ (p l : Addr) (ys : List V) (F : List Int), vs = [.ref l] ∧ H l = some (.lst ys) ∧ RpTA p H ys (F.map d6) ∧ 1 ≤ F.length ∧ (∀ x ∈ F, -100000000 ≤ x ∧ x ≤ 100000000) ∧
  ∀ y m, m ∈ F → (∀ x ∈ F, m ≤ x) → RpT p H y (d6 m) → Q y H
theorem gcd_turn {x y : Int} (hx : 0 ≤ x) (hy : 0 ≤ y) : Int.gcd y (x % y) = Int.gcd x y := by
  obtain ⟨a, rfl⟩ := Int.eq_ofNat_of_zero_le hx
  obtain ⟨b, rfl⟩ := Int.eq_ofNat_of_zero_le hy
  rw [← Int.natCast_emod]
  show Nat.gcd b (a % b) = Nat.gcd a b
  rw [Nat.gcd_comm b, ← Nat.gcd_rec, Nat.gcd_comm]
section
variable {P : Program} {w : World} {K : PySem.W.Frag} {mg : Str → Option Value} {base : Heap} {C : Addr}
theorem sc__law_part : FnScope ["_law_top", "_law_bottom", "_law_one", "_law_other", "_law_turn"] ["_law_top", "_law_bottom"] (defScope (topS 58)) := ⟨rfl, rfl, rfl, by decide +kernel, rfl, by decide +kernel, by decide +kernel⟩
theorem ok__law_part (D : DefAt K mg "_law_part" (topS 58) ["_law_top", "_law_bottom"]) (T : Txt mg) : C8.Cal P w K mg base 1 "_law_part" SpPt [] := by
  refine D.cal sc__law_part (fun vs H Q E h => by obtain ⟨p, a, b, rfl, _⟩ := h; rfl) fun f cdv A outer s H vs Q E hr h => ?_
  obtain ⟨p, a, b, rfl, hp, hb, hb2, k⟩ := h
  have nd := sc__law_part.nd
  refine ⟨_, (pss_cons (ps_par (i := 2) (j := 3) (by rfl) nd rfl rfl (by decide) rfl rfl (pa_cons (pe_callB call_abs (by rfl) T.abs_ (by decide +kernel) (pa_cons (pv 0) pa_nil)) (pa_cons (pv 1) pa_nil)) (by rfl))
      (pss_cons (ps_for PassesOwn.never rfl (pi_range1 rfl T.range_ (pa_cons pe_int pa_nil)) (pg_name (i := 4) nd rfl (.inl rfl)) (pss_one (ps_asg (pe_ifExp (pt_cmpR op_gt (pv 3) pe_int (nomark _)) (pe_tup (pa_cons (pv 3) (pa_cons (pe_op op_mod (pe_callTy call_int1 (by rfl) T.int_ (by decide +kernel) (pa_cons (pv 2) pa_nil)) (pv 3)) pa_nil))) (pe_tup (pa_cons (pv 2) (pa_cons (pv 3) pa_nil)))) (pg_tup (by rfl) (pgs_cons (pg_name (i := 2) nd rfl (.inl rfl)) (pgs_cons (pg_name (i := 3) nd rfl (.inl rfl)) pgs_nil))))))
      (pss_one (ps_ret (pe_tup (pa_cons (pe_op op_fdiv (pv 0) (pv 2)) (pa_cons (pe_op op_fdiv (pv 1) (pv 2)) pa_nil))))))), ?_⟩
  walk_at "goD6"
  refine ⟨_, rfl, a, rfl, _, rfl, _, _, rfl, ?_⟩
  walk_at "flat7"
  refine ⟨200, rfl, by decide, by decide, ?_⟩
  have h0 : ∃ q : Int, (if a < 0 then -a else a) = q ∧ 0 ≤ q ∧ Int.gcd q b = Int.gcd a b := by
    by_cases z : a < 0
    · exact ⟨-a, if_pos z, by omega, Int.neg_gcd⟩
    · exact ⟨a, if_neg z, by omega, rfl⟩
  obtain ⟨q, eq, q0, qg⟩ := h0
  rw [eq]
  refine for_range (fun i σ H' => ∃ (x y : Int) (u : Option V), σ = [some (.int a), some (.int b), some (.int x), some (.int y), u] ∧ 0 ≤ x ∧ 0 ≤ y ∧ (y = 0 ∨ y + i ≤ b) ∧ Int.gcd x y = Int.gcd a b ∧ Same H H') ⟨q, b, none, rfl, q0, by omega, .inr (by omega), qg, Same.refl _⟩ ?_ ?_
  · rintro i σ H' hi ⟨x, y, u, rfl, x0, y0, yi, gx, sm⟩
    walk_at "goD6"
    walk_at "flat7"
    refine ⟨_, rfl, _, _, rfl, rfl, _, rfl, ?_⟩
    refine ite2 (fun e1 => ?_) (fun e1 => ?_)
    · have yp : 0 < y := of_decide_eq_true e1
      refine ⟨_, rfl, _, rfl, .inl ⟨_, rfl, _, rfl, _, _, rfl, rfl, yp, len_le (n := 2) rfl (by decide), fun t ht => ?_⟩⟩
      refine ⟨t, [_, _], rfl, SqT.of upd_same, rfl, _, [_], rfl, _, [], rfl, rfl, ?_⟩
      have m1 := Int.emod_nonneg x (show y ≠ 0 by omega)
      have m2 := Int.emod_lt_of_pos x yp
      exact ⟨y, x % y, _, rfl, by omega, m1, by omega, (gcd_turn x0 y0).trans gx, sm.trans (same_new ht)⟩
    · have yz : ¬ 0 < y := of_decide_eq_false (eq_false_of_ne_true e1)
      refine ⟨_, rfl, _, rfl, len_le (n := 2) rfl (by decide), fun t ht => ?_⟩
      refine ⟨t, [_, _], rfl, SqT.of upd_same, rfl, _, [_], rfl, _, [], rfl, rfl, ?_⟩
      exact ⟨x, y, _, rfl, x0, y0, by omega, gx, sm.trans (same_new ht)⟩
  · rintro σ H' ⟨x, y, u, rfl, x0, y0, yi, gx, sm⟩
    have y2 : y = 0 := by omega
    subst y2
    have g1 := @gcd_pos a b hb
    have g2 : (Int.gcd a b : Int) ≤ b := Int.le_of_dvd hb (Int.gcd_dvd_right a b)
    have ex : x = (Int.gcd a b : Int) := by
      rw [← gx]
      show x = (Nat.gcd x.natAbs 0 : Nat)
      rw [Nat.gcd_zero_right]
      omega
    walk_at "goD6"
    have cd : ∀ z, CDiv z x := fun z => ⟨by omega, by omega⟩
    refine ⟨_, rfl, _, rfl, _, _, rfl, rfl, cd _, _, rfl, _, rfl, _, _, rfl, rfl, cd _, len_le (n := 2) rfl (by decide), fun t ht => ?_⟩
    rw [ex]
    exact k _ _ (sm.trans (same_new ht)) (rp_span (a := (red a b).1) (b := (red a b).2) ((hp.keep sm).ne ht) upd_same)
theorem sc__law_plus : FnScope ["_law_one", "_law_two"] ["_law_one", "_law_two"] (defScope (topS 59)) := ⟨rfl, rfl, rfl, by decide +kernel, rfl, by decide +kernel, by decide +kernel⟩
theorem ok__law_plus (D : DefAt K mg "_law_plus" (topS 59) ["_law_one", "_law_two"]) (T : Txt mg) (c_law_part : C8.Cal P w K mg base 1 "_law_part" SpPt []) : C8.Cal P w K mg base 2 "_law_plus" SpPl [] := by
  refine D.cal sc__law_plus (fun vs H Q E h => by obtain ⟨p, v, u, f, g, rfl, _⟩ := h; rfl) fun fn cdv A outer s H vs Q E hr h => ?_
  obtain ⟨p, v, u, f, g, rfl, hp, r1, r2, f1, f2, g1, g2, k⟩ := h
  refine ⟨_, (pss_one (ps_ret (C8.pe_c c_law_part hr (by decide) rfl (pa_cons (pe_op opAdd (pe_op opMul (pe_ix ix_seq (pv 0) pe_int (fun _ _ => rfl)) (pe_ix ix_seq (pv 1) pe_int (fun _ _ => rfl))) (pe_op opMul (pe_ix ix_seq (pv 1) pe_int (fun _ _ => rfl)) (pe_ix ix_seq (pv 0) pe_int (fun _ _ => rfl)))) (pa_cons (pe_op opMul (pe_ix ix_seq (pv 0) pe_int (fun _ _ => rfl)) (pe_ix ix_seq (pv 1) pe_int (fun _ _ => rfl))) pa_nil))))), ?_⟩
  walk_at "goD6"
  obtain ⟨a1, x1, z1, rfl, m1, m2, m3⟩ := unp2 r1
  obtain ⟨a2, x2, z2, rfl, j1, j2, j3⟩ := unp2 r2
  cases m2
  cases m3
  cases j2
  cases j3
  have i1 : ∀ K' : VK, K' (.int f.1) H → rIx K (.ref a1) (.int 0) H K' := fun K' q => .inr (.inl ⟨a1, _, 0, _, rfl, rfl, SqT.rd m1, atI_nat (j := 0) rfl, q⟩)
  have i2 : ∀ K' : VK, K' (.int f.2) H → rIx K (.ref a1) (.int 1) H K' := fun K' q => .inr (.inl ⟨a1, _, 1, _, rfl, rfl, SqT.rd m1, atI_nat (j := 1) rfl, q⟩)
  have i3 : ∀ K' : VK, K' (.int g.1) H → rIx K (.ref a2) (.int 0) H K' := fun K' q => .inr (.inl ⟨a2, _, 0, _, rfl, rfl, SqT.rd j1, atI_nat (j := 0) rfl, q⟩)
  have i4 : ∀ K' : VK, K' (.int g.2) H → rIx K (.ref a2) (.int 1) H K' := fun K' q => .inr (.inl ⟨a2, _, 1, _, rfl, rfl, SqT.rd j1, atI_nat (j := 1) rfl, q⟩)
  have b1 := Int.mul_pos f1 g1
  have b2 : f.2 * g.2 ≤ 6 * 6 := Int.mul_le_mul f2 g2 (by omega) (by omega)
  refine ⟨_, rfl, i1 _ ⟨_, rfl, i4 _ (.inl ⟨_, _, rfl, rfl, .inr ⟨by omega, by omega⟩, ⟨_, rfl, i3 _ ⟨_, rfl, i2 _ (.inl ⟨_, _, rfl, rfl, .inr ⟨by omega, by omega⟩, .inl ⟨_, _, rfl, rfl, ?_⟩⟩)⟩⟩⟩)⟩⟩
  refine ⟨_, rfl, i2 _ ⟨_, rfl, i4 _ (.inl ⟨_, _, rfl, rfl, .inr ⟨by omega, by omega⟩, p, _, _, rfl, hp, b1, by omega, fun y H1 s1 ry => k y H1 s1 ry⟩)⟩⟩
end
end Cs
set_option maxHeartbeats 4000000
/-! k39: all sums, the least of them -/
namespace Cs
open PySem L2 L2H PyProof.Rows
local macro_rules | `(tactic| walk_at "goD8") => `(tactic| try dsimp only [gName, tSeq, tAsg, tRet, tLst, tCons, tOp, tTup, tCall, tNil, tC, tDrop, tCB, tPar, tNext, tM1, tJs, tAndV, tFmt, tIfS, tOr, tNot, tB, tTest, tProp])
local macro_rules | `(tactic| walk_at "flat9") => `(tactic| try simp only [List.set_cons_succ, List.set_cons_zero])
section
variable {P : Program} {w : World} {K : PySem.W.Frag} {mg : Str → Option Value} {base : Heap} {C : Addr}
theorem sc__law_least : FnScope ["_law_some", "_law_found", "_law_each"] ["_law_some"] (defScope (topS 61)) := ⟨rfl, rfl, rfl, by decide +kernel, rfl, by decide +kernel, by decide +kernel⟩
theorem ok__law_least (D : DefAt K mg "_law_least" (topS 61) ["_law_some"]) : C8.Cal P w K mg base 1 "_law_least" SpLs39 [] := by
  refine D.cal sc__law_least (fun vs H Q E h => by obtain ⟨p, l, ys, F, rfl, _⟩ := h; rfl) fun fn cdv A outer s H vs Q E hr h => ?_
  obtain ⟨p, l, ys, F, rfl, hl, ry, h1, hb, k⟩ := h
  have nd := sc__law_least.nd
  have ln := ry.length
  rw [List.length_map] at ln
  refine ⟨_, (pss_cons (ps_set (i := 1) nd rfl (.inl rfl) (pe_ix ix_seq (pv 0) pe_int (fun _ _ => rfl)))
      (pss_cons (ps_for PassesOwn.never rfl (pi_list (pv 0)) (pg_name (i := 2) nd rfl (.inl rfl)) (pss_one (ps_set (i := 1) nd rfl (.inl rfl) (pe_ifExp (pt_cmpR opLt (pe_op opMul (pe_ix ix_seq (pv 2) pe_int (fun _ _ => rfl)) (pe_ix ix_seq (pv 1) pe_int (fun _ _ => rfl))) (pe_op opMul (pe_ix ix_seq (pv 1) pe_int (fun _ _ => rfl)) (pe_ix ix_seq (pv 2) pe_int (fun _ _ => rfl))) (nomark _)) (pv 2) (pv 1)))))
      (pss_one (ps_ret (pv 1))))), ?_⟩
  walk_at "goD8"
  have bd : ∀ x ∈ F, Fit (red x 6) := fun x hx => by
    obtain ⟨a, b⟩ := hb x hx
    exact red_fit (by decide) (by omega) (by omega) (by decide)
  cases F with
  | nil => simp at h1
  | cons m0 F' =>
  obtain ⟨v0, e0, r0⟩ := ry.at_ (i := 0) (d := d6 m0) rfl
  refine ⟨_, rfl, .inl ⟨l, _, 0, v0, rfl, rfl, SqL.of hl, atI_nat (j := 0) e0, ?_⟩⟩
  walk_at "flat9"
  refine ⟨_, rfl, l, rfl, ⟨_, SqL.of hl⟩, for_list (xs := ys) (fun i σ H' => ∃ (y : V) (u : Option V) (m : Int), σ = [some (.ref l), some y, u] ∧ RpT p H y (d6 m) ∧ m ∈ m0 :: F' ∧ (∀ x ∈ (m0 :: F').take i, m ≤ x) ∧ H' = H) ⟨v0, none, m0, rfl, r0, List.mem_cons_self, fun x hx => by simp at hx, rfl⟩ (fun i σ H' _ ⟨_, _, _, _, _, _, _, e⟩ => by rw [e]; exact SqL.of hl) ?_ ?_⟩
  · rintro i x σ H' hx ⟨y, u, m, rfl, rm, mF, ml, rfl⟩
    obtain ⟨d, hd, rd⟩ := ry.get hx
    obtain ⟨n, en, rfl⟩ := map_get hd
    have nF := List.mem_of_getElem? en
    have ts := take_snoc en
    obtain ⟨⟨b1, b2⟩, b3, b4⟩ := bd n nF
    obtain ⟨⟨c1, c2⟩, c3, c4⟩ := bd m mF
    have rm' := rm
    have rd' := rd
    obtain ⟨a1, x1, z1, rfl, m1, m2, m3⟩ := unp2 rd
    obtain ⟨a2, x2, z2, rfl, j1, j2, j3⟩ := unp2 rm
    cases m2
    cases m3
    cases j2
    cases j3
    have i1 : ∀ K' : VK, K' (.int (red n 6).1) H' → rIx K (.ref a1) (.int 0) H' K' := fun K' q => .inr (.inl ⟨a1, _, 0, _, rfl, rfl, SqT.rd m1, atI_nat (j := 0) rfl, q⟩)
    have i2 : ∀ K' : VK, K' (.int (red n 6).2) H' → rIx K (.ref a1) (.int 1) H' K' := fun K' q => .inr (.inl ⟨a1, _, 1, _, rfl, rfl, SqT.rd m1, atI_nat (j := 1) rfl, q⟩)
    have i3 : ∀ K' : VK, K' (.int (red m 6).1) H' → rIx K (.ref a2) (.int 0) H' K' := fun K' q => .inr (.inl ⟨a2, _, 0, _, rfl, rfl, SqT.rd j1, atI_nat (j := 0) rfl, q⟩)
    have i4 : ∀ K' : VK, K' (.int (red m 6).2) H' → rIx K (.ref a2) (.int 1) H' K' := fun K' q => .inr (.inl ⟨a2, _, 1, _, rfl, rfl, SqT.rd j1, atI_nat (j := 1) rfl, q⟩)
    walk_at "goD8"
    walk_at "flat9"
    refine ⟨_, rfl, i1 _ ⟨_, rfl, i4 _ (.inl ⟨_, _, rfl, rfl, .inl ⟨by omega, by omega⟩, ⟨_, rfl, i3 _ ⟨_, rfl, i2 _ (.inl ⟨_, _, rfl, rfl, .inl ⟨by omega, by omega⟩, .inl ⟨_, _, rfl, rfl, _, rfl, ?_⟩⟩)⟩⟩⟩)⟩⟩
    refine ite2 (fun e1 => ?_) (fun e1 => ?_)
    · have lt : n < m := (red_lt (b := 6) (by decide)).mp (of_decide_eq_true e1)
      refine ⟨_, rfl, ?_⟩
      refine ⟨.ref a1, some (.ref a1), n, rfl, rd', nF, fun x hx => ?_, rfl⟩
      rw [ts] at hx
      rcases List.mem_append.mp hx with hx | hx
      · have := ml x hx
        omega
      · rw [List.mem_singleton.mp hx]
        omega
    · have lt : ¬ n < m := fun z => of_decide_eq_false (eq_false_of_ne_true e1) ((red_lt (b := 6) (by decide)).mpr z)
      refine ⟨_, rfl, ?_⟩
      refine ⟨.ref a2, some (.ref a1), m, rfl, rm', mF, fun x hx => ?_, rfl⟩
      rw [ts] at hx
      rcases List.mem_append.mp hx with hx | hx
      · exact ml x hx
      · rw [List.mem_singleton.mp hx]
        omega
  · rintro σ H' ⟨y, u, m, rfl, rm, mF, ml, rfl⟩
    rw [List.take_of_length_le (by omega)] at ml
    exact ⟨_, rfl, k y m mF ml rm⟩
theorem sc__law_sums : FnScope ["_law_stretches", "_law_shares", "_law_found", "_law_stretch_here", "_law_share", "_law_later", "_law_each", "_law_number"] ["_law_stretches", "_law_shares"] (defScope (topS 60)) := ⟨rfl, rfl, rfl, by decide +kernel, rfl, by decide +kernel, by decide +kernel⟩
theorem ok__law_sums (D : DefAt K mg "_law_sums" (topS 60) ["_law_stretches", "_law_shares"]) (T : Txt mg) (Z : TxtZ mg) (c_law_part : C8.Cal P w K mg base 1 "_law_part" SpPt []) (c_law_plus : C8.Cal P w K mg base 2 "_law_plus" SpPl []) : C8.Cal P w K mg base 3 "_law_sums" SpSm39 [] := by
  refine D.cal sc__law_sums (fun vs H Q E h => by obtain ⟨p, v, u, qs, fs, rfl, _⟩ := h; rfl) fun fn cdv A outer s H vs Q E hr h => ?_
  obtain ⟨p, v, u, qs, fs, rfl, hp, hv, hu, hl, h4, hq, hf, k⟩ := h
  have nd := sc__law_sums.nd
  refine ⟨_, (pss_cons (ps_set (i := 2) nd rfl (.inl rfl) (pe_lst (pa_cons (pe_tup (pa_cons pe_int (pa_cons pe_int pa_nil))) pa_nil)))
      (pss_cons (ps_for PassesOwn.never rfl (RZ.pi_zipA rfl Z.zip_ (pa_cons (pv 0) (pa_cons (pv 1) pa_nil))) (pg_tup (by rfl) (pgs_cons (pg_name (i := 3) nd rfl (.inl rfl)) (pgs_cons (pg_name (i := 4) nd rfl (.inr rfl)) pgs_nil))) (pss_cons (ps_set (i := 5) nd rfl (.inl rfl) (pe_lst pa_nil))
      (pss_cons (ps_for PassesOwn.never rfl (pi_list (pv 2)) (pg_name (i := 6) nd rfl (.inr rfl)) (pss_one (ps_set (i := 5) nd rfl (.inl rfl) (pe_op opAdd (pv 5) (pe_lc (own := [("_law_number", 7)]) rfl nd (pi_tup (pv 3)) (blkOk_by (N := ["_law_stretches", "_law_shares", "_law_found", "_law_stretch_here", "_law_share", "_law_later", "_law_each", "_law_number"]) (sc := defScope (topS 60)) (by decide +kernel)) (fun _ _ _ _ _ => (pg_name (i := 7) nd rfl (.inl rfl))) (fun _ _ _ _ _ => pts_nil) (fun _ _ _ _ _ => (C8.pe_c c_law_plus hr (by decide) rfl (pa_cons (pv 6) (pa_cons (C8.pe_c c_law_part hr (by decide) rfl (pa_cons (pe_op op_mul (pv 7) (pe_ix (show IxR _ (rIx K) from ix_seq) (pv 4) pe_int (fun _ _ => rfl))) (pa_cons (pe_ix (show IxR _ (rIx K) from ix_seq) (pv 4) pe_int (fun _ _ => rfl)) pa_nil))) pa_nil)))))))))
      (pss_one (ps_set (i := 2) nd rfl (.inl rfl) (pv 5))))))
      (pss_one (ps_ret (pv 2))))), ?_⟩
  walk_at "goD8"
  refine ⟨len_le (n := 2) rfl (by decide), fun t0 ht0 => ⟨len_le (n := 1) rfl (by decide), fun l0 hl0 => ?_⟩⟩
  have st0 := same_new (o := .tup [V.int 0, V.int 1]) ht0
  have s0 := st0.trans (same_new (o := .lst [V.ref t0]) hl0)
  have n0 := (hp.keep st0).ne hl0
  have at0 : upd (upd H t0 (.tup [V.int 0, V.int 1])) l0 (.lst [V.ref t0]) l0 = some (.lst [V.ref t0]) := upd_same
  have rt0 : RpTA p (upd (upd H t0 (.tup [V.int 0, V.int 1])) l0 (.lst [V.ref t0])) [V.ref t0] ((csf ((qs.zip (fs.map t6)).take 0) [0]).map d6) :=
    .cons ((rp_span (a := 0) (b := 1) (hp.ne ht0) upd_same).keep (ExT.of (ExB.of (same_new hl0)))) .nil
  generalize upd (upd H t0 (.tup [V.int 0, V.int 1])) l0 (.lst [V.ref t0]) = H1 at *
  have hv1 := hv.keep (ExT.of (ExB.of s0))
  have hu1 := hu.keep (ExT.of (ExB.of s0))
  cases hv1 with
  | @tup a xs _ na ha za ra =>
  cases hu1 with
  | @tup b zs _ nb hb zb rb =>
  have lx := ra.length
  have ly := rb.length
  rw [List.length_map] at lx ly
  walk_at "flat9"
  refine ⟨_, rfl, _, rfl, a, b, xs, zs, rfl, .inr ⟨SqT.rd ha, SqT.rd hb, ?_⟩⟩
  refine RZ.for_zipT (xs := xs) (ys := zs) (by omega) (fun i σ H' => ∃ (l : Addr) (ys : List V) (u3 u4 u5 u6 : Option V), σ = [some (.ref a), some (.ref b), some (.ref l), u3, u4, u5, u6, none] ∧ l ≠ p ∧ Same H1 H' ∧ H' l = some (.lst ys) ∧
      RpTA p H' ys ((csf ((qs.zip (fs.map t6)).take i) [0]).map d6) ∧ (csf ((qs.zip (fs.map t6)).take i) [0]).length = 2 ^ i)
    ⟨l0, _, none, none, none, none, rfl, n0, Same.refl _, at0, rt0, rfl⟩ (fun i σ H' ⟨_, _, _, _, _, _, _, _, sm, _⟩ => ⟨SqT.rd (Rd.same ha sm), SqT.rd (Rd.same hb sm)⟩) ?_ ?_
  · rintro i x y T' σ H' hx hy ⟨l, ys, u3, u4, u5, u6, rfl, nl, sm, hl', ry, ln⟩ hT
    obtain ⟨d, hd, rd⟩ := ra.get hx
    obtain ⟨e, he, re⟩ := rb.get hy
    obtain ⟨q, eq, rfl⟩ := map_get hd
    obtain ⟨f, ef, rfl⟩ := map_get he
    have il := (List.getElem?_eq_some_iff.mp eq).1
    have few := hf f (List.mem_of_getElem? ef)
    have sT : Same H' (upd H' T' (.tup [x, y])) := same_new hT
    have hpH : Has p H' := hp.keep (s0.trans sm)
    obtain ⟨aq, xa, xb, rfl, g1, g2, g3⟩ := unp2 (rd.keep (ExT.of (ExB.of (sm.trans sT))))
    obtain ⟨af, fa, fb, rfl, k1, k2, k3⟩ := unp2 (re.keep (ExT.of (ExB.of (sm.trans sT))))
    cases g2
    cases g3
    cases k2
    cases k3
    have rq := rd.keep (ExT.of (ExB.of (sm.trans sT)))
    refine ⟨T', [_, _], rfl, SqT.of upd_same, rfl, _, [_], rfl, _, [], rfl, rfl, ?_⟩
    have ry1 := ry.keep (ExT.of (ExB.of sT))
    have hl1 := sT _ _ hl'
    have hpT := hpH.keep sT
    have st := csf_snoc (zs := (qs.zip (fs.map t6)).take i) (z := (q, t6 f)) (f := [0])
    rw [← take_snoc (zip_get eq (by rw [List.getElem?_map, ef]; rfl))] at st
    have ln1 : (csf ((qs.zip (fs.map t6)).take (i + 1)) [0]).length = 2 ^ (i + 1) := by
      rw [st, flat2_len, ln, Nat.pow_succ]
    rw [st] at ln1
    generalize csf ((qs.zip (fs.map t6)).take i) [0] = F at *
    have lF : F.length ≤ 16 := by
      rw [ln]
      have : i ≤ 3 := by omega
      rcases i with _ | _ | _ | _ | i <;> first | decide | omega
    generalize upd H' T' (.tup [V.ref aq, V.ref af]) = H2 at *
    walk_at "goD8"
    walk_at "flat9"
    refine ⟨len_le (n := 0) rfl (by decide), fun l5 hl5 => ?_⟩
    have s5 := same_new (o := .lst []) hl5
    have n5 := hpT.ne hl5
    have at5 : upd H2 l5 (.lst []) l5 = some (.lst []) := upd_same
    have ry2 := ry1.keep (ExT.of (ExB.of s5))
    have hl2 := s5 _ _ hl1
    have hp5 := hpT.keep s5
    have g5 := Rd.same g1 s5
    have k5 := Rd.same k1 s5
    have rq5 := rq.keep (ExT.of (ExB.of s5))
    have sA := sm.trans (sT.trans s5)
    generalize upd H2 l5 (.lst []) = H5 at *
    have lys := ry2.length
    rw [List.length_map] at lys
    refine ⟨_, rfl, l, rfl, ⟨_, SqL.of hl2⟩, for_list (xs := ys) (fun j σ H3 => ∃ (l6 : Addr) (zs : List V) (u6 : Option V), σ = [some (.ref a), some (.ref b), some (.ref l), some (.ref aq), some (.ref af), some (.ref l6), u6, none] ∧ l6 ≠ p ∧ Same H5 H3 ∧ H3 l6 = some (.lst zs) ∧
        RpTA p H3 zs (((F.take j).flatMap fun x => [x + q.1 * t6 f, x + q.2 * t6 f]).map d6)) ⟨l5, [], u6, rfl, n5, Same.refl _, at5, .nil⟩ (fun j σ H3 _ ⟨_, _, _, _, _, s, _⟩ => SqL.of (s _ _ hl2)) ?_ ?_⟩
    · rintro j z σ H3 hz ⟨l6, zs6, u6', rfl, n6, s6, hl6, rz6⟩
      obtain ⟨d7, hd7, rd7⟩ := ry2.get hz
      obtain ⟨n7, en7, rfl⟩ := map_get hd7
      have rd8 := rd7.keep (ExT.of (ExB.of s6))
      have hp6 := hp5.keep s6
      have rq6 := rq5.keep (ExT.of (ExB.of s6))
      have k6 := Rd.same k5 s6
      have ts := take_snoc en7
      have fl : ((F.take (j + 1)).flatMap fun x => [x + q.1 * t6 f, x + q.2 * t6 f]) = ((F.take j).flatMap fun x => [x + q.1 * t6 f, x + q.2 * t6 f]) ++ [n7 + q.1 * t6 f, n7 + q.2 * t6 f] := by
        rw [ts, List.flatMap_append]
        rfl
      have lz := rz6.length
      rw [List.length_map, flat2_len, List.length_take] at lz
      walk_at "goD8"
      walk_at "flat9"
      refine ⟨_, rfl, ?_⟩
      refine lc_data (p := p) (ds := [q.1, q.2].map PyData.int) (es := [q.1, q.2].map fun n => d6 (n7 + n * t6 f)) (by rfl) (by exact Nat.le_of_ble_eq_true rfl) (fun R hR => ⟨_, rfl, hR _ _ (Same.refl _) rq6⟩) (fun j2 z2 d2 e2 H7 hd2 he2 sm7 rz R hR => ?_) (fun D ys2 H7 hD sm7 hd7 ry7 => ?_)
      · obtain ⟨m1, h5, rfl⟩ := map_get hd2
        obtain ⟨m2, h6, rfl⟩ := map_get he2
        rw [h5] at h6
        cases h6
        cases rz
        have k7 := Rd.same k6 sm7
        have hp7 := hp6.keep sm7
        have td := t6_div few
        refine ⟨rfl, _, rfl, _, rfl, _, rfl, .inr (.inl ⟨af, _, 0, _, rfl, rfl, SqT.rd k7, atI_nat (j := 0) rfl, ?_⟩)⟩
        have f1 := few.2
        refine ⟨_, _, rfl, rfl, .inr ⟨by omega, by omega⟩, _, rfl, .inr (.inl ⟨af, _, 1, _, rfl, rfl, SqT.rd k7, atI_nat (j := 1) rfl, ?_⟩)⟩
        refine ⟨p, _, _, rfl, hp7, td.2.1, by omega, fun y8 H8 s8 r8 => ?_⟩
        have b1 := red_bot (a := n7) (b := 6) (by decide)
        have b2 := red_bot (a := m1 * f.1) (b := f.2) td.2.1
        refine ⟨p, _, _, red n7 6, red (m1 * f.1) f.2, rfl, hp7.keep s8, rd8.keep (ExT.of (ExB.of (sm7.trans s8))), r8, b1.1, b1.2, b2.1, by omega, fun y9 H9 s9 r9 => hR _ _ (s8.trans s9) ?_⟩
        rw [red_six few, red_add6] at r9
        exact r9
      · have hl7 := sm7 _ _ hl6
        have rz7 := rz6.keep (ExT.of (ExB.of sm7))
        have l7 := ry7.length
        refine .inr (.inr (.inl ⟨l6, D, _, _, rfl, rfl, hl7, hd7, sz1000 (by rw [lz, l7]; simp only [List.length_map, List.length_cons, List.length_nil]; omega), fun l8 hl8 => ?_⟩))
        have s8 := same_new (o := .lst (zs6 ++ ys2)) hl8
        refine ⟨l8, _, _, rfl, (hp6.keep sm7).ne hl8, s6.trans (sm7.trans s8), upd_same, ?_⟩
        rw [fl, List.map_append]
        exact (RpTA.append rz7 ry7).keep (ExT.of (ExB.of s8))
    · rintro σ H3 ⟨l6, zs6, u6', rfl, n6, s6, hl6, rz6⟩
      rw [List.take_of_length_le (by omega)] at rz6
      walk_at "goD8"
      walk_at "flat9"
      refine ⟨_, rfl, l6, zs6, _, _, _, _, rfl, n6, sA.trans s6, hl6, ?_, ?_⟩
      · rw [st]
        exact rz6
      · rw [st]
        exact ln1
  · rintro σ H' ⟨l, ys, u3, u4, u5, u6, rfl, nl, sm, hl', ry, ln⟩
    rw [List.take_of_length_le (by rw [List.length_zip, List.length_map]; omega)] at ry
    exact ⟨_, rfl, k l ys H' nl (s0.trans sm) hl' ry⟩
end
end Cs
set_option maxHeartbeats 4000000
/-! k39: the drawn table and its bounds -/
namespace Cs
open PySem L2 L2H PyProof.Rows
local macro_rules | `(tactic| walk_at "goD10") => `(tactic| try dsimp only [gName, tSeq, tAsg, tRet, tLst, tCons, tOp, tTup, tCall, tNil, tC, tDrop, tCB, tPar, tNext, tM1, tJs, tAndV, tFmt, tIfS, tOr, tNot, tB, tTest, tProp, tMake, tPart, tSl, tNoPart])
local macro_rules | `(tactic| walk_at "flat11") => `(tactic| try simp only [List.set_cons_succ, List.set_cons_zero])
def N4 : List Str := ["x", "y", "zeta", "w"]
def M4 : List Str := ["need", "room", "c", "duty"]
theorem rpa_strs {p : Addr} {H : Hp} : ∀ {vs : List V} {xs : List Str}, RpA p H vs (xs.map PyData.str) → (∀ x ∈ xs, x.length ≤ 1000) → RpTA p H vs (xs.map PyData.str)
  | _, [], .nil, _ => .nil
  | _, x :: xs, .cons r t, h => by
    cases r
    exact .cons (.str x (h x List.mem_cons_self)) (rpa_strs t fun y hy => h y (List.mem_cons_of_mem _ hy))
theorem spans_of {p : PyData → Prop} : ∀ {es : List PyData}, (∀ e ∈ es, ∃ q : Int × Int, e = dSp q ∧ -10000 ≤ q.1 ∧ q.1 ≤ q.2 ∧ q.2 ≤ 10000) → ∃ qs : List (Int × Int), es = qs.map dSp ∧ ∀ q ∈ qs, -10000 ≤ q.1 ∧ q.1 ≤ q.2 ∧ q.2 ≤ 10000
  | [], _ => ⟨[], rfl, fun _ h => by cases h⟩
  | e :: es, h => by
    obtain ⟨q, rfl, hq⟩ := h e List.mem_cons_self
    obtain ⟨qs, rfl, hs⟩ := spans_of (p := p) (es := es) fun e' he => h e' (List.mem_cons_of_mem _ he)
    refine ⟨q :: qs, rfl, fun q' h' => ?_⟩
    rcases List.mem_cons.mp h' with rfl | h'
    · exact hq
    · exact hs q' h'
theorem len_n4 : ∀ x ∈ N4 ++ M4, isName (.str x) = true ∧ x.length ≤ 1000 := by decide
def SpSh (C : Addr) : Sp := fun vs H Q _ => ∃ (p : Addr) (n : Nat), vs = [.ref p, .int 4, .int 4] ∧ PailAt H p n ∧ n < 900000 ∧
  ∀ (t : Addr) (cs : List Str) (rs : List Rw) (H' : Hp), t ≠ p → TabD C p H' t cs rs → Good cs rs → rs.length ≤ 4 → ExB p H H' → PailAt H' p (n + 70) → Q (.ref t) H'
def SpLi (C : Addr) : Sp := fun vs H Q _ => ∃ (p t : Addr) (n : Nat) (cs : List Str) (rs : List Rw), vs = [.ref p, .ref t] ∧ t ≠ p ∧ TabD C p H t cs rs ∧ Good cs rs ∧ PailAt H p n ∧ n < 900000 ∧
  ∀ (v : V) (bs : List (Int × Int)) (H' : Hp), RpT p H' v (.tuple (bs.map dSp)) → BsOk rs.length bs → ExB p H H' → PailAt H' p (n + 5 * rs.length) → Q v H'
section
variable {P : Program} {w : World} {K : PySem.W.Frag} {mg : Str → Option Value} {base : Heap} {C : Addr}
theorem sc__law_sheet : FnScope ["_law_pail_here", "_law_columns_most", "_law_rows_most", "_law_titles", "_law_found", "_law_k", "_law_title"] ["_law_pail_here", "_law_columns_most", "_law_rows_most"] (defScope (topS 56)) := ⟨rfl, rfl, rfl, by decide +kernel, rfl, by decide +kernel, by decide +kernel⟩
theorem ok__law_sheet {fI : Addr} {fdI : FuncData} (D : DefAt K mg "_law_sheet" (topS 56) ["_law_pail_here", "_law_columns_most", "_law_rows_most"]) (T : Txt mg) (TA : TabAt K mg C fI fdI) (FIo : FnOk P w K mg base (L2.CX P w) 8 fI fdI ["self", "columns", "rows"] (SpTO C))
    (c_law_dip : C8.Cal P w K mg base 1 "_law_dip" SpScoop []) (c_law_stretch : C8.Cal P w K mg base 3 "_law_stretch" SpStr39 []) : C8.Cal P w K mg base 10 "_law_sheet" (SpSh C) [] := by
  refine D.cal sc__law_sheet (fun vs H Q E h => by obtain ⟨p, n, rfl, _⟩ := h; rfl) fun fn cdv A outer s H vs Q E hr h => ?_
  obtain ⟨p, n, rfl, hp, hn, k⟩ := h
  have nd := sc__law_sheet.nd
  refine ⟨_, (pss_cons (ps_set (i := 3) nd rfl (.inl rfl) (pe_slice slAny (pe_tup (pa_cons pe_str (pa_cons pe_str (pa_cons pe_str (pa_cons pe_str pa_nil))))) po_none (po_some (pe_op opAdd pe_int (C8.pe_c c_law_dip hr (by decide) rfl (pa_cons (pv 0) (pa_cons (pv 1) pa_nil)))))))
      (pss_cons (ps_set (i := 4) nd rfl (.inl rfl) (pe_lst pa_nil))
      (pss_cons (ps_for PassesOwn.never rfl (pi_range1 rfl T.range_ (pa_cons (pe_op opAdd pe_int (C8.pe_c c_law_dip hr (by decide) rfl (pa_cons (pv 0) (pa_cons (pv 2) pa_nil)))) pa_nil)) (pg_name (i := 5) nd rfl (.inl rfl)) (pss_one (ps_expr (pe_bm PySem.F.plainAttrs_list PySem.F.slot_list_append PySem.F.type_list_append mt_append (pv 4) (pa_cons (pe_tup (pa_cons (pe_ix ix_seq (pe_tup (pa_cons pe_str (pa_cons pe_str (pa_cons pe_str (pa_cons pe_str pa_nil))))) (pv 5) (fun _ _ => rfl)) (pa_cons (pe_callTy call_tuple_of (by rfl) T.tuple_ (by decide +kernel) (pa_cons (pe_lc (own := [("_law_title", 6)]) rfl nd (pi_tup (pv 3)) (blkOk_by (N := ["_law_pail_here", "_law_columns_most", "_law_rows_most", "_law_titles", "_law_found", "_law_k", "_law_title"]) (sc := defScope (topS 56)) (by decide +kernel)) (fun _ _ _ _ _ => (pg_name (i := 6) nd rfl (.inl rfl))) (fun _ _ _ _ _ => pts_nil) (fun _ _ _ _ _ => (C8.pe_c c_law_stretch hr (by decide) rfl (pa_cons (pv 0) (pa_cons pe_int pa_nil))))) pa_nil)) pa_nil))) pa_nil)))))
      (pss_one (ps_ret (pe_make TA.mkT FIo (hr.mono (by decide)) rfl TA.g TA.b .nil passF (pa_cons (pv 3) (pa_cons (pe_callTy call_tuple_of (by rfl) T.tuple_ (by decide +kernel) (pa_cons (pv 4) pa_nil)) pa_nil)))))))), ?_⟩
  walk_at "goD10"
  refine ⟨len_le (n := 4) rfl (by decide), fun t0 ht0 => ?_⟩
  have st0 := same_new (o := .tup [V.str "x", V.str "y", V.str "zeta", V.str "w"]) ht0
  have hp0 := hp.keep st0
  have rn : Rp p (upd H t0 (.tup [V.str "x", V.str "y", V.str "zeta", V.str "w"])) (.ref t0) (.tuple (N4.map PyData.str)) :=
    .tup (hp.has.ne ht0) (.inl upd_same) (by exact Nat.le_of_ble_eq_true rfl) (.cons (.str _ (by decide)) (.cons (.str _ (by decide)) (.cons (.str _ (by decide)) (.cons (.str _ (by decide)) .nil))))
  refine ⟨_, rfl, _, rfl, p, 4, n, rfl, by decide, by decide, hp0, by omega, fun r H1 r0 r1 e1 hp1 => .inl ⟨_, _, rfl, rfl, _, rfl, .inr (.inl ?_)⟩⟩
  obtain ⟨m, rfl⟩ : ∃ m : Nat, r = (m : Nat) := ⟨r.toNat, by omega⟩
  have hc : cutD (N4.map PyData.str) none (some (1 + ((m : Nat) : Int))) = (N4.take (1 + m)).map PyData.str := by
    have : m < 4 := by omega
    rcases m with _ | _ | _ | _ | m <;> first | rfl | omega
  refine w_slT hp1.has (rn.keep e1) (by rw [hc, List.length_map]; exact Nat.le_trans (List.length_take_le' _ _) (by decide)) fun v1 H2 s2 r2 => ?_
  rw [hc] at r2
  obtain ⟨at_, xt, rfl, nt, ht, zt, rt⟩ := r2.tup_inv
  have lN : ∀ x ∈ N4.take (1 + m), isName (.str x) = true ∧ x.length ≤ 1000 := fun x hx => len_n4 x (List.mem_append_left _ (List.mem_of_mem_take hx))
  have rtt := rpa_strs rt fun x hx => (lN x hx).2
  have lcs : (N4.take (1 + m)).length = 1 + m := by
    rw [List.length_take]
    show min (1 + m) 4 = 1 + m
    omega
  have ndc : (N4.take (1 + m)).Nodup := (show N4.Nodup by decide).sublist (List.take_sublist _ _)
  have cnm : ∀ x ∈ N4.take (1 + m), isName (.str x) = true := fun x hx => (lN x hx).1
  have e2 := (ExB.of st0).trans (e1.trans (ExB.of s2))
  have hp2 := hp1.keep s2
  have ndm : m < 4 := by omega
  generalize N4.take (1 + m) = cs at *
  clear hc r2 e1 hp1 rn st0 hp0 rt
  walk_at "flat11"
  refine ⟨len_le (n := 0) rfl (by decide), fun l0 hl0 => ?_⟩
  have sl := same_new (o := .lst []) hl0
  have at0 : upd H2 l0 (.lst []) l0 = some (.lst []) := upd_same
  have ht3 := Rd.same ht sl
  have rt3 := rtt.keep (ExT.of (ExB.of sl))
  have hp3 := hp2.keep sl
  have n0 := hp2.has.ne hl0
  have hH0 : H l0 = none := by
    cases z : H l0 with
    | none => rfl
    | some o =>
      have := e2 l0 o n0 z
      rw [hl0] at this
      cases this
  have e3 := e2.trans (ExB.of sl)
  generalize upd H2 l0 (.lst []) = H3 at *
  refine ⟨_, rfl, _, rfl, p, 4, n + 1, rfl, by decide, by decide, hp3, by omega, fun r4 H4 r40 r41 e4 hp4 => .inl ⟨_, _, rfl, rfl, ?_⟩⟩
  obtain ⟨m2, rfl⟩ : ∃ m : Nat, r4 = (m : Nat) := ⟨r4.toNat, by omega⟩
  have m24 : m2 < 4 := by omega
  have ht4 : Rd H4 at_ (.tup xt) := (ExT.of e4) _ _ nt ht3
  have rt4 := rt3.keep (ExT.of e4)
  have at4 := e4 _ _ n0 at0
  have e04 := e3.trans e4
  clear e3 e4 hp3 ht3 rt3 at0 sl hp2 ht rtt e2
  refine ⟨1 + ((m2 : Nat) : Int), rfl, by omega, by omega, ?_⟩
  rw [show ((1 : Int) + ((m2 : Nat) : Int)).toNat = 1 + m2 by omega]
  refine for_range (fun i σ H' => ∃ (u5 : Option V) (ys : List V) (rs : List Rw), σ = [some (.ref p), some (.int 4), some (.int 4), some (.ref at_), some (.ref l0), u5, none] ∧ ExB p H H' ∧ PailAt H' p (n + 2 + 16 * i) ∧ Rd H' at_ (.tup xt) ∧ RpTA p H' xt (cs.map PyData.str) ∧
      H' l0 = some (.lst ys) ∧ RpTA p H' ys (rs.map dRw) ∧ rs.map (·.1) = M4.take i ∧ ∀ r ∈ rs, r.2.length = 1 + m ∧ ∀ q ∈ r.2, -10000 ≤ q.1 ∧ q.1 ≤ q.2 ∧ q.2 ≤ 10000)
    ⟨none, [], [], rfl, e04, hp4, ht4, rt4, at4, .nil, rfl, fun _ h => by cases h⟩ ?_ ?_
  · rintro i σ H5 hi ⟨u5, ys, rs, rfl, e5, hp5, ht5, rt5, hl5, ry5, nm5, sp5⟩
    have hi4 : i < 4 := by omega
    have lrs : rs.length = i := by
      have := congrArg List.length nm5
      rw [List.length_map, List.length_take] at this
      have e : M4.length = 4 := rfl
      omega
    obtain ⟨nm, hnm⟩ : ∃ x, M4[i]? = some x := ⟨M4[i]'(by show i < 4; exact hi4), List.getElem?_eq_getElem _⟩
    walk_at "goD10"
    walk_at "flat11"
    refine ⟨_, rfl, .inl ⟨rfl, _, SqL.of hl5⟩, ?_⟩
    walk_at "goD10"
    refine ⟨len_le (n := 4) rfl (by decide), fun t6_ ht6 => ?_⟩
    have s6 := same_new (o := .tup [V.str "need", V.str "room", V.str "c", V.str "duty"]) ht6
    have hx6 : ([V.str "need", V.str "room", V.str "c", V.str "duty"] : List V)[i]? = some (.str nm) := by
      have : ([V.str "need", V.str "room", V.str "c", V.str "duty"] : List V) = M4.map V.str := rfl
      rw [this, List.getElem?_map, hnm]
      rfl
    refine ⟨_, rfl, .inr (.inl ⟨t6_, _, ((i : Nat) : Int), .str nm, rfl, by rw [Int.zero_add], SqT.of upd_same, atI_nat hx6, ?_⟩)⟩
    have ht7 := Rd.same ht5 s6
    have rt7 := rt5.keep (ExT.of (ExB.of s6))
    have hp7 := hp5.keep s6
    have hl7 := s6 _ _ hl5
    have ry7 := ry5.keep (ExT.of (ExB.of s6))
    have e7 := e5.trans (ExB.of s6)
    generalize upd H5 t6_ (.tup [V.str "need", V.str "room", V.str "c", V.str "duty"]) = H7 at *
    have lxt := rt7.length
    rw [List.length_map] at lxt
    refine lc_drawT (p := p) (a := at_) (n := n + 2 + 16 * i) (c := 4) (ds := cs.map PyData.str) (ok := fun _ e => ∃ q : Int × Int, e = dSp q ∧ -10000 ≤ q.1 ∧ q.1 ≤ q.2 ∧ q.2 ≤ 10000) hp7 (by rw [List.length_map]; omega) (by rw [List.length_map]; omega) ht7 nt rt7 (fun R hR => ⟨_, rfl, hR⟩) (fun z d H8 R q8 hd e8 hp8 hq8 rz hR => ?_) (fun D ys8 es H8 hD hd8 rd8 le ok8 e8 hp8 => ?_)
    · refine ⟨rfl, _, rfl, p, 4, q8, rfl, by decide, by decide, hp8, by omega, fun v9 q9 H9 bq rq e9 hp9 => hR v9 _ H9 ⟨q9, rfl, bq⟩ rq e9 hp9⟩
    · rw [List.length_map] at le hp8
      obtain ⟨qs, rfl, hqs⟩ := spans_of (p := fun _ => True) (es := es) fun e he => by
        obtain ⟨j, hj⟩ := List.mem_iff_getElem?.mp he
        have jl := (List.getElem?_eq_some_iff.mp hj).1
        obtain ⟨x, hx⟩ : ∃ x, (cs.map PyData.str)[j]? = some x := ⟨_, List.getElem?_eq_getElem (by rw [List.length_map]; omega)⟩
        exact ok8 j x e hx hj
      rw [List.length_map] at le
      have ld := rd8.length
      rw [List.length_map] at ld
      have hl8 : H8 l0 = some (.lst ys) := e8 _ _ n0 hl7
      refine ⟨D, _, rfl, .inl ⟨SqL.of hd8, fun t9 ht9 => ⟨len_le (n := 2) rfl (by decide), fun t10 ht10 => ?_⟩⟩⟩
      have s9 := same_new (o := .tup ys8) ht9
      have s10 := same_new (o := .tup [V.str nm, .ref t9]) ht10
      have hp9 := hp8.keep s9
      have rr : RpT p (upd (upd H8 t9 (.tup ys8)) t10 (.tup [V.str nm, .ref t9])) (.ref t10) (dRw (nm, qs)) :=
        .tup (hp9.has.ne ht10) (.inl upd_same) (by exact Nat.le_of_ble_eq_true rfl) (.cons (.str _ (len_n4 nm (List.mem_append_right _ (List.mem_of_getElem? hnm))).2) (.cons (.tup (hp8.has.ne ht9) (.inl (s10 _ _ upd_same)) (by omega) (rd8.keep (ExT.of (ExB.of (s9.trans s10))))) .nil))
      have hl10 := s10 _ _ (s9 _ _ hl8)
      have ry10 := ry7.keep (ExT.of (e8.trans (ExB.of (s9.trans s10))))
      have e10 := e7.trans (e8.trans (ExB.of (s9.trans s10)))
      have hp10 := hp9.keep s10
      have ht11 := Rd.same (Rd.same ((ExT.of e8) _ _ nt ht7) s9) s10
      have rt11 := rt7.keep (ExT.of (e8.trans (ExB.of (s9.trans s10))))
      have nt0 : at_ ≠ l0 := fun z => by
        rw [z] at ht7
        rcases ht7 with h | ⟨o, h⟩ <;> (rw [hl7] at h; cases h)
      generalize upd (upd H8 t9 (.tup ys8)) t10 (.tup [V.str nm, .ref t9]) = H10 at *
      have ly := ry7.length
      rw [List.length_map, lrs] at ly
      refine ⟨l0, ys, _, rfl, rfl, hl10, Nat.lt_of_lt_of_le (by omega : ys.length < 1000) (by decide), _, _, rs ++ [(nm, qs)], rfl, ?_, ?_, ?_, rt11.keep (ExT.put hl10), upd_same, ?_, ?_, ?_⟩
      · exact e10.putN hH0
      · exact (hp10.more (by omega)).put n0
      · rcases ht11 with h | ⟨o, h⟩
        · exact .inl (by rw [upd_ne nt0]; exact h)
        · exact .inr ⟨o, by rw [upd_ne nt0]; exact h⟩
      · rw [List.map_append]
        exact RpTA.append (ry10.keep (ExT.put hl10)) (.cons (rr.keep (ExT.put hl10)) .nil)
      · rw [List.map_append, nm5, take_snoc hnm]
        rfl
      · intro r hr
        rcases List.mem_append.mp hr with hr | hr
        · exact sp5 r hr
        · rw [List.mem_singleton.mp hr]
          exact ⟨by show qs.length = 1 + m; omega, hqs⟩
  · rintro σ H5 ⟨u5, ys, rs, rfl, e5, hp5, ht5, rt5, hl5, ry5, nm5, sp5⟩
    have lrs : rs.length = 1 + m2 := by
      have := congrArg List.length nm5
      rw [List.length_map, List.length_take] at this
      have e : M4.length = 4 := rfl
      omega
    walk_at "goD10"
    walk_at "flat11"
    refine ⟨_, rfl, _, rfl, l0, ys, rfl, .inl ⟨SqL.of hl5, fun t6_ ht6 => ?_⟩⟩
    have s6 := same_new (o := .tup ys) ht6
    have ly := ry5.length
    rw [List.length_map, lrs] at ly
    have hp6 := hp5.keep s6
    have g : Good cs rs := by
      refine ⟨by omega, by omega, ndc, cnm, by omega, by omega, ?_, fun r hr => ?_, fun r hr => ?_, fun r hr => (sp5 r hr).2⟩
      · rw [nm5]
        exact (show M4.Nodup by decide).sublist (List.take_sublist _ _)
      · have : r.1 ∈ M4.take (1 + m2) := by
          rw [← nm5]
          exact List.mem_map.mpr ⟨r, hr, rfl⟩
        exact (len_n4 r.1 (List.mem_append_right _ (List.mem_of_mem_take this))).1
      · rw [(sp5 r hr).1, lcs]
    have rc : RpT p (upd H5 t6_ (.tup ys)) (.ref at_) (dCols cs) := .tup nt (Rd.same ht5 s6) zt (rt5.keep (ExT.of (ExB.of s6)))
    have rr : RpT p (upd H5 t6_ (.tup ys)) (.ref t6_) (dRows rs) := .tup (hp5.has.ne ht6) (.inl upd_same) (by omega) (ry5.keep (ExT.of (ExB.of s6)))
    refine fun xm dxm hxm hdm hnm => make_ok hp6.has rc rr g hxm hdm hnm fun H7 s7 tm => ?_
    exact k xm cs rs H7 (hp6.has.ne hxm) tm g (by omega) (e5.trans (ExB.of (s6.trans s7))) ((hp6.keep s7).more (by omega))
theorem sc__law_limits : FnScope ["_law_pail_here", "_law_sheet_here", "_law_found", "_law_row"] ["_law_pail_here", "_law_sheet_here"] (defScope (topS 57)) := ⟨rfl, rfl, rfl, by decide +kernel, rfl, by decide +kernel, by decide +kernel⟩
theorem ok__law_limits {pr gr : Addr} {fdr : FuncData} (D : DefAt K mg "_law_limits" (topS 57) ["_law_pail_here", "_law_sheet_here"]) (T : Txt mg) (TC : TabC K C) (F_rows : FnOk P w K mg base CX0 1 gr fdr ["self"] (SpGet C "_rows")) (hp_rows : PropOf K C "rows" pr gr) (b_rows : Binds K fdr ["self"] [])
    (c_law_dip : C8.Cal P w K mg base 1 "_law_dip" SpScoop []) (c_law_stretch : C8.Cal P w K mg base 3 "_law_stretch" SpStr39 []) : C8.Cal P w K mg base 4 "_law_limits" (SpLi C) [] := by
  refine D.cal sc__law_limits (fun vs H Q E h => by obtain ⟨p, t, n, cs, rs, rfl, _⟩ := h; rfl) fun fn cdv A outer s H vs Q E hr h => ?_
  obtain ⟨p, t, n, cs, rs, rfl, ntp, ht, g, hp, hn, k⟩ := h
  have nd := sc__law_limits.nd
  have hTC := TC.c
  have hu64 := hr.units
  refine ⟨_, (pss_cons (ps_set (i := 2) nd rfl (.inl rfl) (pe_lst pa_nil))
      (pss_cons (ps_for PassesOwn.never rfl (pi_tup (pe_prop (pv 1) hTC hp_rows F_rows (hr.mono (by decide)) b_rows .nil pass0 rfl)) (pg_name (i := 3) nd rfl (.inl rfl)) (pss_one (ps_expr (pe_bm PySem.F.plainAttrs_list PySem.F.slot_list_append PySem.F.type_list_append mt_append (pv 2) (pa_cons (pe_ifExp (pt_cmpR (opEq hu64) (C8.pe_c c_law_dip hr (by decide) rfl (pa_cons (pv 0) (pa_cons pe_int pa_nil))) pe_int (nomark _)) (C8.pe_c c_law_stretch hr (by decide) rfl (pa_cons (pv 0) (pa_cons pe_int pa_nil))) (pe_tup (pa_cons pe_int (pa_cons (pe_op opAdd pe_int (C8.pe_c c_law_dip hr (by decide) rfl (pa_cons (pv 0) (pa_cons pe_int pa_nil)))) pa_nil)))) pa_nil)))))
      (pss_one (ps_ret (pe_callTy call_tuple_of (by rfl) T.tuple_ (by decide +kernel) (pa_cons (pv 2) pa_nil)))))), ?_⟩
  walk_at "goD10"
  refine ⟨len_le (n := 0) rfl (by decide), fun l0 hl0 => ?_⟩
  have s0 := same_new (o := .lst []) hl0
  have at0 : upd H l0 (.lst []) l0 = some (.lst []) := upd_same
  have n0 := hp.has.ne hl0
  have hp0 := hp.keep s0
  have ht0 := ht.same s0
  have r8 := g.r8
  obtain ⟨dx, vc, vr, h1, h2, h3⟩ := id ht0
  have e0 : ExB p H (upd H l0 (.lst [])) := ExB.of s0
  generalize upd H l0 (.lst []) = H1 at *
  cases h3 with
  | @tup ar xr _ nar har zar rar =>
  have lx := rar.length
  rw [List.length_map] at lx
  walk_at "flat11"
  refine ⟨_, rfl, t, dx, _, rfl, h1, t, dx, _, .ref ar, rfl, h1, rfl, ar, rfl, ⟨_, SqT.rd har⟩, ?_⟩
  refine for_tup (xs := xr) (fun i σ H' => ∃ (u3 : Option V) (ys : List V) (bs : List (Int × Int)), σ = [some (.ref p), some (.ref t), some (.ref l0), u3] ∧ ExB p H H' ∧ PailAt H' p (n + 5 * i) ∧ Rd H' ar (.tup xr) ∧ H' l0 = some (.lst ys) ∧ RpTA p H' ys (bs.map dSp) ∧ bs.length = i ∧
      ∀ b ∈ bs, -10000 ≤ b.1 ∧ b.1 ≤ b.2 ∧ b.2 ≤ 10000)
    ⟨none, [], [], rfl, e0, hp0, har, at0, .nil, rfl, fun _ h => by cases h⟩ (fun i σ H' _ ⟨_, _, _, _, _, _, h, _⟩ => SqT.rd h) ?_ ?_
  · rintro i x σ H5 hx ⟨u3, ys, bs, rfl, e5, hp5, ha5, hl5, ry5, lb, sp5⟩
    have il := (List.getElem?_eq_some_iff.mp hx).1
    have ly := ry5.length
    rw [List.length_map] at ly
    walk_at "goD10"
    walk_at "flat11"
    have fin : ∀ (v : V) (q : Int × Int) (H6 : Hp), (-10000 ≤ q.1 ∧ q.1 ≤ q.2 ∧ q.2 ≤ 10000) → RpT p H6 v (dSp q) → ExB p H5 H6 → PailAt H6 p (n + 5 * i + 5) → rAppend (.ref l0) [v] H6 fun _ H' => ∃ (u3 : Option V) (ys : List V) (bs : List (Int × Int)), [some (V.ref p), some (.ref t), some (.ref l0), some x] = [some (.ref p), some (.ref t), some (.ref l0), u3] ∧ ExB p H H' ∧ PailAt H' p (n + 5 * (i + 1)) ∧ Rd H' ar (.tup xr) ∧ H' l0 = some (.lst ys) ∧ RpTA p H' ys (bs.map dSp) ∧ bs.length = i + 1 ∧
        ∀ b ∈ bs, -10000 ≤ b.1 ∧ b.1 ≤ b.2 ∧ b.2 ≤ 10000 := fun v q H6 hq rv e6 hp6 => by
      have hl6 := e6 _ _ n0 hl5
      have nt0 : ar ≠ l0 := fun z => by
        rw [z] at ha5
        rcases ha5 with h | ⟨o, h⟩ <;> (rw [hl5] at h; cases h)
      refine ⟨l0, ys, v, rfl, rfl, hl6, Nat.lt_of_lt_of_le (by omega : ys.length < 1000) (by decide), _, ys ++ [v], bs ++ [q], rfl, (e5.trans e6).putN hl0, (hp6.more (by omega)).put n0, ?_, upd_same, ?_, by rw [List.length_append, lb]; rfl, fun b hb => ?_⟩
      · rcases (ExT.of e6) _ _ nar ha5 with h | ⟨o, h⟩
        · exact .inl (by rw [upd_ne nt0]; exact h)
        · exact .inr ⟨o, by rw [upd_ne nt0]; exact h⟩
      · rw [List.map_append]
        exact RpTA.append ((ry5.keep (ExT.of e6)).keep (ExT.put hl6)) (.cons (rv.keep (ExT.put hl6)) .nil)
      · rcases List.mem_append.mp hb with hb | hb
        · exact sp5 b hb
        · rw [List.mem_singleton.mp hb]
          exact hq
    refine ⟨_, rfl, .inl ⟨rfl, _, SqL.of hl5⟩, ?_⟩
    walk_at "goD10"
    refine ⟨_, rfl, p, 3, n + 5 * i, rfl, by decide, by decide, hp5, by omega, fun r H6 r0 r1 e6 hp6 => .inl ⟨rfl, _, rfl, ?_⟩⟩
    refine ite2 (fun _ => ?_) (fun _ => ?_)
    · exact ⟨_, rfl, p, 4, _, rfl, by decide, by decide, hp6, by omega, fun v q H7 hq rq e7 hp7 => fin v q H7 hq rq (e6.trans e7) (hp7.more (by omega))⟩
    · refine ⟨_, rfl, p, 6, _, rfl, by decide, by decide, hp6, by omega, fun r2 H7 r20 r21 e7 hp7 => .inl ⟨_, _, rfl, rfl, len_le (n := 2) rfl (by decide), fun t7 ht7 => ?_⟩⟩
      exact fin _ (2, 3 + r2) _ ⟨by show (-10000 : Int) ≤ 2; decide, by show (2 : Int) ≤ 3 + r2; omega, by show 3 + r2 ≤ 10000; omega⟩ (rp_span (hp7.has.ne ht7) upd_same) (e6.trans (e7.trans (ExB.new ht7))) ((hp7.put (hp7.has.ne ht7)).more (by omega))
  · rintro σ H5 ⟨u3, ys, bs, rfl, e5, hp5, ha5, hl5, ry5, lb, sp5⟩
    have ly := ry5.length
    rw [List.length_map] at ly
    walk_at "goD10"
    refine ⟨_, rfl, l0, ys, rfl, .inl ⟨SqL.of hl5, fun t6_ ht6 => ?_⟩⟩
    have s6 := same_new (o := .tup ys) ht6
    exact k _ bs _ (.tup (hp5.has.ne ht6) (.inl upd_same) (by omega) (ry5.keep (ExT.of (ExB.of s6)))) ⟨by omega, sp5⟩ (e5.trans (ExB.of s6)) ((hp5.keep s6).more (by omega))
end
end Cs
set_option maxHeartbeats 4000000
/-! k39: what is due is what is told -/
namespace Cs
open PySem L2 L2H PyProof.Rows
theorem sp_shw {q : Int × Int} (h : Fit q) : Shw (dSp q) 27 1 := by
  refine tup_shw (n := 10) (k := 0) (m := 2) (fun e he => ?_) (by exact Nat.le_refl 2)
  simp only [List.mem_cons, List.not_mem_nil, or_false] at he
  rcases he with rfl | rfl
  · exact int_shw h.1.1 h.1.2
  · exact int_shw h.2.1 h.2.2
theorem fe_shw {r : Rw} {fs : List (Int × Int)} (hr : RowOk r) (hf : ∀ f ∈ fs, Few f) : Shw (dFE fs r) 61 2 := by
  obtain ⟨h1, h2⟩ := fe_fit hr hf
  refine tup_shw (n := 27) (k := 1) (m := 2) (fun e he => ?_) (by exact Nat.le_refl 2)
  simp only [List.mem_cons, List.not_mem_nil, or_false] at he
  rcases he with rfl | rfl
  · exact sp_shw h1
  · exact sp_shw h2
theorem wLo_mul {c : Int} (hc : 0 < c) : ∀ (qs : List (Int × Int)) (ws : List Int), wLo qs (ws.map fun w => c * w) = c * wLo qs ws ∧ wHi qs (ws.map fun w => c * w) = c * wHi qs ws
  | [], ws => by simp [wLo, wHi]
  | q :: qs, [] => by simp [wLo, wHi]
  | q :: qs, w :: ws => by
    obtain ⟨h1, h2⟩ := wLo_mul hc qs ws
    unfold wLo at h1
    unfold wHi at h2
    unfold wLo wHi
    simp only [List.map_cons, List.zip_cons_cons, List.sum_cons]
    rw [h1, h2, Int.mul_add, Int.mul_add]
    have key : ∀ a b : Int, min (c * a) (c * b) = c * min a b ∧ max (c * a) (c * b) = c * max a b := fun a b => by
      by_cases z : a ≤ b
      · have z2 : c * a ≤ c * b := Int.mul_le_mul_of_nonneg_left z (by omega)
        rw [Int.min_eq_left z, Int.min_eq_left z2, Int.max_eq_right z, Int.max_eq_right z2]
        exact ⟨rfl, rfl⟩
      · have z1 : b ≤ a := by omega
        have z2 : c * b ≤ c * a := Int.mul_le_mul_of_nonneg_left z1 (by omega)
        rw [Int.min_eq_right z1, Int.min_eq_right z2, Int.max_eq_left z1, Int.max_eq_left z2]
        exact ⟨rfl, rfl⟩
    obtain ⟨k1, k2⟩ := key (q.1 * w) (q.2 * w)
    rw [show q.1 * (c * w) = c * (q.1 * w) by ac_rfl, show q.2 * (c * w) = c * (q.2 * w) by ac_rfl, k1, k2]
    exact ⟨rfl, rfl⟩
theorem six_tops {fs : List (Int × Int)} (h : ∀ f ∈ fs, Few f) : (tops fs).map (fun w => 6 * w) = (fs.map t6).map fun w => bot fs * w := by
  unfold tops
  rw [List.map_map, List.map_map]
  refine List.map_congr_left fun f hf => ?_
  obtain ⟨h1, h2, h3⟩ := t6_div (h f hf)
  have d := (bot_six h).2 f hf
  show 6 * (f.1 * (bot fs / f.2)) = bot fs * t6 f
  unfold t6
  have e : bot fs / f.2 * f.2 = bot fs := Int.ediv_mul_cancel d
  generalize bot fs / f.2 = x at *
  generalize 6 / f.2 = y at *
  rw [← e, ← h1]
  ac_rfl
/-- the ends by fractions, over six -/
theorem fe_six {r : Rw} {fs : List (Int × Int)} (hf : ∀ f ∈ fs, Few f) : feLo r fs = red (wLo r.2 (fs.map t6)) 6 ∧ feHi r fs = red (wHi r.2 (fs.map t6)) 6 := by
  have b := six_pos (bot_six hf).1
  obtain ⟨a1, a2⟩ := wLo_mul (c := 6) (by decide) r.2 (tops fs)
  obtain ⟨c1, c2⟩ := wLo_mul (c := bot fs) b.1 r.2 (fs.map t6)
  rw [six_tops hf] at a1 a2
  refine ⟨red_eq b.1 (by decide) ?_, red_eq b.1 (by decide) ?_⟩
  · rw [Int.mul_comm _ 6, ← a1, c1, Int.mul_comm]
  · rw [Int.mul_comm _ 6, ← a2, c2, Int.mul_comm]
def sureP (rs : List Rw) (bs fs : List (Int × Int)) (i : Nat) : Bool := ((rs.zip bs).take i).all fun z => decide ((feHi z.1 fs).1 ≤ z.2.1 * (feHi z.1 fs).2)
def someP (rs : List Rw) (bs fs : List (Int × Int)) (i : Nat) : Bool := ((rs.zip bs).take i).all fun z => decide ((feLo z.1 fs).1 ≤ z.2.2 * (feLo z.1 fs).2)
theorem not_any {α : Type} (f g : α → Bool) (h : ∀ x, f x = !g x) : ∀ xs : List α, (!(xs.map f).any id) = xs.all g
  | [] => rfl
  | x :: xs => by
    rw [List.map_cons, List.any_cons, List.all_cons, ← not_any f g h xs, h x]
    cases g x <;> rfl
theorem sure_eq {rs : List Rw} {bs fs : List (Int × Int)} (h : rs.length = bs.length) : sureB rs bs fs = sureP rs bs fs rs.length := by
  unfold sureB sureP
  rw [List.take_of_length_le (by rw [List.length_zip]; omega)]
  refine not_any _ _ (fun z => ?_) _
  unfold blB
  rw [← decide_not, decide_eq_decide]
  dsimp only
  omega
theorem some_eq {rs : List Rw} {bs fs : List (Int × Int)} (h : rs.length = bs.length) : someB rs bs fs = someP rs bs fs rs.length := by
  unfold someB someP
  rw [List.take_of_length_le (by rw [List.length_zip]; omega)]
  refine not_any _ _ (fun z => ?_) _
  unfold blB
  rw [← decide_not, decide_eq_decide]
  dsimp only
  omega
theorem sure_snoc {rs : List Rw} {bs fs : List (Int × Int)} {i : Nat} {r : Rw} {b : Int × Int} (h1 : rs[i]? = some r) (h2 : bs[i]? = some b) : sureP rs bs fs (i + 1) = (sureP rs bs fs i && decide ((feHi r fs).1 ≤ b.1 * (feHi r fs).2)) := by
  unfold sureP
  rw [take_snoc (zip_get h1 h2), List.all_append]
  simp
theorem some_snoc {rs : List Rw} {bs fs : List (Int × Int)} {i : Nat} {r : Rw} {b : Int × Int} (h1 : rs[i]? = some r) (h2 : bs[i]? = some b) : someP rs bs fs (i + 1) = (someP rs bs fs i && decide ((feLo r fs).1 ≤ b.2 * (feLo r fs).2)) := by
  unfold someP
  rw [take_snoc (zip_get h1 h2), List.all_append]
  simp
theorem w_le : ∀ (qs : List (Int × Int)) (ws : List Int), wLo qs ws ≤ wHi qs ws
  | [], ws => by simp [wLo, wHi]
  | q :: qs, [] => by simp [wLo, wHi]
  | q :: qs, w :: ws => by
    have ih := w_le qs ws
    unfold wLo wHi at ih ⊢
    simp only [List.zip_cons_cons, List.map_cons, List.sum_cons]
    omega
/-- a sure answer is a possible one -/
theorem sure_some {rs : List Rw} {bs fs : List (Int × Int)} {i : Nat} (hf : ∀ f ∈ fs, Few f) (hb : ∀ b ∈ bs, b.1 ≤ b.2) (h : sureP rs bs fs i = true) : someP rs bs fs i = true := by
  unfold sureP at h
  unfold someP
  rw [List.all_eq_true] at h ⊢
  intro z hz
  have h1 := of_decide_eq_true (h z hz)
  have hz2 := List.mem_of_mem_take hz
  have hb2 : z.2 ∈ bs := (List.of_mem_zip (show (z.1, z.2) ∈ rs.zip bs from hz2)).2
  have b6 := six_pos (bot_six hf).1
  refine decide_eq_true ?_
  unfold feHi at h1
  unfold feLo
  rw [red_le b6.1] at h1 ⊢
  have := w_le z.1.2 (tops fs)
  have := Int.mul_le_mul_of_nonneg_right (hb _ hb2) (show 0 ≤ bot fs by omega)
  omega
theorem few_of : ∀ {es : List PyData}, (∀ e ∈ es, ∃ f : Int × Int, e = dSp f ∧ Few f ∧ Low f) → ∃ fs : List (Int × Int), es = fs.map dSp ∧ ∀ f ∈ fs, Few f ∧ Low f
  | [], _ => ⟨[], rfl, fun _ h => by cases h⟩
  | e :: es, h => by
    obtain ⟨q, rfl, hq⟩ := h e List.mem_cons_self
    obtain ⟨qs, rfl, hs⟩ := few_of (es := es) fun e' he => h e' (List.mem_cons_of_mem _ he)
    refine ⟨q :: qs, rfl, fun q' h' => ?_⟩
    rcases List.mem_cons.mp h' with rfl | h'
    · exact hq
    · exact hs q' h'
theorem few_red {a b : Int} (h1 : -4 ≤ a) (h2 : a ≤ 4) (h3 : 1 ≤ b) (h4 : b ≤ 3) : Few (red a b) ∧ Low (red a b) := by
  have p := red_bot (a := a) (b := b) (by omega)
  have g := @gcd_pos a b (by omega)
  have e := @red_fst a b
  refine ⟨⟨by omega, ?_⟩, p.1, red_cop (by omega)⟩
  generalize (red a b).1 = x at *
  generalize (Int.gcd a b : Int) = k at *
  have n1 : x.natAbs ≤ a.natAbs := by
    rw [← e, Int.natAbs_mul]
    exact Nat.le_mul_of_pos_right _ (by omega)
  omega
theorem red_opp {n : Int} : dSp (0 - (red n 6).1, (red n 6).2) = d6 (-n) := by
  unfold d6
  rw [red_neg, Int.zero_sub]
end Cs
set_option maxHeartbeats 4000000
/-! k39: one table -/
namespace Cs
open PySem L2 L2H PyProof.Rows
local macro_rules | `(tactic| walk_at "goD12") => `(tactic| try dsimp only [gName, tSeq, tAsg, tRet, tLst, tCons, tOp, tTup, tCall, tNil, tC, tDrop, tCB, tPar, tPar3, tNext, tM1, tJs, tFmt, tIfS, tOr, tNot, tB, tTest, tProp, tCallN, tPart, tBM])
local macro_rules | `(tactic| walk_at "flat13") => `(tactic| try simp only [List.set_cons_succ, List.set_cons_zero])
theorem csf_len : ∀ (zs : List ((Int × Int) × Int)) (f : List Int), (csf zs f).length = f.length * 2 ^ zs.length
  | [], f => by simp [csf]
  | z :: zs, f => by
    have q := csf_len zs (f.flatMap fun x => [x + z.1.1 * z.2, x + z.1.2 * z.2])
    rw [flat2_len] at q
    show (csf zs _).length = _
    rw [q, List.length_cons, Nat.pow_succ, Nat.mul_assoc, Nat.mul_comm 2]
structure Sy (C p : Addr) (H : Hp) (t : Addr) (vb va : V) (cs : List Str) (rs : List Rw) (bs fs : List (Int × Int)) : Prop where
  nt : t ≠ p
  tb : TabD C p H t cs rs
  rb : RpT p H vb (.tuple (bs.map dSp))
  ra : RpT p H va (.tuple (fs.map dSp))
theorem Sy.keep {C p t : Addr} {H H' : Hp} {vb va : V} {cs : List Str} {rs : List Rw} {bs fs : List (Int × Int)} (S : Sy C p H t vb va cs rs bs fs) (e : ExB p H H') : Sy C p H' t vb va cs rs bs fs :=
  ⟨S.nt, S.tb.keep S.nt e, S.rb.keep (ExT.of e), S.ra.keep (ExT.of e)⟩
theorem tabd_put {C p t l : Addr} {H : Hp} {cs : List Str} {rs : List Rw} {xs zs : List V} (h : TabD C p H t cs rs) (hl : H l = some (.lst xs)) : TabD C p (upd H l (.lst zs)) t cs rs := by
  obtain ⟨dx, vc, vr, h1, h2, h3⟩ := h
  refine ⟨dx, vc, vr, ?_, h2.keep (ExT.put hl), h3.keep (ExT.put hl)⟩
  rw [upd_ne (fun z => by rw [z, hl] at h1; cases h1)]
  exact h1
theorem Sy.put {C p t l : Addr} {H : Hp} {vb va : V} {cs : List Str} {rs : List Rw} {bs fs : List (Int × Int)} {xs zs : List V} (S : Sy C p H t vb va cs rs bs fs) (hl : H l = some (.lst xs)) : Sy C p (upd H l (.lst zs)) t vb va cs rs bs fs :=
  ⟨S.nt, tabd_put S.tb hl, S.rb.keep (ExT.put hl), S.ra.keep (ExT.put hl)⟩
def SpOr39 : Sp := fun vs H Q _ => ∃ (p : Addr) (n : Nat), vs = [.ref p] ∧ PailAt H p n ∧ n < 100000 ∧ ∀ H', ExB p H H' → PailAt H' p (n + 200) → Q (.bl true) H'
section
variable {P : Program} {w : World} {K : PySem.W.Frag} {mg : Str → Option Value} {base : Heap} {C : Addr}
theorem sc__law_once_right : FnScope ["_law_pail_here", "_law_sheet_here", "_law_limits_here", "_law_shares", "_law_title", "_law_due", "_law_is_sure", "_law_is_some", "_law_k", "_law_some", "_law_low", "_law_high", "_law_each", "_law_told", "_law_far"] ["_law_pail_here"] (defScope (topS 62)) := ⟨rfl, rfl, rfl, by decide +kernel, rfl, by decide +kernel, by decide +kernel⟩
theorem ok__law_once_right (D : DefAt K mg "_law_once_right" (topS 62) ["_law_pail_here"]) (T : Txt mg) (TC : TabC K C)
    (c_law_sheet : C8.Cal P w K mg base 10 "_law_sheet" (SpSh C) []) (c_law_limits : C8.Cal P w K mg base 4 "_law_limits" (SpLi C) []) (c_law_dip : C8.Cal P w K mg base 1 "_law_dip" SpScoop []) (c_law_part : C8.Cal P w K mg base 1 "_law_part" SpPt [])
    (c_law_sums : C8.Cal P w K mg base 3 "_law_sums" SpSm39 []) (c_law_least : C8.Cal P w K mg base 1 "_law_least" SpLs39 [])
    (crow_ends : CalX P w K mg base 5 "row_ends" (SpRe C)) (krow_ends : CalK P w K mg base 5 "row_ends" (SpRe C) ["answer", "table"] (fun vs zs => vs ++ zs.reverse))
    (cis_sure_answer : CalX P w K mg base 8 "is_sure_answer" (SpSy C sureB)) (kis_sure_answer : CalK P w K mg base 8 "is_sure_answer" (SpSy C sureB) ["answer", "bounds", "table"] (fun vs zs => vs ++ zs.reverse))
    (cis_possible_answer : CalX P w K mg base 8 "is_possible_answer" (SpSy C someB)) (kis_possible_answer : CalK P w K mg base 8 "is_possible_answer" (SpSy C someB) ["answer", "bounds", "table"] (fun vs zs => vs ++ zs.reverse))
    {gl : Addr} {fdl : FuncData} (F_len : FnOk P w K mg base CX0 1 gl fdl ["self"] (SpLn C)) (b_len : Binds K fdl ["self"] []) (hs_len : PySem.W.findIn K (.ref C) "__len__" = some (some (.ref gl))) (hf_len : PySem.W.isFn K (.ref gl) = true)
    {gc pc gr pr : Addr} {fdc fdr : FuncData} (F_columns : FnOk P w K mg base CX0 1 gc fdc ["self"] (SpGet C "_columns")) (hp_columns : PropOf K C "columns" pc gc) (b_columns : Binds K fdc ["self"] [])
    (F_rows : FnOk P w K mg base CX0 1 gr fdr ["self"] (SpGet C "_rows")) (hp_rows : PropOf K C "rows" pr gr) (b_rows : Binds K fdr ["self"] []) : CalG P w K mg base 11 "_law_once_right" SpOr39 := by
  refine D.calG sc__law_once_right (fun vs H Q E h => by obtain ⟨_, _, rfl, _⟩ := h; rfl) fun f cdv A outer s H vs Q E hg hr h => ?_
  obtain ⟨p, n, rfl, hp, hn, k⟩ := h
  have nd := sc__law_once_right.nd
  have hTC := TC.c
  have hu64 := hr.units
  have hG : (A.deeper (envOfC "_law_once_right" (defScope (topS 62)) s.heap.objs.size f cdv)).guards = some [] := hg
  refine ⟨_, (pss_cons (ps_set (i := 1) nd rfl (.inl rfl) (C8.pe_c c_law_sheet hr (by decide) rfl (pa_cons (pv 0) (pa_cons pe_int (pa_cons pe_int pa_nil)))))
      (pss_cons (ps_set (i := 2) nd rfl (.inl rfl) (C8.pe_c c_law_limits hr (by decide) rfl (pa_cons (pv 0) (pa_cons (pv 1) pa_nil))))
      (pss_cons (ps_set (i := 3) nd rfl (.inl rfl) (pe_callTy call_tuple_of (by rfl) T.tuple_ (by decide +kernel) (pa_cons (pe_lc (own := [("_law_title", 4)]) rfl nd (pi_tup (pe_prop (pv 1) hTC hp_columns F_columns (hr.mono (by decide)) b_columns .nil pass0 rfl)) (blkOk_by (N := ["_law_pail_here", "_law_sheet_here", "_law_limits_here", "_law_shares", "_law_title", "_law_due", "_law_is_sure", "_law_is_some", "_law_k", "_law_some", "_law_low", "_law_high", "_law_each", "_law_told", "_law_far"]) (sc := defScope (topS 62)) (by decide +kernel)) (fun _ _ _ _ _ => (pg_name (i := 4) nd rfl (.inl rfl))) (fun _ _ _ _ _ => pts_nil) (fun _ _ _ _ _ => (C8.pe_c c_law_part hr (by decide) rfl (pa_cons (pe_op op_sub (C8.pe_c c_law_dip hr (by decide) rfl (pa_cons (pv 0) (pa_cons pe_int pa_nil))) pe_int) (pa_cons (pe_op op_add pe_int (C8.pe_c c_law_dip hr (by decide) rfl (pa_cons (pv 0) (pa_cons pe_int pa_nil)))) pa_nil))))) pa_nil)))
      (pss_cons (ps_par3 (i := 5) (j := 6) (l := 7) (by rfl) nd rfl rfl rfl (by decide) (by decide) (by decide) rfl rfl rfl (pa_cons (pe_lst pa_nil) (pa_cons pe_bl (pa_cons pe_bl pa_nil))) (by rfl))
      (pss_cons (ps_for PassesOwn.never rfl (pi_range1 rfl T.range_ (pa_cons (pe_callB (call_lenI F_len (hr.mono (by decide)) b_len pass0 hs_len hf_len) (by rfl) T.len_ (by decide +kernel) (pa_cons (pv 1) pa_nil)) pa_nil)) (pg_name (i := 8) nd rfl (.inl rfl)) (pss_cons (ps_set (i := 9) nd rfl (.inl rfl) (C8.pe_c c_law_sums hr (by decide) rfl (pa_cons (pe_ix ix_seq (pe_ix ix_seq (pe_prop (pv 1) hTC hp_rows F_rows (hr.mono (by decide)) b_rows .nil pass0 rfl) (pv 8) (fun _ _ => rfl)) pe_int (fun _ _ => rfl)) (pa_cons (pv 3) pa_nil))))
      (pss_cons (ps_set (i := 10) nd rfl (.inl rfl) (C8.pe_c c_law_least hr (by decide) rfl (pa_cons (pv 9) pa_nil)))
      (pss_cons (ps_set (i := 11) nd rfl (.inl rfl) (C8.pe_c c_law_least hr (by decide) rfl (pa_cons (pe_lc (own := [("_law_each", 12)]) rfl nd (pi_list (pv 9)) (blkOk_by (N := ["_law_pail_here", "_law_sheet_here", "_law_limits_here", "_law_shares", "_law_title", "_law_due", "_law_is_sure", "_law_is_some", "_law_k", "_law_some", "_law_low", "_law_high", "_law_each", "_law_told", "_law_far"]) (sc := defScope (topS 62)) (by decide +kernel)) (fun _ _ _ _ _ => (pg_name (i := 12) nd rfl (.inl rfl))) (fun _ _ _ _ _ => pts_nil) (fun _ _ _ _ _ => (pe_tup (pa_cons (pe_op op_sub pe_int (pe_ix (show IxR _ (rIx K) from ix_seq) (pv 12) pe_int (fun _ _ => rfl))) (pa_cons (pe_ix (show IxR _ (rIx K) from ix_seq) (pv 12) pe_int (fun _ _ => rfl)) pa_nil))))) pa_nil)))
      (pss_cons (ps_expr (pe_bm PySem.F.plainAttrs_list PySem.F.slot_list_append PySem.F.type_list_append mt_append (pv 5) (pa_cons (pe_tup (pa_cons (pv 10) (pa_cons (pe_tup (pa_cons (pe_op op_sub pe_int (pe_ix ix_seq (pv 11) pe_int (fun _ _ => rfl))) (pa_cons (pe_ix ix_seq (pv 11) pe_int (fun _ _ => rfl)) pa_nil))) pa_nil))) pa_nil)))
      (pss_cons (ps_set (i := 6) nd rfl (.inl rfl) (pe_and (pv 6) (pe_one (pe_cmpR opLe (pe_op op_sub pe_int (pe_ix ix_seq (pv 11) pe_int (fun _ _ => rfl))) (pe_op opMul (pe_ix ix_seq (pe_ix ix_seq (pv 2) (pv 8) (fun _ _ => rfl)) pe_int (fun _ _ => rfl)) (pe_ix ix_seq (pv 11) pe_int (fun _ _ => rfl))) (nomark _)))))
      (pss_one (ps_set (i := 7) nd rfl (.inl rfl) (pe_and (pv 7) (pe_one (pe_cmpR opLe (pe_ix ix_seq (pv 10) pe_int (fun _ _ => rfl)) (pe_op opMul (pe_ix ix_seq (pe_ix ix_seq (pv 2) (pv 8) (fun _ _ => rfl)) pe_int (fun _ _ => rfl)) (pe_ix ix_seq (pv 10) pe_int (fun _ _ => rfl))) (nomark _))))))))))))
      (pss_cons (ps_if (pt_cmpR (opNe hu64) (pe_callB (callReprD hG hu64) (by rfl) T.repr_ (by decide +kernel) (pa_cons (pe_lst (pa_cons (pe_cX crow_ends hr (by decide) rfl passF (pa_cons (pv 1) (pa_cons (pv 3) pa_nil))) (pa_cons (pe_cK krow_ends hr (by decide) rfl passF (pk_cons (pv 3) (pk_cons (pv 1) pk_nil))) pa_nil))) pa_nil)) (pe_callB (callReprD hG hu64) (by rfl) T.repr_ (by decide +kernel) (pa_cons (pe_op opMul (pe_lst (pa_cons (pe_callTy call_tuple_of (by rfl) T.tuple_ (by decide +kernel) (pa_cons (pv 5) pa_nil)) pa_nil)) pe_int) pa_nil)) (nomark _)) (pss_one (ps_ret pe_bl)) pss_nil)
      (pss_cons (ps_set (i := 13) nd rfl (.inl rfl) (pe_lst (pa_cons (pe_cX cis_sure_answer hr (by decide) rfl passF (pa_cons (pv 1) (pa_cons (pv 2) (pa_cons (pv 3) pa_nil)))) (pa_cons (pe_cX cis_possible_answer hr (by decide) rfl passF (pa_cons (pv 1) (pa_cons (pv 2) (pa_cons (pv 3) pa_nil)))) pa_nil))))
      (pss_cons (ps_if (PW.pt (pw_or (pt_cmpR (opNe hu64) (pe_callB (callReprD hG hu64) (by rfl) T.repr_ (by decide +kernel) (pa_cons (pv 13) pa_nil)) (pe_callB (callReprD hG hu64) (by rfl) T.repr_ (by decide +kernel) (pa_cons (pe_lst (pa_cons (pv 6) (pa_cons (pv 7) pa_nil))) pa_nil)) (nomark _)) (pw_or1 (PW.pt (pw_and (pt_truth (pv 6) (by intro _; rfl)) (pw_and1 (pt_not (pt_truth (pv 7) (by intro _; rfl))))))))) (pss_one (ps_ret pe_bl)) pss_nil)
      (pss_cons (ps_set (i := 14) nd rfl (.inl rfl) (pe_lst (pa_cons (pe_cK kis_sure_answer hr (by decide) rfl passF (pk_cons (pv 3) (pk_cons (pv 2) (pk_cons (pv 1) pk_nil)))) pa_nil)))
      (pss_cons (ps_expr (pe_bm PySem.F.plainAttrs_list PySem.F.slot_list_append PySem.F.type_list_append mt_append (pv 14) (pa_cons (pe_cK kis_possible_answer hr (by decide) rfl passF (pk_cons (pv 3) (pk_cons (pv 2) (pk_cons (pv 1) pk_nil)))) pa_nil)))
      (pss_one (ps_ret (pe_cmpR (opEq hu64) (pe_callB (callReprD hG hu64) (by rfl) T.repr_ (by decide +kernel) (pa_cons (pv 14) pa_nil)) (pe_callB (callReprD hG hu64) (by rfl) T.repr_ (by decide +kernel) (pa_cons (pv 13) pa_nil)) (nomark _)))))))))))))), ?_⟩
  have est : L2.start ["_law_pail_here", "_law_sheet_here", "_law_limits_here", "_law_shares", "_law_title", "_law_due", "_law_is_sure", "_law_is_some", "_law_k", "_law_some", "_law_low", "_law_high", "_law_each", "_law_told", "_law_far"] [V.ref p] = [some (.ref p), none, none, none, none, none, none, none, none, none, none, none, none, none, none] := rfl
  rw [est]
  walk_at "goD12"
  walk_at "flat13"
  refine ⟨_, rfl, p, n, rfl, hp, by omega, fun t cs rs H1 nt tb g r4 e1 hp1 => ?_⟩
  walk_at "flat13"
  refine ⟨_, rfl, _, rfl, p, t, n + 70, cs, rs, rfl, nt, tb, g, hp1, by omega, fun vb bs H2 rb bok e2 hp2 => ?_⟩
  walk_at "flat13"
  have tb2 := tb.keep nt e2
  obtain ⟨dx, vc, vr, h1, h2, h3⟩ := id tb2
  have c4 := g.c4
  cases h2 with
  | @tup ac xc _ nac hac zac rac =>
  refine lc_drawT (p := p) (a := ac) (n := n + 70 + 5 * rs.length) (c := 2) (ds := cs.map PyData.str) (ok := fun _ e => ∃ f : Int × Int, e = dSp f ∧ Few f ∧ Low f) hp2 (by rw [List.length_map]; omega) (by rw [List.length_map]; omega) hac nac rac (fun R hR => ⟨_, rfl, t, dx, _, rfl, h1, t, dx, _, .ref ac, rfl, h1, rfl, hR⟩) (fun z d H3 R q8 hd e3 hp3 hq3 rz hR => ?_) (fun D ys8 es H3 hD hd3 rd3 le ok3 e3 hp3 => ?_)
  · refine ⟨rfl, ?_⟩
    refine ⟨_, rfl, p, 9, q8, rfl, by decide, by decide, hp3, by omega, fun r H4 r0 r1 e4 hp4 => ⟨_, _, rfl, rfl, ?_⟩⟩
    refine ⟨_, rfl, p, 3, q8 + 1, rfl, by decide, by decide, hp4, by omega, fun r' H5 r0' r1' e5 hp5 => ⟨_, _, rfl, rfl, ?_⟩⟩
    have fr := few_red (a := r - 4) (b := 1 + r') (by omega) (by omega) (by omega) (by omega)
    exact ⟨p, r - 4, 1 + r', rfl, hp5.has, by omega, by omega, fun y H6 s6 r6 => hR _ _ H6 ⟨_, rfl, fr⟩ r6 (e4.trans (e5.trans (ExB.of s6))) (hp5.keep s6)⟩
  · rw [List.length_map] at le hp3
    obtain ⟨fs, rfl, hfs⟩ := few_of (es := es) fun e he => by
      obtain ⟨j, hj⟩ := List.mem_iff_getElem?.mp he
      have jl := (List.getElem?_eq_some_iff.mp hj).1
      obtain ⟨x, hx⟩ : ∃ x, (cs.map PyData.str)[j]? = some x := ⟨_, List.getElem?_eq_getElem (by rw [List.length_map]; omega)⟩
      exact ok3 j x e hx hj
    rw [List.length_map] at le
    have ld := rd3.length
    rw [List.length_map] at ld
    refine ⟨D, _, rfl, .inl ⟨SqL.of hd3, fun t9 ht9 => ?_⟩⟩
    have s9 := same_new (o := .tup ys8) ht9
    have e9 : ExB p H (upd H3 t9 (.tup ys8)) := e1.trans (e2.trans (e3.trans (ExB.of s9)))
    have ra9 : RpT p (upd H3 t9 (.tup ys8)) (.ref t9) (.tuple (fs.map dSp)) := .tup (hp3.has.ne ht9) (.inl upd_same) (by omega) (rd3.keep (ExT.of (ExB.of s9)))
    have S9 : Sy C p (upd H3 t9 (.tup ys8)) t vb (.ref t9) cs rs bs fs := ⟨nt, tb2.keep nt (e3.trans (ExB.of s9)), rb.keep (ExT.of (e3.trans (ExB.of s9))), ra9⟩
    have hp9 := (hp3.keep s9).more (show n + 70 + 5 * rs.length + 2 * cs.length ≤ n + 200 by omega)
    have fok : FsOk cs.length fs := ⟨le, hfs⟩
    clear ra9 rd3 hd3 ht9 s9 e1 e2 e3 tb tb2 hp1 hp2 hp3 rb rac hac h3 h1 ok3
    generalize upd H3 t9 (.tup ys8) = H4 at *
    walk_at "flat13"
    have few : ∀ f ∈ fs, Few f := fun f hf => (hfs f hf).1
    have lbs := bok.1
    refine ⟨len_le (n := 0) rfl (by decide), fun l0 hl0 => ⟨_, _, _, rfl, ?_⟩⟩
    have s0 := same_new (o := .lst []) hl0
    have at0 : upd H4 l0 (.lst []) l0 = some (.lst []) := upd_same
    have n0 := hp9.has.ne hl0
    have S0 := S9.keep (ExB.of s0)
    have hp0 := hp9.keep s0
    generalize upd H4 l0 (.lst []) = H5 at *
    obtain ⟨dx5, vc5, vr5, g1, g2, g3⟩ := id S0.tb
    walk_at "flat13"
    refine ⟨_, rfl, t, dx5, _, rfl, g1, p, t, cs, rs, rfl, S0.tb, rs.length, rfl, by omega, ((rs.length : Nat) : Int), rfl, by omega, by omega, ?_⟩
    rw [Int.toNat_natCast]
    refine for_range (fun i σ H' => ∃ (ys : List V) (u8 u9 u10 u11 : Option V), σ = [some (.ref p), some (.ref t), some vb, some (.ref t9), none, some (.ref l0), some (.bl (sureP rs bs fs i)), some (.bl (someP rs bs fs i)), u8, u9, u10, u11, none, none, none] ∧ Same H4 H' ∧ PailAt H' p (n + 200) ∧
        Sy C p H' t vb (.ref t9) cs rs bs fs ∧ H' l0 = some (.lst ys) ∧ RpTA p H' ys ((rs.take i).map (dFE fs)))
      ⟨[], none, none, none, none, rfl, s0, hp0, S0, at0, .nil⟩ ?_ ?_
    · rintro i σ H6 hi ⟨ys, u8, u9, u10, u11, rfl, s6, hp6, S6, hl6, ry6⟩
      obtain ⟨r, er⟩ : ∃ r, rs[i]? = some r := ⟨rs[i], List.getElem?_eq_getElem hi⟩
      obtain ⟨b, eb⟩ : ∃ b, bs[i]? = some b := ⟨bs[i]'(by omega), List.getElem?_eq_getElem (by omega)⟩
      have ro := g.row (List.mem_of_getElem? er)
      have rl := g.rl r (List.mem_of_getElem? er)
      have bo := bok.2 b (List.mem_of_getElem? eb)
      have ft := fe_fit ro few
      have fsx := fe_six (r := r) few
      rw [sure_snoc er eb, some_snoc er eb]
      have tk := take_snoc er
      rw [Int.zero_add]
      obtain ⟨dx6, vc6, vr6, j1, j2, j3⟩ := id S6.tb
      cases j3 with
      | @tup ar xr _ nar har zar rar =>
      obtain ⟨v6, hv6, rv6⟩ := rar.at_ (i := i) (d := dRw r) (by rw [List.getElem?_map, er]; rfl)
      obtain ⟨a7, x7, z7, rfl, k1, k2, k3⟩ := unp2 rv6
      walk_at "goD12"
      walk_at "flat13"
      refine ⟨_, rfl, t, dx6, _, rfl, j1, t, dx6, _, .ref ar, rfl, j1, rfl, _, rfl, .inr (.inl ⟨ar, _, ((i : Nat) : Int), _, rfl, rfl, SqT.rd har, atI_nat hv6, .inr (.inl ⟨a7, _, 1, z7, rfl, rfl, SqT.rd k1, atI_nat (j := 1) rfl, ?_⟩)⟩)⟩
      refine ⟨_, rfl, p, z7, .ref t9, r.2, fs, rfl, hp6.has, k3, S6.ra, by rw [rl, le], by omega, ro.2.2, few, fun l7 ys7 H7 n7 s7 hl7 ry7 => ?_⟩
      have clo := @csf_lo r.2 (fs.map t6)
      have wf := w_fit r.2 (fs.map t6) 4 ro.2.1 ro.2.2 (fun w hw => by
        obtain ⟨f, hf, rfl⟩ := List.mem_map.mp hw
        have := t6_small (few f hf)
        omega)
      generalize hF : csf (r.2.zip (fs.map t6)) [0] = F at *
      have F16 : F.length ≤ 16 := by
        rw [← hF, csf_len, List.length_zip, List.length_map]
        have : min r.2.length fs.length ≤ 4 := by omega
        have := Nat.pow_le_pow_right (n := 2) (by decide) this
        simp only [List.length_cons, List.length_nil]
        omega
      have F1 : 1 ≤ F.length := List.length_pos_of_mem clo.1
      have Fb : ∀ x ∈ F, -100000000 ≤ x ∧ x ≤ 100000000 := fun x hx => by
        have := clo.2.2 x hx
        omega
      walk_at "flat13"
      refine ⟨_, rfl, p, l7, ys7, F, rfl, hl7, ry7, F1, Fb, fun y8 m8 mF mle r8' => ?_⟩
      have em : m8 = wLo r.2 (fs.map t6) := Int.le_antisymm (mle _ clo.1) (clo.2.2 _ mF).1
      subst em
      walk_at "flat13"
      have lF := ry7.length
      rw [List.length_map] at lF
      refine lc_dataL (p := p) (ds := F.map d6) (es := F.map fun x => d6 (-x)) (by rw [List.length_map, List.length_map]) (by rw [List.length_map]; omega) (fun R hR => ⟨_, rfl, hR _ _ _ (Same.refl _) hl7 ry7⟩) (fun j z d e H8 hd8 he8 sm8 rz8 R hR => ?_) (fun D8 ys8 H8 hD8 sm8 hd8 ry8 => ?_)
      · obtain ⟨n1, h5, rfl⟩ := map_get hd8
        obtain ⟨n2, h6, rfl⟩ := map_get he8
        rw [h5] at h6
        cases h6
        obtain ⟨a9, x9, z9, rfl, q1, q2, q3⟩ := unp2 rz8
        cases q2
        cases q3
        refine ⟨rfl, ?_⟩
        refine ⟨_, rfl, .inr (.inl ⟨a9, _, 0, _, rfl, rfl, SqT.rd q1, atI_nat (j := 0) rfl, _, _, rfl, rfl, _, rfl, .inr (.inl ⟨a9, _, 1, _, rfl, rfl, SqT.rd q1, atI_nat (j := 1) rfl, len_le (n := 2) rfl (by decide), fun t8 ht8 => ?_⟩)⟩)⟩
        refine hR _ _ (same_new ht8) ?_
        rw [← red_opp]
        exact rp_span ((hp6.has.keep (s7.trans sm8)).ne ht8) upd_same
      · have F8 : 1 ≤ (F.map fun x => -x).length := by rw [List.length_map]; exact F1
        have Fb8 : ∀ x ∈ F.map (fun x => -x), -100000000 ≤ x ∧ x ≤ 100000000 := fun x hx => by
          obtain ⟨y, hy, rfl⟩ := List.mem_map.mp hx
          have := Fb y hy
          omega
        refine ⟨p, D8, ys8, F.map fun x => -x, rfl, hd8, by rw [List.map_map]; exact ry8, F8, Fb8, fun y10 m10 mF10 mle10 r10 => ?_⟩
        have em : m10 = -wHi r.2 (fs.map t6) := by
          have l1 := mle10 _ (List.mem_map.mpr ⟨_, clo.2.1, rfl⟩)
          obtain ⟨y, hy, rfl⟩ := List.mem_map.mp mF10
          have := (clo.2.2 y hy).2
          omega
        subst em
        rw [← red_opp, ← fsx.2] at r10
        have r9 := r8'.keep (ExT.of (ExB.of sm8))
        unfold d6 at r9
        rw [← fsx.1] at r9
        have s68 := s7.trans sm8
        have hp8 := hp6.keep s68
        have S8 := S6.keep (ExB.of s68)
        have hl8 := s68 _ _ hl6
        have ry8' := ry6.keep (ExT.of (ExB.of s68))
        have s48 := s6.trans s68
        clear hd8 ry8 Fb8 F8 mF10 mle10 Fb F1 F16 clo hF lF r8' mF mle ry7 hl7 S6 hp6 hl6 ry6 k1 k2 k3 j1 j2 har rar hv6 rv6 s6 s7 sm8 s68 hD8 wf rl S9 hp9 S0 hp0 at0 s0 g1 g2 g3
        obtain ⟨a10, x10, z10, rfl, q1, q2, q3⟩ := unp2 r10
        cases q2
        cases q3
        have r11 := r9
        obtain ⟨a11, x11, z11, rfl, w1, w2, w3⟩ := unp2 r11
        cases w2
        cases w3
        walk_at "flat13"
        refine ⟨_, rfl, .inl ⟨rfl, _, SqL.of hl8⟩, _, rfl, ?_⟩
        refine ⟨_, rfl, .inr (.inl ⟨a10, _, 0, _, rfl, rfl, SqT.rd q1, atI_nat (j := 0) rfl, _, _, rfl, rfl, _, rfl, .inr (.inl ⟨a10, _, 1, _, rfl, rfl, SqT.rd q1, atI_nat (j := 1) rfl, len_le (n := 2) rfl (by decide), fun t11 ht11 => ⟨len_le (n := 2) rfl (by decide), fun t12 ht12 => ?_⟩⟩)⟩)⟩
        have s11 := same_new (o := .tup [V.int (0 - (0 - (feHi r fs).1)), V.int (feHi r fs).2]) ht11
        have s12 := same_new (o := .tup [V.ref a11, V.ref t11]) ht12
        have hp11 := hp8.keep s11
        have rn : RpT p (upd (upd H8 t11 (.tup [V.int (0 - (0 - (feHi r fs).1)), V.int (feHi r fs).2])) t12 (.tup [V.ref a11, V.ref t11])) (.ref t12) (dFE fs r) := by
          refine .tup (hp11.has.ne ht12) (.inl upd_same) (by exact Nat.le_of_ble_eq_true rfl) (.cons (r9.keep (ExT.of (ExB.of (s11.trans s12)))) (.cons ?_ .nil))
          refine .tup (hp8.has.ne ht11) (.inl (s12 _ _ upd_same)) (by exact Nat.le_of_ble_eq_true rfl) (.cons ?_ (.cons (.int _) .nil))
          have e0 : (0 : Int) - (0 - (feHi r fs).1) = (feHi r fs).1 := by omega
          show RpT p _ (V.int (0 - (0 - (feHi r fs).1))) (PyData.int (feHi r fs).1)
          rw [e0]
          exact .int _
        have s13 := s11.trans s12
        have hl13 := s13 _ _ hl8
        have S13 := S8.keep (ExB.of s13)
        have hp13 := hp8.keep s13
        have ry13 := ry8'.keep (ExT.of (ExB.of s13))
        have q13 := Rd.same q1 s13
        have w13 := Rd.same w1 s13
        have s413 := s48.trans s13
        generalize upd (upd H8 t11 (.tup [V.int (0 - (0 - (feHi r fs).1)), V.int (feHi r fs).2])) t12 (.tup [V.ref a11, V.ref t11]) = H13 at *
        have ly := ry13.length
        rw [List.length_map, List.length_take] at ly
        refine ⟨l0, ys, _, rfl, rfl, hl13, Nat.lt_of_lt_of_le (by omega : ys.length < 1000) (by decide), ?_⟩
        have nl : ∀ {a xs}, Rd H13 a (.tup xs) → a ≠ l0 := fun h z => by
          rw [z] at h
          rcases h with h | ⟨o, h⟩ <;> (rw [hl13] at h; cases h)
        have nq := nl q13
        have nw := nl w13
        have SX := S13.put (zs := ys ++ [.ref t12]) hl13
        have qX : Rd (upd H13 l0 (.lst (ys ++ [.ref t12]))) a10 (.tup [V.int (0 - (feHi r fs).1), V.int (feHi r fs).2]) := by
          rcases q13 with h | ⟨o, h⟩
          · exact .inl (by rw [upd_ne nq]; exact h)
          · exact .inr ⟨o, by rw [upd_ne nq]; exact h⟩
        have wX : Rd (upd H13 l0 (.lst (ys ++ [.ref t12]))) a11 (.tup [V.int (feLo r fs).1, V.int (feLo r fs).2]) := by
          rcases w13 with h | ⟨o, h⟩
          · exact .inl (by rw [upd_ne nw]; exact h)
          · exact .inr ⟨o, by rw [upd_ne nw]; exact h⟩
        have sX : Same H4 (upd H13 l0 (.lst (ys ++ [.ref t12]))) := fun b o hb => by
          rw [upd_ne (ne_of_none hb hl0)]
          exact s413 b o hb
        have hpX := hp13.put (o := .lst (ys ++ [.ref t12])) n0
        have lX : upd H13 l0 (.lst (ys ++ [.ref t12])) l0 = some (.lst (ys ++ [.ref t12])) := upd_same
        have ryX : RpTA p (upd H13 l0 (.lst (ys ++ [.ref t12]))) (ys ++ [.ref t12]) ((rs.take (i + 1)).map (dFE fs)) := by
          rw [tk, List.map_append]
          exact RpTA.append (ry13.keep (ExT.put hl13)) (.cons (rn.keep (ExT.put hl13)) .nil)
        generalize upd H13 l0 (.lst (ys ++ [.ref t12])) = HX at *
        clear rn q13 w13 hp13 S13 s413 hl13 ry13 s13 s12 s11 ht11 ht12 hp11 hp8 S8 hl8 ry8' q1 w1 r9 r10 s48 nl fsx
        have rbX := SX.rb
        cases rbX with
        | @tup ab xb _ nab hab zab rab =>
        obtain ⟨vb1, hvb, rvb⟩ := rab.at_ (i := i) (d := dSp b) (by rw [List.getElem?_map, eb]; rfl)
        obtain ⟨ab1, xb1, zb1, rfl, b1, b2, b3⟩ := unp2 rvb
        cases b2
        cases b3
        obtain ⟨⟨f1, f2⟩, f3, f4⟩ := ft.1
        obtain ⟨⟨f5, f6⟩, f7, f8⟩ := ft.2
        dsimp only
        refine via (fun v H1 => v = .bl (sureP rs bs fs i && decide ((feHi r fs).1 ≤ b.1 * (feHi r fs).2)) ∧ H1 = HX) (fun R hR => ?_) ?_
        · dsimp only [tAndV]
          refine ⟨_, rfl, _, rfl, ?_⟩
          cases e : sureP rs bs fs i with
          | false => exact iteF (hR _ _ ⟨by rw [e]; rfl, rfl⟩)
          | true =>
            refine iteT ?_
            walk_at "goD12"
            refine ⟨_, rfl, .inr (.inl ⟨a10, _, 0, _, rfl, rfl, SqT.rd qX, atI_nat (j := 0) rfl, _, _, rfl, rfl, _, rfl, _, rfl, .inr (.inl ⟨ab, _, ((i : Nat) : Int), _, rfl, rfl, SqT.rd hab, atI_nat hvb, .inr (.inl ⟨ab1, _, 0, _, rfl, rfl, SqT.rd b1, atI_nat (j := 0) rfl, _, rfl, .inr (.inl ⟨a10, _, 1, _, rfl, rfl, SqT.rd qX, atI_nat (j := 1) rfl, .inl ⟨_, _, rfl, rfl, .inl ⟨by omega, by omega⟩, .inl ⟨_, _, rfl, rfl, hR _ _ ⟨?_, rfl⟩⟩⟩⟩)⟩)⟩)⟩)⟩
            rw [e, Bool.true_and, show (0 : Int) - (0 - (feHi r fs).1) = (feHi r fs).1 by omega]
        rintro _ HX ⟨rfl, rfl⟩
        walk_at "flat13"
        refine via (fun v H1 => v = .bl (someP rs bs fs i && decide ((feLo r fs).1 ≤ b.2 * (feLo r fs).2)) ∧ H1 = HX) (fun R hR => ?_) ?_
        · dsimp only [tAndV]
          refine ⟨_, rfl, _, rfl, ?_⟩
          cases e : someP rs bs fs i with
          | false => exact iteF (hR _ _ ⟨by rw [e]; rfl, rfl⟩)
          | true =>
            refine iteT ?_
            walk_at "goD12"
            refine ⟨_, rfl, .inr (.inl ⟨a11, _, 0, _, rfl, rfl, SqT.rd wX, atI_nat (j := 0) rfl, _, rfl, _, rfl, .inr (.inl ⟨ab, _, ((i : Nat) : Int), _, rfl, rfl, SqT.rd hab, atI_nat hvb, .inr (.inl ⟨ab1, _, 1, _, rfl, rfl, SqT.rd b1, atI_nat (j := 1) rfl, _, rfl, .inr (.inl ⟨a11, _, 1, _, rfl, rfl, SqT.rd wX, atI_nat (j := 1) rfl, .inl ⟨_, _, rfl, rfl, .inl ⟨by omega, by omega⟩, .inl ⟨_, _, rfl, rfl, hR _ _ ⟨?_, rfl⟩⟩⟩⟩)⟩)⟩)⟩)⟩
            rw [e, Bool.true_and]
        rintro _ HX ⟨rfl, rfl⟩
        walk_at "flat13"
        exact ⟨_, _, _, _, _, rfl, sX, hpX, SX, lX, ryX⟩
    · rintro σ H6 ⟨ys, u8, u9, u10, u11, rfl, s6, hp6, S6, hl6, ry6⟩
      rw [List.take_of_length_le (Nat.le_refl _)] at ry6
      have hsure := sure_eq (rs := rs) (bs := bs) (fs := fs) lbs.symm
      have hsome := some_eq (rs := rs) (bs := bs) (fs := fs) lbs.symm
      have hss : sureB rs bs fs = true → someB rs bs fs = true := fun h => by
        rw [hsure] at h
        rw [hsome]
        exact sure_some few (fun b hb => (bok.2 b hb).2.1) h
      rw [← hsure, ← hsome]
      have shw : Shw (.tuple (rs.map (dFE fs))) 255 3 := by
        refine tup_shw (n := 61) (k := 2) (m := 4) (fun e he => ?_) (by rw [List.length_map]; exact r4)
        obtain ⟨r, hr', rfl⟩ := List.mem_map.mp he
        exact fe_shw (g.row hr') few
      obtain ⟨w1, w2, w3, w4⟩ := lst_show (es := [.tuple (rs.map (dFE fs)), .tuple (rs.map (dFE fs))]) (n := 255) (k := 3) (m := 2) (fun e he => by
        simp only [List.mem_cons, List.not_mem_nil, or_false, or_self] at he
        rw [he]
        exact shw) (by exact Nat.le_refl 2) (by decide) (by decide)
      have ly := ry6.length
      rw [List.length_map] at ly
      have r8 := g.r8
      clear S9 hp9 S0 hp0 at0 s0 g1 g2 g3
      walk_at "goD12"
      walk_at "flat13"
      refine ⟨_, rfl, _, rfl, p, t, .ref t9, cs, rs, fs, rfl, hp6.has, S6.tb, g, S6.ra, fok, fun y1 H7 s7 r7 => ?_⟩
      have hp7 := hp6.keep s7
      have S7 := S6.keep (ExB.of s7)
      refine ⟨_, rfl, _, rfl, rfl, rfl, p, t, .ref t9, cs, rs, fs, rfl, hp7.has, S7.tb, g, S7.ra, fok, fun y2 H8 s8 r8' => ?_⟩
      refine ⟨len_le (n := 2) rfl (by decide), fun l1 hl1 => ?_⟩
      have s9 := same_new (o := .lst [y1, y2]) hl1
      have s69 := s7.trans (s8.trans s9)
      have hp9 := hp6.keep s69
      have Lp1 : Rp p (upd H8 l1 (.lst [y1, y2])) (.ref l1) (.list [.tuple (rs.map (dFE fs)), .tuple (rs.map (dFE fs))]) :=
        .lst ((hp7.keep s8).has.ne hl1) upd_same (by exact Nat.le_of_ble_eq_true rfl) (.cons (r7.rp.keep (ExB.of (s8.trans s9))) (.cons (r8'.rp.keep (ExB.of s9)) .nil))
      generalize upd H8 l1 (.lst [y1, y2]) = H9 at *
      refine ⟨p, .ref l1, _, rfl, Lp1, w1, w2, w3, w4, ?_⟩
      have hl9 := s69 _ _ hl6
      have ry9 := ry6.keep (ExT.of (ExB.of s69))
      refine ⟨_, rfl, l0, ys, rfl, .inl ⟨SqL.of hl9, fun t10 ht10 => ⟨len_le (n := 1) rfl (by decide), fun l2 hl2 => .inr ⟨l2, 2, _, rfl, rfl, upd_same, by omega, by omega, sz1000 (by exact Nat.le_of_ble_eq_true rfl), fun l3 hl3 => ?_⟩⟩⟩⟩
      have s10 := same_new (o := .tup ys) ht10
      have s11 := same_new (o := .lst [V.ref t10]) hl2
      have s12 := same_new (o := .lst (List.replicate (Int.toNat 2) [V.ref t10]).flatten) hl3
      have hp11 := (hp9.keep s10).keep s11
      have rt10 : Rp p (upd (upd (upd H9 t10 (.tup ys)) l2 (.lst [V.ref t10])) l3 (.lst (List.replicate (Int.toNat 2) [V.ref t10]).flatten)) (.ref t10) (.tuple (rs.map (dFE fs))) :=
        .tup (hp9.has.ne ht10) (.inl (s12 _ _ (s11 _ _ upd_same))) (by omega) (ry9.rp.keep (ExB.of (s10.trans (s11.trans s12))))
      refine ⟨p, .ref l3, .list [.tuple (rs.map (dFE fs)), .tuple (rs.map (dFE fs))], rfl, .lst (hp11.has.ne hl3) upd_same (by exact Nat.le_of_ble_eq_true rfl) (.cons rt10 (.cons rt10 .nil)), w1, w2, w3, w4, .inl ⟨rfl, _, rfl, ?_⟩⟩
      rw [decide_eq_true rfl]
      refine iteF ?_
      have s612 := s69.trans (s10.trans (s11.trans s12))
      have hp12 := hp6.keep s612
      have S12 := S6.keep (ExB.of s612)
      have e12 : ExB p H4 _ := ExB.of (s6.trans s612)
      generalize upd (upd (upd H9 t10 (.tup ys)) l2 (.lst [V.ref t10])) l3 (.lst (List.replicate (Int.toNat 2) [V.ref t10]).flatten) = H12 at *
      clear rt10 s12 s11 s10 hp11 hl3 hl2 ht10 ry9 hl9 Lp1 hp9 s69 s9 hl1 r8' s8 S7 hp7 r7 s7 ry6 hl6 S6 hp6 s6 w1 w2 w3 w4 shw s612
      walk_at "goD12"
      walk_at "flat13"
      refine ⟨_, rfl, _, rfl, _, rfl, p, t, vb, .ref t9, cs, rs, bs, fs, rfl, hp12.has, S12.tb, g, S12.rb, bok, S12.ra, fok, fun H13 s13 => ?_⟩
      have hp13 := hp12.keep s13
      have S13 := S12.keep (ExB.of s13)
      refine ⟨_, rfl, _, rfl, _, rfl, p, t, vb, .ref t9, cs, rs, bs, fs, rfl, hp13.has, S13.tb, g, S13.rb, bok, S13.ra, fok, fun H14 s14 => ?_⟩
      have e14 := e12.trans (ExB.of (s13.trans s14))
      have hp14 := hp13.keep s14
      have S14 := S13.keep (ExB.of s14)
      clear s13 s14 S13 hp13 S12 hp12 e12
      generalize hc1 : sureB rs bs fs = c1 at *
      generalize hc2 : someB rs bs fs = c2 at *
      obtain ⟨b1, b2, b3, b4⟩ := bool2 c1 c2
      refine ⟨len_le (n := 2) rfl (by decide), fun l1 hl1 => ?_⟩
      have s15 := same_new (o := .lst [V.bl c1, V.bl c2]) hl1
      have n1 := hp14.has.ne hl1
      have at1 : upd H14 l1 (.lst [V.bl c1, V.bl c2]) l1 = some (.lst [V.bl c1, V.bl c2]) := upd_same
      have hp15 := hp14.keep s15
      have S15 := S14.keep (ExB.of s15)
      have e15 := e14.trans (ExB.of s15)
      generalize upd H14 l1 (.lst [V.bl c1, V.bl c2]) = H15 at *
      refine ⟨_, rfl, p, .ref l1, .list [.bool c1, .bool c2], rfl, .lst n1 at1 (by exact Nat.le_of_ble_eq_true rfl) (.cons (.bl _) (.cons (.bl _) .nil)), b1, b2, b3, b4, ?_⟩
      refine ⟨_, rfl, _, rfl, len_le (n := 2) rfl (by decide), fun l2 hl2 => ?_⟩
      have s16 := same_new (o := .lst [V.bl c1, V.bl c2]) hl2
      refine ⟨p, .ref l2, .list [.bool c1, .bool c2], rfl, .lst (hp15.has.ne hl2) upd_same (by exact Nat.le_of_ble_eq_true rfl) (.cons (.bl _) (.cons (.bl _) .nil)), b1, b2, b3, b4, .inl ⟨rfl, _, rfl, ?_⟩⟩
      rw [decide_eq_true rfl]
      have hp16 := hp15.keep s16
      have S16 := S15.keep (ExB.of s16)
      have e16 := e15.trans (ExB.of s16)
      have at16 := s16 _ _ at1
      generalize upd H15 l2 (.lst [V.bl c1, V.bl c2]) = H16 at *
      clear s16 s15 S15 hp15 S14 hp14 e15 e14 hl1 hl2 at1
      refine iteF ?_
      dsimp only [tAnd, tNot, tAndV]
      have two : c1 = true ∨ c1 = false := by cases c1 <;> simp
      refine ⟨_, rfl, c1, rfl, ?_⟩
      rcases two with z | z
      · have z2 := hss z
        rw [if_pos z]
        refine ⟨_, rfl, c2, rfl, ?_⟩
        rw [if_neg (by rw [z2]; exact Bool.false_ne_true)]
        refine ⟨_, rfl, _, rfl, _, rfl, rfl, rfl, p, t, vb, .ref t9, cs, rs, bs, fs, rfl, hp16.has, S16.tb, g, S16.rb, bok, S16.ra, fok, fun H17 s17 => ⟨len_le (n := 1) rfl (by decide), fun l3 hl3 => ?_⟩⟩
        rw [hc1]
        have hp17 := hp16.keep s17
        have s18 := same_new (o := .lst [V.bl c1]) hl3
        have n3 := hp17.has.ne hl3
        have hp18 := hp17.keep s18
        have S18 := S16.keep (ExB.of (s17.trans s18))
        have e18 := e16.trans (ExB.of (s17.trans s18))
        have at18 := s18 _ _ (s17 _ _ at16)
        have l31 : l1 ≠ l3 := ne_of_none (s17 _ _ at16) hl3
        have at3 : upd H17 l3 (.lst [V.bl c1]) l3 = some (.lst [V.bl c1]) := upd_same
        have hH3 : H16 l3 = none := s17.free hl3
        generalize upd H17 l3 (.lst [V.bl c1]) = H18 at *
        refine ⟨_, rfl, .inl ⟨rfl, _, SqL.of at3⟩, _, rfl, _, rfl, _, rfl, rfl, rfl, p, t, vb, .ref t9, cs, rs, bs, fs, rfl, hp18.has, S18.tb, g, S18.rb, bok, S18.ra, fok, fun H19 s19 => ?_⟩
        rw [hc2]
        have at19 := s19 _ _ at3
        have at19' := s19 _ _ at18
        have hp19 := hp18.keep s19
        refine ⟨l3, _, _, rfl, rfl, at19, Nat.lt_of_lt_of_le (by decide : 1 < 1000) (by decide), ?_⟩
        have e20 : ExB p H4 (upd H19 l3 (.lst [V.bl c1, V.bl c2])) := fun b o nb hb => by
          rw [upd_ne (fun z' => ?_)]
          · exact e18.trans (ExB.of s19) b o nb hb
          · have := e16 b o nb hb
            rw [z', hH3] at this
            cases this
        have hp20 := hp19.put (o := .lst [V.bl c1, V.bl c2]) n3
        have at20 : upd H19 l3 (.lst [V.bl c1, V.bl c2]) l1 = some (.lst [V.bl c1, V.bl c2]) := by
          rw [upd_ne l31]
          exact at19'
        refine ⟨_, rfl, p, .ref l3, .list [.bool c1, .bool c2], rfl, .lst n3 upd_same (by exact Nat.le_of_ble_eq_true rfl) (.cons (.bl _) (.cons (.bl _) .nil)), b1, b2, b3, b4, ?_⟩
        refine ⟨_, rfl, p, .ref l1, .list [.bool c1, .bool c2], rfl, .lst n1 at20 (by exact Nat.le_of_ble_eq_true rfl) (.cons (.bl _) (.cons (.bl _) .nil)), b1, b2, b3, b4, .inl ⟨rfl, ?_⟩⟩
        rw [decide_eq_true rfl]
        exact k _ (e9.trans e20) hp20
      · rw [if_neg (by rw [z]; exact Bool.false_ne_true)]
        rw [if_neg Bool.false_ne_true]
        refine ⟨_, rfl, _, rfl, _, rfl, rfl, rfl, p, t, vb, .ref t9, cs, rs, bs, fs, rfl, hp16.has, S16.tb, g, S16.rb, bok, S16.ra, fok, fun H17 s17 => ⟨len_le (n := 1) rfl (by decide), fun l3 hl3 => ?_⟩⟩
        rw [hc1]
        have hp17 := hp16.keep s17
        have s18 := same_new (o := .lst [V.bl c1]) hl3
        have n3 := hp17.has.ne hl3
        have hp18 := hp17.keep s18
        have S18 := S16.keep (ExB.of (s17.trans s18))
        have e18 := e16.trans (ExB.of (s17.trans s18))
        have at18 := s18 _ _ (s17 _ _ at16)
        have l31 : l1 ≠ l3 := ne_of_none (s17 _ _ at16) hl3
        have at3 : upd H17 l3 (.lst [V.bl c1]) l3 = some (.lst [V.bl c1]) := upd_same
        have hH3 : H16 l3 = none := s17.free hl3
        generalize upd H17 l3 (.lst [V.bl c1]) = H18 at *
        refine ⟨_, rfl, .inl ⟨rfl, _, SqL.of at3⟩, _, rfl, _, rfl, _, rfl, rfl, rfl, p, t, vb, .ref t9, cs, rs, bs, fs, rfl, hp18.has, S18.tb, g, S18.rb, bok, S18.ra, fok, fun H19 s19 => ?_⟩
        rw [hc2]
        have at19 := s19 _ _ at3
        have at19' := s19 _ _ at18
        have hp19 := hp18.keep s19
        refine ⟨l3, _, _, rfl, rfl, at19, Nat.lt_of_lt_of_le (by decide : 1 < 1000) (by decide), ?_⟩
        have e20 : ExB p H4 (upd H19 l3 (.lst [V.bl c1, V.bl c2])) := fun b o nb hb => by
          rw [upd_ne (fun z' => ?_)]
          · exact e18.trans (ExB.of s19) b o nb hb
          · have := e16 b o nb hb
            rw [z', hH3] at this
            cases this
        have hp20 := hp19.put (o := .lst [V.bl c1, V.bl c2]) n3
        have at20 : upd H19 l3 (.lst [V.bl c1, V.bl c2]) l1 = some (.lst [V.bl c1, V.bl c2]) := by
          rw [upd_ne l31]
          exact at19'
        refine ⟨_, rfl, p, .ref l3, .list [.bool c1, .bool c2], rfl, .lst n3 upd_same (by exact Nat.le_of_ble_eq_true rfl) (.cons (.bl _) (.cons (.bl _) .nil)), b1, b2, b3, b4, ?_⟩
        refine ⟨_, rfl, p, .ref l1, .list [.bool c1, .bool c2], rfl, .lst n1 at20 (by exact Nat.le_of_ble_eq_true rfl) (.cons (.bl _) (.cons (.bl _) .nil)), b1, b2, b3, b4, .inl ⟨rfl, ?_⟩⟩
        rw [decide_eq_true rfl]
        exact k _ (e9.trans e20) hp20
end
end Cs
set_option maxHeartbeats 4000000
/-! k39: the law -/
namespace Cs
open PySem L2 L2H PyProof.Rows
local macro_rules | `(tactic| walk_at "goD14") => `(tactic| try dsimp only [gName, tSeq, tAsg, tRet, tLst, tCons, tOp, tTup, tCall, tNil, tC, tDrop, tCB, tPar, tNext, tM1, tJs, tAndV, tFmt, tIfS, tOr, tNot, tB, tTest, tProp, tCallN, tPart, tG])
def SpR39 : Sp := fun vs H Q _ => ∃ p, vs = [.ref p] ∧ PailAt H p 0 ∧ ∀ H', ExB p H H' → Q (.bl true) H'
def SpLaw39 (K : PySem.W.Frag) : Sp := fun vs H Q _ => ∃ (a : Addr) (ns : List Int), vs = [.ref a] ∧ SqL K H a (ns.map V.int) ∧ ns.length ≤ 1000 ∧ ∀ H', Q (.bl true) H'
theorem sqS {K : PySem.W.Frag} {a : Addr} {H H' : Hp} {xs : List V} (h : SqL K H a xs) (e : Same H H') : SqL K H' a xs := by
  rcases h with (h | ⟨o, h⟩) | h
  · exact .inl (.inl (e _ _ h))
  · exact .inl (.inr ⟨o, e _ _ h⟩)
  · exact .inr h
section
variable {P : Program} {w : World} {K : PySem.W.Frag} {mg : Str → Option Value} {base : Heap}
theorem sc__law_right : FnScope ["_law_pail_here"] ["_law_pail_here"] (defScope (topS 63)) := ⟨rfl, rfl, rfl, by decide +kernel, rfl, by decide +kernel, by decide +kernel⟩
theorem ok__law_right (D : DefAt K mg "_law_right" (topS 63) ["_law_pail_here"]) (c_law_once_right : CalG P w K mg base 11 "_law_once_right" SpOr39) : CalG P w K mg base 12 "_law_right" SpR39 := by
  refine D.calG sc__law_right (fun vs H Q E h => by obtain ⟨_, rfl, _⟩ := h; rfl) fun f cdv A outer s H vs Q E hg hr h => ?_
  obtain ⟨p, rfl, hp, k⟩ := h
  have hG : (A.deeper (envOfC "_law_right" (defScope (topS 63)) s.heap.objs.size f cdv)).guards = some [] := hg
  refine ⟨_, (pss_one (ps_ret (pe_and (pe_cG2 c_law_once_right hG hr (by decide) rfl (pa_cons (pv 0) pa_nil)) (pe_one (pe_cG2 c_law_once_right hG hr (by decide) rfl (pa_cons (pv 0) pa_nil)))))), ?_⟩
  walk_at "goD14"
  refine ⟨_, rfl, p, 0, rfl, hp, by decide, fun H1 e1 hp1 => ⟨_, rfl, iteT ⟨_, rfl, p, 0 + 200, rfl, hp1, by decide, fun H2 e2 _ => k _ (e1.trans e2)⟩⟩⟩
theorem sc_law : FnScope ["_law_script", "_law_turn"] ["_law_script"] (defScope (topS 64)) := ⟨rfl, rfl, rfl, by decide +kernel, rfl, by decide +kernel, by decide +kernel⟩
theorem ok_law {f : Addr} {fd : FuncData} (F : FunD K "law" "law" (defArgs (topS 64)) (defBody (topS 64)) (defScope (topS 64)) [] [] f fd) (T : Txt mg)
    (c_law_right : CalG P w K mg base 12 "_law_right" SpR39) (c_law_pail : C8.Cal P w K mg base 1 "_law_pail" (SpPail K) []) : FnG P w K mg base 13 f fd ["_law_script"] (SpLaw39 K) := by

  obtain ⟨oc, od, dV, kV, doc, pm, an, cdv, ct, osl, rfl, lk, hcd, _, _⟩ := F.ex
  refine fn_ofG lk hcd sc_law (fun vs H Q E h => by obtain ⟨a, ns, rfl, _⟩ := h; rfl) fun A outer s H vs Q E hg hr h => ?_
  obtain ⟨a, ns, rfl, hq, hl, k⟩ := h
  have nd := sc_law.nd
  have hG : (A.deeper (envOfC "law" (defScope (topS 64)) s.heap.objs.size f cdv)).guards = some [] := hg
  refine ⟨_, PSs.nox (pss_one (ps_ret (pe_callB (cr_all rfl) (by rfl) T.all_ (by decide +kernel) (pa_cons (pe_lc (own := [("_law_turn", 1)]) rfl nd (pi_range1 rfl T.range_ (pa_cons pe_int pa_nil)) (blkOk_by (N := ["_law_script", "_law_turn"]) (sc := defScope (topS 64)) (by decide +kernel)) (fun _ _ _ _ _ => (pg_name (i := 1) nd rfl (.inl rfl))) (fun _ _ _ _ _ => pts_nil) (fun _ _ _ _ _ => (pe_cG2 c_law_right hG hr (by decide) rfl (pa_cons (C8.pe_c c_law_pail hr (by decide) rfl (pa_cons (pv 0) (pa_cons (pv 1) pa_nil))) pa_nil)))) pa_nil)))), ?_⟩
  dsimp only [tRet, tCB, tCons]
  refine ⟨_, rfl, by decide, by decide, fun D hD => ?_⟩
  refine lc_range (fun i H' => H' D = some (.lst (List.replicate i (V.bl true))) ∧ Same H H') ⟨upd_same, same_new hD⟩ (fun i H' hi ⟨h1, h2⟩ => ?_) (fun H' ⟨h1, h2⟩ => ?_)
  · refine ⟨rfl, ?_⟩
    have hi2 : i < 2 := hi
    refine ⟨_, rfl, _, rfl, a, ns, i, by rw [Int.zero_add]; rfl, sqS hq h2, hl, by omega, fun p H2 hp s2 hP => ?_⟩
    have nD : D ≠ p := ne_of_none h1 hp
    refine ⟨p, rfl, hP, fun H3 e3 => ?_⟩
    have hD3 : H3 D = some (.lst (List.replicate i (V.bl true))) := e3 _ _ nD (s2 _ _ h1)
    refine ⟨_, hD3, ?_, ?_, fun b o hb => ?_⟩
    · rw [List.length_replicate]
      exact Nat.lt_of_lt_of_le (by omega : i < 1000) (by decide)
    · rw [upd_same, List.replicate_succ']
    · have hb' := h2 b o hb
      rw [upd_ne (ne_of_none hb hD)]
      exact e3 _ _ (ne_of_none hb' hp) (s2 _ _ hb')
  · exact ⟨D, [true, true], rfl, SqL.of h1, k _⟩
end
end Cs
set_option maxHeartbeats 0
namespace Cs
open PySem PySem.Spec PyProof.Rows L2
def excCB (K : PySem.W.Frag) (D : Addr) : Bool := He.eqO (PySem.W.findIn K (.ref D) "__getattribute__") (some (some (.builtin "BaseException.__getattribute__"))) && (He.eqO (PySem.W.findIn K (.ref D) "__getattr__") (some none) &&
  (decide (PySem.W.subIn K (.ref D) (.type "BaseException") = some true) && (PySem.W.hasDictIn K D && (He.eqO (PySem.W.findIn K (.ref D) "__class__") (some (some (.builtin "object.__class__"))) &&
  (He.eqO (PySem.W.specialIn K (.builtin "object.__class__") "__get__") (some (some (.builtin "getset_descriptor.__get__"))) && (decide (PySem.W.takesIn K (.builtin "object.__class__") = some true) && decide (PySem.W.mroIn K D (.type "object") = some true)))))))
theorem excCB_ok {K : PySem.W.Frag} {D : Addr} (h : excCB K D = true) : ExcC K D := by
  obtain ⟨h1, h⟩ := Bool.and_eq_true_iff.mp h
  obtain ⟨h2, h⟩ := Bool.and_eq_true_iff.mp h
  obtain ⟨h3, h⟩ := Bool.and_eq_true_iff.mp h
  obtain ⟨h4, h⟩ := Bool.and_eq_true_iff.mp h
  obtain ⟨h5, h⟩ := Bool.and_eq_true_iff.mp h
  obtain ⟨h6, h⟩ := Bool.and_eq_true_iff.mp h
  obtain ⟨h7, h8⟩ := Bool.and_eq_true_iff.mp h
  exact ⟨He.eqO_ok h1, He.eqO_ok h2, of_decide_eq_true h3, h4, He.eqO_ok h5, He.eqO_ok h6, of_decide_eq_true h7, of_decide_eq_true h8⟩
def oexB1 (C : Addr) : Option Obj → Bool
  | some ⟨.type t, _, .cls cd, sl⟩ => decide (t = "type") && (match cd.mro, sl.toList with
    | .ref c :: bm, [_, _, _, _, some (.builtin n), _] => decide (c = C) && (PySem.HandSPX.refsVE bm && (decide (n = "ValueError.__new__") && (cd.hasDict && !cd.hasDel)))
    | _, _ => false)
  | _ => false
theorem oexB1_ok {C : Addr} {o : Option Obj} (h : oexB1 C o = true) : ∃ nm q N bs bm sn sub ab col dd k0 k1 k2 k3 k5, o = some (excClassObj nm q C N bs bm true sn sub ab col dd k0 k1 k2 k3 k5 "ValueError.__new__") ∧ PySem.HandSPX.refsVE bm = true := by
  unfold oexB1 at h
  split at h
  · rename_i t dd cd sl
    obtain ⟨ht, h⟩ := Bool.and_eq_true_iff.mp h
    split at h
    · rename_i c bm k0 k1 k2 k3 n k5 hm hs
      obtain ⟨hc, h⟩ := Bool.and_eq_true_iff.mp h
      obtain ⟨hr, h⟩ := Bool.and_eq_true_iff.mp h
      obtain ⟨hn, h⟩ := Bool.and_eq_true_iff.mp h
      obtain ⟨hd, hl⟩ := Bool.and_eq_true_iff.mp h
      obtain ⟨nm, bs, mro, N, q, hdct, sn, sub, ab, col, hdel⟩ := cd
      have gt := of_decide_eq_true ht
      have gc := of_decide_eq_true hc
      have gn := of_decide_eq_true hn
      have gm : mro = .ref c :: bm := hm
      have gd : hdct = true := hd
      have gl : hdel = false := by
        have z : (!hdel) = true := hl
        cases hdel with
        | false => rfl
        | true => cases z
      have hs2 : sl = #[k0, k1, k2, k3, some (.builtin n), k5] := by
        obtain ⟨l⟩ := sl
        have : l = _ := hs
        rw [this]
      clear hl hd hm ht hc hn hs
      subst gt gc gn gm gd gl hs2
      exact ⟨nm, q, N, bs, bm, sn, sub, ab, col, dd, k0, k1, k2, k3, k5, rfl, hr⟩
    · cases h
  · cases h
def oexB (K : PySem.W.Frag) (C : Addr) : Bool := oexB1 C (K.lookup C) && (He.eqO (PySem.W.findIn K (.ref C) "__setattr__") (some (some (.builtin "object.__setattr__"))) && (decide (PySem.W.subIn K (.ref C) (.type "BaseException") = some true) &&
  (decide (PySem.W.typeIn K (.ref C) = some (.type "type")) && PySem.W.keepIn K (.ref C))))
theorem oexB_ok {K : PySem.W.Frag} {C : Addr} (h : oexB K C = true) : OexC K C := by
  obtain ⟨h1, h⟩ := Bool.and_eq_true_iff.mp h
  obtain ⟨h2, h⟩ := Bool.and_eq_true_iff.mp h
  obtain ⟨h3, h⟩ := Bool.and_eq_true_iff.mp h
  obtain ⟨h4, h5⟩ := Bool.and_eq_true_iff.mp h
  exact ⟨oexB1_ok h1, He.eqO_ok h2, of_decide_eq_true h3, of_decide_eq_true h4, h5⟩
def oexGB (K : PySem.W.Frag) (C : Addr) (bmB : List Value) (newId : String) (f : Str) : Bool := PySem.W.excInitIn K C bmB newId && (PySem.W.excOver K C bmB && (He.eqO (PySem.W.findIn K (.ref C) "__setattr__") (some (some (.builtin "object.__setattr__"))) && (PySem.W.keepIn K (.ref C) &&
  (He.eqO (PySem.W.takerIn K C f) (some none) && (He.eqO (PySem.W.findIn K (.ref C) "__init__") (some (some (.ref (He.ma K C "__init__")))) && decide (PySem.W.typeIn K (.ref (He.ma K C "__init__")) = some (.type "function")))))))
def inB (K : PySem.W.Frag) (C : Addr) : Bool := He.eqO (PySem.W.findIn K (.ref C) "index") (some none) && (He.eqO (PySem.W.findIn K (.ref C) "__init__") (some (some (.ref (He.ma K C "__init__")))) && decide (PySem.W.typeIn K (.ref (He.ma K C "__init__")) = some (.type "function")))
def bmF (b : String) : List Value := [.type b, .type "Exception", .type "BaseException", .type "object"]
def rsB (K : PySem.W.Frag) (x : Str) (b nw : String) : Bool := oexGB K (He.ga K x) (bmF b) nw "given" && (PySem.W.hasDictIn K (He.ga K x) && (decide (PySem.W.subIn K (.ref (He.ga K x)) (.type "BaseException") = some true) && decide (PySem.W.typeIn K (.ref (He.ga K x)) = some (.type "type"))))
def tcB (K : PySem.W.Frag) (C : Addr) : Bool := He.eqO (PySem.W.findIn K (.ref C) "__class__") (some (some (.builtin "object.__class__"))) && (He.eqO (PySem.W.specialIn K (.builtin "object.__class__") "__get__") (some (some (.builtin "getset_descriptor.__get__"))) &&
  (decide (PySem.W.takesIn K (.builtin "object.__class__") = some true) && (decide (PySem.W.mroIn K C (.type "object") = some true) && decide (PySem.W.kitOne K (.ref C) (.ref C) = some true))))
/-- a property's getter -/
def pg (K : PySem.W.Frag) (C : Addr) (f : Str) : Addr := match PySem.W.recIn K (He.ma K C f) "property" with
  | some (.ref g :: _) => g
  | _ => 0
def prB (K : PySem.W.Frag) (C : Addr) (f : Str) : Bool := He.eqO (PySem.W.findIn K (.ref C) f) (some (some (.ref (He.ma K C f)))) && (He.eqO (PySem.W.specialIn K (.ref (He.ma K C f)) "__get__") (some (some (.builtin "property.__get__"))) &&
  (decide (PySem.W.takesIn K (.ref (He.ma K C f)) = some true) && (match PySem.W.recIn K (He.ma K C f) "property" with
  | some (.ref _ :: _) => true
  | _ => false)))
theorem prB_ok {K : PySem.W.Frag} {C : Addr} {f : Str} (h : prB K C f = true) : PropOf K C f (He.ma K C f) (pg K C f) := by
  obtain ⟨h1, h⟩ := Bool.and_eq_true_iff.mp h
  obtain ⟨h2, h⟩ := Bool.and_eq_true_iff.mp h
  obtain ⟨h3, h⟩ := Bool.and_eq_true_iff.mp h
  refine ⟨He.eqO_ok h1, He.eqO_ok h2, of_decide_eq_true h3, ?_⟩
  unfold pg
  split at h
  · rename_i g rest e
    rw [e]
    exact ⟨rest, rfl⟩
  · cases h
/-- what is read off a def at an address -/
def fnA (K : PySem.W.Frag) (a : Addr) : He.FnW := match K.lookup a with
  | some ⟨_, _, .func fd, _⟩ => some (fd.name, fd.qualname, fd.params, fd.body, fd.scope, fd.globals, fd.closure, fd.builtins)
  | _ => none
def okA (K : PySem.W.Frag) (a : Addr) (q : Str) : Bool := PySem.W.keepIn K (.ref a) && (match K.lookup a with
  | some ⟨_, _, .func fd, _⟩ => PySem.W.codeIn K fd.code q && (He.dflB K fd.defaults [] && He.kwdB K fd.kwdefaults [])
  | _ => false)
theorem funA {K : PySem.W.Frag} {a : Addr} {x q : Str} {st : Stmt} (e : fnA K a = some (x, q, defArgs st, .stmts (defBody st), defScope st, mainGlobals, [], builtinsNs)) (c : okA K a q = true) : ∃ fd, FunD K x q (defArgs st) (defBody st) (defScope st) [] [] a fd := by
  obtain ⟨kp, c2⟩ := Bool.and_eq_true_iff.mp c
  unfold fnA at e
  split at e
  · rename_i oc od fd osl lk
    rw [lk] at c2
    obtain ⟨n1, n2, n3, n4, n5, n6, n7, n8, n9, n10, n11, n12, n13, n14, n15⟩ := fd
    simp only [Option.some.injEq, Prod.mk.injEq] at e
    obtain ⟨rfl, rfl, rfl, rfl, rfl, rfl, rfl, rfl⟩ := e
    obtain ⟨k1, k2⟩ := Bool.and_eq_true_iff.mp c2
    obtain ⟨k3, k4⟩ := Bool.and_eq_true_iff.mp k2
    exact ⟨_, ⟨oc, od, n8, n9, n10, n11, n12, n13, n14, osl, rfl, lk, k1, He.dflB_ok k3, He.kwdB_ok k4⟩, kp⟩
  · cases e
def ex (K : PySem.W.Frag) : Bool := oexB K (He.ga K "InvalidColumns") && (oexB K (He.ga K "InvalidRows") && (inB K (He.ga K "InvalidColumns") && (inB K (He.ga K "InvalidRows") && (tcB K (He.ga K "Table") && (rsB K "NotATable" "ValueError" "ValueError.__new__" && (rsB K "InvalidBounds" "ValueError" "ValueError.__new__" && (rsB K "InvalidAnswer" "ValueError" "ValueError.__new__" && (He.eqO (PySem.W.nsIn K mainGlobals "gcd") (some (some (.builtin "math.gcd"))) && (He.eqO (PySem.W.nsIn K mainGlobals "lcm") (some (some (.builtin "math.lcm"))) && (prB K (He.ga K "Table") "columns" && (prB K (He.ga K "Table") "rows" && (okA K (pg K (He.ga K "Table") "columns") "Table.columns" && (okA K (pg K (He.ga K "Table") "rows") "Table.rows")))))))))))))
theorem ex_0 {K : PySem.W.Frag} (c : ex K = true) : (oexB K (He.ga K "InvalidColumns")) = true := (Bool.and_eq_true_iff.mp c).1
theorem ex_1 {K : PySem.W.Frag} (c : ex K = true) : (oexB K (He.ga K "InvalidRows")) = true := (Bool.and_eq_true_iff.mp (Bool.and_eq_true_iff.mp c).2).1
theorem ex_2 {K : PySem.W.Frag} (c : ex K = true) : (inB K (He.ga K "InvalidColumns")) = true := (Bool.and_eq_true_iff.mp (Bool.and_eq_true_iff.mp (Bool.and_eq_true_iff.mp c).2).2).1
theorem ex_3 {K : PySem.W.Frag} (c : ex K = true) : (inB K (He.ga K "InvalidRows")) = true := (Bool.and_eq_true_iff.mp (Bool.and_eq_true_iff.mp (Bool.and_eq_true_iff.mp (Bool.and_eq_true_iff.mp c).2).2).2).1
theorem ex_4 {K : PySem.W.Frag} (c : ex K = true) : (tcB K (He.ga K "Table")) = true := (Bool.and_eq_true_iff.mp (Bool.and_eq_true_iff.mp (Bool.and_eq_true_iff.mp (Bool.and_eq_true_iff.mp (Bool.and_eq_true_iff.mp c).2).2).2).2).1
theorem ex_5 {K : PySem.W.Frag} (c : ex K = true) : (rsB K "NotATable" "ValueError" "ValueError.__new__") = true := (Bool.and_eq_true_iff.mp (Bool.and_eq_true_iff.mp (Bool.and_eq_true_iff.mp (Bool.and_eq_true_iff.mp (Bool.and_eq_true_iff.mp (Bool.and_eq_true_iff.mp c).2).2).2).2).2).1
theorem ex_6 {K : PySem.W.Frag} (c : ex K = true) : (rsB K "InvalidBounds" "ValueError" "ValueError.__new__") = true := (Bool.and_eq_true_iff.mp (Bool.and_eq_true_iff.mp (Bool.and_eq_true_iff.mp (Bool.and_eq_true_iff.mp (Bool.and_eq_true_iff.mp (Bool.and_eq_true_iff.mp (Bool.and_eq_true_iff.mp c).2).2).2).2).2).2).1
theorem ex_7 {K : PySem.W.Frag} (c : ex K = true) : (rsB K "InvalidAnswer" "ValueError" "ValueError.__new__") = true := (Bool.and_eq_true_iff.mp (Bool.and_eq_true_iff.mp (Bool.and_eq_true_iff.mp (Bool.and_eq_true_iff.mp (Bool.and_eq_true_iff.mp (Bool.and_eq_true_iff.mp (Bool.and_eq_true_iff.mp (Bool.and_eq_true_iff.mp c).2).2).2).2).2).2).2).1
theorem ex_8 {K : PySem.W.Frag} (c : ex K = true) : (He.eqO (PySem.W.nsIn K mainGlobals "gcd") (some (some (.builtin "math.gcd")))) = true := (Bool.and_eq_true_iff.mp (Bool.and_eq_true_iff.mp (Bool.and_eq_true_iff.mp (Bool.and_eq_true_iff.mp (Bool.and_eq_true_iff.mp (Bool.and_eq_true_iff.mp (Bool.and_eq_true_iff.mp (Bool.and_eq_true_iff.mp (Bool.and_eq_true_iff.mp c).2).2).2).2).2).2).2).2).1
theorem ex_9 {K : PySem.W.Frag} (c : ex K = true) : (He.eqO (PySem.W.nsIn K mainGlobals "lcm") (some (some (.builtin "math.lcm")))) = true := (Bool.and_eq_true_iff.mp (Bool.and_eq_true_iff.mp (Bool.and_eq_true_iff.mp (Bool.and_eq_true_iff.mp (Bool.and_eq_true_iff.mp (Bool.and_eq_true_iff.mp (Bool.and_eq_true_iff.mp (Bool.and_eq_true_iff.mp (Bool.and_eq_true_iff.mp (Bool.and_eq_true_iff.mp c).2).2).2).2).2).2).2).2).2).1
theorem ex_10 {K : PySem.W.Frag} (c : ex K = true) : (prB K (He.ga K "Table") "columns") = true := (Bool.and_eq_true_iff.mp (Bool.and_eq_true_iff.mp (Bool.and_eq_true_iff.mp (Bool.and_eq_true_iff.mp (Bool.and_eq_true_iff.mp (Bool.and_eq_true_iff.mp (Bool.and_eq_true_iff.mp (Bool.and_eq_true_iff.mp (Bool.and_eq_true_iff.mp (Bool.and_eq_true_iff.mp (Bool.and_eq_true_iff.mp c).2).2).2).2).2).2).2).2).2).2).1
theorem ex_11 {K : PySem.W.Frag} (c : ex K = true) : (prB K (He.ga K "Table") "rows") = true := (Bool.and_eq_true_iff.mp (Bool.and_eq_true_iff.mp (Bool.and_eq_true_iff.mp (Bool.and_eq_true_iff.mp (Bool.and_eq_true_iff.mp (Bool.and_eq_true_iff.mp (Bool.and_eq_true_iff.mp (Bool.and_eq_true_iff.mp (Bool.and_eq_true_iff.mp (Bool.and_eq_true_iff.mp (Bool.and_eq_true_iff.mp (Bool.and_eq_true_iff.mp c).2).2).2).2).2).2).2).2).2).2).2).1
theorem ex_12 {K : PySem.W.Frag} (c : ex K = true) : (okA K (pg K (He.ga K "Table") "columns") "Table.columns") = true := (Bool.and_eq_true_iff.mp (Bool.and_eq_true_iff.mp (Bool.and_eq_true_iff.mp (Bool.and_eq_true_iff.mp (Bool.and_eq_true_iff.mp (Bool.and_eq_true_iff.mp (Bool.and_eq_true_iff.mp (Bool.and_eq_true_iff.mp (Bool.and_eq_true_iff.mp (Bool.and_eq_true_iff.mp (Bool.and_eq_true_iff.mp (Bool.and_eq_true_iff.mp (Bool.and_eq_true_iff.mp c).2).2).2).2).2).2).2).2).2).2).2).2).1
theorem ex_13 {K : PySem.W.Frag} (c : ex K = true) : (okA K (pg K (He.ga K "Table") "rows") "Table.rows") = true := (Bool.and_eq_true_iff.mp (Bool.and_eq_true_iff.mp (Bool.and_eq_true_iff.mp (Bool.and_eq_true_iff.mp (Bool.and_eq_true_iff.mp (Bool.and_eq_true_iff.mp (Bool.and_eq_true_iff.mp (Bool.and_eq_true_iff.mp (Bool.and_eq_true_iff.mp (Bool.and_eq_true_iff.mp (Bool.and_eq_true_iff.mp (Bool.and_eq_true_iff.mp (Bool.and_eq_true_iff.mp c).2).2).2).2).2).2).2).2).2).2).2).2).2
def dd (x : Str) (i : Nat) : He.DefD := ⟨(x, none), x, x, defArgs (topS i), defBody (topS i), defScope (topS i), [], []⟩
def dm (C m q : Str) (st : Stmt) : He.DefD := ⟨(C, some m), m, q, defArgs st, defBody st, defScope st, [], []⟩
def fn0 : List He.DefD := [dd "is_integer" 14, dd "is_tuple_of" 15, dd "is_pair_of_integers" 16, dd "is_name" 17, dd "is_stretch" 19, dd "is_fraction" 20, dd "reduced" 23, dd "all_over" 24, dd "with_one_bottom" 25, dd "is_below" 26, dd "_is_end_pair" 39, dd "are_end_pairs" 38, dd "_is_row" 40, dd "check_columns" 32, dd "check_rows" 33, dd "check_table" 34, dd "weighed_ends" 43, dd "check_bounds" 45, dd "check_answer" 46, dd "row_ends" 47]
def fn1 : List He.DefD := [dd "is_sure_answer" 48, dd "is_possible_answer" 49, dd "_check_system" 50, dd "_law_pail" 52, dd "_law_dip" 53, dd "_law_any" 54, dd "_law_stretch" 55, dd "_law_sheet" 56, dd "_law_limits" 57, dd "_law_part" 58, dd "_law_plus" 59, dd "_law_sums" 60, dd "_law_least" 61, dd "_law_once_right" 62, dd "_law_right" 63, dd "law" 64, dm "Table" "__init__" "Table.__init__" sTI, dm "Table" "__len__" "Table.__len__" (inClass (topS 31) 6), dm "InvalidColumns" "__init__" "InvalidColumns.__init__" (inClass (topS 8) 0), dm "InvalidRows" "__init__" "InvalidRows.__init__" (inClass (topS 9) 0)]
def fn2 : List He.DefD := [dm "NotATable" "__init__" "NotATable.__init__" (inClass (topS 7) 0), dm "InvalidBounds" "__init__" "InvalidBounds.__init__" (inClass (topS 5) 0), dm "InvalidAnswer" "__init__" "InvalidAnswer.__init__" (inClass (topS 6) 0)]
def fn : List He.DefD := fn0 ++ fn1 ++ fn2
def fa0 : List He.Fa := [.glo "is_integer", .glo "is_tuple_of", .glo "is_pair_of_integers", .glo "is_name", .glo "is_stretch", .glo "is_fraction", .glo "reduced", .glo "all_over", .glo "with_one_bottom", .glo "is_below", .glo "_is_end_pair", .glo "are_end_pairs", .glo "_is_row", .glo "check_columns", .glo "check_rows", .glo "check_table", .glo "weighed_ends", .glo "check_bounds", .glo "check_answer", .glo "row_ends"]
def fa1 : List He.Fa := [.glo "is_sure_answer", .glo "is_possible_answer", .glo "_check_system", .glo "_law_pail", .glo "_law_dip", .glo "_law_any", .glo "_law_stretch", .glo "_law_sheet", .glo "_law_limits", .glo "_law_part", .glo "_law_plus", .glo "_law_sums", .glo "_law_least", .glo "_law_once_right", .glo "_law_right", .glo "law", .glo "InvalidColumns", .glo "InvalidRows", .glo "NotATable", .glo "InvalidBounds"]
def fa2 : List He.Fa := [.glo "InvalidAnswer", .glo "Table", .free "len", .free "isinstance", .free "int", .free "str", .free "bool", .free "tuple", .free "list", .free "all", .free "abs", .free "divmod", .free "range", .free "enumerate", .free "repr", .free "sum", .free "min", .free "max", .free "zip", .free "any"]
def fa3 : List He.Fa := [.int "_MOST_LETTERS" 8, .int "MOST_END" 10000, .int "MOST_COLUMNS" 4, .int "MOST_ROWS" 8, .mkr "Table", .cls "Table", .noat "Table" "_columns", .noat "Table" "_rows", .meth "Table" "__len__"]
def fa : List He.Fa := fa0 ++ fa1 ++ fa2 ++ fa3
def loose0 : List Str := ["_wall", "WrongValue", "InvalidColumn", "InvalidBounds", "InvalidAnswer", "NotATable", "InvalidColumns", "InvalidRows", "WrongName", "UnknownName", "_MOST_LETTERS", "is_integer", "is_tuple_of", "is_pair_of_integers", "is_name", "is_one_of", "is_stretch", "is_fraction", "stretches_text", "reduced"]
def loose1 : List Str := ["all_over", "with_one_bottom", "is_below", "MOST_END", "MOST_COLUMNS", "MOST_ROWS", "Table", "check_columns", "check_rows", "check_table", "row_index", "row_stretches", "column_index", "are_end_pairs", "_is_end_pair", "_is_row", "_row_text", "weighed_ends", "check_bounds", "check_answer"]
def loose2 : List Str := ["row_ends", "is_sure_answer", "is_possible_answer", "_check_system", "_law_pail", "_law_dip", "_law_any", "_law_stretch", "_law_sheet", "_law_limits", "_law_part", "_law_plus", "_law_sums", "_law_least", "_law_once_right", "_law_right"]
def loose : List Str := loose0 ++ loose1 ++ loose2
def gv (x q : Str) (st : Stmt) : He.FnW := some (x, q, defArgs st, .stmts (defBody st), defScope st, mainGlobals, [], builtinsNs)
def gl : List He.FnW := [gv "columns" "Table.columns" (inClass (topS 31) 2), gv "rows" "Table.rows" (inClass (topS 31) 3)]
def glK (K : PySem.W.Frag) : List He.FnW := [fnA K (pg K (He.ga K "Table") "columns"), fnA K (pg K (He.ga K "Table") "rows")]
def tf : List He.Defn := []
abbrev R : PySem.W.OpenRow := PySem.W.OpenLaw.row PySem.Challenge.rw_cornersure_k39_whole_rows_by_answers
abbrev AlG : Type := He.AlX × List He.FnW
def obG (g : Addr → Option Obj) : AlG := (He.obsX 5 fa fn [] tf ex g, glK (He.frT g (He.asD g 5)))
abbrev hk : PySem.W.Hook where
  α := AlG
  obs := fun s => obG s.heap.get?
  val := fun w => (He.valX fn [] w, gl)
  says := fun w h => ∃ K : PySem.W.Frag, K.In h ∧ He.SaysX fa fn [] tf ex w h K ∧ glK K = gl
  of := fun w s e => ⟨_, He.frT_in, He.saysX_of (congrArg (fun z : AlG => z.1) e), congrArg (fun z : AlG => z.2) e⟩
  keeps := fun _ _ _ ⟨K, hK, c, z⟩ k => ⟨K, PySem.W.Frag.In.keeps hK k, ⟨c.t, c.more, c.hd, c.out, fun p hp => k _ _ (c.empty p hp)⟩, z⟩
def ob (s : PySem.W.SharedT) : AlG := obG (HandSHeadRun.getT s)
theorem ob_eq (s : PySem.W.SharedT) : ob s = hk.obs s.abs := congrArg obG (funext (HandSHeadRun.getT_eq s))
theorem run (w : World) : HandSHeadRun.RunEqI R (PySem.W.view R.prog [0, 64]) hk ob 9000 loose w := by
  unfold HandSHeadRun.RunEqI
  kernel_rfl
end Cs
set_option maxHeartbeats 0
namespace Cs
open PySem PySem.Spec PyProof.Rows L2
section
variable {P : Program} {w : World} {K : PySem.W.Frag} {h h0 : Heap} {mg : Str → Option Value}
theorem T_ok (X : K.In h) (G : h.Ns mainGlobals mg) (c : He.SaysD fa fn K) : Txt mg := ⟨He.free_ok X G (c.fact 42 rfl), He.free_ok X G (c.fact 43 rfl), He.free_ok X G (c.fact 44 rfl), He.free_ok X G (c.fact 45 rfl), He.free_ok X G (c.fact 46 rfl), He.free_ok X G (c.fact 47 rfl), He.free_ok X G (c.fact 48 rfl), He.free_ok X G (c.fact 49 rfl), He.free_ok X G (c.fact 50 rfl), He.free_ok X G (c.fact 51 rfl), He.free_ok X G (c.fact 52 rfl), He.free_ok X G (c.fact 53 rfl), He.free_ok X G (c.fact 54 rfl), (by obtain ⟨t, e⟩ := He.int_ok X G (c.fact 60 rfl); exact ⟨_, e, _, rfl⟩), (by obtain ⟨t, e⟩ := He.int_ok X G (c.fact 61 rfl); exact ⟨_, e, _, rfl⟩), (by obtain ⟨t, e⟩ := He.int_ok X G (c.fact 62 rfl); exact ⟨_, e, _, rfl⟩), (by obtain ⟨t, e⟩ := He.int_ok X G (c.fact 63 rfl); exact ⟨_, e, _, rfl⟩)⟩
theorem S_ok (X : K.In h) (G : h.Ns mainGlobals mg) (c : He.SaysD fa fn K) : TxtS mg := ⟨He.free_ok X G (c.fact 55 rfl), He.free_ok X G (c.fact 56 rfl), He.free_ok X G (c.fact 57 rfl)⟩
theorem Z_ok (X : K.In h) (G : h.Ns mainGlobals mg) (c : He.SaysD fa fn K) : TxtZ mg := ⟨He.free_ok X G (c.fact 58 rfl)⟩
theorem bi_gcd (X : K.In h) (G : h.Ns mainGlobals mg) (ce : ex K = true) : mg "gcd" = some (.builtin "math.gcd") := PySem.W.mg_of X G (He.eqO_ok (ex_8 ce))
theorem bi_lcm (X : K.In h) (G : h.Ns mainGlobals mg) (ce : ex K = true) : mg "lcm" = some (.builtin "math.lcm") := PySem.W.mg_of X G (He.eqO_ok (ex_9 ce))
theorem tabG_ok (X : K.In h) (G : h.Ns mainGlobals mg) (c : He.SaysD fa fn K) : TabG mg (He.ga K "Table") := ⟨⟨_, He.glo_ok X G (c.fact 41 rfl), rfl⟩⟩
theorem tabC_ok (c : He.SaysD fa fn K) (ce : ex K = true) : TabC K (He.ga K "Table") := by
  have z := ex_4 ce
  obtain ⟨z1, z⟩ := Bool.and_eq_true_iff.mp z
  obtain ⟨z2, z⟩ := Bool.and_eq_true_iff.mp z
  obtain ⟨z3, z⟩ := Bool.and_eq_true_iff.mp z
  obtain ⟨z4, z5⟩ := Bool.and_eq_true_iff.mp z
  exact ⟨He.cls_ok (c.fact 65 rfl), He.noat_ok (c.fact 66 rfl), He.noat_ok (c.fact 67 rfl), He.eqO_ok z1, He.eqO_ok z2, of_decide_eq_true z3, of_decide_eq_true z4, of_decide_eq_true z5⟩
theorem at_is_integer (X : K.In h) (G : h.Ns mainGlobals mg) (c : He.SaysD fa fn K) : DefAt K mg "is_integer" (topS 14) ["value"] := by
  obtain ⟨fd, F⟩ := c.def_ 0 rfl
  exact ⟨_, fd, F, He.glo_ok X G (c.fact 0 rfl), FunD.bindsN F (fun _ _ _ _ _ _ us hl => match us, hl with | [_], _ => rfl)⟩
theorem at_is_tuple_of (X : K.In h) (G : h.Ns mainGlobals mg) (c : He.SaysD fa fn K) : DefAt K mg "is_tuple_of" (topS 15) ["value", "many"] := by
  obtain ⟨fd, F⟩ := c.def_ 1 rfl
  exact ⟨_, fd, F, He.glo_ok X G (c.fact 1 rfl), FunD.bindsN F (fun _ _ _ _ _ _ us hl => match us, hl with | [_, _], _ => rfl)⟩
theorem at_is_pair_of_integers (X : K.In h) (G : h.Ns mainGlobals mg) (c : He.SaysD fa fn K) : DefAt K mg "is_pair_of_integers" (topS 16) ["value"] := by
  obtain ⟨fd, F⟩ := c.def_ 2 rfl
  exact ⟨_, fd, F, He.glo_ok X G (c.fact 2 rfl), FunD.bindsN F (fun _ _ _ _ _ _ us hl => match us, hl with | [_], _ => rfl)⟩
theorem at_is_name (X : K.In h) (G : h.Ns mainGlobals mg) (c : He.SaysD fa fn K) : DefAt K mg "is_name" (topS 17) ["value"] := by
  obtain ⟨fd, F⟩ := c.def_ 3 rfl
  exact ⟨_, fd, F, He.glo_ok X G (c.fact 3 rfl), FunD.bindsN F (fun _ _ _ _ _ _ us hl => match us, hl with | [_], _ => rfl)⟩
theorem at_is_stretch (X : K.In h) (G : h.Ns mainGlobals mg) (c : He.SaysD fa fn K) : DefAt K mg "is_stretch" (topS 19) ["value", "least", "most"] := by
  obtain ⟨fd, F⟩ := c.def_ 4 rfl
  exact ⟨_, fd, F, He.glo_ok X G (c.fact 4 rfl), FunD.bindsN F (fun _ _ _ _ _ _ us hl => match us, hl with | [_, _, _], _ => rfl)⟩
theorem at_is_fraction (X : K.In h) (G : h.Ns mainGlobals mg) (c : He.SaysD fa fn K) : DefAt K mg "is_fraction" (topS 20) ["value"] := by
  obtain ⟨fd, F⟩ := c.def_ 5 rfl
  exact ⟨_, fd, F, He.glo_ok X G (c.fact 5 rfl), FunD.bindsN F (fun _ _ _ _ _ _ us hl => match us, hl with | [_], _ => rfl)⟩
theorem at_reduced (X : K.In h) (G : h.Ns mainGlobals mg) (c : He.SaysD fa fn K) : DefAt K mg "reduced" (topS 23) ["top", "bottom"] := by
  obtain ⟨fd, F⟩ := c.def_ 6 rfl
  exact ⟨_, fd, F, He.glo_ok X G (c.fact 6 rfl), FunD.bindsN F (fun _ _ _ _ _ _ us hl => match us, hl with | [_, _], _ => rfl)⟩
theorem at_all_over (X : K.In h) (G : h.Ns mainGlobals mg) (c : He.SaysD fa fn K) : DefAt K mg "all_over" (topS 24) ["tops", "bottom"] := by
  obtain ⟨fd, F⟩ := c.def_ 7 rfl
  exact ⟨_, fd, F, He.glo_ok X G (c.fact 7 rfl), FunD.bindsN F (fun _ _ _ _ _ _ us hl => match us, hl with | [_, _], _ => rfl)⟩
theorem at_with_one_bottom (X : K.In h) (G : h.Ns mainGlobals mg) (c : He.SaysD fa fn K) : DefAt K mg "with_one_bottom" (topS 25) ["fractions"] := by
  obtain ⟨fd, F⟩ := c.def_ 8 rfl
  exact ⟨_, fd, F, He.glo_ok X G (c.fact 8 rfl), FunD.bindsN F (fun _ _ _ _ _ _ us hl => match us, hl with | [_], _ => rfl)⟩
theorem at_is_below (X : K.In h) (G : h.Ns mainGlobals mg) (c : He.SaysD fa fn K) : DefAt K mg "is_below" (topS 26) ["one", "other"] := by
  obtain ⟨fd, F⟩ := c.def_ 9 rfl
  exact ⟨_, fd, F, He.glo_ok X G (c.fact 9 rfl), FunD.bindsN F (fun _ _ _ _ _ _ us hl => match us, hl with | [_, _], _ => rfl)⟩
theorem at__is_end_pair (X : K.In h) (G : h.Ns mainGlobals mg) (c : He.SaysD fa fn K) : DefAt K mg "_is_end_pair" (topS 39) ["value"] := by
  obtain ⟨fd, F⟩ := c.def_ 10 rfl
  exact ⟨_, fd, F, He.glo_ok X G (c.fact 10 rfl), FunD.bindsN F (fun _ _ _ _ _ _ us hl => match us, hl with | [_], _ => rfl)⟩
theorem at_are_end_pairs (X : K.In h) (G : h.Ns mainGlobals mg) (c : He.SaysD fa fn K) : DefAt K mg "are_end_pairs" (topS 38) ["value", "many"] := by
  obtain ⟨fd, F⟩ := c.def_ 11 rfl
  exact ⟨_, fd, F, He.glo_ok X G (c.fact 11 rfl), FunD.bindsN F (fun _ _ _ _ _ _ us hl => match us, hl with | [_, _], _ => rfl)⟩
theorem at__is_row (X : K.In h) (G : h.Ns mainGlobals mg) (c : He.SaysD fa fn K) : DefAt K mg "_is_row" (topS 40) ["value", "many"] := by
  obtain ⟨fd, F⟩ := c.def_ 12 rfl
  exact ⟨_, fd, F, He.glo_ok X G (c.fact 12 rfl), FunD.bindsN F (fun _ _ _ _ _ _ us hl => match us, hl with | [_, _], _ => rfl)⟩
theorem at_check_columns (X : K.In h) (G : h.Ns mainGlobals mg) (c : He.SaysD fa fn K) : DefAt K mg "check_columns" (topS 32) ["columns"] := by
  obtain ⟨fd, F⟩ := c.def_ 13 rfl
  exact ⟨_, fd, F, He.glo_ok X G (c.fact 13 rfl), FunD.bindsN F (fun _ _ _ _ _ _ us hl => match us, hl with | [_], _ => rfl)⟩
theorem at_check_rows (X : K.In h) (G : h.Ns mainGlobals mg) (c : He.SaysD fa fn K) : DefAt K mg "check_rows" (topS 33) ["columns", "rows"] := by
  obtain ⟨fd, F⟩ := c.def_ 14 rfl
  exact ⟨_, fd, F, He.glo_ok X G (c.fact 14 rfl), FunD.bindsN F (fun _ _ _ _ _ _ us hl => match us, hl with | [_, _], _ => rfl)⟩
theorem at_check_table (X : K.In h) (G : h.Ns mainGlobals mg) (c : He.SaysD fa fn K) : DefAt K mg "check_table" (topS 34) ["table"] := by
  obtain ⟨fd, F⟩ := c.def_ 15 rfl
  exact ⟨_, fd, F, He.glo_ok X G (c.fact 15 rfl), FunD.bindsN F (fun _ _ _ _ _ _ us hl => match us, hl with | [_], _ => rfl)⟩
theorem at_weighed_ends (X : K.In h) (G : h.Ns mainGlobals mg) (c : He.SaysD fa fn K) : DefAt K mg "weighed_ends" (topS 43) ["stretches", "weights"] := by
  obtain ⟨fd, F⟩ := c.def_ 16 rfl
  exact ⟨_, fd, F, He.glo_ok X G (c.fact 16 rfl), FunD.bindsN F (fun _ _ _ _ _ _ us hl => match us, hl with | [_, _], _ => rfl)⟩
theorem at_check_bounds (X : K.In h) (G : h.Ns mainGlobals mg) (c : He.SaysD fa fn K) : DefAt K mg "check_bounds" (topS 45) ["table", "bounds"] := by
  obtain ⟨fd, F⟩ := c.def_ 17 rfl
  exact ⟨_, fd, F, He.glo_ok X G (c.fact 17 rfl), FunD.bindsN F (fun _ _ _ _ _ _ us hl => match us, hl with | [_, _], _ => rfl)⟩
theorem at_check_answer (X : K.In h) (G : h.Ns mainGlobals mg) (c : He.SaysD fa fn K) : DefAt K mg "check_answer" (topS 46) ["table", "answer"] := by
  obtain ⟨fd, F⟩ := c.def_ 18 rfl
  exact ⟨_, fd, F, He.glo_ok X G (c.fact 18 rfl), FunD.bindsN F (fun _ _ _ _ _ _ us hl => match us, hl with | [_, _], _ => rfl)⟩
theorem at_row_ends (X : K.In h) (G : h.Ns mainGlobals mg) (c : He.SaysD fa fn K) : DefAt K mg "row_ends" (topS 47) ["table", "answer"] := by
  obtain ⟨fd, F⟩ := c.def_ 19 rfl
  exact ⟨_, fd, F, He.glo_ok X G (c.fact 19 rfl), FunD.bindsN F (fun _ _ _ _ _ _ us hl => match us, hl with | [_, _], _ => rfl)⟩
theorem at_is_sure_answer (X : K.In h) (G : h.Ns mainGlobals mg) (c : He.SaysD fa fn K) : DefAt K mg "is_sure_answer" (topS 48) ["table", "bounds", "answer"] := by
  obtain ⟨fd, F⟩ := c.def_ 20 rfl
  exact ⟨_, fd, F, He.glo_ok X G (c.fact 20 rfl), FunD.bindsN F (fun _ _ _ _ _ _ us hl => match us, hl with | [_, _, _], _ => rfl)⟩
theorem at_is_possible_answer (X : K.In h) (G : h.Ns mainGlobals mg) (c : He.SaysD fa fn K) : DefAt K mg "is_possible_answer" (topS 49) ["table", "bounds", "answer"] := by
  obtain ⟨fd, F⟩ := c.def_ 21 rfl
  exact ⟨_, fd, F, He.glo_ok X G (c.fact 21 rfl), FunD.bindsN F (fun _ _ _ _ _ _ us hl => match us, hl with | [_, _, _], _ => rfl)⟩
theorem at__check_system (X : K.In h) (G : h.Ns mainGlobals mg) (c : He.SaysD fa fn K) : DefAt K mg "_check_system" (topS 50) ["table", "bounds"] := by
  obtain ⟨fd, F⟩ := c.def_ 22 rfl
  exact ⟨_, fd, F, He.glo_ok X G (c.fact 22 rfl), FunD.bindsN F (fun _ _ _ _ _ _ us hl => match us, hl with | [_, _], _ => rfl)⟩
theorem at__law_pail (X : K.In h) (G : h.Ns mainGlobals mg) (c : He.SaysD fa fn K) : DefAt K mg "_law_pail" (topS 52) ["_law_script", "_law_turn"] := by
  obtain ⟨fd, F⟩ := c.def_ 23 rfl
  exact ⟨_, fd, F, He.glo_ok X G (c.fact 23 rfl), FunD.bindsN F (fun _ _ _ _ _ _ us hl => match us, hl with | [_, _], _ => rfl)⟩
theorem at__law_dip (X : K.In h) (G : h.Ns mainGlobals mg) (c : He.SaysD fa fn K) : DefAt K mg "_law_dip" (topS 53) ["_law_pail_here", "_law_size"] := by
  obtain ⟨fd, F⟩ := c.def_ 24 rfl
  exact ⟨_, fd, F, He.glo_ok X G (c.fact 24 rfl), FunD.bindsN F (fun _ _ _ _ _ _ us hl => match us, hl with | [_, _], _ => rfl)⟩
theorem at__law_any (X : K.In h) (G : h.Ns mainGlobals mg) (c : He.SaysD fa fn K) : DefAt K mg "_law_any" (topS 54) ["_law_pail_here", "_law_some"] := by
  obtain ⟨fd, F⟩ := c.def_ 25 rfl
  exact ⟨_, fd, F, He.glo_ok X G (c.fact 25 rfl), FunD.bindsN F (fun _ _ _ _ _ _ us hl => match us, hl with | [_, _], _ => rfl)⟩
theorem at__law_stretch (X : K.In h) (G : h.Ns mainGlobals mg) (c : He.SaysD fa fn K) : DefAt K mg "_law_stretch" (topS 55) ["_law_pail_here", "_law_wide"] := by
  obtain ⟨fd, F⟩ := c.def_ 26 rfl
  exact ⟨_, fd, F, He.glo_ok X G (c.fact 26 rfl), FunD.bindsN F (fun _ _ _ _ _ _ us hl => match us, hl with | [_, _], _ => rfl)⟩
theorem at__law_sheet (X : K.In h) (G : h.Ns mainGlobals mg) (c : He.SaysD fa fn K) : DefAt K mg "_law_sheet" (topS 56) ["_law_pail_here", "_law_columns_most", "_law_rows_most"] := by
  obtain ⟨fd, F⟩ := c.def_ 27 rfl
  exact ⟨_, fd, F, He.glo_ok X G (c.fact 27 rfl), FunD.bindsN F (fun _ _ _ _ _ _ us hl => match us, hl with | [_, _, _], _ => rfl)⟩
theorem at__law_limits (X : K.In h) (G : h.Ns mainGlobals mg) (c : He.SaysD fa fn K) : DefAt K mg "_law_limits" (topS 57) ["_law_pail_here", "_law_sheet_here"] := by
  obtain ⟨fd, F⟩ := c.def_ 28 rfl
  exact ⟨_, fd, F, He.glo_ok X G (c.fact 28 rfl), FunD.bindsN F (fun _ _ _ _ _ _ us hl => match us, hl with | [_, _], _ => rfl)⟩
theorem at__law_part (X : K.In h) (G : h.Ns mainGlobals mg) (c : He.SaysD fa fn K) : DefAt K mg "_law_part" (topS 58) ["_law_top", "_law_bottom"] := by
  obtain ⟨fd, F⟩ := c.def_ 29 rfl
  exact ⟨_, fd, F, He.glo_ok X G (c.fact 29 rfl), FunD.bindsN F (fun _ _ _ _ _ _ us hl => match us, hl with | [_, _], _ => rfl)⟩
theorem at__law_plus (X : K.In h) (G : h.Ns mainGlobals mg) (c : He.SaysD fa fn K) : DefAt K mg "_law_plus" (topS 59) ["_law_one", "_law_two"] := by
  obtain ⟨fd, F⟩ := c.def_ 30 rfl
  exact ⟨_, fd, F, He.glo_ok X G (c.fact 30 rfl), FunD.bindsN F (fun _ _ _ _ _ _ us hl => match us, hl with | [_, _], _ => rfl)⟩
theorem at__law_sums (X : K.In h) (G : h.Ns mainGlobals mg) (c : He.SaysD fa fn K) : DefAt K mg "_law_sums" (topS 60) ["_law_stretches", "_law_shares"] := by
  obtain ⟨fd, F⟩ := c.def_ 31 rfl
  exact ⟨_, fd, F, He.glo_ok X G (c.fact 31 rfl), FunD.bindsN F (fun _ _ _ _ _ _ us hl => match us, hl with | [_, _], _ => rfl)⟩
theorem at__law_least (X : K.In h) (G : h.Ns mainGlobals mg) (c : He.SaysD fa fn K) : DefAt K mg "_law_least" (topS 61) ["_law_some"] := by
  obtain ⟨fd, F⟩ := c.def_ 32 rfl
  exact ⟨_, fd, F, He.glo_ok X G (c.fact 32 rfl), FunD.bindsN F (fun _ _ _ _ _ _ us hl => match us, hl with | [_], _ => rfl)⟩
theorem at__law_once_right (X : K.In h) (G : h.Ns mainGlobals mg) (c : He.SaysD fa fn K) : DefAt K mg "_law_once_right" (topS 62) ["_law_pail_here"] := by
  obtain ⟨fd, F⟩ := c.def_ 33 rfl
  exact ⟨_, fd, F, He.glo_ok X G (c.fact 33 rfl), FunD.bindsN F (fun _ _ _ _ _ _ us hl => match us, hl with | [_], _ => rfl)⟩
theorem at__law_right (X : K.In h) (G : h.Ns mainGlobals mg) (c : He.SaysD fa fn K) : DefAt K mg "_law_right" (topS 63) ["_law_pail_here"] := by
  obtain ⟨fd, F⟩ := c.def_ 34 rfl
  exact ⟨_, fd, F, He.glo_ok X G (c.fact 34 rfl), FunD.bindsN F (fun _ _ _ _ _ _ us hl => match us, hl with | [_], _ => rfl)⟩
theorem exa_InvalidColumns (X : K.In h) (G : h.Ns mainGlobals mg) (c : He.SaysD fa fn K) (ce : ex K = true) : ExAt K mg "InvalidColumns" (He.ga K "InvalidColumns") "index" (inClass (topS 8) 0) := by
  have o := ex_0 ce
  have q := ex_2 ce
  obtain ⟨q1, q⟩ := Bool.and_eq_true_iff.mp q
  obtain ⟨q2, q3⟩ := Bool.and_eq_true_iff.mp q
  obtain ⟨fd, F⟩ := c.def_ 38 rfl
  exact ⟨oexB_ok o, He.glo_ok X G (c.fact 36 rfl), He.eqO_ok q1, _, fd, _, He.eqO_ok q2, of_decide_eq_true q3, F, FunD.bindsN F (fun _ _ _ _ _ _ us hl => match us, hl with | [_, _], _ => rfl)⟩
theorem exa_InvalidRows (X : K.In h) (G : h.Ns mainGlobals mg) (c : He.SaysD fa fn K) (ce : ex K = true) : ExAt K mg "InvalidRows" (He.ga K "InvalidRows") "index" (inClass (topS 9) 0) := by
  have o := ex_1 ce
  have q := ex_3 ce
  obtain ⟨q1, q⟩ := Bool.and_eq_true_iff.mp q
  obtain ⟨q2, q3⟩ := Bool.and_eq_true_iff.mp q
  obtain ⟨fd, F⟩ := c.def_ 39 rfl
  exact ⟨oexB_ok o, He.glo_ok X G (c.fact 37 rfl), He.eqO_ok q1, _, fd, _, He.eqO_ok q2, of_decide_eq_true q3, F, FunD.bindsN F (fun _ _ _ _ _ _ us hl => match us, hl with | [_, _], _ => rfl)⟩
theorem rs_NotATable {base : Heap} (X : K.In h) (G : h.Ns mainGlobals mg) (c : He.SaysD fa fn K) (ce : ex K = true) : RaiseAt P w K mg base "NotATable" (He.ga K "NotATable") "given" := by
  have z := ex_5 ce
  obtain ⟨o, z⟩ := Bool.and_eq_true_iff.mp z
  obtain ⟨zd, z⟩ := Bool.and_eq_true_iff.mp z
  obtain ⟨z1, z2⟩ := Bool.and_eq_true_iff.mp z
  obtain ⟨k1, o⟩ := Bool.and_eq_true_iff.mp o
  obtain ⟨k2, o⟩ := Bool.and_eq_true_iff.mp o
  obtain ⟨k3, o⟩ := Bool.and_eq_true_iff.mp o
  obtain ⟨k4, o⟩ := Bool.and_eq_true_iff.mp o
  obtain ⟨k5, o⟩ := Bool.and_eq_true_iff.mp o
  obtain ⟨k6, k7⟩ := Bool.and_eq_true_iff.mp o
  obtain ⟨fd, F⟩ := c.def_ 40 rfl
  have b := FunD.bindsN (ps := ["self", "given"]) F (fun _ _ _ _ _ _ us hl => match us, hl with | [_, _], _ => rfl)
  have T : OexG K (He.ga K "NotATable") (bmF "ValueError") "ValueError.__new__" := ⟨k1, k2, He.eqO_ok k3, zd, k4⟩
  have kb : KBn K fd ["self", "given"] 1 ["given"] (fun us ws => us ++ ws) (fun vs zs => vs ++ zs) := by
    obtain ⟨oc, od, dV, kV, doc, pm, an, cdv, ct, osl, rfl, lk, hcd, hD, hK⟩ := F.ex
    rcases hD with ⟨_, rfl⟩ | ⟨e, _⟩
    · exact ⟨fun s us ws X l1 l2 => match us, l1, ws, l2 with | [_], _, [_], _ => .of_eq rfl, fun r1 r2 => r1.append r2⟩
    · exact absurd rfl e
  exact ⟨⟨_, _, _, _, _, fd, PySem.F.excBase_ValueError, ⟨T, He.glo_ok X G (c.fact 38 rfl), He.eqO_ok k6, of_decide_eq_true k7, b, kb⟩, ok_xi PySem.F.store_ValueError T (He.eqO_ok k5) ⟨rfl, rfl, rfl, by decide +kernel, rfl, by decide +kernel, by decide +kernel⟩ (.inl rfl) (.inl rfl) rfl rfl F⟩, of_decide_eq_true z1, of_decide_eq_true z2⟩
theorem rs_InvalidBounds {base : Heap} (X : K.In h) (G : h.Ns mainGlobals mg) (c : He.SaysD fa fn K) (ce : ex K = true) : RaiseAt P w K mg base "InvalidBounds" (He.ga K "InvalidBounds") "given" := by
  have z := ex_6 ce
  obtain ⟨o, z⟩ := Bool.and_eq_true_iff.mp z
  obtain ⟨zd, z⟩ := Bool.and_eq_true_iff.mp z
  obtain ⟨z1, z2⟩ := Bool.and_eq_true_iff.mp z
  obtain ⟨k1, o⟩ := Bool.and_eq_true_iff.mp o
  obtain ⟨k2, o⟩ := Bool.and_eq_true_iff.mp o
  obtain ⟨k3, o⟩ := Bool.and_eq_true_iff.mp o
  obtain ⟨k4, o⟩ := Bool.and_eq_true_iff.mp o
  obtain ⟨k5, o⟩ := Bool.and_eq_true_iff.mp o
  obtain ⟨k6, k7⟩ := Bool.and_eq_true_iff.mp o
  obtain ⟨fd, F⟩ := c.def_ 41 rfl
  have b := FunD.bindsN (ps := ["self", "given"]) F (fun _ _ _ _ _ _ us hl => match us, hl with | [_, _], _ => rfl)
  have T : OexG K (He.ga K "InvalidBounds") (bmF "ValueError") "ValueError.__new__" := ⟨k1, k2, He.eqO_ok k3, zd, k4⟩
  have kb : KBn K fd ["self", "given"] 1 ["given"] (fun us ws => us ++ ws) (fun vs zs => vs ++ zs) := by
    obtain ⟨oc, od, dV, kV, doc, pm, an, cdv, ct, osl, rfl, lk, hcd, hD, hK⟩ := F.ex
    rcases hD with ⟨_, rfl⟩ | ⟨e, _⟩
    · exact ⟨fun s us ws X l1 l2 => match us, l1, ws, l2 with | [_], _, [_], _ => .of_eq rfl, fun r1 r2 => r1.append r2⟩
    · exact absurd rfl e
  exact ⟨⟨_, _, _, _, _, fd, PySem.F.excBase_ValueError, ⟨T, He.glo_ok X G (c.fact 39 rfl), He.eqO_ok k6, of_decide_eq_true k7, b, kb⟩, ok_xi PySem.F.store_ValueError T (He.eqO_ok k5) ⟨rfl, rfl, rfl, by decide +kernel, rfl, by decide +kernel, by decide +kernel⟩ (.inl rfl) (.inl rfl) rfl rfl F⟩, of_decide_eq_true z1, of_decide_eq_true z2⟩
theorem rs_InvalidAnswer {base : Heap} (X : K.In h) (G : h.Ns mainGlobals mg) (c : He.SaysD fa fn K) (ce : ex K = true) : RaiseAt P w K mg base "InvalidAnswer" (He.ga K "InvalidAnswer") "given" := by
  have z := ex_7 ce
  obtain ⟨o, z⟩ := Bool.and_eq_true_iff.mp z
  obtain ⟨zd, z⟩ := Bool.and_eq_true_iff.mp z
  obtain ⟨z1, z2⟩ := Bool.and_eq_true_iff.mp z
  obtain ⟨k1, o⟩ := Bool.and_eq_true_iff.mp o
  obtain ⟨k2, o⟩ := Bool.and_eq_true_iff.mp o
  obtain ⟨k3, o⟩ := Bool.and_eq_true_iff.mp o
  obtain ⟨k4, o⟩ := Bool.and_eq_true_iff.mp o
  obtain ⟨k5, o⟩ := Bool.and_eq_true_iff.mp o
  obtain ⟨k6, k7⟩ := Bool.and_eq_true_iff.mp o
  obtain ⟨fd, F⟩ := c.def_ 42 rfl
  have b := FunD.bindsN (ps := ["self", "given"]) F (fun _ _ _ _ _ _ us hl => match us, hl with | [_, _], _ => rfl)
  have T : OexG K (He.ga K "InvalidAnswer") (bmF "ValueError") "ValueError.__new__" := ⟨k1, k2, He.eqO_ok k3, zd, k4⟩
  have kb : KBn K fd ["self", "given"] 1 ["given"] (fun us ws => us ++ ws) (fun vs zs => vs ++ zs) := by
    obtain ⟨oc, od, dV, kV, doc, pm, an, cdv, ct, osl, rfl, lk, hcd, hD, hK⟩ := F.ex
    rcases hD with ⟨_, rfl⟩ | ⟨e, _⟩
    · exact ⟨fun s us ws X l1 l2 => match us, l1, ws, l2 with | [_], _, [_], _ => .of_eq rfl, fun r1 r2 => r1.append r2⟩
    · exact absurd rfl e
  exact ⟨⟨_, _, _, _, _, fd, PySem.F.excBase_ValueError, ⟨T, He.glo_ok X G (c.fact 40 rfl), He.eqO_ok k6, of_decide_eq_true k7, b, kb⟩, ok_xi PySem.F.store_ValueError T (He.eqO_ok k5) ⟨rfl, rfl, rfl, by decide +kernel, rfl, by decide +kernel, by decide +kernel⟩ (.inl rfl) (.inl rfl) rfl rfl F⟩, of_decide_eq_true z1, of_decide_eq_true z2⟩
theorem tab_ok (X : K.In h) (G : h.Ns mainGlobals mg) (c : He.SaysD fa fn K) : ∃ fd, TabAt K mg (He.ga K "Table") (He.fAd K ("Table", some "__init__")) fd := by
  obtain ⟨fd, F⟩ := c.def_ 36 rfl
  refine ⟨fd, He.mkr_ok (c.fact 64 rfl), He.glo_ok X G (c.fact 41 rfl), ⟨_, F⟩, FunD.bindsN F (fun _ _ _ _ _ _ us hl => match us, hl with | [_, _, _], _ => rfl), ?_⟩
  obtain ⟨oc, od, dV, kV, doc, pm, an, cdv, ct, osl, rfl, lk, hcd, hD, hK⟩ := F.ex
  rcases hD with ⟨_, rfl⟩ | ⟨e, _⟩
  · refine ⟨fun s us ws X l1 l2 => ?_, fun r1 r2 => r1.append (vals_rev r2)⟩
    match us, l1, ws, l2 with
    | [_], _, [_, _], _ => exact .of_eq rfl
  · exact absurd rfl e
theorem kb_row_ends {f : Addr} {fd : FuncData} (F : FunD K "row_ends" "row_ends" (defArgs (topS 47)) (defBody (topS 47)) (defScope (topS 47)) [] [] f fd) : KBn K fd ["table", "answer"] 0 ["answer", "table"] (fun us ws => us ++ ws.reverse) (fun vs zs => vs ++ zs.reverse) := by
  obtain ⟨oc, od, dV, kV, doc, pm, an, cdv, ct, osl, rfl, lk, hcd, hD, hK⟩ := F.ex
  rcases hD with ⟨_, rfl⟩ | ⟨e, _⟩
  · exact ⟨fun s us ws X l1 l2 => match us, l1, ws, l2 with | [], _, [_, _], _ => .of_eq rfl, fun r1 r2 => r1.append (vals_rev r2)⟩
  · exact absurd rfl e
theorem kb_is_sure_answer {f : Addr} {fd : FuncData} (F : FunD K "is_sure_answer" "is_sure_answer" (defArgs (topS 48)) (defBody (topS 48)) (defScope (topS 48)) [] [] f fd) : KBn K fd ["table", "bounds", "answer"] 0 ["answer", "bounds", "table"] (fun us ws => us ++ ws.reverse) (fun vs zs => vs ++ zs.reverse) := by
  obtain ⟨oc, od, dV, kV, doc, pm, an, cdv, ct, osl, rfl, lk, hcd, hD, hK⟩ := F.ex
  rcases hD with ⟨_, rfl⟩ | ⟨e, _⟩
  · exact ⟨fun s us ws X l1 l2 => match us, l1, ws, l2 with | [], _, [_, _, _], _ => .of_eq rfl, fun r1 r2 => r1.append (vals_rev r2)⟩
  · exact absurd rfl e
theorem kb_is_possible_answer {f : Addr} {fd : FuncData} (F : FunD K "is_possible_answer" "is_possible_answer" (defArgs (topS 49)) (defBody (topS 49)) (defScope (topS 49)) [] [] f fd) : KBn K fd ["table", "bounds", "answer"] 0 ["answer", "bounds", "table"] (fun us ws => us ++ ws.reverse) (fun vs zs => vs ++ zs.reverse) := by
  obtain ⟨oc, od, dV, kV, doc, pm, an, cdv, ct, osl, rfl, lk, hcd, hD, hK⟩ := F.ex
  rcases hD with ⟨_, rfl⟩ | ⟨e, _⟩
  · exact ⟨fun s us ws X l1 l2 => match us, l1, ws, l2 with | [], _, [_, _, _], _ => .of_eq rfl, fun r1 r2 => r1.append (vals_rev r2)⟩
  · exact absurd rfl e
theorem law_at (X : K.In h) (G : h.Ns mainGlobals mg) (c0 : He.SaysX fa fn [] tf ex w h K) (hgl : glK K = gl) : LawAtG PySem.Challenge.rw_cornersure_k39_whole_rows_by_answers w K 13 63 "_law_script" mg h := by
  have c := c0.t.d
  have ce := c0.more
  obtain ⟨fd, F⟩ := c.def_ 35 rfl
  have b := FunD.bindsA (ps := ["_law_script"]) F (fun _ _ _ _ _ _ us hl => match us, hl with | [_], _ => rfl)
  refine ⟨_, fd, [], SpLaw39 K, He.glo_ok X G (c.fact 35 rfl), fun p hp => (List.not_mem_nil hp).elim, fun p hp => (List.not_mem_nil hp).elim, fun p hp => (List.not_mem_nil hp).elim, fun s v => b s [v] rfl, fun H a ns hl _ hT hS => ?_, fun base KB NB TBs => ?_⟩
  · exact ⟨a, ns, rfl, hS, by omega, fun _ => rfl⟩
  · have TC := tabC_ok c ce
    have TG := tabG_ok X G c
    have T := T_ok X G c
    have S := S_ok X G c
    have Z := Z_ok X G c
    have g_columns := congrArg (fun l : List He.FnW => l[0]?) hgl
    obtain ⟨fd_columns, F_columns⟩ := funA (st := (inClass (topS 31) 2)) (Option.some.inj g_columns) (ex_12 ce)
    have b_columns := FunD.bindsN (ps := ["self"]) F_columns (fun _ _ _ _ _ _ us hl => match us, hl with | [_], _ => rfl)
    have p_columns := prB_ok (ex_10 ce)
    have g_rows := congrArg (fun l : List He.FnW => l[1]?) hgl
    obtain ⟨fd_rows, F_rows⟩ := funA (st := (inClass (topS 31) 3)) (Option.some.inj g_rows) (ex_13 ce)
    have b_rows := FunD.bindsN (ps := ["self"]) F_rows (fun _ _ _ _ _ _ us hl => match us, hl with | [_], _ => rfl)
    have p_rows := prB_ok (ex_11 ce)
    obtain ⟨fd_len, F_len⟩ := c.def_ 37 rfl
    have b_len := FunD.bindsN (ps := ["self"]) F_len (fun _ _ _ _ _ _ us hl => match us, hl with | [_], _ => rfl)
    have m_len := He.meth_ok (c.fact 68 rfl)
    have M : TxtM mg := ⟨bi_gcd X G ce, bi_lcm X G ce⟩
    have A1 : mg "any" = none := He.free_ok X G (c.fact 59 rfl)
    have Kc := ok_t_columns (P := PySem.Challenge.rw_cornersure_k39_whole_rows_by_answers.prog) (w := w) (base := base) (mg := mg) F_columns TC
    have Kr := ok_t_rows (P := PySem.Challenge.rw_cornersure_k39_whole_rows_by_answers.prog) (w := w) (base := base) (mg := mg) F_rows TC
    have Klen := ok_t_len (P := PySem.Challenge.rw_cornersure_k39_whole_rows_by_answers.prog) (w := w) (base := base) (mg := mg) F_len TC T
    have cis_integer := ok_is_integer (P := PySem.Challenge.rw_cornersure_k39_whole_rows_by_answers.prog) (w := w) (base := base) (at_is_integer X G c) T
    have cis_tuple_of := ok_is_tuple_of (P := PySem.Challenge.rw_cornersure_k39_whole_rows_by_answers.prog) (w := w) (base := base) (at_is_tuple_of X G c) T
    have cis_pair := ok_is_pair_of_integers (at_is_pair_of_integers X G c) T cis_tuple_of cis_integer
    have cis_stretch := ok_is_stretch (at_is_stretch X G c) cis_pair
    have c_end := ok__is_end_pair (at__is_end_pair X G c) T cis_stretch
    have cis_name := ok_is_name (P := PySem.Challenge.rw_cornersure_k39_whole_rows_by_answers.prog) (w := w) (base := base) (at_is_name X G c) T
    have c_ends := ok_are_end_pairs (at_are_end_pairs X G c) T cis_tuple_of c_end
    have c_row := ok__is_row (at__is_row X G c) T cis_tuple_of cis_name c_ends
    have cC := ok_check_columns (at_check_columns X G c) T cis_name (exa_InvalidColumns X G c ce)
    have cR := ok_check_rows (at_check_rows X G c) T c_row (exa_InvalidRows X G c ce)
    obtain ⟨fdI, TA⟩ := tab_ok X G c
    obtain ⟨qI, FI0⟩ := TA.F
    have FIo := ok_tinitO (c := fun n => match n with | 0 => He.ga K "InvalidColumns" | _ => He.ga K "InvalidRows") FI0 TC cC cR
    have cck := ok_check_table (at_check_table X G c) T TC TG (rs_NotATable (P := PySem.Challenge.rw_cornersure_k39_whole_rows_by_answers.prog) (w := w) (base := base) X G c ce)
    have cfr := ok_is_fraction (at_is_fraction X G c) T M cis_pair
    have cred := ok_reduced (P := PySem.Challenge.rw_cornersure_k39_whole_rows_by_answers.prog) (w := w) (base := base) (at_reduced X G c) T M
    have cao := ok_all_over (at_all_over X G c) T cred
    have cwob := ok_with_one_bottom (P := PySem.Challenge.rw_cornersure_k39_whole_rows_by_answers.prog) (w := w) (base := base) (at_with_one_bottom X G c) T M
    have cbl := ok_is_below (P := PySem.Challenge.rw_cornersure_k39_whole_rows_by_answers.prog) (w := w) (base := base) (at_is_below X G c) T
    have cwe := ok_weighed_ends (P := PySem.Challenge.rw_cornersure_k39_whole_rows_by_answers.prog) (w := w) (base := base) (at_weighed_ends X G c) T S Z
    have ccb := ok_check_bounds (at_check_bounds X G c) T TC c_ends Klen b_len m_len.at_ m_len.fn (rs_InvalidBounds (P := PySem.Challenge.rw_cornersure_k39_whole_rows_by_answers.prog) (w := w) (base := base) X G c ce)
    have cca := ok_check_answer (at_check_answer X G c) T TC cis_tuple_of cfr Kc p_columns b_columns (rs_InvalidAnswer (P := PySem.Challenge.rw_cornersure_k39_whole_rows_by_answers.prog) (w := w) (base := base) X G c ce)
    have crow_ends := ok_row_ends (at_row_ends X G c) T TC cck cca cwob cao cwe Kr p_rows b_rows
    have csy := ok__check_system (at__check_system X G c) T cck ccb
    have cis_sure_answer := ok_is_sure_answer (at_is_sure_answer X G c) T Z A1 TC csy crow_ends.x cbl
    have cis_possible_answer := ok_is_possible_answer (at_is_possible_answer X G c) T Z A1 TC csy crow_ends.x cbl
    have kre : CalK PySem.Challenge.rw_cornersure_k39_whole_rows_by_answers.prog w K mg base 5 "row_ends" (SpRe (He.ga K "Table")) ["answer", "table"] (fun vs zs => vs ++ zs.reverse) := by
      obtain ⟨f1, fd1, D1, F1, g1, b1⟩ := crow_ends.ex
      exact ⟨⟨f1, fd1, _, _, F1, g1, D1.kp, kb_row_ends D1⟩⟩
    have ksu : CalK PySem.Challenge.rw_cornersure_k39_whole_rows_by_answers.prog w K mg base 8 "is_sure_answer" (SpSy (He.ga K "Table") sureB) ["answer", "bounds", "table"] (fun vs zs => vs ++ zs.reverse) := by
      obtain ⟨f1, fd1, D1, F1, g1, b1⟩ := cis_sure_answer.ex
      exact ⟨⟨f1, fd1, _, _, F1, g1, D1.kp, kb_is_sure_answer D1⟩⟩
    have kpo : CalK PySem.Challenge.rw_cornersure_k39_whole_rows_by_answers.prog w K mg base 8 "is_possible_answer" (SpSy (He.ga K "Table") someB) ["answer", "bounds", "table"] (fun vs zs => vs ++ zs.reverse) := by
      obtain ⟨f1, fd1, D1, F1, g1, b1⟩ := cis_possible_answer.ex
      exact ⟨⟨f1, fd1, _, _, F1, g1, D1.kp, kb_is_possible_answer D1⟩⟩
    have cdip := ok__law_dip (P := PySem.Challenge.rw_cornersure_k39_whole_rows_by_answers.prog) (w := w) (base := base) (at__law_dip X G c) T
    have cany := ok__law_any (at__law_any X G c) T cdip
    have cpail := ok__law_pail (P := PySem.Challenge.rw_cornersure_k39_whole_rows_by_answers.prog) (w := w) (base := base) (at__law_pail X G c) T
    have cstr := ok__law_stretch (at__law_stretch X G c) T cdip cany
    have csh := ok__law_sheet (at__law_sheet X G c) T TA FIo cdip cstr
    have cli := ok__law_limits (at__law_limits X G c) T TC Kr p_rows b_rows cdip cstr
    have cpt := ok__law_part (P := PySem.Challenge.rw_cornersure_k39_whole_rows_by_answers.prog) (w := w) (base := base) (at__law_part X G c) T
    have cpl := ok__law_plus (at__law_plus X G c) T cpt
    have csm := ok__law_sums (at__law_sums X G c) T Z cpt cpl
    have cls := ok__law_least (P := PySem.Challenge.rw_cornersure_k39_whole_rows_by_answers.prog) (w := w) (base := base) (at__law_least X G c)
    have cor := ok__law_once_right (at__law_once_right X G c) T TC csh cli cdip cpt csm cls crow_ends.x kre cis_sure_answer.x ksu cis_possible_answer.x kpo Klen b_len m_len.at_ m_len.fn Kc p_columns b_columns Kr p_rows b_rows
    have cright := ok__law_right (at__law_right X G c) cor
    exact ok_law F T cright cpail
end
end Cs
open PySem PySem.W PySem.Calls PyProof.Rows
set_option maxRecDepth 100000 in
theorem PySem.Challenge.cw_cornersure_k39_whole_rows_by_answers_holds : PySem.Challenge.rw_cornersure_k39_whole_rows_by_answers.Holds := by
  w_on; o_law
  refine HandSHeadRun.head_imp (r := OpenLaw.row PySem.Challenge.rw_cornersure_k39_whole_rows_by_answers) (q := view (OpenLaw.row PySem.Challenge.rw_cornersure_k39_whole_rows_by_answers).prog [0, 64]) (H := Cs.hk) (ob := Cs.ob) (M := 9000) (loose := Cs.loose) (d := HandSHeadRun.topDef (OpenLaw.row PySem.Challenge.rw_cornersure_k39_whole_rows_by_answers).prog 64) (kwd := []) Cs.ob_eq
    Cs.run (by kernel_rfl) (by kernel_rfl) (by kernel_rfl) (by rfl) (by first | assumption | decide +kernel) (by decide +kernel) ⟨rfl, rfl, rfl, rfl, rfl, by decide +kernel⟩ ?hw ?hc
  case hw => w_witness2
  case hc =>
    refine Cs.walk_ofG (l := PySem.Challenge.rw_cornersure_k39_whole_rows_by_answers) (n := 63) (k := 13) (x := "_law_script") rfl (by decide) (by kernel_rfl) (by kernel_rfl) ⟨rfl, by decide, by decide⟩ ?F
    intro w mg h Y G _
    obtain ⟨K, KX, c, z⟩ := Y
    exact ⟨K, KX, Cs.law_at KX G c z⟩
